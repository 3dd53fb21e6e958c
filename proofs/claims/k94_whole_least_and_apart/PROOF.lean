import PyProof.Rows.All
import Wide.All
import OpenK.AllK
import PySem.Challenge.RW_rimnotes_k94_whole_least_and_apart
set_option maxRecDepth 100000
set_option maxHeartbeats 4000000
set_option Elab.async false
set_option linter.all false
set_option genSizeOf false
set_option compiler.extract_closed false
open List renaming length_map→Za,getElem?_eq_getElem→Zb,mem_map→Zc,getElem?_map→Zd,mem_of_getElem?→Zi,getElem?_eq_some_iff→Zj,mem_cons_of_mem→Zm,length_append→Zn,mem_cons_self→Zo,map_cons→Zq,map_map→Zr,mem_singleton→Zs,map_append→Zt,mem_cons→Zu,range→Zv,length_range→Zx,mem_append→Zz,lookup_cons→Z1,pairwise_map→Z5,size_toArray→Z6,mem_filter→Z9,take_of_length_le→ZA,mem_append_right→ZB,take_add_one→ZC,mem_range→ZD,nodup_append→ZE,length_cons→ZF,nodup_cons→ZH,getElem?_append_left→ZL,mem_append_left→ZO,getElem_of_mem→ZP,map_congr_left→ZT,getElem?_range→ZW,mem_of_find?_eq_some→ZY,length_singleton→ZZ,getElem?_append_right→Jc,lookup→Je,Pairwise→Jh,length_take→Ji,take_length→Jp,getElem?_eq_none→Jq,replicate→Ju,Nodup→Jx,not_mem_nil→Jz,filter_cons_of_pos→J0,sum_cons→J5,filter_append→JA,range_succ→JB,append_assoc→JF,filter_cons_of_neg→JI,find?_eq_none→JL,getD_eq_getElem?_getD→JM,getElem_mem→JO,pairwise_iff_getElem→JP,filterMap_cons→JQ,pairwise_cons→JT,Perm→JU,any_eq_true→Yb,mem_filterMap→Yd,nodup_nil→Yh,foldl_append→Yk,append_nil→Yn,cons→Yq,nodup_range→Yr,take_append_drop→Yu,length_filter_le→Yv,drop_eq_getElem_cons→Yx,length→Y0,any_cons→Y7,flatMap_append→YA,mem_flatMap→YC,getElem_map→YD,map_id→YF,range_succ_eq_map→YM,find?_cons_of_pos→YN,pairwise_append→YZ,getElem?_set_ne→Qa,perm_ext_iff_of_nodup→Qb,perm_middle→Qg,filter_cons→Qh,replicate_succ→Qj,zip→Qk,all_cons→Ql,find?_cons→Qp,take_sublist→Qy,flatMap_cons→Qz,ext_getElem?→Q0,flatMap_singleton→Q2,singleton_append→Q6,map_take→QA,map_drop→QB,mem_of_mem_take→QE,mem_iff_getElem→QF,foldl_cons→QI,filterMap_map→QU,nodup_iff_pairwise_ne→QW,flatten_cons→Wa,all_eq_true→Wj,getElem?_replicate→Wk,map_nil→Wr,pairwise_lt_range→Wv,getElem?_set_self→Ww,find?_cons_of_neg→Wx,filter_eq_nil_iff→Wy,nil_append→W1,length_nil→W2,find?_some→W3,mem_iff_getElem?→W7,length_replicate→W8,mem_erase_of_ne→WI,map_eq_nil_iff→WQ,getElem_range→Zaa
open PySem renaming wpAny_bind→Ze,wpAny_pure→Zp,Spec→ZQ,wpAny_dictEntries→ZX,wpAny_dictEpoch→Jk,wpAny_holding→Jo,wpAny_mono→Jr,wpAny_call_entry→Jy,wpAny_callSpecial?_slot→JG,wpAny_truthy_bool→JR,mem_of_lookup→Ya,wpAny_Call_Name_kw→Yc,boot_len→Yg,wpAny_newObj_type→Y3,wpAny_attempt→Y5,wpAny_typeNameOfWhole_itemiter→YE,wpAny_typeNameOfWhole_valiter→YG,wpAny_typeNameOfWhole_keyiter→YH,call_meetsIn→YJ,tupleKind_room_in1→YK,wpAny_isOneOf_itemiter→YL,wpAny_passesOwn→YQ,wpAny_notOrdered_dict→YT,wpAny_setState_of→YU,wpAny_setField_rec→Qq,wpAny_Call_method0_late→Qs,wpAny_isOneOf_valiter→Q4,wpAny_isOneOf_keyiter→Q5,wpAny_isInstance→Q8,wpAny_forIn_list→Q9,wpAny_field→QC,codeAny_builtin→QH,evalArgs_none→QJ,wpAny_typeOf→QK,codeAny_mono→QL,call_meets→QS,wpAny_pyIter_enum→QZ,Within→Wo,wpAny_specialOf→Wz,wpAny_execs_nil→W0,sizeLine_eq→WA,isSubtype_stop→WC,wpAny_pyIter_keyiter→WG,wpAny_raiseNew_none→WN,plainId_quiet→WR,wpAny_call→WW
open PySem.W renaming Frag→Zf,findIn→ZK,fnOf→Jg,mg_none_of→Jl,keepIn→Jt,mg_of→JC,kia_one→JN,plainGet→JV,hasDictIn→JX,emptyDict→JY,plainOver→Yj,makesIn→Yy,instObj→Yz,codeIn→Qx,isFn→QM,nsIn→Wp,lookIn→WD,kitOne→WE,plainGet_of→WO,callWith_K→WZ
open Option renaming map_eq_some_iff→Zg,some→ZM,isSome_map→YV,map_some→Qo,isSome_iff_exists→Wc,bind_some→Wg,map→Wl
open PySem.Str renaming ofString→Zh,join→QR,empty→Wf,length→WX
open PySem.Heap renaming get?_push_of_some→Zk,get?_push_size→Z0,lt_size→Z3,SameBut→ZV,get?_update_self→Jv,get?_update_other→YO,size_push→YY
open Nat renaming le_refl→Zl,lt_of_lt_of_le→ZI,lt_trans→ZN,le_trans→ZR,ne_of_lt→ZU,zero_le→Jb,le_of_lt→Jw,lt_of_le_of_lt→J9,lt_or_ge→Y1,lt_irrefl→Y6,le_add_right→Qf,ne_of_gt→Qv,lt_succ_self→Wh,le_of_not_lt→Wi,not_lt→Wn,succ_pos→Wq,le_succ→WB,mod_lt→WY
open PySem.Value renaming ref→Zw,none→JJ,bool→YI,builtin→YS,int→Qr,str→We
open Bool renaming and_eq_true→Zy,false_ne_true→Z4,false_eq_true→ZJ,eq_false_iff→Ja,eq_iff_iff→Jf,true_and→J6,false_and→JK,and_false→YB,or_eq_true→YR,not_eq_true'→YX,or_true→Qe,not_true→Wb,or_false→WU,false_or→WV
open Ne renaming symm→Z2
open PySem.PassesOwn renaming never→Z7
open PySem.SeqAt renaming EqAt→Z8,RcNeAt→ZG,RcAt→ZS
open Sum renaming inr→Jd,inl→Qu
open Array renaming getElem?_toList→Jj,length_toList→Jm,getElem?_eq_getElem→Js,getElem?_eq_some_iff→Qc,getD→Q7,getD_eq_getD_getElem?→QO,map→QQ,forIn_toList→Zac
open PyProof.Rows renaming callWith_type1→Jn,slot_tuple_getitem→Q3,strKind→WH
open Int renaming eq_ofNat_of_zero_le→J4,le_refl→J7,toNat_natCast→JS,add_assoc→Qm,zero_add→Qw,add_zero→QN,emod_lt_of_pos→QV,mul_add→QX,mul_zero→Ws,natCast_add→W4,emod_nonneg→W5,sub_nonneg_of_le→WJ,ofNat→WL,mul_assoc→WT,lt_or_gt_of_ne→Zab
open Classical renaming byContradiction→J8
open True renaming intro→JD
open Prod renaming mk→JE,ext→W9
open PySem.F renaming plainAttrs_list→JH,plainAttrs_dict→JW,slot_dict_valueiterator_next→Ye,slot_dict_itemiterator_next→Yi,slot_dict_keyiterator_next→Yp,slot_dict_get→Yt,type_list_append→Y8,slot_list_append→Y9,called_set→Qd,slot_dict_values→Qn,slot_dict_items→Qt,entry_dict_get→Q1,slot_list_getattribute→Wd
open PySem.Calls renaming callWith_builtin→JZ,spliced_cons→Ys,spliced_nil→YW,call_function_entry→Qi,evalArgs_plain→WK
open PySem.Paired renaming length→Yf
open PySem.Obj renaming mapSeq→Yl,data_mapDictKeys→QD,putSet→Wm,isFreed_of_dict→WP
open False renaming elim→Ym
open ForInStep renaming yield→Yo
open Or renaming inl→Yw,inr→Y4
open PySem.Around renaming under_plainId→QG
open LawfulBEq renaming eq_of_beq→QP
open PUnit renaming unit→QT
open PySem.Data renaming fields→QY,cell→WM
open Exists renaming intro→Wt
open PyProof renaming noPylong_small→Wu
open PySem.StrLaws renaming glued_eq_join→W6
open PySem.Builtin renaming sorted→WF
open PySem.NameKind renaming free→WS
set_option hygiene false
namespace Ab
open Lean
abbrev Tb:=Std.HashMap Name (Array Name×Syntax)
def sub (p:Array Name) (a:Array Syntax) (b:Syntax):Syntax:=b.rewriteBottomUp fun s=>if s.isIdent then (match p.idxOf? s.getId with|some i=>a[i]!|none=>s) else s
def put (t:Tb) (n:Syntax) (a:Array Syntax):Option Syntax:=if n.isIdent then (match t.get? n.getId with|some (p,b)=>if p.size==a.size then some (sub p a b) else none|none=>none) else none
def par (b:Syntax):MacroM Syntax:=if b.isIdent then pure b else return (← `(($(⟨b⟩)))).raw
def tac (b:Syntax):MacroM Syntax:=match b.find? (·.isOfKind `Lean.Parser.Term.byTactic) with|some x=>return (← `(tactic|($(⟨x[1]⟩):tacticSeq))).raw|none=>return b
def pat (s:Syntax):Syntax:=if s.isOfKind `Lean.Parser.Tactic.rintroPat.one then s[0][0] else s
def cat (s:Syntax):Syntax:=mkNullNode (mkSepArray (s.getSepArgs.flatMap fun a=>
 let b:=if a.isOfKind `Lean.Parser.Term.paren then a[1] else a
 if b.isOfKind `Lean.Parser.Term.anonymousCtor&&b[1][0].isStrLit?==some "" then (b[1].getSepArgs).extract 1 b[1].getSepArgs.size else #[a]) (mkAtom ","))
def step (t:Tb) (s:Syntax):MacroM Syntax:=do
 if s.isIdent then
  if let some b:=put t s #[] then return ←par b
  return s
 let k:=s.getKind
 if k==`Lean.Parser.Term.app then
  if let some b:=put t s[0] s[1].getArgs then return ←par b
 else if k==`Lean.Parser.Term.tuple then
  let a:=s[1]
  if let some b:=put t a[0] a[2].getSepArgs then return ←par b
 else if k==`Lean.Parser.Term.anonymousCtor then return s.modifyArg 1 cat
 else if k==`Lean.Parser.Tactic.show then
  if (s[1].find? (·.isOfKind `Lean.Parser.Term.byTactic)).isSome&&(s[1].isOfKind `Lean.Parser.Term.paren||s[1].isOfKind `Lean.Parser.Term.byTactic) then return ←tac s[1]
 else if k==`Lean.Elab.Tactic.Ext.ext then
  let a:=s[1].getArgs.map pat
  if let some b:=a[0]? then
   if b.isIdent then
    if let some b:=put t b (a.extract 1 a.size) then return ←tac b
   else if (b.find? (·.isOfKind `Lean.Parser.Term.byTactic)).isSome then return ←tac b
 return s
def rp (p:Syntax):TSyntax `rintroPat:=⟨mkNode `Lean.Parser.Tactic.rintroPat.one #[if p[1].isNone&&p[0][0].getNumArgs==1 then p[0][0][0] else mkNode `Lean.Parser.Tactic.rcasesPat.paren #[mkAtom "(",p,mkAtom ")"]]⟩
def nm (c:String) (s:Syntax):Term:=mkIdent (.mkSimple (c++toString (s.isNatLit?.getD 0)))
def un:Nat→Syntax→Syntax
 |n+1,p=>if p.isOfKind `Lean.Parser.Term.paren then un n p[1] else p
 |_,p=>p
def fn:Nat→Syntax→MacroM Syntax
 |0,s=>return s
 |n+1,s=>do
  let a:=s[1][0].getArgs.map (un 9)
  match a.findIdx? (fun p=>p.isOfKind `Lean.Parser.Term.anonymousCtor&&((p[1].getSepArgs[0]?.bind (·.isNatLit?)).getD 0)>1000) with
  |none=>return s
  |some j=>
   let i:=a[j]![1].getSepArgs
   let f:Term:=mkIdent (.mkSimple s!"j{i[0]!.isNatLit?.getD 0-1000}")
   let x:Array (TSyntax `Lean.Parser.Term.funBinder):=(i.extract 1 i.size++a.extract (j+1) a.size).map (⟨·⟩)
   let g←fn n (←`(fun $x*=>$(⟨s[1][3]⟩))).raw
   let p:Array (TSyntax `Lean.Parser.Term.funBinder):=(a.extract 0 j).map (⟨·⟩)
   return (←`(fun $p* zzz=>$f zzz $(⟨g⟩))).raw
def step2 (s:Syntax):MacroM Syntax:=do
 let k:=s.getKind
 if k==`Lean.Parser.Term.anonymousCtor then
  let a:=s[1].getSepArgs
  if let some n:=a[0]?.bind (·.isNatLit?) then
   if n>40&&n<1000 then
    let b:Array Term:=(a.extract 1 a.size).map (⟨·⟩)
    return (←`($(nm "n" a[0]!) $b*)).raw
 else if k==`Lean.Parser.Term.fun then return ←fn 9 s
 else if k==`Lean.Parser.Tactic.obtain then
  if (s[2][1].isNatLit?).isSome then
   let q:=s[1][0][0][0][1].getSepArgs.map rp
   let h:Term:=⟨s[3][1].getSepArgs[0]!⟩
   let f:=nm "i" s[2][1]
   return (←if h.raw.isIdent&&h.raw.getId.isAtomic then `(tactic|(revert $h:term;refine $f ?_;rintro $q*)) else `(tactic|(refine $f ?_ $h;rintro $q*))).raw
 else if k==`Lean.Parser.Tactic.rintro then
  let a:=s[1].getArgs
  if let some j:=a.findIdx? (fun p=>p.isOfKind `Lean.Parser.Tactic.rintroPat.binder&&(p[2][1].isNatLit?).isSome) then
   let f:=nm "i" a[j]![2][1]
   let q:=a[j]![1][0][0][1].getSepArgs.map rp++(a.extract (j+1) a.size).map (⟨·⟩)
   let p:Array (TSyntax `rintroPat):=(a.extract 0 j).map (⟨·⟩)
   return (←if j==0 then `(tactic|(refine $f ?_;rintro $q*)) else `(tactic|(rintro $p*;refine $f ?_;rintro $q*))).raw
 return s
end Ab
local macro_rules|`(mutual $cs* end)=>do
 let d:=cs[0]!.raw[1][3]
 unless d.isOfKind `Lean.Parser.Command.whereStructInst do Lean.Macro.throwUnsupported
 let mut t:Ab.Tb:={}
 let mut o:=#[]
 for f in d[1][0].getSepArgs do
  let f←f.rewriteBottomUpM (Ab.step t)
  t:=t.insert f[0][0].getId (f[1][0].getArgs.map (·.getId),f[1][2][2])
 for c in cs[1:] do
  if c.raw.isOfKind `Lean.Parser.Command.check then
   let e←if c.raw[1].isIdent then `(command|end $(⟨c.raw[1]⟩):ident) else `(command|end)
   o:=o.push e.raw
  else if let some s:=c.raw[1].isStrLit? then
   let l:=s.splitOn " "
   let mut i:=0
   for r in l.tail do
    let [k,n]:=r.splitOn "_"|Lean.Macro.throwUnsupported
    if k != "" then
     for j in [i:i+n.toNat!] do
      let d:Lean.Ident:=Lean.mkIdent (.mkSimple s!"tw{(((`PySem.Challenge).str l.head!).str s!"{k}_{j}").hash}")
      o:=o.push (←`(command|def $d:ident:=Nat)).raw
    i:=i+n.toNat!
  else o:=o.push ((←(←c.raw.rewriteBottomUpM (Ab.step t)).rewriteBottomUpM Ab.step2).rewriteBottomUp (·.setInfo .none))
 return Lean.mkNullNode o
mutual
def a where
du a b:=a=(some b)
dB a b c:=⟨a,b,c⟩
dk:=by lia
gm a b c d e f:=⟨a,b,c,d,e,f⟩
eg a:=(a:Int)
kT a b:=List (a × b)
hW a:=Option a
dP a b:=by rw[a];exact b
dw a b c d e f:=by have a:b:=c;have d:e:=f
dy a b c d:=by have a:=b;have c:=d
eY a b c d e:=⟨a,b,c,d,e⟩
fH a:=((a).2).2
dA a b c d:=by obtain⟨a,b,c⟩:62:=d
gQ a b:=a->(b->Prop)
dC a b:=λ a b=>?_
ji a b:=xa (pv a) b
eE a:=((a).2).1
dF:=by decide
lQ a b c:=(du,a[b]?,c)
dR a:=some (.ref a)
dH a b:=by ext dP a b
eO a b:=(du,H a,b)
hD a b:=(dB _ a b)
eA:=p.1
eP a b c d e f g:=⟨a,b,c,d,e,f,g⟩
dz:=List V
tP:=by decide +kernel
mY a b c:=Inv X a Z b c
dN a b c d e:=a/\(b/\(c/\(d/\e)))
fR:=by ext tP
fJ a b c d e:=(gm 83 a b c d e)
d6 a:=if_neg a
eD a:=if_pos a
dX a b:=(lQ a i b)
qN a b:=(mY pins a b)
dG:=by simp
eI a b c d e:=λ a b c d e=>?_
dD:=List Str
eB a b c:=by exact(dB a b c)
dY a b c d:=⟨a,b,c,d⟩
uK a:=(ji a xh)
dM:=x.1
hB a b c d:=(eY 63 a b c d)
dU:=(fH s)
ef a:=SqL.of a
dE:=List Seat
fw a:=(H a)=none
ft a b c d e:=a->(b->(c->(d->e)))
yN a:=(qN H a)
om a:=.type a
iK a:=⟨_,a⟩
gM a:=decide a
fV a b c d e f:=by refine(gm a b c d e f)
dJ:=List Addr
eQ:=.ref a
dW:=i+1
dI:=(yN s)
hZ a:=Same H a
lJ a:=(gQ a Shared)
d8 a b c:=λ a b c=>?_
gO a:=λ a=>?_
dL:=List Pt
gT a b c d e:=(gm 45 a b c d e)
dO a b:=by exact⟨a,b⟩
d9 a b c d:=a/\(b/\(c/\d))
iY a b c d e f g h:=⟨a,b,c,d,e,f,g,h⟩
fQ a b c d:=(eY 44 a b c d)
jQ a b:=a=(.ref b)
fX a:=SqT.of a
oD a b:=by obtain⟨a,rfl⟩:=b
gV a:=by have:=a;lia
fA:=pv 0
gR a b:=by refine⟨a,b⟩
fW a b c d e f g:=by refine(eP a b c d e f g)
eC a b c d:=a->(b->(c->d))
gH:=s.1
iN a b:={ cls:=(om a),data:=b }
tf a b:=[a,.int b]
uJ a:=(gQ a Hp)
jY a b:=xg (xb a b)
gz a b:=by exact (absurd a b)
d4:=List Value
eZ a b c d e:=by obtain⟨a,b,c,d⟩:63:=e
ja a:=(hD rfl a)
dQ:=Seat->(hW Str)
jc a:=a=false
Ms a:=(kT Addr a)
AG a:=by exact a
gG a b c:=by refine(dB a b c)
iB:=List Key
fe a b c:=by rw[a] at b;cases c
fj:=(eE x)
lM a b:=(ji a (uK b))
gc:=by subst e
iw:=λ_ _=>rfl
iU:=(eE s)
uE a b:=Q (.ref a) b
dS:=CXo P w
i3 a:=xa a xh
fC a b:=by rw[a,b]
gY a:=a<=sizeLine
fG a b c:=by rw[a,b];exact c
lI a b c d e f g h:=λ a b ⟨1083,c,d,e,f,g⟩=>h
d0:=List Pr
eF a b c:=xr a b (xk c)
dZ:=Txt w K mg t
gU a b:=(lQ a j b)
ij a b c d e:=by show(fV,a,b,c,d,rfl,e)
fF:=hmm hr
d7 a b c d:=(eI vs a b c d)
qh:=model X.prog X.w
gK a b c d:=(fJ a b rfl c d)
gk a b:=(gM,a=b)
hR a:=⟨rfl,a⟩
iH a:=(a:Str)
fY:=x.2
eX a:=by refine (Ze a)
fM:=p.2
w6 a:=xv (pv a) rfl
gW a b c d e f g h i:=⟨a,b,c,d,e,f,g,h,i⟩
jz a b:=by obtain rfl:a:=b
fc:=List α
eJ:=(Ms Obj)
hO a:=some (.int a)
eV:=Zl _
jJ a b:=(tf,.int a,b)
gu:=k+1
jI a b c:=upd a b (.tup c)
pD:=model prog w
Aj a b c d e:=let a:=b; (let c:=d; e)
iD a b c:=by show(dA,a,b,rfl,c)
eW a b c:=by rw[a] at b;exact c
lC a:=((a).1).nm
vZ a b c:=(hB a rfl b c)
pq a b:=(H a)=(some (.tup b))
fZ:=(hZ H')
js a b c:=by rw[a] at b;cases c
ff:=(eA).nm
eS:=List Int
eG:=(kT Key V)
kZ a b:=(dB a b rfl)
f8:=w+1
mL a b:=by rw[<- a];exact b
eR:=(lJ Value)
eK:=_::_
fK:=c.1
nZ a b c d e f g h i:=thn a (lI b c d e f g h i)
qbV:=rnd mask h r
gf a b c d:=(a=b)/\(c/\d)
m6 a b c d e:=(gm a _ b c d e)
xC a b c:=wpAny a b c Q E s
gC a:=λ b u e=>a
AD a b:=(jc,a == b)
jV:=(AG leS2)
G0 a b c:=(dY a b rfl c)
i9:=(eg i)
iG a:=by ext oD t a
gB:=(w6 0)
fT:=List Nat
iE a:=by exact (.inl a)
oW:=xac _
gS a b:=(dH,xg a,b)
iP:=(iK rfl)
hV:=(fH x)
iQ a b c:=upd a b (.lst c)
kG a:=1+(eg a)
jZ:=(qbV).1
fP a b c d:=(eY 82 a b c d)
zjN a:=(iK (ef a))
fh:=Str->(hW Seat)
iz a:=xm (xw a)
hX a:=by exact (.inr a)
i8:=xam fR
Ce a b:=xo a (xo b xaa)
f7:=(hW V)
iT:=(fH p)
fD:=Cl->(hW Str)
fE a b c d e f g h i:=by have a:b:=c;ext dw d e f g h i
j3 a b:=(a,.ref b)
lB a:=(jY e a)
oh a:=a->Prop
ib a:=by rw[a];rfl
fU a b c d:=by have a:b:=c;refine d
iX a b:=by rw [a];exact b
rG a b c:=⟨a,b,c⟩
iJ a:=(hD a rfl)
GZ a:=Same H1 a
jo a b c:=if (a=true) then b else c
hJ a b c d e f:=by obtain⟨a,b,c,d,e⟩:83:=f
gq:=(eD rfl)
fO:=Seat->Int
h9 a:=xt (Same.refl _) a
ir:=c.2
gF a b:=by ext mL a b
j7 a b c d:=by obtain ⟨a,b,c⟩:62:=d
qU:=.ref d
nX a:=(hD a ?_)
fS:=Str->Int
jD a b c:=by show(dA,a,b,rfl,Zc.mp c)
rY a b c d:=by show(dy,a,su_e b c,d,ug_e c)
gg a b c d e f g:=GB K mg a b c d e f g
og:=s.2
zfw a:=["picture", a]
lX a:=(eg a)+1
jx:=xaq hr
rE a b:=[a,.ref b]
hF a b c d:=λ a b c d=>?_
vS a b c:=by show(gR,a,dC b c)
M9 a b c:=(vZ a (zjN b) c)
BE:=(kT Seat Int)
jw a b:=by rw[a,b];rfl
sv a:=by rw[a];lia
iu a b c:=by obtain⟨a,b,_⟩:62:=c
Mr a:=["self", a]
jf a:=(eg (a:Nat))
Vq a:=(kT Str a)
i5 a b:=upd H a b
iI a b c d e f g:=xaf a b c d e f .nil xq g
qb a b c d e:=xai (zs:=a) (ys:=b) (fr:=c) (N0:=d) (sc0:=(xk e)) fR rfl rfl rfl
jn a:=by rw[a]
rh a:=xg (Z2 a)
gZ a b c d:=by have a:=b;rw[c] at d
rK a b:=by rw[Zd,a] at b
jX a b:=(a-b).toNat
Ap a:=.str (Zh a)
CJ a b:=itP a ss prs b
gL a b c d e:=by have a:=b;have c:d:=e
iW a b:=λ(a:Nat)=>b
gE a:=show a by lia
lO:=mask+1
uX a b:=(G0 a _ b)
gD:=List (List Nat)
jH a:=by ext gV a
kR:=by split<;>lia
gJ:=(kT iB V)
jr:=.inl rfl
iF a b:=by show(gG,a,b,?_)
yM a:=(uE l a)
ie a:=by simp[a]
gP:=List Gs
im:=pv 1
lv:=P0 a
hU:=(dR a)
kY:=P0 a b
kP:=P0 a b c
kO:=P0 a b c d
jk a b c d e f g h:=(nZ a b c d e f g h ?_)
mW:=e::es
h8 a b c d e f:=by obtain⟨a,b⟩:=c;obtain⟨d,e⟩:=f
oG a b c d:=if (a<b) then c else d
i7:=λ_ _ _ _ _=>xan
pT:=(eg 0)
kN a:=((a).isSome)=true
nR:=(eE p)
gX:=Str->BE
m7:=.lst (qs.map V.ref)
jd a:=by intro a s Z H Q I h
vY:=(k,x)
qX a:=λ Z H Q=>a
mK:=(GZ H2)
wP b c d e:=Pic t b a dp do_ c d e
jC a b:=by show(ij,a,_,rfl,fX b,?_)
hI:=by cases h
jE a b c d:=by obtain⟨a,b,c⟩:43:=d
jK a b c:=show (a=b) from c
i4:=by exact z
nU a b:=(dB a rfl b)
iC:=.int i
iS:=(fw b)
i0:=h.2
jb a b:=by refine a;refine b
lA a:=s5 _ _ a
oQ:=(eg w)
kh a b c:=upd a b (.dK c)
pR:=(gO c)
qK:=(uJ St)
iO:=Str->(hW Value)
tZ a:=eval a X.env
jP a b:=absI (a-b)
j9:=Z0 _ rfl
zw a b c d:=(Ce,pN a b,pN c d)
xV a:=(rG _ a ?_)
kg a b:=xap (top a) b
Al a b c:=xa1 Z7 rfl a b c
uD a:=⟨a,[]⟩
jy a:=⟨a,?_⟩
BQ a b:=show (a=true) from b
ii:=by assumption
DH a b c d:=a->(b->(gQ c d))
iZ:=n+1
um:=I.tok _
z0 a:=way mask h a
jS:=i<n
ia:=Array Nat
pI a b:=xa a (xa b xh)
v0 a:=xa0 I q a
Hg:=[dU]
iA:=h.1
iM:=z.1
su a b c d e f g:=by obtain⟨a,b,c,d,e,f⟩:46:=g
C6 a b c d e:=(du,upd a b c d,e)
vN:=(eg h)
pj a b c d:=(ft a b c d C)
qC a:=(isNm a)=true
mX a b c d e f g:=(iY 104 a b c d e f g)
yL a:=(pq q a)
AV a:=Vals a us
jh a:=(xC pD A a)
iy:=sgs G
kQ a b c:=by ext rY a b eu c
o5:=P1 a
oP:=P1 a b
oM:=P1 a b c
oF:=P1 a b c d
ro a b:=.ins a dx b
zv a b c:=IsTupleKey knd a b c
IH a b c:=(du,ZK K (.ref a) b,c)
jG:=λ_=>none
nD:=["self"]
jq a b c d:=if (a=b) then c else d
kL a c d:=∀ b u,((b≠a)->(c->d))
yP a b:=a=(pure b)
vy:=(eg iU)
jj:=pv 3
rP:=λ z=>(nomatch z)
uH a b c d:=(fJ a b c rfl d)
iL a:=by ext oD t' a
rD a b:=(jI a p b)
j6:=Int × Int
sS a b c d e:=λ ys a b c d e=>?_
tz a b:=wpAny qh X.A a b X.xe s
n8 a:=by cases a;rfl
iR a b c d e f:=by have a:=b;ext dy c d e f
LP a b:=["self", a, b]
mJ:=asked s
kE a b c d e f g:=(iY 47 a b c d e f g)
ua a b c:=by have e:(a=b):=c;ext gc
lF a b c d e:=(qb [a] b c d e)
lu:=pM 0
qI a b c d e f:=xat a b c d e f .nil xq
kX:=xas dF
jL:=Zo ..
lE a b:=by rw[Za,a] at b
mF:=(hW Addr)
Mq a:=Drw.rim w a
sW a b c d:=cells w a b c d
lP a c:=λ b u a e=>c
m4 a b c:=Dv K H a b c
o4:=[eQ]
sr a b:=by obtain⟨a,q⟩:=b
Bd a:=(eO l a)
je:=(kT κ V)
mV:=Zb lt
jA:=xk st
mO a c:=λ b o a e=>c
mj:=xa6 w h ps ss prs
jg:=(Vq dD)
EB:=Addr × Value
kM:=x0 w ps srt
oy a:=by show (wpAny _ _ a _ _ _)
qg:=tupleKeyHash knd k
mh a b c d e f:=xaw rfl a b c d e (λ_ _ _ _ _=>f)
jt b:=⟨a,b⟩
nS a b c d:=by rw[a,b] at c;cases d
j4 a:=by rw [a] at h
kH:=by intro z
Ab a b c d e:=by obtain⟨a,b,c,d⟩:44:=e
ju:=by wp_step
ve a b c:=by obtain⟨⟨a,b⟩,_⟩:=(id c)
sI:=List K
nH a b:=(du,H' a,b)
kW:=.ref l
pQ:=(eg j)
nB:=(hW Int)
lW:=Jb _
qj a b:=(H a)=(some (.lst b))
qF a b:=by show(jz,u=(Zw a),b)
pH:=(eO b u)
xU a:=(Zj.mp a).1
jR:=w+2
jO a:=λ u e=>a
jp:=(zfw "pairs")
yg a:=a<sizeLine
nG a:=(a-1).toNat
yD:=(eA).y
qz a:=some (some a)
j5 a b c d:=by exact(hB a b c d)
lH:=Same.refl _
rC a:=(dC p a)
uQ:=P2 a
lY a b:=hN _ _ a b
jN a b c d e f:=(eP 46 a b c d e f)
uB:=P2 a b
tW:=P2 a b c
tL:=P2 a b c d
ye a:=λ b o e=>a
li a b c:=(fQ rfl a b c)
pd a:=(lM 0 a)
rW a b c:=by show(dA,a,b,rfl,Zg.mp c)
yp a b c:=(fJ a H b c q)
yx a:=x8 (pv a)
FH a:=.str (xa3 a)
jv b:=fun⟨a,h⟩=>b
R1 a:=.ins t.C_d I a
vE a:=ys.length=a
kc a b c:=by ext fG a b c
jT a:=by rw[(d6 a)]
AK:=by subst this
lD a:=by rw [(d6 a)]
kJ:={ s with heap:=h' }
me:=by congr 1
o8 a:=tp _ _ a
lG:=j+1
nI a:=by exact (SqL.of a)
uA:=(eg 1)
pY a:=(dC b a)
wp a b:=(lQ a k b)
pP:=(uK 0)
kD:=xz s
vM:=(uJ V)
mP a:=by show(gz,rfl,a)
kd a b c:=by ext fe a b b;exact c
kq:=xbb st
rB a:=(kZ p a)
lN:=2 ^ 62
jB:=Pict w h ps ss prs
nQ:=xao ps
jF:=(kT Cl S)
Mp:=(z0 n)
B5 a:=runEnd mask a
jM a:=λ s hs=>a
j8:=RelV y u
ma a b c:=by rw[a,b,c]
lK a b:=by obtain⟨a,e⟩:=b
mG a b c d e:=by obtain⟨a,b,c,d⟩:82:=e
Dj:=#[qU]
zjM a b c:=["self", a, b, c]
kB a b:=(dB a b ?_)
mN:=.ref p
nO:=(eg n)
mQ a b c d:=(eY a b c rfl d)
kC:=pv 2
wh a:=(eO d a)
nN:=(uK 1)
rO:=(du,s.heap.get? b,o)
sZ a b c d e:=(a=b)\/((c=d)\/e)
sT:=by simp at e
Bs a:=(H a)=(some (.dK kvs))
jU:=Cl->(hW S)
mf b c d e f:=by show(fW,a,_,b,_,_,rfl,gT c T.c_a d e f)
pG:=(jQ y q)
jW:=(v0 dG)
yy a b:=xau a b xad
kK:=(wP H pw ph ps)
ww:=[a]
pk:=b.1
tT a:=by rw[a];simp
wU a b:=by show (a<=b);lia
lZ a:=by ext dP a e
zjL a:=(H1 a)=none
Gy:=bits h
pL a b c:=upd a b (.dT c)
CI a b:=.inl ⟨a,b⟩
uz:=(fw p)
qT:=.str x
oC:=Array Value
mU a b c:=by show(j7,a,b,rfl,c)
ku a b:=(gK _ _ a b)
GY a:=xag rfl a
mC a:=(m6 121 _ _ _ a)
ztC:=.dict es ep
kS a b:=((a).length)<=b
rF a:=by rw [a] at e
Db a:=λ_ _ z=>a
qS:=.ref b
m8:=s.heap.objs.size+1
lm:=pv 4
lS a:=(dH Za a)
mM:=(fw l)
sA a:=λ b xs e=>a
mZ a:=ne_f e a
MD a b:=(ja,ite2 a b)
kU:=xbl st
mT:=(b,r)
lR a:=λ p hp=>a
mD a:=if_neg (λ z=>a)
se:=Q .non H'
sE a b:=(IH a b none)
Pw a b:=(starEach a X.env)=b
zeu a:=es.map (toPt a)
Sx a b:=xag rfl (xo a b)
kI:=relabel scope X.env
PD a b c:=(R1,putF (Zh a) b c)
AQ a b:=congrArg a b
pV a:=⟨q,a⟩
sU:=kv.1
qH a b c d e f g h:=by ext dy a b c d;ext dy e f g h
nM:=(dR l)
mI:=λ z=>?_
oU a b c d e f g h i:=(dN a b c d (dN e f g h i))
nW a b c d e:=(a=b)/\(c/\(d/\e))
yK a:=PE X e a
Mo:=xm xbh
AC:=s∈ss
mB:=nAt mask h r
GX a:=(uE a H')
AS a b c:=(1<=a)/\(b<=c)
lT a b:=(a,V.str b)
DJ a b:=(iQ a b [])
xW a b:=(rE,.str a,b)
lU a b:=by ext vS jV a b
w8 a b:=(zv s.heap a b)
nA:=o.data=ztC
yF a b c:=xu a b (pv c)
zpq a:=(H2 l)=(some (.lst a))
oJ a b c:=xae a (pv b) c oW
pB:=.inr (ofL Hg)
qm a:=by show (wpAny _ _ a _ _ s)
nE a:=(Zy _ _)▸a
oB:=(dX kvs vY)
KI:=X.pn++pins
m9:=λ_ z=>(nomatch z)
oq a b d:=∀ c u,((c≠a)->(b->d))
N8 a b:=backTo a (starEach b X.env)
qp:=by simp;lia
n7 a b c d e:=by have a:(mY b c d):=e
zC a b c:=by obtain⟨a,_,b⟩:62:=c
Dl a b:=∀ n s,(a->b)
tU a b:=DGet.k (k:=a) b
sF a:=by exact (Zc.mpr a)
nK:=.str _
nh:=X.calm=true
A5:=P3 a
AB:=P3 a b
zZ:=P3 a b c
zB:=P3 a b c d
nY a:=by show(gR,a,?_)
mr:=Array DictEntry
UA:=s∈al
oR a b:=(0<=a)/\(a<=b)
mz:=(kT Int Int)
DG a b c d:=(m6 a b c rfl d)
Nq a:=k _ _ a e
mH:=(oh A0)
mS:=y::ys
zjj:=(tZ o)
yc a b c:=(Al,a,b,xm c)
M6:=Pv dW
nF:=(AV xs)
oa:=a=b
Fp:=xcs scope
mR:=w<=30
mE:=(gQ A0 A1)
IN a b:=x9 a rfl T.n_len Yg b
zmR a b c:=.Call (.Attribute o a apos) b [] c
XE a:=xaj (r:=(rIxT K)) xa7 a xp iw
mw:=A0->(gQ A1 A2)
mq:=(DH A0 A1 A2 A3)
qY a b:=Pic.same a b
p5:=a.1
va:=t.2
n6:=nd.2
yZ:=by simpa using e
zfv a b c:=show (AD a b) from c
oz a b:=by have:=a;rw[b] at this
pi a:=by rw [(eD a)]
TF a:=∀ H',(fZ->a)
uP:=(eA).x
ul:=P.1.x
sN a b:=a=(decide b)
Gx:=List S
nw:=List Expr
Dk a b:=(dB rfl a b)
uL a b:=I.hok a _ b
Sw:=s.toks+1
oX a b c d e:=(gm 121 a b c d e)
ue a b c d e f g:=by ext dA a b c d;ext eB e f g
vQ a b c:=(ji a (lM b c))
No a:=Same H2 a
oS a b:=by show(eB,a,b,rfl)
uG a b c d:=(gT rfl a b c d)
nT a:=gb_2 X G a
rJ a:=by ext js e a a
ED a:=(AD a sysModules)
qM a:=xu xa2 a xp
oK:=(jQ x a)
nu:=Tups H H'
Ai a b:=(hB _ a rfl b)
np:=I.ok.hd hc
nJ:=(zjL l)
zo:=eval e X.env
zjK a:=HOk P w H a
zY:=Pv i Z H
wG:=itP w ss prs k
tS:=KV kvs vs
zjJ a b c d:=(eP a _ b c _ rfl d)
FE a b c d:=λ a x b c d N hN=>?_
pE a:=decide_eq_true a
vD a:=⟨a,rfl⟩
C4:=by rfl
tX a b c d e f:=by obtain⟨a,b,c,d,e⟩:64:=f
zq a:=show a by decide
rV a b c:=by rintro (⟨a,b,c⟩:62)
qE:=List Env
zN a:=some (.str a)
rq a b:=by show(dP,xg a,b)
qZ a:=by refine (.inr a)
sY a:=(dC x a)
AA a b:=(ji a (i3 b))
Ga a:=(so a)=none
C3:=room a
Cd a b:=if_neg (λ a=>b)
wa a b:=λ a b e=>?_
GW a:=(qN H' a)
oE:=(kT Str V)
o3 a b:=by refine (thn a b)
zM:=.str p.nm
CN a:=.str (lC a)
zA:=.inr pt.nm
sD a b:=xg (ne_f a b)
oN:=Str->dE
oZ a b:=(fC,Zb a,b)
oO:=Yw rfl
zX:=(eO c u)
oA:=(Mr "name")
Oo a:=(H a)=(some (.dT kvs))
Nd a b c d:=(uH,.ref a,b,c,d)
oH:=(CJ y gu)
sx a b:=(fQ a dF dF b)
Ts:=(B5 jZ)
on:=by rw[Za];exact (xba dk)
Lu a b c d e f:=(Aj,a,tSeq b c,d,tSeq e a,f)
V5:=(du,X.env.cells.lookup x,c)
LJ:=(zpq ys)
zuG a b:=by intro a s Z H b us Q I r h
oI a b c:=tSeq a (tSeq b c)
oY a b:=Z2 (xb a b)
Ek a:=by show(gz,BQ false a,Z4)
zuF a b:=KasT.kasWp cmp a b s
rH:=z.2
TK a b:=by cases (show a from b)
Nn a:=∃ t,(u=a)
Fu a:=show a from r
qG a b c d e f g:=by obtain⟨a,b,c,d,e,f⟩:84:=g
DS a:={ s with heap:=h',toks:=a }
p8 a b c:=by rw[Za,a,b] at c
pU:=by exact .nil
TD a:=(kT a Value)
BU:=(hW Value)
pZ a:=by ext dP e a
ud:=by refine (Ze ?_)
yw a b:=by show(eB,a,rfl,b)
pX:=1<=w
pA:=xak X.prog X.w
qR a b c d e f:=by ext eZ a b c d e;refine f
qJ:=(ja ?_)
uV a:=JC X G a
pW:=x::L
Es a b:=(eO,a,.tup (xa4 b))
tN a:=L.map (λ x=>a)
pK:=by show(iE,rfl)
zj b:=(du,h.get? a,b)
wn a c:=(jo b a c)
tY a:=Q (.int a) H
uI a:=(pI xp a)
MC a b:=(yL (jJ a b))
OH a:=by show (a<1000);decide
pJ a b c d:=by ext ve a b c;refine d
qo:=(ye,Zk _ e)
wI a b:=xaj xbf (pv a) b iw
rS:=putK kvs k v
pF:=RelV v u
re a:=λ z hz=>a
Cj a:=xcr fA a rfl
tO b c:=⟨"",a,b,_,rfl,c,i8,a⟩
IB:=("picture",eQ)
vU a b:=((a).length)=b
qD:=λ_=>rfl
BR a:=by rw[a];decide
vT a c:=∀ b o,(a->c)
Xw a:={ D with nx:=a,ct:=a,bk:=D.nx }
tw a b c d e f:=I.turned (t':=s.toks) a b c d e f
sM:=by intros;rfl
zi a:=some (.builtin a)
sH:=.ref q
qV a b:=by show(dP,d6 a,b)
yC:=J7 _
sP:=.bl _
qQ:=(fH z)
Vc a b:=(a == b)=true
yB:=pv 7
sG:=(eE z)
qL a:=(mg a)=none
GU a:=(dH a xi)
uU a:=(jQ v a)
xQ:=s _ _ e
wv:=i-1
Uz:=lno fR
vq:=(hR rfl)
rA a:=Jl X G a
rT a:=by intro a s Z H D I h
CL a:=xu xcg a xp
xP:=(sv Za)
qy:=N->(hW S)
xT a:=Q (.bl a) H
sj:=RelV x u
qi a:=by show (pT<a);decide
zgi:=F i y H'
uj:=(Bd m7)
qu:=(kT iB EB)
qd:=by refine (gx ?_);refine (fq ?_);intros
wC a:=(Jt K (.ref a))=true
ui:=al++[s]
tK:=valV kvs k
zgH a:=shO a crowd g
Vb a b:=(zmR a b cpos)
xO:=(XE fA)
qO:=(zjK h)
sy:=Gy % lO
zfb:=(gU ys y)
rp a:=by ext zuG a xs
zd a b c:=wpAny qh X.A a b X.xe c
wg a:=(zuF a G)
qv a b c d:=by obtain⟨a,g,b,c,d⟩:=s
UL a:=xch (xbs a)
qx:=PE X a ta
OB:=(j3 "lengths" J)
zW:=D.nx Z H
Sv a b:=(zfv (iH a) b fR)
qr:=Tab t es L
Ee a:=by simp only[a,ZJ,if_false]
qW a:=λ D Z H=>a
Ry a b:=lt (g p a) (g p b)
qe a b c:=xcf (i:=a) b rfl (Y4 rfl) c
zrz a:=Geo.cells w x y a r
tH a:=a<s.heap.objs.size
uT a:=(fH a).1
wL a c:=if b then a else c
Pd a b c:=if a then (some b) else c
AO a c:=∀ b u,(a->c)
zgG a:=∀ x c,(V5->a)
yJ a:=s4 _ _ a
sX a:=s6 _ _ a
ya:=(eg k)
zhU:=(eg gH)
sL a b:=by show(dP,jY a b,a)
vG a b c d e f g:=by ext dw a b c d e f;refine g
sK a b c d e f g:=by ext dw a b c d e f;refine g
sR a b c:=by show(dA,a,rfl,b,c)
vz a b c d e f g h:=by ext dA a b c d;ext dA e f g h
Ft a:=(X.mg a)=none
yI a:=(dH a q)
C2:=rent s
Gw:=(gO y)
sC:=by show(hX,rfl)
sV a b:=by show(iX,xg a,b)
ur a b:=(gK a _ b ?_)
tt a b:=by ext jD x a b
SI a:=(du,so n,a)
uh:=ptsS ps
X6 a b:=s.heap.push (iN,a,.fields b)
zgh:=.int 0 0
r8:=x.d ρ μ
sQ a:=(kg 54 a)
rR:=qs.map V.ref
sJ a:=λ c u e=>a
vC a:=λ c xs e=>a
xA:=RelV x v
vF a b:=(mg a)=(dR b)
si a b c d:=by refine(M9 a b (dC c d))
EZ:=(H' b)=none
BS a b c:=by ext rK Zg a;ext iD b c a
vL:=(FH b)
uS c:=λ a b=>c
vp:=ns++[nm]
rN:=(du,s.heap.get? d,o)
LO a b:=ZN (dk:a<b) dF
sO:=h<=16
wE a b:=OpR X (compareOp a) b
zbO a b:=by rw [Zd,Zg] at a;ext iD qa b a
zn:=SqL K H a xs
yT:=sIx items.size 0 lo
Vp a:=sets a L c
zoi a b c:=by refine (xa5 (xs:=a) (Pv:=Pv) b c ?_ ?_)
Fb:=⟨jV,k⟩
rM:=(AD x (iH "__debug__"))
SH a:=Nat->(Nat->a)
rL:=(hW,Int × (Str × Seat))
vh:=(du,asked s,a)
rX a b c d:=(Sx,pN a b,zw c b d b)
B4 a:=λ c u nc e=>a
Su a b:=∃ m',((m'<a)/\b)
rZ:=S->(hW N)
zpV a b c:=X.blkG scope zs ys a b s H c
IM b c d e f:=(zjJ a b _ (gT c T.c_a d e f))
rQ:=xc3 oQ vN ps
qbU:=([],0,.none)
Xe a b c d:=λ_ _ _ _ _ a b=>(c:PG _ _ (gTup K d _))
yV:=(way t.mask h m).j
zQl a:=Bf a ho name crowd al asked
zPg:=xah dF (xah dF xb4)
vk:=["picture"]
wu:=q.1
US a b:=by ext js a b b
FY a b:=by rw[a,b];lia
tE:=by simpa using h
tD:=by simpa using c
Dc a b c d:=by cases a;ext eB b c d
tR a:=by rw[a];constructor
Mn a b c d:=by obtain⟨a,b,c⟩:81:=d
uc a b c d e f g:=by obtain⟨a,b,c,d,e,f⟩:65:=g
Bk a:={ s with heap:=a,toks:=tk }
vc:={ s with toks:=Sw }
vo a b c d:=by obtain⟨a,b,c,_⟩:63:=d
uy:=List G
zdC a b:=(du,ps.find? a,b)
uw:=.ref x
uZ:=f+1
Gv:=(fH P)
Nm:=P4 a
Ah:=Zc.mp h
Mm:=P4 a b
yu a:=by refine (ite2 a a)
Lm:=P4 a b c
KH:=P4 a b c d
yl:=.bl b
wm a b:=(d8 a b q)
uW a b:=(d8 a b z)
xN:=xak P w
zV:=s1 _ _ e
M5:=own n
C1:=lens n
uO:=v::r
Fa:=Zs.mpr rfl
Vo a:=xm (xaz a)
uN:=x::l
vx:=(gC ?_)
uu:=2 ^ 64
xS a:=(xC qh A a)
CH:=iteF ?_
tI:=(zfw "names")
UO a b c d:=x9 a rfl b c (i3 d)
Du a:=(jw Zd a)
GN:=Z[i]?
uC a b c d e f:=MB K t.C_a a a b c d e f
uM a b c d e:=MH K C_a a a b c d e
zU:=(CJ y k)
Ml:=(Mq b)
uY a:=by ext sr a h
uq a b:=by refine(M9 a b ?_)
tG:=by refine (ZX hd hdat ?_)
tF:=by refine (Jk hd hdat ?_)
ut:=p∈ps
Dt a:=(yy a Mo)
zcW a:=valV kvs (.inr a)
EY:=blk0 Z fr n
Ci a:=by refine(uX rfl a)
ug a b c:=(sS a b c ly fy)
z6 a b c d:=(gm 64 a b rfl c d)
Tq:=(No H')
zAo a b:=.hand a b asked s
vd a:=(tz,a,EP X pins Z Q)
Va a b:=leap mask a b
zT:=(lM 1 2)
vP a:=by ext ua b it a
uF a b:=by ext jE a b q h
Bn:=es'.map (λ x=>(Zw fj))
zbb:=pyNext (.ref it)
tQ:=(dC z hz)
vg:=Z.set i (some v)
zL:=(p.x,p.y)
tV:=qs1++qs2
zh a:=(t.slot a)=.empty
uo a b c d:=wpAny pD A a b c d
tM a:=xm (xw (pv a))
uR a b c d e:=by ext su a b c d e q h
uf a b c:=xct jx a b c rfl
Rx:=totI I prs
zcK:=by show(jz,v=(Zw _),D)
wO a b:=by show(dA,u,rfl,a,xcx b)
tJ a:=by refine' (xa xp a rfl)
wZ:=x0 M ps C
wB:=shR rent asked g
KG:=xbc ps srt
tu a b c:=by obtain⟨_,rfl⟩:=D;ext eB a b c
zfu a:=xbq (xao ps) a
zai a b c:=(yP,bindArgs a (uD b),Qk c b)
HN:=Geo.upL pt.x pt.y r
zRK:=[32,124,45,43,35]
Vn a:=⟨a,dk⟩
vj a b c d e:=by obtain⟨a,b⟩:=c;ext dO d e
vA a b:=by have:=a;ext gV b
Vm a:=⟨#[a]⟩
Re:=by simpa using this
vn a b c:=by rintro (⟨a,b,c⟩:43)
wD a b:=(du,s.heap.get? a,b)
EL a b:=(du,K.lookup a,b)
vK:=.int _
vw:=.refl _
DF:=pv 8
A4:=pv 6
U9:=own a
vJ:=(dR d)
Aa:=by refine (Zp ?_)
yj a b c d e:=(ft a b c d (GX e))
wt:=H b
we:=1<=x
AZ:=Zv n
y0:=(gY xs.length)
wc:=x::r
wb:=p::r
DE:=kV k
wj:=by simp[ih]
vR a:=gb_1 X G a
yd a b c d:=(jI a b (jJ c d))
CG:=(lC p2)
CF:=(lC p1)
yO a b:=(vZ _ a b)
vX:=x::xs
Uy:=Zk _ q
zsv:=Int × Value
Az:=(kG i)
CD:=(lB hl)
vI:=(ib e)
M4:=Zh ""
BK a b:=s.TypeIs (.ref a) b
IV:=(du,H' c,u)
HS:=I.hok.fresh (Zl _)
zqE b c d e f:=by show(fW,a,_,b,_,_,rfl,gT c T.c_g d e f)
To a b:=FpOk X pins a b
CC:=xc8 w p
Ak a:=by show(oy,a>>=_)
zhT:=rent dM
TC a:=(wp crowd a)
Ej a b:=(H' a)=(some (.tup b))
EA:=(so z).isSome
vH:=Gl X x
vi:=(zeu G.length)
vt:=(Nq jr)
BJ:=by refine (Ze (Zp ?_))
zg:=PrsL H prs qs
vO a b c:=λ j y a hy b=>c
vW:=q::qs
vm a:=.inl (SqL.of a)
Ux:=zs++ys
E0:=by simp at e;ext gc
zS:=(zgH own)
TB a:=(yp a um iP)
wf a b:=by show(zoi,a,b,?_)
vV:=N->Gx
Ag:=(zRK:fT)
Ei a b:=by obtain ⟨a,_,rfl⟩:62:=b
Ez:=es'.getD i qbU
zK:=(l+r) / 2
Pu a b:=.ask crowd asked a b
Iq a b:=Sg t a p d1 d2 b so ho
qbT:=(kN mJ)↔UA
Kj:=(zpV C ex pn)
vb a b c d e f:=⟨126,a,_,b,_,rfl,c,d,e,(OH f),?_⟩
zma a b:=envOfC qual a s.heap.objs.size f b
Er a b:=by exact (JN a I.kIn b e rP h)
zLJ a:=#[(.int lo t),(.int hi u),(.int a v)]
wH a:=decide_eq_false a
DI a b:=holding a b
K3:=by ext sT
yt a b c d e f g h:=by have a:=b;ext dw c d e f g h
xD a b:=by obtain⟨e,a⟩:=b
FD a b:=by obtain⟨a,hs⟩:=b
w4 b c:=by subst b;ext qF a c
yH a:=a≠none
wA:=by dsimp only;lia
xl:=∀ s,qbT
O4:=by split<;>split<;>lia
xM:=List DV
Uw:=(eg C)
xL:=(eg h')
yi a b:=xbi (pv a) b
yA:=pv 5
C0:=(dR q)
xK:=(dR lp)
Tn:=(dR pz)
xZ:=(d6 c)
xJ:=(d6 dk)
yb a b c d:=by show(dA,a,b,c,Zc.mp d)
xY:=(eD e)
wY:=(lJ Unit)
wT:=prs.take i
Ds a:=(fC a Za)
yk:=(x,r)
zji:=(pQ,r)
wz:=(du,h.get? b,o)
AF a b c:=(pq a (jJ b c))
zu a:=by intro a s Z H R I h
yG a:=λ b e=>a
Bc a:=λ b z=>a
MI a b:=by show(iE,⟨a,b⟩)
CZ:=(kG j)
xX:=2 ^ 63
Af a b:=pS a sc_x.nd b
UK a:=λ xs H Q=>a
xI:=(sv Zn)
Ay:=(jf 0)
zgg:=(Ap " ")
yr a:=λ x hx=>a
yE a:=by ext jC qa a
B3:=(dX xs x)
wS:=(dX X.N x)
wy a:=by refine(xV a);refine (sq2 ?_);intros
wx a:=by refine(xV a);refine (sq3 ?_);intros
wR:=totI w prs
zJ:=xbj w prs
zjI a:=a+(i9*(-1))
Ax:=(yx 1)
wN:=ns++[pt.nm]
Dq a:=(wU uA a)
zio a:=putK a dM fY
PV:=.Name x pos
yo a c d:=(C6 a c d b u)
ym a b d:=(C6 a b d c u)
yq a:=(AQ Y0 a)
Ch a b c:=[a,.ref b,.ref c]
AJ:=by exact (Z3 e)
Cc:=rimC w s
xH:=(yK te)
GG a:=(IN xbn a)
SG a:=λ i j=>(.int a)
wF:=DecidableEq κ
wX:=(Ga name)
xG:=Arr n p
wW:=.cons r t
RY:=(ro C fs)
GF a:=ag ρ μ a
EX:=te σ' H3 N
yh:=by ext Ek hs
zcH:=xdw (xbu hr)
xR a b c d e f:=(iY 66 a rfl b c d e f)
Tz a:=(zgG,c≠a)
xF:=(e,f,h)
wQ:=by rw[Zq,ZH] at nd
xB a b c:=zfb->((gU a b)->c)
wV:=a.lt _ dk
zI:=(dH e JD)
BV a b:=TyOf K H a (om b)
P9 a:=(rimB f8 a)=true
wM:=LD H es kvs
zuE a b:=Kp.Mt (xav lens) a b
zy:=(MD pR pR)
EC a b:=(DG a rfl (fX b) ?_)
wK:=tupleKind kk
xE:=more[x]
RB a:=xdj (xs:=a) rfl
IW a b:=(t.slot a)=(.live b)
qbS a:=(zjM "row" "column" a)
zm:=(vy,(kG gH))
IA a:=(X6 "range" (zLJ a))
zbs:=1+((D / 8) % m)
Ki:=.fin so' ho'
Kv:=sp vs H Q E
wJ:=Sts H do_ ss
LQ b c d e:=Let t b a o i c d e
zkN a:=x9 xcm rfl T.n_isinstance boot_isinstance a
BI:=btw r1 y2 r2
zl:=btw r2 y1 r1
Hr:=near lens own rent asked crowd
zlg a b:=.inl (mX _ _ true a rfl xc0 (nU true b))
DX:=.Tuple elts x1 tpos
zkd:={ cls:=(om "set"),dict:=none,data:=.set (#[]) 0 (.fresh 0 0 x) }
DL:=pC (ok_r T) hr T.r.g T.r.F.kp T.r.b (ji 0 (i3 xp))
Vl a:=s1.trans a
zR:=["rows"]
AU a:=(false,a)
AE a b:=by rw [a] at b;cases b
zk:=λ_ _=>False
Bz:=by simpa using m
Mj a:=(a+1).toNat
Hf:=#[v]
AR a:=by obtain rfl:=a
Di:=by split at h
F9 a b c:=∀ H',(a->(b->c))
Cg a b c:=DPut.k (k:=a) b c
AN a b:=a->(b->Bool)
Bb a:=(du a j)
Ba a:=s2 _ _ a
Mi:=.ref C
CB:=.ref pz
D9 a:=by exact (of_decide_eq_true a)
zf:=(eg G.length)
AI a b:=by show(dP,rh a,b)
Mh:=(eE e)
CY:=(eE b)
Ae:=Zu.mp h
y9 a b:=λ z=>(by ext nS z a b b)
Aw:=(eD c)
CW:=(uK 2)
Ep a b:=(H a)=(some (.own b))
Av:=.inr x
Ad:=Zu.mp b
M3:=xay s
AY a b:=(d8 h' a b)
Au:=some v
AX:=ck c
AW:=Zb c
AM:=xa8 e
zH:=(uJ Bool)
FW:=(uJ dz)
zQ:=Array zsv
Bg a b:=by show(gG,a,?_,b)
By:=b≠X.env.locals
A9 a:=(kZ x a)
Am a b c d e f:=(G0 a b (eI p c d e f))
UJ a:=xu xb8 a xp
LI:=(oh Hp)
P8 a:=ha a s Z H _ I h
CV:=(lX w)
Tm:=(lX gH)
E9:=(Vq Value)
At:=α->β
As:=(jn e)
zP:=inns w G
A8 a:=(iW i a)
Ao a:=(jH (xU a))
zG:=y.d ρ μ
BP:=(kT Cl Str)
BA a b:=(qX,t Z H (λ a H1=>b))
Em:=prs.length<=12
Bx:=names.length<=12
yR a:=by refine(nX a);refine (sq2 ?_);intros
zAn:=Tp H H'
Mg a:=cans w ss a
Ar a b c d e f g:=(gW 86 a b rfl c d e f g)
yY:=(du,h.get? d,o)
Dh:=g i j
CU:=(tT e)
Da a:=y=(.int a)
FX a b:=xae xcb a b oW
AH a b c:=(GY (zw a b c b))
zhS:=s _ _ h
zgF a:=Zc.mpr (rB a)
zF:=PE X o to
zin a:=GPr ps w h a
DT:=prs.flatMap (ledS w)
Dg a b c d:=(yc,a,pN b c,d)
HJ a:=upd a d (.frz ob (.dK kvs))
F8 a:=∀ i,(jS->a)
UI a:=pure (Yo a)
A7 a:=(Cd y a)
FV:=(GW s')
yU a:=(qX,ta Z H (λ x H1=>a))
FC a b:=by have:(a=b):=dk;ext AK
Ey:=nxtP w ss prs
Fs a:=by refine(nX (iz a))
EW:=(ho s)=none
Df:=Ts-jZ
Be a b:=by have lt:(j<a):=b
zri:=(X.fn x)=true
Uv:=(SI s)
D5:=Kp.upd1 asked s a
zah a b:=(Nd s.heap.objs.size _ a b)
zaN a b:=(zdC,λ p=>(gk p.nm a),b)
zE:=(dC s hs)
U8 a b:=λ i H a H'=>b
FU:=(zcW nm)
zx:=K w.params
PU:=Seat × Int
KO a b:=by rw [a,b] at e;cases e
Aq:=by exact (ih yZ)
Ac a b:=SetT knd a d b
zuD a b:=(Su,m,W dW m' a b)
zt:=xbp ky ad i
yX:=by simp only[ZJ,if_false]
AT a:=.n (.f a)
Hj a b c d:=by refine (Jy a b c ?_ d)
Ex:=PrOk ps w h p
Bv a b c d:=xa5 (xs:=a) (Pv:=b) c d ?_ ?_
zsH a:=if a then 0 else 1
zp a b c d e:=λ a b ⟨1062,c,d,e⟩=>?_
zcG:=eval a X.env
zD:=PE X b tb
Pq a b:=xcw X (.builtin a) b
A6 a b c:=by ext Ab a b c q h
XX:=("opened",V.ref do_)
AL a c:=λ b o a g=>c
yQ:=(Pw,mW,(false,zo)::(starEach es X.env))
zr:=xdo lens ss
Ty a:=(AS og og a)
zlZ:=(DJ O s2.heap.objs.size)
An a:=ZI (Z3 e) a
zO a c:=λ i h st b a=>c
zbx a b:=by rw[Z1,(BQ,(iH a) == b,fR)]
yS:=Run room ns so ho cs
Ie:=(fQ dk dk dk dk)
y8 a b c:=by obtain ⟨a,b,c,rfl,h⟩:=h
yW a b c:=by obtain ⟨a,b,c,rfl,_⟩:=h;rfl
NW:=(oG,r-y,0,-(r-y),r-y)
DO:=∀ o' u',((X.H₀ d)≠(some (.frz o' u')))
zba:=tSeq t1 u2 d s H
OO a:=ha pos a s Z H _ I h
Ht a b:=∀ ys H2,(ft mK LJ (vE a) b (yM H2))
Dp a:=sets_no a
UH a:=us.length=a
UG a:=qs.length=a
Vk a:=⟨dx,a⟩
He:=st.2
Cb:=T.size.2
Hd:=(qbV).2
EN a:=by simpa using a
DD a b:=by refine (dC a b)
zim a:=by rw[a];simp only[]
CA a c:=by obtain⟨b,a⟩:=c
Cz a b:=by obtain⟨a,c⟩:=b
F7 a b c:=by obtain⟨i,a,b⟩:=c
Dm a b c:=by show a;ext dP b c
zil a:=∀ p∈KI,a
D4:=by simpa using hb
Mv a b c:=∀ h',(a->(b->c))
Ib:=by simpa using h1
CK a b c d e f g h:=by obtain⟨a,b,c,d,e,f,g⟩:104:=h
DC:=(Mp).j
HP a b c d e f:=by obtain⟨⟨a,b⟩,⟨c,d,e⟩,_⟩:=(id f)
Br a b c:=by obtain⟨⟨a,b⟩,_,_⟩:=(id c)
LL a b c:=DGet.t (k:=a) b c
zpU a:=∀ b∈crowd,(b∈a)
DB a b:=by exact ⟨a,b⟩
CT:=List N
UF a:=(du a true)
Cy:=.ref it
Dn a:=by refine (.inl a)
zhR:=(dR la)
Cw:=(dR lw)
Cv:=Zz.mp h
GA a b c d:=by have a:(((b).length)=c):=d
Uu:=.str b
FT:=.str nm
Ca:=.inr rfl
F6 a:=.inr (hR a)
DA:=ho s
MZ:=xax s
B2:=(lJ Bool)
Cu:=(lJ BU)
MY:=sgn c
K2:=model P w
GM:=xbg e
MA a b:=(tf,.ref a,b)
Fo:=(AG leS3)
Ss a b:=(iN,a,.fields b)
GL:=toP p
Ip:=(gY kvs.length)
KF a:=(gY,(a).length)
C9 a:=gb_3 X G a
Bq:=(du,h'.get? b,o)
Ct:=(hO Rx)
Gu:=Zk _ g
Dz:=by ext iG c
De:=by ext iG rx
FS:=iteT ?_
Gt:=Q v H'
GP a b c d:=(M9 a b (dC c d))
B9:=(Mr "x")
B8:=outs w G
Cs:=xfe w G
Sr:=(lA hu4)
C8 a b c:=(Al a b (Vo c))
qbR a:=(eO,q,.tup (xa4 a))
D8 a:=(eO,q,.tup (prV a))
GK:=qs[i]
Dy:=x<=w
Do a b c d e f g h:=(kE a b c d e f ⟨g,h⟩)
DK a:=by ext lE a ly
LH:=(Mq nR)
Dx:=a::l
BD a b:=by ext rK Zg a;ext iD qa b a
CS:=(qz v)
Cr:=(rC hp)
Mf:=(pd 1)
Cq:=(pY hb)
Dw:=f8-x
BX a:=(CI a trivial)
zet a b:=(Pw a [(false,b)])
Bw:=Kp.Mt room so ho
N7:=Kp.kstep room so ho
FB a b c d:=(ft a b c d (yM H'))
GO a b:=(yF xdv a b)
zfa:=Sem Value
Hi a b:=by show(zC,a,rfl,b)
RX:=(dX as a)
BH:=(dX crowd a)
N6:=prs.flatMap (xdb w)
EK a b:=xau (PW.pt a) b xad
Sq:=s1 _ _ X
Me:=(ED a)
DR a:=upd a d (.frz ob (.dT kvs))
CQ:=nmC dU
Iz:=s.heap.push zkd
zRJ:=([]:List Keyword)
GT a:=λ y hy=>a
Cp:=(TD κ)
CP:=XC K C
Bo:=(X.A.units+1)<cLine
Co:=(GU Zt)
Oi a b:=.Call (.Name a p) b [] pos
BO:=Pl H ps kvs
Fn:=(qj l xs)
C5 a b:=(Pd a b none)
BG:=(kT sI Addr)
R5 a b:=by ext jd a;refine (Yc b)
B1:=(zQl room)
BN:=K.In s.heap
Cn:=b::rest
OG a:=by show (gY a);decide
Dd:=C x v
Cm:=Itl K a
LN a b:=(fJ a H I b h)
B0:=PA X mW t
D0 a:=(kL a pH (du,H' b,u))
Ls a b:=xdd I hg hm a b
BZ:=w_ev x ..
Io:=xbr w ps ss prs
Bu:=Fun K x q st f fd
Ck:=vs++dvs
CO:=us++ds
Vj c:=λ a b e=>c
E4 a:=xm (xw (xab a))
Bj:=cu4.keep (Same.tups s5)
IU a:=∀ p,(uz->(uE p a))
OA:=(Vb "values" [])
V6 a b c:=(zkN (AA,0,xde (v:=(.ty a)) rfl b c rfl))
BF:=by simp at h
Nb a b:=xab (xa a b)
BY:=(dX qs q)
Cf a:=by show(gz,a,Y6 _)
zsu:=(j3 "own" D)
zdX:=xav lens n
EV:=KT H kvs xs
Bm:=Array (Option Value)
Bi:=o.setIfInBounds j (some k)
SF a:=xca K fd a []
zcV a:=Inv X a σ' H' s'
BM:=⟨dF,dF⟩
B7:=(true,0)
zhQ:=[a0,a1]
zKn a b:=∃ N:qK,((∀ σ' H',((N σ' H')->a))/\b)
zaZ:=#[en.key,en.val]
B6:=xb3 _ dF
Gz a b:=xc9 a (xc5 b)
K1 a:=way t.mask h a
KE:=crowd++[h]
C7 a:=by ext jD z hz a
Bt:=(LP "side" "row")
BL:=(lo+hi) / 2
zQk a:=(rimB a iU)&&(gM,dU≠32)
Bh:=(Vc apos.endLine cpos.line)
zgE a b:=Grd a g rs w h b
RW a b:=xbi a (xag rfl b)
BW a:=(FE j H5 a s5)
BT:=(zuE so ho)
Fg a b c:=kas_place p k a b c
zcU a b c d:=(gW 124 a _ _ _ rfl b c d)
BC a b:=by obtain ⟨a,b,rfl,h⟩:=h
zdW:=[a0,a1,a2]
BB a b c:=let d:=D; (Aj s Z a b c)
Bp a b:=by obtain ⟨a,b,rfl,_⟩:=h;rfl
DZ a:=(a:PE _ _ (tFld K _ _))
NQ:=(y.2-(I b))-(C y.1)
VQ a:=x8 (qI,a,T.c_a,T.c.m,ok_c T,fF,T.c.b)
Pa a:=Geo.lvL z pt.x a r
Nt:=by rw[Za,Za];exact (Jw (LO,qs1.length+qs2.length,100))
PB a:=xbr w ps ss prs a
HC a:=(attributeBase o a X.env zjj)=zjj
zcg:=[a0,a1,a2,a3]
Bl:=BlkG X scope zs ys fr
EJ:=ZV.update ..
GE a:=⟨ob,a⟩
Eg:=["_law_script"]
Hc:=(hV).2
P7 a:=by simp at a;lia
F4 a b c:=by obtain⟨j,a,b⟩:=c
GD a:=by have:=a;ext Re
Ff a b c:=by obtain⟨a,b,_⟩:43:=c
zcf:=∀ b∈fp,EZ
zry a:=∀ b∈fp,(To a b)
Id:=by simpa using f
So:=(Ml).toNat
Eh a b c d e f:=∀ x H',(a->(g x b c (λ d e=>f)))
zjH a b c d:=by obtain⟨a,b⟩:c:=(Vn d)
Pc:=by simp only[if_true]
On:=by simpa using h2
Na:=by split at e
F3 a:=∀{l:fc},a
Fz:=(Ux).Nodup
E3 a b c d e f:=let ⟨a,b,c⟩:=d; (dB a e f)
FR:=List β
Fm:=List Stmt
Fd a b:=(du,h.get? a,b)
zAm:=.ref dq
PR:=.int (lo+i)
GS a:=(gQ a dJ)
Gr:=(eE a)
UE a:=(H' a)=none
Hb:=ZP h
Tl:=(eD dk)
Ut:=(uK 3)
Md a:=.inl (hR a)
Us:=(fw a)
zhP:=(yN s')
zcF:=i<kvs.length
Ha:=1<=r
MG a b:=by rw[a];exact (xdk b)
FQ:=(hZ H5)
G4:=so n
EI:=names.take i
Pp:=crowd.take i
Gq:=s∈C3
GJ:=vs=o4
E2 a b c:=vs=[a,.int b,.int c]
G3:=b::r
FP:=(hR ?_)
Mc:=(w6 1)
Gp:=(hO w)
EH:=Zv as.length
FO:=α->Int
SL a b:=by have z:=a;rw[b] at z
Go:=.a x y
Gn:=xba dk
Ia b:=(du,s.heap.get? a,b)
LG:=(lB hp)
Fl:=Nat->Addr
FN:=Nat->qK
FM:=Nat->vM
zAl:=(iJ j9)
Ew:=List (List K)
Hh a b:=(M9 a b ?_)
Fy:=α->Bool
Gm:=α->dz
Ur:=(rh x)
LK a:=by refine (Ze (Jo a))
FL:=(yM H2)
Fk:=ZA (Zl _)
zhO:=(lA hq)
U7:=g p i
Sn:=(jQ y b)
Gk:=(qC s)
zgf:=F i y H2
Gj:=b∉ch
FA a b:=by rw[a,b] at z;ext i4
HZ:=.frz ob (.dK kvs)
Ku:=X.clo scope
Fj:=(kT K EB)
Gi:=(Bs d)
MX a:=y=(.str a)
Mz a b:=xae zcH a b oW
zwF a:=valV kvs (xz a)
Gh:=.dK []
FK:=.dK kvs
Uq:=(Db z)
GQ:=⟨"",106,_⟩
Tk:=(sA ?_)
zcT a b:=OpR X (binaryOp a) b
FJ:=(zeu h')
Fi:=PE X o td
F2 a:=∀ b,(iS->a)
Gg:=n∈Fp
My a b:=(tU,.inr a,b)
Gf:=(Oo a)
EG:=nxtP w ss wG
El:=s.heap.push JY
zbr:=crowd.map V.str
Tj:=(DS t')
EU:=xal H cs qs
RC a b c d e f:=by show(iu,a,b,id c);show(iu,d,e,id f)
D3:=(A.units+1)<cLine
zcE:=ns.map V.int
G2:=J gu
OI a:=by refine (Jh.imp_of_mem ?_ a)
GC a:=λ i y H=>a
Fh:=W i m Z H
DW:=h.Ns mainGlobals mg
ET:=Room q0 k A
Fe a b:=by show(fV,121,a,[a],_,_,b)
GI:=a≠b
Iy a:=(iN,"tuple",.seq a)
FI:=dEq d e
zgD a:=a->(gQ Hp VK)
LF a:=λ b u _ e=>a
Uo:=ofL Hg
zAk:=p.nm=nm
ES:=(N8 pos es)
D2:=Loc X.env.scope x
F1 a:=(TB,.int a)
EF:=vs=(rE eQ l)
G1:=m zji
zeZ:=(0,.none)
RV:=(gU xs x)
zcS a b c:=xcd a (xcd b c rfl) rfl
EM a:=(JV K a Wf)=true
ER:=(qbS "sign")
Ge:=xd1 ry
Fx:=name::hs
PQ a b:=call (.builtin a) b
Oj a b:=by have a:(kvs.length=vs.length):=b
Fc a b:=upd a dx (.own b)
zrh:=(jQ (fH e) b)
Eo a b:=by refine (Jr a b (Db z.elim))
EQ:=Vals xs its
zAj:=fr h eA
Lr a b:=(uX _ (zlg a b))
EE:=xdp kvs more
LE:=t Z H Q
Sm:=.frz o u
IL a b c d e:=(gW a 1 b rfl c d true rfl e)
NN a b c d:=by show(fW,pz,_,dx,_,_,rfl,gT a T.c_d b c d)
Fw:=(Pu i j)
Ed a b:=by have:=a;ext eW b this this
R0 a:=.bl (decide a)
Lk:=(lM 2 3)
EO:=Vals dvs ds
Gd:=e4 r O
E8:=(jX hi lo)
Gc:=(qbR s)
FZ a:=λ c xs q=>a
Ev:=(zma scope cd)
DQ:=(iN,"list",.seq its.toArray n)
zes a:=way t.mask qg a
En a b c d:=(dY a rfl (zjN b) (dC c d))
Eu a:=.inl (Dk _ (ef a))
E7:=(zQk,C+1)
Ec:=xca X.K fd ps ds
Gb:=xcn zPg
DN:=zri\/(du,X.env.scope.names.lookup x,.local)
U6 a b:=λ σ' H' a=>b
D7 a c d e:=∀ b,(((upd a c d b)=none)->e)
Eb:=λ_ _ _ _ _ z=>z
qbQ a:=by unfold pyNext;refine (Ze (Y5 a))
Fv:=xb1 w ss
zrg:=names++[name]
Po:=eval b X.env
FG a:=(eF nD nD a)
GR a:=by ext js a e e
FF a:=lcg mask a i
SK a b c d:=g a b c (λ σ' H3=>d)
Im a:=xaj xa7 (pv a) xp iw
zPf:=("placed",V.ref dp)
E6:=SD H d n m
DU a b c d e:=(mh (lF a [] [] b c) d lu kX i7 e)
zmI a b:=(Q σ' H')/\((σ'.length=a)/\b)
Ef:=ledS C (pt,b,r)
Kh:=xeh I.hok eb
zdV:=start N vs
Hu:=sIx items.size items.size hi
D6 a b:=by obtain⟨z,its,n,r,a,e⟩:=b
HI a b c:=Turn P w K a b [it] it (λ i h=>c)
zhN:=(g,a,s)
E1 a b:=by refine (YQ hp (thn a b))
zIW a b:=∃ W:(SH qK),((∃ m,a)/\(∀ i m Z H,b))
E5:=xe4 CX X E
Et a:=(zKn (zuD σ' H') a)
Xp a:=∀(i:Nat) (y:V),((dX ys y)->a)
DY a:=by obtain ⟨a,rfl,_⟩:=h;rfl
IG a:=by obtain ⟨a,rfl,h⟩:=h
zer a:=(hB a dG lW h0)
zeq a b:=(gf,m,a-i,i<=a,b)
OZ:=ZV d s.heap h'
Ea:=(fQ dF dF dk dk)
Fq a b:=Un fs ex H a h b
IT:=at2 dEq ds es
DP:=∀ i y H H',(zAn->((F i y H)->zgi))
zft a c:=λ b o e n a c=>?_
Nx a c:=(UL,pC (ok_ak T) hr T.ak.g T.ak.F.kp T.ak.b (ji a c))
zEK a b:=xbt (xc2 rfl (xfx a)) rfl T.n_dict boot_dict (i3 b)
DM:=(Xe ow nd (GY (Ce,pO 0 nd ow,pO 1 nd ow)) 2)
zkM a:=.ListComp elt [(dY a iter ifs 0)] scope pos
zcR a:=Run KG a so ho cs
Hk:=X.blkG scope zs ys s3.heap.objs.size fp s3 zlZ KI
D1:=pzF a dl d_o d_r p
zik a:=kvs.length+a
MW a:=(a:Shared)
MV a:=⟨h0,a⟩
Mb:=[name]
Nl:=st.1
RU:=by ext kR
Lp a:=by refine (uX rfl a)
KL:=by by_cases e:(eA=k)
zij a:=∃ vs,(tS/\a)
MF a b c d e f g:=by obtain⟨a,b,c,d,e,f⟩:103:=g
M8 a:=by have:=a;ext AK
Ih a b:=by have:=a;ext js b this this
Mu a b c d e f:=by obtain⟨a,b,c,d,e⟩:102:=f
Mx:=by intro _;rfl
zuC a b:=∀ i Z H,(a->(zY->b))
Rc a:=by simp only[a,if_true]
Oz:=λ_ _ _ _=>False
LC a:=xey (i:=i) a
zge:=by omega
Rb a b c d e:=by obtain⟨⟨a,b⟩,c,d⟩:62:=e
zjG a b d e:=∀ c u,(eC a b d e)
zag a b:=∀ p∈prs,(PrOk ps a b p)
K0:=List Bool
HK:=.ref s.heap.objs.size
LB:=.ref q0
Kg:=(eg es.size)
Nk:=pv 9
Um:=lens a
Ul:=(dR p)
LA:=(dR ln)
Ma:=K.In h
UD a:=(eD (jn a))
L9:=(uK 4)
Uk:=(fw d)
ztB:=(om "list")
U5:=xg nb
zya:=P5 a b c
zuB:=P5 a b c d
Uj:=Yv _ _
MU:=i<len
Kf:=i<es'.length
IK:=by refine (iq ?_);intros
K7 a b:=by rw[a];exact (Zc.mpr b)
zjh:=(fX U)
M7 a:=by show(gV,xU a)
Nj:=Zv i
Sl:=(ja rfl)
Lj a:=(ja,ifN a ?_)
zuX a:=(Ms,Addr × a)
L8:=xh2 fR
zgd:=L.drop p
MT:=xdh p
zXp a:=(uE s.heap.objs.size a)
U4:=Zb dk
U3:=c≠I
zAi:=c≠d_r
zAh:=c≠d_o
Lv a b:=by intro a s Z H Q I b
zjg:=(lC v)
zjf:=(lC C)
HY:=Int × (eS × eS)
Ra b c:=by show(fW,a,_,b,_,_,rfl,c)
Ni:=0<=i
zxZ:=(eO a u)
Li:=(iz xf0)
ME a b:=by show(hX,⟨a,b⟩)
Lh a:=(JX K a)=true
Lg a:=(Yj K a)=true
Lf a:=(Yy K a)=true
zsG b:=(du,h'.get? a,b)
Ti:=(lB aF)
KZ:=Nat->Bool
Lz:=Nat->sI
L7:=(iJ e)
L6:=Zh "+"
L5:=Zh "-"
MS:=α->V
Kt b:=(∃(a:A0),b)->C
HR c:=(∃(a:A0) (b:A1),c)->C
HE d:=(∃(a:A0) (b:A1) (c:A2),d)->C
Ho e:=(∃(a:A0) (b:A1) (c:A2) (d:A3),e)->C
MR a:=(nU rfl a)
zxY:=(jQ x d)
Mw a b c d e:=(C6,a,b,.tup c,d,e)
Ly:=(AV vs)
Lx:=(jh zbb)
Tx a:=.str (ofL a)
Rw:=I.pin p hp
U2:=xs[j]
Ix:=(yg xs.length)
Il:=(yg kvs.length)
zje:=(nG r)
Ui:=(yx 4)
KY:=Str × dD
Th:=(k-1)-i
L4:=(Bs a)
Tg:=ZB _ Fa
Ke a b c:=by rw [Zd,Zg] at a;ext iD b c a
L3 a:=(N8 cpos a)
Nc a b:=by show(sF,kZ a b)
RT a b:=xau (xds a) b xad
L0:=.dT []
O0 a:=(TF,Q (.bl a) H')
Kd:=PrsL H ps qs
Iw:=DecidableEq α
MQ:=u::us
IS:=ss.length<=32
LZ:=(vD t)
zgc:=.int i t
LY:=(Oo d)
zst:=(.inr n:Key)
O7:=(Nn,Qr i t)
TJ a b:=by show(eX,ZX a b ?_)
KN a b:=by show(vS,AG leS0,a,b)
Le:=(Cj xeq)
KW:=MkOk mask
Rv:=turns mask
MP:=p::ps
MO a b c d:=by have a:(b=none):=c;rw[d]
Ks:=Sd H ps kvs
zyn:=by ext Ee if_true
LX:=(zrz b)
MN:=.f f0
Lq:=by ext iG r;rfl
Kw:=by exact (.cons h ih)
Kk:=by exact (.cons zhS ih)
LW:=(Vp m)
Iv:=(B4 (gS nc e))
Kr:=s4.trans s5
KK a b c:=by obtain⟨a,b⟩:=(Zj.mp c)
Ig:=by exact ((Fu False).elim)
zwE a:=fr.map (λ i=>a)
KJ a:=by exact (.inl (.inr a))
Ld:=(i5 a o)
Lc:=Pv 0 Z H
KD:=(lP nb ?_)
IJ a b c:=by show(jz,v=JJ,D);ext eB a b c
Iu a:=xec rfl T.n_range a
RS a b:=EP X pins Z Q a b
Nh:=n+30
KC:=λ_ _ q=>q
MM a b c d:=by refine(eY a b rfl c d)
TM:=by exact (xf5 dk)
Uh:=(TC a)
KU a:=xb5 jx gB a iw
zbq:=AllBare s'.gens
LV:=x.d μ
OY:=x≠"__name__"
ND:=(du,X.env.cells.lookup n,c)
zii a:=(rD H [a,x])
Ug:=(Tz b)
Lw:=(P9 iU)
HD a b c:=by rw[Z1,(Sv a b)];show ((Je (iH a) c)=_);ext zbx a a
Kq:=frs X.stack
Ko:=srt.Perm ss
Kc:=[.str pt.nm]
ztA:=xs.getD k 0
Lo a:=by show(iX,rh a,xi)
Hx:=by refine (nx ?_);refine (fq ?_);intros
Uf:=(zgF b)
Lb:=(zin prs)
La:=(Iq H n)
Kn:=φ (f p.nm)
zuW a:=more.foldl a kvs
Tf a b:=by simp[a,Qp,b]
LU:=s∉al
Ru a c:=∀ b o,(a->(rO->c))
Ik:=(l.map f).Nodup
KA:=(zpU names)
Rt:=(dX es en)
Sk:=sgsN G n
K9:=(CJ v n)
IR:=(du,ho s,h)
Hs a b c:=by obtain⟨z,a,⟨vs,b,c⟩⟩:43:=(xfc I.hok e)
HU a:=by rw[(d6 a)] at hm;ext mP hm
ML:=s::ss
LT:=a == b
LR a:=λ σ' H'=>a
K6:=by by_cases c:(b=v)
KR:=PE X i ty
Py a:=o.getD a (some 0)
zsF a:=[("width",.int a)]
Kx a:=(MD (gO a) (gO a))
Km:=(Ai j9 rfl)
Kb:=(kh H3 D [])
IF a b c:=.tup a rfl (RB (jJ b c))
zjF a b:=by show(qbQ,JG a b ?_)
Oy:=bubble p k (k-m)
Rs:=(fY-U9)-zhT
Kl a:=(zIW,W 0 m Z H,a)
Ng a:=(zEK hr a)
U1:=YK hu
ztz:=zM::(ptV p)
Kz:=97+i.toNat
zbu:=by refine (Zk _ (Zk _ ?_))
zhM:=[p0,p1]
O9 a:=if a then 1 else 0
MK a:=λ_ H Q=>a
Ka:=λ_ _ _ e=>e
zpp a:=∀ Z H,((Pv a Z H)->zW)
zpM a b:=∀ y H',(a->(b->(N y H')))
Oa a:=∀ z,(((so' z).isSome)=a)
K4 a:=by rw[Jx,Z5] at a ⊢
KQ:=.cons _ t
Nf a:=(H'=H)/\a
NI a b:=PE X (.Call (.Name x p) a [] pos) b
IQ:=(Ms,V × V)
UR a:=by ext fe a e2 e2
SE a:=(xC qh X.A a)
I0:=rimC C (b,y)
K8:=Ord n lt
IZ:=PtsL H ps qs
MJ a:=(jo a _ _)
KP:=Wide h ps
IE a:=by ext rK a hb;ext n8 hb
IY a:=s7 _ _ (s6 _ _ a)
zTp:=[("picture",eQ)]
HH:=(eO,q,.tup (k.map kV))
KM a b c d:=xa9 X.prog X.w a b c d
HG:=(LP "askers" "asked_by")
X5 a:=(oG,a,0,none,es[((a).toNat)]?)
Pn:=xcz lens prs
Rr:=(CI dF dF)
zbN a b:=by rw[Z1,a];show ((Je m b)=none)
IX:=(kh H1 J [])
Hn:=(eO,la,.lst (crowd.map V.str))
II:=by show(TK,u=(Zw a),rx)
zep b c d:=(IM b c T.n_a6 lkW d)
Ky:=(FY Zn ZZ)
HQ:=tb (Xw N) σ2 H2
XB a b:=(ja,ifN (decide_eq_false a) b)
Hz:=tupleKind (xak X.prog X.w)
Hv:=["picture", "one", "other"]
HF:=(zjM "name" "side" "row")
zRI:=λ acc x=>(zio acc)
zgC a b:=BindsTo s fd a b
ID a b c:=PW X (.BoolOp a b pos) c
OL a b:=probe.go t hashAt h a b
Hq a:=xdr (by rw[Y.sz];exact (ZD.mp a)) none
zeo a b:=HOk X.prog X.w a b
IP a:=λ_ _ _ H _ I h=>a
zdU:=[p0,p1,p2]
zqs a b:=∀ l,(((s,l)∈a)->(b=l))
HL a:=by simp only[Zu,Jz,or_false] at a
HM a b:=(du,kstep room so ho a,b)
zaC:=Kp.upd1 asked s b
Hm a:=fB K a "__setattr__" "object.__setattr__"
zKm a:=backToKw a (keywordEach [] X.env)
Hy:=(behindInMarks op b)=false
K5:=by ext zbO O ab
HV a b c:=by show(jz,v=(YI _),D);ext eB a b c
IO b c:=by show(zqE,dx,b,T.n_bj,ltI,c)
Ij:=xcn (xah dF zPg)
znk:=⟨"",_,_,j',rfl,rfl,b1,b2,?_⟩
Ii:=picF w h dp do_
HW:=AkD H da al asked
zlv a:=by ext hJ d kvs e1 e q a;subst e1;cases r1
zce:=[p0,p1,p2,p3]
zmQ a:=#[qU,zgh,(.int a 0),(.int ep 0)]
Ox a b:=xeu (v:=(.int a)) rfl b iP
OF a b:=by have a:((QY _)=(WM v)):=b;cases a
Ir:=Cmp n lt cmp s
VX a b:=g a Z b (λ σ2 H2=>(tb (Xw M6) σ2 H2))
Xs:=Geo.cells w uP yD nR iT
zqD a b c:=(gW p a _ rfl b Uz _ rfl c)
zsE:=by ext Mn ok ov st st
zTo a:=Fit lens a so ho own rent
IC a:=by ext hJ p qs f1 f2 f3 a
Nw a:=pC (ok_ac T) hr T.ac.g T.ac.F.kp T.ac.b (ji a (i3 gB))
Hw a:=by obtain⟨_,_,r1,r2,x1,x2,y1,y2⟩:=a
Ic a b:=(iY 123 _ _ _ _ rfl a b)
Hl:=notedBy pD A env (λ e s'=>(R (.error e) s'))
zlN:=(Lu u3 t3 u4 u2 t2 zba)
N3:=by intro m y e M A u v Y P D
N9 a:=X.s₀.heap.objs.size<=a
RR:=λ_=>true
RQ:=["thing"]
zhL:=[pt.nm]
SN a b c d e:=by have a:=b;obtain⟨c,d⟩:=e
UN a c:=by obtain⟨a,b⟩:=c
Ow:=by simpa using b
zgB a:=show a from z
OX:=λ_ _ _=>False
zfs a b c d e f:=["picture", a, b, c, d, e, f]
SJ a:=by split at a<;>cases a
zuA:=(Bn).toArray
zih a:=∀ n∈zrg,a
SM:=by simpa using z
N1:=∀ p∈ps,(qC p.nm)
Vi a:=∀ l:fc,a
UM a b c d:=DPut.t (k:=a) b c d
O8 a:=λ_ _ _ _ _=>(xab a)
zrf:=∃ p∈ps,zAk
NS a b:=by generalize eu:a=H1;ext kQ s1 b g1
RF:=by exact (nomatch h)
Sj:=List Row
Pb a:=by exact (decide_eq_true a)
SC a:=(eg,(a).length)
RP:=JU.refl _
zjd:=(fH a)
zjc:=(fH b)
zAg:=.int vy
zAf:=.int zhU
Ue:=b=true
U0 a b:=(Ry a b)=true
Ud:=(dR g)
Uc:=(dR X)
Te:=(dR sc)
Td:=(dR l8)
Tc:=(dR aq)
Tb:=(d6 c1)
zxX:=(kT V V)
zsD a:=(du,h'.get? b,a)
zig a:=rnd mask h a
Ub:=Qy _ _
OQ:=by refine (sq2 ?_);intros
O3:=by refine (io ?_);intros
zhK:=Zc.mp b
Ua:=some s
Ta:=(hZ H2)
T9:=(gO L)
zen a:=(decide a)=true
N5:=of_decide_eq_true e
RO:=ps.take i
S9:=(uJ It)
Oh:=decide_eq_true rfl
T8:=(hR z)
S8:=(hO Uw)
UZ:=Zv lO
Si:=Nat->Int
OE a b c d e:=⟨a,b,_,_,c,d,dF,dF,_,rfl,e⟩
S7:=Zu.mp f
zre:=(du,H' b,u)
zjb:=Zm _ j
T7:=Zm _ b
T6:=.e x y
T5:=.Q x y
S6 a b:=h a s Z H _ I b
Og:=decide_eq_false dk
UY:=ZA dk
zhJ:=(lB hx)
S5:=(oh fc)
zja:=(GZ H)
RA a:=al.map (λ s=>a)
PZ a:=hi a s Z H _ I h
PY a:=ho a s Z H _ I h
zdB a:=he a s Z H _ I h
SB a:=.inr (.inl a)
ziZ:=Zh "."
OW:=(Mr "picture")
UQ:=by rw[Jf];simp
Sh:=rims w G
zhI:=n<=1000
zem a:=pyIter (.ref a)
UX a b:=.tup (jJ a b)
PP:=prs.drop dW
zhH:=(uD us)
Sf:=(jQ x l)
S4:=(qC nm)
zxW:=λ x=>(#[])
zuz:=λ x=>x.snd
NO a:=by refine(nX a);refine (sq5 ?_);intros
OK:=λ s=>(s.length=1)
T4:=b∉ex
S3:=xbe w p
RN:=upI w prs
S2:=p∈prs
OV a b:=(H5 a)=(some (.tup b))
SA a:=HT.sIx a 0 lo
T0:=v=.non
Y2:=blk0 Z fr zs.length
Se:=Zz.mp hz
zjE a b c:=Yb.mpr (dB a b c)
Tw a:=(sE t.C_d a)
S1 a b:=Zc.mpr (kZ a b)
Sz a:=Zc.mpr (iJ a)
UW:=(b,o)
zwf:=rimC w fM
S0:=V->Bool
Sc:=(eO a o)
RM:=(eO a RY)
Pk:=SqT K H a xs
UV:=ofL l
OU:=srt.length<=32
Vh a:=fN K C_d a
TH a b c d:=(mX _ _ a rfl b c d)
zdA a:=prs.map (λ p=>a)
O2 a b c:=PE X (.BoolOp a b pos) c
SZ:=Cls K C
TZ:=(zj o)
PN:=CrL H cs qs
R4 a b:=by show(vS,AG leS1,a,b)
Pj:=Iti d ob kvs
UU:=r<=ph
NX a b:=by exact (absurd (decide_eq_true a) b)
PX a:=(decide a)=false
OT:=(asked s)=none
TY:=hf b D
Op a b c d:=(gf,Z,a,b,Grd c g rs C h' d)
TX:=(wC f)
TW:=n<1000
Ph:=(kT iB Addr)
Sb:=acc++[x]
zLI:=base.Ns mainGlobals mg
PL:=s2.trans s3
SY:=s<=mask
zhG:=(Bk h1)
Vg a:=λ i q e=>a
RE a:=by exact (.inl (.inl a))
Sa:=ledS C P
zhF:=(Du mV)
TV:=(zfu R)
SX:=(zfu cs)
Rq:=.bool true
TU:=(Vm c)
Vt a c:=by have b:(a=false):=c
zuy:=Wl (mir w)
zwe:=(nH l m7)
R6 a:=by ext E0;ext yw a h
R9 a b:=Z9.mpr ⟨a,b⟩
Vf a:=eval a env
zgb:=P kv.1
zwd:=kV kv.1
zwD a:=(IH C a (dR f))
zml:=(wh,.frz o (.dK kvs))
Xr:=(wh,.frz o (.dT kvs))
Ve a:=(pL H d a)
zdp:=acr w x1 b1
zdo:=acr w x2 b1
Nv a b c:=by ext zcK;show(eZ,B,r2,C,O,I.list hb);have Q:=r2.length;ext eB a b c
Nu a b c:=by ext zcK;show(eZ,B,r2,C,O,I.tuple hb);have Q:=r2.length;ext eB a b c
SW:=(Vl s2)
Ov:=srt.Pairwise xby
SV a b c:=by rw[Zd] at a;ext rW b c a
zbM a b c d e f:=codeAny a b (.call (.ref c) d) e f
zjD a b c:=pG/\((gU a b)/\c)
Vd a:=(dB p a e)
SU:=xs++[y]
zfr a b c d e f g:=(eF ["self", a, b, c, d, e] f g)
Ou:=GvF lens names f
zcD:=(du,m c,s)
Sy a:=(zah,a,q _ HS)
Ot:=(Dl,s∈zdX,AC)
OS:=(DH V V Hp VK)
zAe:=(Ty vN)
ziY:=(OO c)
Rp:=Up t.place
Ro:=Nat × Nat
OR a b:=by rw[Z6,<- a];exact b
zcd:=(zil,eA≠b)
zjC a:=(dB H um a)
zVu:=(lexK x y)=true
V3:=(du,sc.names.lookup x,.cell)
qbP:=set1 m dM fY
zga:=(Ry k j)
O1:=by ext eZ kvs e l f s
ST:=(VQ fA)
zhE:=(dM,fj)
RL:=p.nm≠nm
ziX:=(zry H)
Px a:=prs.find? (nmF a)
zbp:=.inr (.inr rfl)
Pg:=MayA srt prs
TR:=(zwF s)
ON a:=(TF,Q (.int a) H')
Rn:=x=(.int i)
zRH:=ys=(rs.map V.ref)
zRG a:=h1.push (iN,"list",.seq a)
zel a:=xaj xa7 a xp iw
zjB a:=λ j y H5=>a
O6:=IntsAre vs ns
OD a:=.dT (al.map (λ s=>a))
Rm:=(zaN nm pt)
SS a b:=pS a b (xci xh)
O5:=SqL K H1 a xs
RK a b c d e f:=(nZ (P8 a) v b x c d r1 e f)
SR:=(zkM tg)
zfZ:=X.wish E
zly:=.builtin "object.__class__"
zaw a:=∃ σ' H',((zcV pins)/\a)
zfq a:=a=(.fields vs)
zav a:=(zXp { s with heap:=a })
PK:=(gk z name)
zek a b:=wpAny pD A a b E s
PJ:=xbm H ss qs
zaM a:=λ u hu=>(lY (h9 hu) a)
NZ:=(QM K (.ref f))=true
zrd:=(xW pt.nm q0)
Of:=fs.map (toPr w mj)
RJ:=PT X a tA
Pf:=DGet H a y o
R8:=(zgE H m)
N4:=(sW x2 y2 false r2)
zcj a:=∃ p,((dX ps p)/\a)
Oe:=Value->(Value->zfa)
zgA b:=DGet H2 a y b
Os:=⟨yC,ag_l i0⟩
Tv a:=λ x y H Q=>a
zbo:=(LQ H lc os is)
zpo a:=Room q0 k (A.deeper a)
Oq:=lieB is gH iU dU
Rl:=(zTo names)
TQ:=St->XK
TN:=fK::ir
UT:=x2<x1
zob:=⟨xP,(dC n hn)⟩
zhD:=(xn,rf)
SQ:=rn≠rf
Od:={ D with nx:=u D }
znL a:=∀ u,((eO a u)->(du,H' a,u))
zej a:=o.cls=(.type a)
zlz a:=(du,scope.names.lookup y.1,a)
Rk:=(kT TE TE)
Rj:=(kT Tr j6)
PH:=(gQ Str PU)
zty:=(H2 p)=none
UC a:=λ j a e=>K3
OM a:=HT.sIx xs.length 0 a
R7:=Itr lo n
znK:=(eO,q,.tup (f a))
Rz a:=(X.mg x)=(dR a)
Oc:=(Bd,.lst (GV G))
Ri:=below xs j
Vs a b c d:=Sg t a p v D b c d
OC a:=ZB _ (ZB _ (xek a e))
UB a:=Srtd lt p a
Rh:=(MC fK ir)
Rg:=(MC zhU vy)
zPe:=(CL,xu xew fA xp)
NM:=(eO,b,.tup (k.map kV))
Vr a b:=by ext BS hx a b
UP a:=by ext zbO hx a
OJ:=(zQl,xav lens)
Xa:=(iN,"list",.seq vs.toArray)
zdn:=(p2.1,p1.2)
zdm:=(p1.1,p2.2)
Ob:=es.Perm (inns w G)
zcC:=(zAo so1 ho1)
RD a b c:=Un a b H H' s.heap c
Nr a c d:=by subst ey;show(TK,u=(Zw b),ry);obtain⟨z,a,⟨xs,c,d⟩⟩:43:=(xgg I.hok e)
NL:=["signs", "width", "row"]
RI:=Cls X.K C
Om:=relabel scope env
NV:=(Va,(Mp).i,(Mp).pt).1
zdT:=(m4 n x d)
SO a b:=((u,v)∈a)↔b
Tu a:=(hF b o e a)
Ol:=(valV kvs k)=none
zaL a b c d:=(dB,λ i H=>a,U8 b c,λ i H=>d)
RZ a:=Dv X.K H m a e
zar:=Kp.Mt room so' ho'
NH:=J.push (iN,"tuple",.seq zaZ)
NF a b c:=by show(fW,a,b,_,rfl,c,xhi fR,?_);refine (xhn ?_)
zux:=dEqs ds es
zwc a b:=Kp.upd1 asked s a b
Tt a b c d e:=(jk a us b vs c d r1 e)
NY:=(Qx K cdv qual)=true
VT a b:=(yP,swapsWith a b pos.line X.env,false)
NU:=lenI oQ p.x p.y gH og
RH:=xbq ns cs
NC:=∀ b xs,((pq b xs)->(Ej b xs))
PF a b:=xt (o:=(.tup a)) lH b
NK:=∀ z,(sN,EA,z∈names)
NR a b:=by generalize eu:a=H6;ext kQ s6 b g6
zcB:=btw rf yn rn
Rf:=(vQ 1 2 3)
ztx a b c:=((a<=v)/\(v<b))\/(c/\(v<=a))
RG:=exP C v p
zdz a:=λ i h h' st k=>a
NJ:=(PD,"lengths",.ref J,zTp)
NG:=(PD,"own",.ref D,[IB,OB])
zbF:=setI J pt.nm 0
Ny a:=(UO,xe2 rfl,T.n_sum,PyProof.Rows.Boot.«sum»,a)
Pe a b:=xef JH Y9 Y8 xd7 a b
NP:=(eC V nB nB (gQ Hp VK))
Xo a:=if (sU=k) then (kv.1,a) else kv
NB:=∀ f,(RelO (fs.lookup f) (mA f))
NA:=∀ vs H Q E,(Kv->(vs.length=ps.length))
N2 a:=by refine (xgc a (eI i y b hy hb))
NT:=o.data=(.set es ep t)
zXo a:=Best own rent asked a f
Nz b:=show (xa9 X.prog X.w H s.heap a b) from (uL a ea)
VG:=(zmI,Z.length,∀ i,((n<=i)->((σ'[i]?)=GN)))
OP a:=by ext tX j' b0 b1 b2 b4 a
R3 a b:=by intro a b s Z H Q I h
zkm a:=#[.none,(.bool false),qU,zgh,(.int a 0),(.int ep 0),.none,.none]
zif a:=a<=ns.length
zgz a b:=((a).cps.toList)=b
ziW:=λ_=>0
zfY:=λ_=>(#[])
zaq:=["_law_cell_here"]
zbE:=["_law_found"]
zfX:=T.size.1
zwC a:=by rw[<- a];rfl
zjA a b c d:=by rw[a,b,c];exact d
zuV a:=a≠X.env.locals
zeY:=(dM).isSome
VL a b:=∀(pins:eJ) (s:Shared) (Z:St) (H:Hp) (Q:a),b
zxV a b:=λ_ _ _ _ _ a h=>b
zaY:=by simpa using q
Xj a b c:={ cls:=ztB,dict:=a,data:=b,slots:=c }
zdy a:=(Ju k a).flatten
zgl:=by unfold KV at r
zjz a b c d:=by obtain⟨a,b,_,c⟩:63:=d
zAd a b:=∀ vs Z H Q,(a->b)
zau a:=by unfold Geo.cells;ext dP a z
zie a:=∀ s∈a,UA
VW a:=by unfold Geo.upL Geo.upN Geo.dn;rw[a,a]
zwb a b:=∀ H' v,(fZ->(a->b))
zss a b d e:=∀ c u,(ft,a,b,c≠d,zX,e)
X9:=∀ p∈prs,(qC ff)
XH:=by unfold acrI;ext kR
zjy a b:=∃ L:(zuX a),b
zqC:=by simpa using this.symm
zcc:=∀ s∈al,AC
zfp a b:=∃ p∈prs,(a=b)
zrx:=by unfold Drw.rim;split
zqr a b c d:=by obtain⟨_,_,_,⟨a,_,b,c⟩⟩:44:=d
ziV:=List F
zbD:=List DictEntry
ziU:=.ref T
Xz:=.ref s2.heap.objs.size
zdS:=r.length+1
ziT:=(eg J)
zjx a:=(fH (fH a))
ziS:=.int b
zxU:=.int p.x
zxT:=.int p.y
zhC:=(eE p2)
zhB:=(eE p1)
zhA:=(eE CC)
ziR:=some a
ziQ:=.str a
zhz:=(dR ly)
zhy:=(dR lx)
zjp:=by refine (JR ?_)
zfW:=if_pos h
zfV:=if_neg h
zfU:=ZM.inj h
zhx:=Zj.mp h
zhw:=(d6 hd)
zhv:=(d6 Z4)
zAc:=(d6 dF)
ziP:=(eD q)
zhu:=(eD hd)
zht:=(eD c1)
ziO:=(uK 5)
ziN:=(uK 6)
ziM:=.inl k
ziL:=.inl e
zhs:=(fw dp)
zei a:=.lst (ps.map a)
zdl:=.str "both"
zdk:=(gM,0<=k)
zsr:=(gM,c∈m)
ziK:=.o _ _
zhr:=.inr dM
ziJ:=rent z
zhq:=(lJ α)
zfT:=Ja.mpr c
zhp:=j _ _ e
XW:=X.env.cells.lookup n
zfS:=ZM.inj e
zfR:=JE.inj e
zxS:=l.take i
zap:=Str->(hW NameKind)
zeX:=(ja,Zp h)
zbC:=(gY ys.length)
zho:=j.val k
zfQ:=l.take k
zeW:=ns.take j
zhn:=xbg rfl
zbw a:=U.keep (Same.tups a)
ziI:=(hO m)
zhm:=(hO ph)
zhl:=(hO i9)
zhk:=(hO zbs)
zid a:=congrArg a e
zcb:=Zk _ (Zk _ e)
zfo a b c:=by show(fW,a,_,rfl,b,_,rfl,c)
zxR:=I.kept f
ziH:=Zm _ z
ztw:=(gC,Zk _ e)
zAb:=(i:Nat)
zAa:=(h9 hl)
zic a:=.inr (xa3 a)
ziG:=(lX r)
zoh a:=decide_eq_false (λ z=>a)
zcA:=(Mr "width")
zao:=(Mr "last_column")
zca:=(Mr "column")
zbn:=(jf,sIx n 0 lo)
ziF:=(rh I)
ziE:=(rh L)
zfP:=rimS w G
zfO:=srtS w G
zhj:=(yM H')
zfN:=Zc.mp hs
zeV:=g.d ρ μ
ziD:=xab zT
zzZ:=(uD o4)
zhi:=(jy ?_)
zhh:=(yL ztz)
zbf a:=(eO,q,.tup (ptV a))
zjw a b:=Drw.set1 a c b
zfn a:=((a).length)<=12
Xv a:=by refine(nX a);refine (sq4 ?_);intros
zaX:=λ s=>(s.length<=5)
zfM:=b∉X.fs
zhg:=(Mq gH)
zfL:=acrI w p
zfK:=uprI w p
zcQ a b:=by rw[a,b] at z;exact (g_at z)
zxQ:=asked dM
zib a:=by ext j4 a;cases h
ziC:=(yg m)
zbm:=fs.length<=1000
zsq:=(j z).isSome
zhf:=fq z hz
zuU:=by rw[JE.injEq] at e
zdR:=eval e env
zld:=(du,sc.names.lookup x,.local)
zjv a b c:=(mC (zcU _ a b c))
zdj:=blk0 Z fr 1
zia a:=by ext rF a;cases e
zfJ:=s _ _ hd
zhZ a:=(sE t.C_a a)
zbZ:=Mt room so ho
zcz:=ns.length<=n
zcy:=λ p=>(.ref eA)
ziB:=z∈ns
zfI:=Sem Bool
zju a:=absurd a dG
zeU:=n∈crowd
zfm a b:=xau (xbs a) b xad
zhe:=.dT kvs
zfH:=V.int zbs
zbB:=A.handled=none
zhd:=(TF se)
ziA:=(ED d)
zhc:=ab s hs
zhb:=ah s hs
zqq:=Same.seqL s hs
zpn a:=(tz,a,TP X pins Z Q)
zfG:=(TD Key)
zgy a b:=by show(vS,AG leS5,a,b)
zbY:=Itkt d ob kvs
zbX:=Itit d ob kvs
zha:=.lst []
zdx a:=(vU a ps.length)
zfF:=(BR xbv)
zGi:=(zi "getset_descriptor.__get__")
zgZ:=eqV y x
zgx a b:=T.keep _ _ _ a b
zeT:=(zrz true)
zdQ:=(zrz false)
zdi:=0<sh.length
zgY:=(yJ hs)
ziz:=(Ft x)
zdP:=crowd++[x]
zXn:=upd1 asked s a
zgX:=(Vp qbP)
zbW:=Room q0 k X.A
zgw a:=V.str (ofL a)
zgW:=Ite K a
zgv a b:=(fJ a H I rfl b)
zgu a:=St->(gQ Hp a)
zaB:=(lP nb (gS nb e))
zeS:=PA X es t
zbL a:=xf7 rfl T.n_range a
zgV:=(zh yV)
ztv:=λ_ _ q=>Uy
zcx:=I.cell x c e
zbV:=I.freeC x c e
zaA:=Vis X.env.scope x
zdw a:=(dB k a trivial)
zoa a b:=(jK,(some a).toList,b,rfl)
zgU:=(GF gs)
ztu:=(Zj.mp e).1
zdO:=λ_ _ e=>e
zQj:=λ_ _ e=>(nomatch e)
zwB a:=by refine (ZT (λ a _=>?_))
zfE:=(dC M C)
zeR:=xdl w h m
zeQ:=xgj w h m
zkB:=D.heap.push (iN,"dict_values",.fields Dj)
zkA:=K.heap.push (iN,"dict_values",.fields Dj)
ziy:=(HJ S)
zaW:=xd0 lens names f
Xy:=(Dl,s∈(room n),AC)
zbl:=(DH V dz Hp VK)
zgT:=(Vk xQ)
zan:=(pt.x,pt.y+(i9*1))
zaV:=(pt.x,(zjI pt.y))
zfD:=da≠d_r
zfC:=λ_ q=>q
zaU:=λ_ q=>(nomatch q)
ztQ a:=(du,atI xs a,v)
zix:=al p b
zwa:=a.lt k dk
zvZ:=(mO m ?_)
zEc:=M.heap.push (iN,"dict_items",.fields Dj)
zrw a:=tb Z H1 (λ y H2=>a)
zrv a:=ty Z H1 (λ y H2=>a)
Xn a:=(vT (du,X.base.get? b,o) a)
zgS:=(SF ps)
zgk:=by subst hP hw hK
zeh a:=by subst hP a hK;ext zsE
ziw:=(PB c)
zdh:=I.kept keep
zeP:=as.zip qs
zaT:=L.length<=t.mask
zVt:=⟨Mi::us,kw⟩
zbK a:=∀ s',(a->(Q () s'))
Xh:=["_law_script", "_law_k"]
zsp a b:=a->(mK->(∀(N:vM),b))
zjo:=by exact (Yw rfl)
zfB:=hidT h H
zgt a:=DGet H d qS a
zjn:=by ext jC p xi
zcw:=SqL K H p xs
zjm:=by show(rF,xg c)
zgR:=Txs W G
ziv:=(zgD V)
zgQ:=k b u q
zbU:=[zgg,(Ap ".")]
zaS:=Rd H a (.dK kvs)
zeO:=fy i y hy
zdg:=putF f v fs
zcP b c:=⟨"",a,b,_,rfl,c,i8,a,dp,ai⟩
zgP:=(zcR nQ)
zeN:=ss.map xz
zhY c d:=nd_map (Vj c) d
zbT:=t.dummies=(#[])
zcO a b:=⟨(a).1,λ i l e=>b⟩
zru a:=by show (a<cLine);lia
zvY a b c d:=layClean.free mask a b c d
V2 a:=Ze (m:=(Builtin.Tuple.tupleExact _)) a
znJ:=(c.val k).isSome_eq
zdN:=(du Hr zhN)
zjt a b:=xcw X a (UK b)
ziu:=h a jL
zit:=.r x j
zfA:=(dX G r)
zgs a b:=by rw[(d6 a)];exact (Zp b)
zmk:=(carriedByValue v)=true
zdM:=atKey xs k
zis:=.m j x
zvX a b c:=by show(dy,a,s1.trans b,c,lt.same a)
X4 a b:=(du,findIn K (.ref C) a,b)
ztt:=λ c s e=>?_
zrc:=a.lt (k-1) dk
zso:=upd1 ho1 s a
zfl a:=(oJ xid a xdz)
zdL:=(Dk dk dk)
zeM:=D b o e y
qbO:=λ b ob q=>Uy
zcv:=sets no dots
zsn:=k it dG _ st
zdK:=PA X ww ta
zbe a:=by show(lK,t,Fu a);ext n8 e
zjl:=by ext KO c xi
VH:=(AO (du,h.get? b,u) (du,h'.get? b,u))
zgO:=(zuW zRI)
zNE a:=h'.DictOfH (tupleKind kk) d a
zcu:=SqL K H a zcE
zsm:=upd1 so1 a s
XJ:=by show(Ci,?_);refine (ifP fR ?_)
zgr a:=xa (xab a) xh
zcN a:=shO own crowd g a
zoA a b:=by ext ua i a dk;show(MI,b,hd Z H p)
zkV:=s.heap.push (iN,"dict",.dict (#[]))
zeL:=(zKm cpos)
zDO:=tc σ' H3 (λ b H4=>(wn,te σ' H4 N,M H4))
zct:=(zmQ es.size)
zeK:=ps.zip us
zdf:=s6.trans s7
zcs:=c1.append c2
zaz:=10*(turns t.mask)
zeJ:=⟨M,D⟩
zgN:=(x2,r1)
zgM:=(x1,r2)
zgL:=(zAj,fM)
znZ:=λ_ _ h=>(nomatch h)
zhX a:=by refine(xV (iz a))
zIu a:=∀ h',((Heap.ExtBut it s.heap h')->a)
zdv a b:=∀ i,(a->((i<m)->b))
X3 a:=(more.map (λ x=>a)).Nodup
X2 a b:=(us:fc)->(UH a)->(b->(P us))
zdJ:=(gQ α α)
zdI:=(dC l1 aa)
zfz:=put a ha
zxP:=zbr++[qT]
zgK:=xb7 p s
zbS:=o.getD j none
zsl:=(kN,so2 z)
zuw:=valV kvs j
zfk a:=(xck o a)=true
zeI:=PS X st t
zcM a:=k7 _ _ (ne_f a hk) a
zat a:=xeg rfl T.n_enumerate a
zbR:=StrsAre us ss
zdH:=SsOk vN ss
zvW:=(DJ H1 l)
zeH:=x=(.bl c)
qbN:=xu xa2 xp zPe
zgq a:=xay (ofL [a])
zcr:=λ b u _ q=>q
zjk:=by ext Ei c Ah
znI:=(names.map own).sum
zeg a b c:=(eP 84 _ _ rfl a b c)
XV:=(X.A.units+20)<cLine
zbA:=canO w ss p p'
XG:=(Ss "dict_values" Dj)
zwA a:=xbx xcb a xp oW
zde:=x.w (k*j) l
zdd:=h.Ns1 dx mA
zgp a b:=kas_desc f p a b
zfj a:=a++[(j3 pB Z)]
zmr:=(pq dM (xW,(hV).1,fj))
znY a c d e:=[Tn,zhR,(dR da),some a,(zN b),c,d,e]
zVs:=(du,so ff,fM)
zdc:=letF lc o i
zcq:=λ c v _ q=>q
zir:=(zXo P)
zdG:=O.trans s2
zdb:=s8.trans s9
zsC a:=tupleKeyHash knd a
zuT a:=a*(k+sep.length)
zda:=(Ws v).symm
zci a:=by show (a=_);rw[hn]
zgJ:=(ul,Gv)
zaR:=λ_ h=>(nomatch h)
zgo a c:=λ b a q _ _ _=>c
zef a b:=by have:=a;rwa [b] at this
zeG:=!(m == k)
zQi a:=∃ xs,(a/\(k=(! xs.isEmpty)))
zbJ a:=∀{xs:dz}{us:d4},a
Xx:=by simp only[Z6]<;>lia
zbd a b:=∀ base:Heap,(a->(zLI->b))
VO:=∀ y∈scope.names,(y.2≠.cell)
zaf a b:=by obtain⟨⟨old,a⟩,b⟩:=(id st)
zaQ:=(way mask C m).j
zay:=["word", "width"]
zkT:=pl.no (nm:=nm) (λ p j=>((no p j).1))
zbc a c d e:=xc1 (P:=a) (L:=c) d (λ x b=>e)
Vx:=by unfold Geo.cells Geo.upL Geo.upN Geo.lvL Geo.lvN;rw[Zn,Za,Zx,Za,Zx];ext O4
zcp:=(gQ Int Int)
zhW a:=xa8 (λ e=>a)
ziq:=ks x B
zts:=(d6 (BR b))
zjs a b:=(hB [] a eV b)
zfi a b c:=(hB a b c (dC nm h))
zuv:=.Name y py
zhV:=by show(gV,xgr u)
zeF:=(gk gH i)
zeE:=(gk iU j)
zbk:=(pt.x+(i9*1),r)
zbQ:=((zjI pt.x),r)
X1 a:=(jI H s.heap.objs.size a)
zVr:=(pq eA [nR,iT])
zbz:=Zv ((Ts+1)-jZ)
zee a:=.ins a M (zsF z)
zjr a:=Jn a hs rfl
zeD:=xb1 C srt
zeC:=xbj C prs
zfy:=xig X dM
zTn:=(jH,xbo kvs k v)
zeB:=λ x y=>zVu
zTm:=collect (.ref d)
zbP:=x0 w ps' srt'
zed a:=ite2 (gO a) (gO a)
zdF:=ite2 Gw Gw
zaP:=hidT s₁.heap H
XF:=(LP "width" "height")
zco:=(LP "x" "y")
zjq a:=(m4 2 kW a)
Xm a:=by ext kH;show(gz,(ZM.inj z).symm,a)
zcL a:=ai _ _ (ne_f a ak) a
zme a b c:=by refine(uX a (fQ,.inr (SqT.of b),rfl,rfl,c))
zcJ:=by exact (.cons e .nil)
zKN:=∀ b,(zrh->(¬ (w8 k b)))
zam:=(eO,a,XO a C od)
zwz a b c:=[.str a,(FH b),.int c]
V8 a b c:=by have:((eg (jX a b))=c):=dk;rw[this];ext me;lia
zfx:=Itr lo m
Xc:=ys=(L.map (λ x=>(V.ref dM)))
zeA:=(Es t fM)
zcn:=SoD H d n so
zcm:=HoD H d n ho
zae a:=by rw[Za,a];exact (xba dk)
zgI:=(g,b,s)
zez:=(wE op r)
zuu:=(zAo so ho)
XU:=["cell", "x", "row"]
zgn b c d:=by show(zqE,b,c,T.n_bn,ltO,d)
zbj:=(Va p.i p.pt).1
XN a b:=(ja,ifP (decide_eq_true a) b)
zdu a:=by exact(hD,st,λ v z=>a)
zby:=(rD H2 [DE,x])
zbi:=PI X tg iter wi
znH:=tupleKind (xak P w)
Xu a:=λ Z H R=>(ta Z H (λ vs H1=>a))
zfh a:=(Ht a (Xp zgf))
zey:=exP p1 p2
zvV:=(CF,CG,c)
Xg:=D.keep (Same.tups (h9 m))
zdE:=(zet ww zcG)
VZ:=(dH dr.pm.length_eq (eE dr.ok))
zfg a b c:=(zcT,a,rI b (SG c))
zdt a b:=Jr a b (λ_ _ x=>x)
zgm a b:=(RW a (zw 4 b 5 b))
zff a:=xfu t H4 p a z
zex:=(zft R hx)
zcI:=by obtain⟨u,v⟩:=c
V7:=∀ a b,(((k a)=(k b))->(a=b))
zoF a b c:=(vE a)->(b->(∃ rs:dJ,(zRH/\c)))
zcZ:=StL H ps ts
zbI a b:=by show(gV,(xb3 a (zq,pT<b)).2)
zaE:=by show(fG,ZC,hj,xf9 _ _ _)
zax:=s2 _ _ (O _ _ hp)
zpT a:=Drw.sets a (xb1 w ss)
zgj:=by show(FD,M,id X)
X0 a b:=show ((fH a)=(xay b)) from rfl
zbt:=by intro m e h;ext n8 h
zbh:=(FE i H2 hx s2)
ztP a:=xdc fR (xdc fR a)
Xq:=.Compare a [op] [b] pos
zlM:=xgn (wI 4 (UJ DF)) yB xet
zch b:=λ a s Z H Q I h=>b
VF:=by show(Ab,n0,nL,nC,nP,I.size_lt (Zl s.heap.objs.size))
XZ a:=∀ b o,((b≠it)->(rO->a))
zaK a:=by show(dA,vs,a,da,xjx I e hep)
zdD:=toPr w G s
zsk:=λ i h h'=>dk
zmq:=(nH,qs,.tup (xa4 s))
zec a:=by show(mU,z,hz,Zc.mp a)
zkO a b:=λ Z H R=>(to Z H (λ x H1=>(∃ d kvs,(zxY/\(a/\b)))))
zeb a b:=by show(zjH,d,rfl,∃ d,a,b)
ztO a:=by show(eX,YU ho hd a ?_)
Xf:=Drw.marks hsS Drw.no N6 c
zaJ a:=Drw.marks hsS Drw.no a
zew:=seF d1 d2
zkJ:=(b∈X.ex)\/(X.s₀.heap.objs.size<=b)
zfe a:=∃ m,((m<n)/\a)
zea a c:=λ b o _ _ a e _=>c
zqB a:=by rw[<- a,<- l];exact (h _ um)
zaI a b:=xfl (i:=a) b rfl (Y4 rfl)
zVq b:=∀ a u,((a≠d)->(zxZ->b))
zbH b:=(dB (uV H.a) H.F b)
zIt a:=A.under (.builtin "type.__call__" a)
zbG a b:=by show(gV,(xb3 a (zq,pT<b)).1)
zds a b:=xbx xge (pv a) b C4
zdZ a:=WayL I a prs ws
V4:=(jw Z1 (Sv "across" "width"))
zdY a:=by show(gZ,J,D.len,Zn,a)
zbg:=way t.mask qg i
zng:=(PD "picture" eQ [])
zcl:=excB ss p p'
V1 a:=(qI,a,T.c_a,T.f.m,ok_f T,fF,T.f.b)
V9:=(oG,yD-iT,0,-(yD-iT),yD-iT)
VP a:=(iI,fA,T.c_a,T.k.m,ok_k T,fF,T.k.b,a)
VY:=(PD,"rent",.ref M,[IB,OB,zsu])
zad a b:=(Dt,PW.pt (xc9 (UL a) b))
zIV a:=xbt xgi rfl T.n_int boot_int (i3 a)
zcY:=Off rs H H'
X8:=(gS,xem q e rP,q)
zac b c:=show (xa9 P w H h a b) from c
zal:=(sW x1 y1 true r1)
XM a:=ad _ _ (ne_f a ae) (ne_f a ab) a
X7:=storedH xs dM fj hV
zcX:=tOp r ta tb
zaO:=lvL w x1 true r1
zog a:=by exact(hD,a,λ v k=>(US d1 k))
zaH a b:=by obtain ⟨its,a,pl,hz⟩:63:=b
zak:=xt (s4.trans s5) m
XT:=[.int NQ,Uu,.ref qk]
zev:=I i j B C
zlF a b:=Kp.Rch (Kp.kstep (xav a) so ho) b Ki
Xi a:=Env0 P w K mg base a outer s H
zck:=upL x1 y1 r1
zlE:=[("height",V.int h),zPf,XX]
Xb a:=by simp only[Zu,Jz,or_false,not_or] at a
Xt a:=xu (r:=(xkk K)) xij (xab pP) a
VC a b:=by let Pm (Z:L2.St) (HX:Hp):Prop:=((Same a HX)/\(Z=b));show(iF,Pm,?_)
zdr a b:=(gm 102 a A ep b c)
Xk:=Classical.em (p.d ρ μ)
zaG a b c d e:=(gW a b c d e z.n1 z.n2 z.n3 z.n4)
zfd a:=(Aj d D s Z a)
zab a:=by show(Ab,g,a,sz,f,xik I e hdat)
VD a:=(gM,((((a).length)+((zRJ).length))+(zsH,(zRJ).isEmpty))<30)
zaD:=by show(Dc,e2,ob,g,eE ex)
Vy:=(Xe ow nd (Sx,pO 0 nd ow,(Ce,pO 1 nd ow,pO 2 nd ow)) 3)
VU a:=[.int x,.int y,.str sd,.int Y,.int a]
znG a b c d:=(eP a none rfl (gF b c) false rfl d)
VM:=by show(ij,l1,l2,_,_,uG Sr hu5 Nt (dC p6 J))
zfc a b:=fin ys H2 s a b f
VI a:=by show(ij,g,_,_,.ref r,(li (ef a) ar ⟨125,r,znk⟩))
XY:=by simp only at q m;subst q m
XR:=λ z=>(US,fr b z,e)
Xl a:=(EL f (dY,oc,od,.func a,osl))
zGB a b:=⟨p,M,_,rfl,D,Uz,_,rfl,pt.x,_,a,rfl,Ie,b⟩
zkf:=by obtain⟨⟨k,x⟩,q⟩:(∃ y,((kvs[i])=y)):=iP;have hx:oB:=(fC mV q)
zEx a b:=∃ t,((PSs a b t)/\(t { nx:=λ_ H'=>se,rt:=Q } zdV H))
zas a b:=by rintro ys H2 (⟨s,a,b,f⟩:44)
V0:=by simp only[Ql,List.all_nil,Zy,YX] at e
VJ b c d e:=⟨86, "dict", b,JW,c,d,e,(dC a e2),JZ rfl (QJ ?_)⟩
XI:=by rintro i ys H2 lt ⟨s,_⟩
VS a:=[zgg,(Ap a),(Ap "-"),(Ap "+"),(Ap "#")]
VE a b c:=by rintro i Z a _ (⟨_,_,_,_,⟨_,_,rfl,b,_⟩⟩:121);ext nI c
zkj a b c:=by refine (Qs hbase hline (jk,ho a s Z H _ I h,v,b,x,c,I1,r1,q1));ext zlv q1
VR:=.Call (.Name "set" p2) ww [] pos2
zdq a b c d:=λ a x b c d N M hN hM=>?_
XA a:=by obtain⟨a1,a2,a3,a4,a5⟩:45:=a
zks:=(ns.map (λ n=>(zst,V.int (J n))))++[(zA,.int 0)]
zaa a b c:=IsItemIter a it d b c ep ok ov
zEb a:=Kp.Rch (Kp.kstep room j J) (.hand j J asked s0) a
zZy a:=xgz D I C asked none a
znF:=xa6 J h' ps srt prs
zaj:=GH K g x q st f fd
zbv a:=(gg g x q st a f fd)
zBB:=by refine (Qi kind_sorted plain_sorted entry_sorted (args_sorted1 _) ?_);unfold WF
VA b c d:=⟨tO dx hp,dp,U,z,ph,ps,nm,pt,b,r,rfl,S,hn,hf,c,d,(dC H1 O)⟩
zKl a b c:=I1.adopt n0 I.sz nL nC nP (dY (OG 2) a b c)
VB:=["self", "name", "x", "y", "sides", "low", "high"]
zaF a:=MB K C m x q st a f fd
XQ:=MH K C m x q st f fd
zJz:=(Lu u5 t5 u6 u4 t4 zlN)
Vu a:=by show(dy,ad,c1.len,ac,c2.len);show(dw,b1,((HN).length)<17,by unfold Geo.upL Geo.upN;rw[Za,Zx];ext kR,b2,((Pa a).length)<33,by unfold Geo.lvL Geo.lvN;rw[Za,Zx];ext kR)
Xd g:=F.binds (λ a b c d e f us j=>g)
zHK:=by subst B x C;show(su,O,M,T,L,J,D,q it dG)
zjQ:=["_law_width", "_law_spot", "_law_side", "_law_row", "_law_x", "_law_y", "_law_step", "_law_found"]
Vz a:=by refine (xdf (λ k=>(a,r)) C dk (λ i H R _ k=>Fb) (eI H5 qs2 s5 hu5 cu5))
Vv a b c d:=by refine (xcv (λ i=>a) Z dk (λ i H R _ k=>Fb) (eI H5 qs2 s5 hu5 cu5));show(dw,c1,xal H5 HN qs1,b,c2,xal H5 (Geo.lvL z pt.x c r) qs2,d)
Vw b c:=⟨a,dx,_,rfl,O _ _ hp,i8,a,dp,U,z,ph,ps,nm,pt,rfl,(qY O S),hn,hf,λ H2 q2 s2 Y=>(EC b c)⟩
VN:=Gap lens crowd asked own rent g a s
zut a b:=s.heap.FunFrames a b
zus:=λ_=>false
zvU:=["place"]
zzY:=dr.ok.2
zuS a:=by cases a<;>rfl
zpi:=by simpa using y
zlY:=by unfold Kp.upd1;rw[gq]
zND:=by unfold xao;rw[Za]
zsB:=by rw[KasT.kasWp_bind]
zsA:=by rw[list_sort_plain]
zqA:=by injection e with e1 _
zpS a:=∃(its:d4) (n:Nat),a
zvT:=(tK).isSome
zmP a:={ s with heap:=a,toks:=t' }
zzX a b:=by obtain⟨_,_,a⟩:62:=b
zwy:=by dsimp only;split
zur:=(AZ).toArray
zoz:=by simpa using hv
zoy:=by simpa using e1
zxO:=(nQ).Nodup
znf:={ s' with heap:=h2 }
zvS:=∃ es,nA
znE:={ M with heap:=zEc }
zrb:=∀ p∈ps,zVr
zwx:=by unfold lexK at h
zph:=by simpa using a
zpg:=by simpa using j
znj:=by split<;>split<;>split<;>lia
zym a:=by cases a<;>simp<;>lia
znD a:=by unfold isNm at a;show(D9,(nE a).1)
zpR:=by unfold xbe lenI;ext O4
zqp:=∀ p∈prs,Ex
zqz a:=∀ p∈prs,(fM∈a)
zuq a b:=by unfold Kp.upd1;ext dP a b
zRF:=∀ nm∈names,zrf
zNC:=by unfold hsS;ext tP
zqo:=∀ s∈srt,zAe
zyl:=by exact (nomatch e)
zww:=by exact (nomatch hs)
zxN a b:=(du,h'.get? a,b)
ztr:=xs.length+1
zzW:=(hW j6)
zxM:=pm.map _
zox:=Nat.not_lt_zero _
zzV:=.int hV
zxL:=(dR tp2)
zow:=decide_eq_false h
zlL:=beq_eq_false_iff_ne.mpr h
zzU:=Z9.mp h
zzT:=Zs.mp h
zzS:=(d6 zc)
zzR:=(eD c2)
zzQ:=all a b
zzP:=xby a b
zzO:=(ef am)
zzN:=.inl vq
ztq a b:=.inl (dB a b trivial)
zxK a b:=by refine (Jh.imp_of_mem a b)
zov a b:=by refine (Jx.length_le_of_subset a b)
zzM:=(yN Tj)
zup:=.str pt.nm
zvR:=.inr p.nm
zzL:=.inr ff
zzK:=Zz.mp z
zzJ:=Zc.mp z
zxJ:=JE.inj z
zzI:=.bool b
zzH:=(hZ H1)
zzG:=(hZ H3)
zzF:=(hZ H6)
zxI:=(lJ Nat)
ztp:=(lJ Result)
zvQ:=Str->Prop
zvP:=Str->Seat
zuR a:=(kvs.any a)=true
zxH:=s4 _ _ e
zxG:=s5 _ _ e
zzE:=(fX xi)
zzD:=(fX aY)
zzC:=(fX zhO)
zxF:=Jd.inj e
zzB:=Zc.mp e
zzA:=(uJ zxX)
zzz:=s∈srt
zzy:=s∈xfb
zxE:=L.take p
zxD:=arrOf st
zra:=ls.eraseIdx k
zzx:=Zu.mp j
zzw:=Zz.mp j
zvO:=al.take j
zsz a:=assignEach a X.env
zto:=j<ns.length
ztN a:=((gk a "left"),r)
znC:=.lst (rs.map V.ref)
zqn:=Zv h.objs.size
ztn a b:=(eO,a,.tup (prV b))
zoE a:=of_decide_eq_true ((a).1)
zzv a b:=by have z:=a;ext eW b z z
zzu:=(kG gH)
zzt:=dEq x y
zvN:=ZD.mpr dk
zzs:=Nat->FW
zzr:=(h9 hp)
ztm:=(zfw "pair")
zuo:=(zfw "out")
zzq:=(lX pk)
zzp:=(lX p5)
zzo:=(sv Z6)
zzn:=(sv Ji)
zzm:=(sv ZD)
zzl:=(jf gu)
zvM:=(Vq Addr)
zqZ:=(du,H5 c,u)
zpL a b:=by refine (wpAny_pyIter_slot a b ?_)
zzk:=Z2 z.n3
zvL:=f.d ρ μ
zun:=qs.drop dW
zxC:=(jQ y p)
zqY:=A.units<cLine
zpf:=crowd.length<=12
zqy a:=by show (wpAny _ A.in1 a _ _ _)
zmO a:=by refine(nX a);refine (sq3 ?_);intros
zxB:=RelV y v
zmN a:=by refine(xV a);refine (sq4 ?_);intros
zzj:=Zs.mp y
zzi:=Zc.mp m
qbM:=qs.length<=i
zzh:=(xU hy)
zou:=(dk:vs.length<=i)
zxA:=(nG p.y)
zpQ a:=by rw[a];exact (xba dk)
zzg:=(o8 e3)
zmH:=by rw[Za];exact (a0 dk)
zxz:=Z9.mp hz
zxy:=Zu.mp hz
qbL:=.Name x pos'
zsj:=Gl X "range"
zqX:=kvs.length<=n
zqm:=λ y=>(nomatch y)
zvK:=PE X o ta
zzf:=l.map g
zze:=N->Bool
zvJ:=n∈names
zxx:=J.go i H
ztl:=o.dict=none
zzd:=(qM im)
zvI:=pure true
ztk:=(Zw m8)::us
zvH:=(zN name)
zzc:=(sY hx)
zvG:=Q false s
zzb:=vs=[kW]
zza:=vs=[qT]
zvF:=.cons r _
zum:=.cons r rs
zyZ:=x b o e
zvE:=(ro C [])
zXm a:=(qX,td Z H (λ x H1=>a))
zqW:=(Nn,We x t)
zqx a b c:=PE X (.Subscript a b pos) c
zxw:=(gS S e)
zsi:=OutL H cs qs
zsh:=xjz (xbu hr)
zyY:=(Cj im)
zyX:=(CL DL)
zvD:=ifN C4 ?_
zvC:=(xT true)
zvB:=(qj p xs)
zsg:=ls.map V.int
ztj:=zs.length+k
zsf:=(Ft "range")
zse:=(xf3 x)=true
zti:=asked y.1
zth:=I.hok b u e
zuQ a:=(vC (Nq (mZ a)))
zvA:=(SH Bool)
zvz:=K.In base
zyW:=κ × V
zvy:=a∈crowd
zxv:=(dC n x)
zxu:=(dC s v)
zql:=V.str (Zh " ")
znB:=assignEach es X.env
zxt:=(i5 x o)
zxs:=(i5 p o)
zul:=rimB lc iU
zqk:=h.objs.size<=a
zvx:=w_ev y ..
zyV:=D _ _ M
zyU:=D _ _ O
zvw:=srtS w mj
zsd:=(N8 cpos es)
zpK:=xee w ps ss prs
zne:=Fun K x qual st f fd
zqV:=vs=(rE eQ ln)
zxr:=V.ref fj
zsc:=l.Pairwise R
qbK:=is.length<12
zmx a b c:=(mY a H { s with heap:=b,toks:=c })
zyT:=(Ds ly)
zqU:=(JX K C)=true
zyS:=(Dq Tm)
zyR:=(GG pP)
zxq:=outs D G
ztg:=(qbS "name")
znP a b c:=by refine (xce a (λ i xs b=>c) ?_ ?_ ?_ ?_)
zxp:=.bl true
znd:=d.params.defaults=[]
zsb:=(JE.inj e).1
zpJ:=λ kv=>(gk sU k)
ztf:=xs++[(k,a)]
zte:=Geo.upN y r
zuk:=p.getD k 0
ztM a:=(A.units+a)<cLine
zqT:=(ro t.C_a [])
zvv:=(wU Tm _)
zuj:=rowV w r m
ztd:=rowV w ir m
ztc:=rowV w Az m
zyQ:=(UI QT)
zxo:=φ (f n)
zyP:=(zsH sb)
zxn:=xs[i]' dk
zxm:=ys[i]' dk
zwv a:=(Pq "sorted" a)
zqj:=(UG cs.length)
zyk a b c:=dictSetHashed d a b c
zqS:=(l.map r).sum
zpI:=(gQ World Heap)
zsa:=(gQ iO Heap)
zvu:=totI w Ey
zvt:=a.lt k hk
zvs:=(gk pk k)
zpe:=Drw.set1 m dM fY
zwu a:=h 0 y a rfl rfl
zwt a:=(IU (iQ H p a))
znc:=JI (by rw[e];decide)
zvr:=as.zip bs
zvq:=ZM.inj hx
zxl:=(#[]:oC)
zyO:=(Hf:oC)
zlu:=["_law_cell_here", "_law_k"]
zVp a:=pm.mem_iff.mp (Zc.mpr a)
zyN:=mir w c
zyM:=xh7 w c
zvp:=muP y prs
zxk:=muP y zU
zvo:=(gU C3 s)
zyL:=trk h H
zyj a:=gp.ok p (Zi a)
zxj:=(-nO)<=i
zrZ:=SqT K H p xs
zxi:=Txs jR G
zqR:=Geo.upL x y r
zrY a b:=Lay mask hs.toList a b
zxh:=k b ob q
zui:=.rng lo hi
ztL a:=[.ref a,(Ap ".")]
zpd:=Rd H a (.dT kvs)
zxg:=Off.of X
ztb:=gH<G.length
znb:=scope.kind=.function
zot:=(I.ok.bs b o e).1
zyK:=M3∈Ag
zpc:=(IA 1).objs.size
zpb:=(IA d).objs.size
znA:=["rows", "letters"]
znz:=["rows", "drawing"]
zrt a:=Drw.sets_no (xi8 a)
zyJ a b:=RelV (o.getD a) b
zxf:=(dC y b)
zta:=α->(hW α)
zsZ:=α->(hW β)
zyI:=xe9 w _
zuh:=(gk dU 46)
zug:=(gk dU 32)
zpH:=List (Option V)
znX:=List (Option Expr)
zpa:=es.map (λ s=>Uo)
zlO:=by refine (gn ?_);refine (io ?_);intros
zoZ:=λ n h=>(nomatch h)
zqi:=(ef,j _ _ S)
zoY:=(ef,j _ _ hl1)
zvn:=k b o j e
zuf:=rowC w r m
zue:=(Ai hp iP)
zsY:=(iQ H l ys)
zvm:=lsS x r c
zrX:=lsS pt.x r c
znW:=srt.filter (xb7 p)
zny:=srt.filter (xb7 pt)
zmj:=dU∉(is.map (λ s=>dU))
zpG:=(zpp kvs.length)
zsX:=putF f y fs
zpF:=max x (rim w b)
zkn:=∀ n∈Fp,(du,X.env.scope.names.lookup n,.cell)
zqh:=(Mg prs).head?
zyH:=ps++[p]
zrW:=(gk z.nm nm)
zyG:=Yz C dx
zrV:=(Z9.mp hs).1
zud a b:=(iz,xqw a (xc4 b))
zqQ:=(du,so a,s)
zuc:=(jw xi Zt)
zub:=dEqs xs ys
zvl:=(w8 ks a)
zxe:=(wa j z)
zws a:=by show(fV,121,_,_,_,_,a)
zqP:=(BK d "dict")
zqg:=p.getD (k-1) 0
zpE:=(zwD "__init__")
zsW:=xav lens ff
zwr:=by refine (Q0 (gO j))
ztK a:=(Pq "len" (UK a))
zpm a:=by show(eZ,its,r,pl,hz,I.list a)
zyF:=(zRG zuA)
zqf:=(wP H' w h ps)
zqe:=Room q0 gu X.A
zua:=(zpM Tq zgi)
zwq a:=QQ zuz (arrOf a)
ztZ:=Mk X.K C f
qbJ a b:=PS X (.Assign [a] e pos) b
zqw:=by simp only[kstep,e,e2]
zwp a:=(zqD,M,D,.inl a)
zpD:=xa9 P w H h a o
zmi:=ledL sp sb sm w x y b r
zoX:=es.Pairwise nmLt
zyE a b c d:=SoD.keep (dB m1 a b) c d
zlX:=its.toArray.size*k.toNat
zQh:=(dF:(1:Nat)<=1000)
zpC:=20-crowd.length
zyi:=by cases a;cases b
zlx:=by rw[rangeSize_one];ext kR
ztJ a:=by obtain⟨dx,a⟩:=z.ins
zsV:=fY == .free
qbI a:=by rw[<- z];ext nI a
zxd:=(zes m).j
zmG:=∀ p∈prs,(fM≠MZ)
zqO:=(du l.most n)
zyD a b:=FV/\(a/\(Q b H'))
zvk:=(ji 2 Mf)
zyC:=rim w b
zrU:=CXo l.prog w
zxc:=(dX L e)
znx:=(dX x.cps.toList c)
zqN:=PE X value tv
zos:=(xs.all xf3)=true
zxb:=(lM 5 2)
zxa:=(lM 7 8)
zrT:=(kZ rfl rfl)
zwZ:=rims C G
zPd a:=PySem.W.methodObj (.ref f) a
zrS:=(nU [] .nil)
zrR:=Drw.sets m L
zwY:=(wp l x)
zuP a:=typeIs_str s a t
zrs a:=td Z H1 (λ x H2=>a)
zwX:=(wa x c)
znV:=gvL lens names prs
zrQ:=x0 w' ps srt
zqd:=(vF d.name fa)
zpP a:=Kp.Crowd room so a hs
zqM:=canF w ss p r
zoW a b:=λ j y _=>(∃ p,((gU a p)/\b))
zsU:=.ref (ad i)
zuO:=by rw[Za];exact (Zl _)
zmF a b:=OpR X (binaryOp a) (rI0 (SG b))
zrP:=TL f H as qs
zor:=(Jd a:Key)=(Jd b)
zsT:=xa4 (xax s)
zyB:=A b _ z
znw:=ts.map (λ t=>(Zw va))
zuN a:=xee a ps srt prs
ztY:=(zeo H' h')
zrO:=∃ a,(RX/\znK)
zoV:=(zIu,Q none kJ)
zni:=by show(dP,CD,s' _ _ (s _ _ e))
ztX:=at' 0 ρ i
zwo a:=(SK a EY H2 zDO)
ztI a:=xez d H (tN a) H2
zmE:=ObjM s.heap x dx C mA
zwW:=(zwc b z)
zvj:=xfz K C f
zwn:=by ext j7 p j ep e
znv:=xjs (ss:=ss) nx g k
znU:=(zVq (du,H' a,u))
zyA:=(zIt zVt)
zoq:=xf8 H dl da names
zkz:=(du,PySem.W.specialIn K zly "__get__",zGi)
zwV a b:=by exact(gm 102 o a ep b r)
zki:=(UF,PySem.W.takesIn K (.builtin "object.__class__"))
zlW b c:=by obtain ⟨a,o,i,b,c,is,s,rfl,_⟩:=h;rfl
zna b c:=by obtain ⟨a,o,i,b,c,is,s,rfl,h⟩:=h
zyz:=(zZy Pp)
zmZ:=items.toList.drop yT
zsS:=c.mono more
zrN:=apply_ite zuy
zyy:=ug_e eu
zmD:=s.cps.toList.headD 32
zyx a b:=(∀ m,a)->(wg b)
zrr a:=Nat.mul_le_mul a w2
zwU:=(k-1)-wv
zwT:=Tr × j6
zwS a b:=by rwa [(xg a)] at b
zrq a:=by rw[a,xbv];decide
ztH:=by cases rr;ext iG r
zyw:=[zPf,XX]
zwR:=kv0++kvs
zsR a:=if neg then (! a) else a
zyv:=x1≠x2
zlc:={ cls:=.none,data:=.fields ps }
zyu a b:=∃ c,((dX a c)/\b)
zsy a:=by have:=a;simp at this;lia
zkx a:=∀(i j:Int) (t u:Tok) (s:Shared) (Q:eR) (E:eR),a
zmw a:=∀ w' s',(zhP->(a->(Q w' s')))
zrM:=∃ q,(zsG q)
znu:=∀ y∈ys,(y∈Fp)
zkh:={ J with heap:=J.heap.push (iN,"dict_items",.fields Dj) }
znt:=∀ p∈ps,(zL≠c)
zsQ:=∀ s,(C2<=0)
zlb:=["_law_cell_here", "_law_many"]
zns:=∀ s∈ss,(Cc≠c)
zmY:=∀ p∈prs,(zwf≠c)
zrp a:=(cans y ss a).head?
zqv a:=∀ t,((kN,ho t)->a)
zmC a b:=∀(i:Nat) (q:Addr),((dX a q)->b)
zoD a b c:=xc1 (P:=P) (L:=a) b (λ x h=>c)
zvi a b:=a4 _ _ (a7 _ _ a b)
znr:=(min x (rim w b))+1
zsP a b:=by refine (xhy (c _ _ a b _ ?_))
zvh:=(dC t ht)
ztW:=(dC ob nf)
zwm a:=by exact (wpAny_Name a hd)
zyt:=sgR i r
zoC a b c:=by refine (List.ext_getElem a (d8 i b c))
zwQ:=(lM 3 4)
zqL:=(hO,c4 % 7)
zwl a:=a->(s.length=1)
zvg:=ZU (Wh _)
zmX:=Off.of (Same.refl _)
zwP a b:=MeetsIn prog w a b
zvf:=ifP C4 ?_
zsO:=adv mask Mp
zoB a:=(qX,ty Z H (λ y H1=>a))
qbH a b c:=(yP,typeLookup (.type a) b,c)
zve:=(rD j zrd)
znq:=(LP "name" "rooms")
zlw:=(LP "asked_by" "free_seat")
zoU a b:=by ext sr t a;cases q;ext Er b JD
zsN:=b∈([]:dJ)
zqc:=((Ez).1,(eE Ez))
zvd:=lo+(i9*d)
zrL:=(dk:_<=1000)
zvc a b:=(V.int a)=(V.int b)
zrK:=putK kvs k y
zwO:=y=(kV k)
zqb:=(ef,I _ _ L)
ztG a:=by show(qm,pure a);ext Aa
znh a:=by subst z;ext eW a mu mu
zvb:=Mut (H x)
zsM:=al ρ μ fs
zpB:=below t.place j
zlt:=ps.find? (λ p=>(gk p.nm nm))
zmB:=prs.flatMap (λ p=>Xs)
zoT a b:=PE X (.Constant a j pos) b
zwN:=(Es b c)
zVo a:=∀ p,(zty->(R (.ref p) a))
zof a:=by exact (absurd (Zc.mpr a) nd.1)
zGh:=(eO,ln,.lst (names.map V.str))
zpl a:=R (.ok (.ret .none)) a
zoS:=(wL,xn<xf,xf<xn)
zwk a:=(xck o a)=false
zrJ:=h y (Zm _ b)
zro a:=Hand room a so ho s
zrI:=.str name tk
zop:=Option (Option V)
zqK a b:=kF _ _ (Z2 a) (O _ _ b)
zqu:=by show(yu,gO J)
zoo:=o.getD j (some 0)
zon:=fs.map (toPr w G)
znT:=fs.Perm (outs w G)
ztV:=λ x=>(Zw fj)
zlD:=[(Ap "left"),(Ap "right")]
zmM:=by exact (v p (by rw[e];simp[k]))
zsL:=lsS ul Gv c
zJy a:=by ext rV i a e;rw[ZD] at a;injection e with e1 e2
ztU:=sIx n n hi
zqa a b:=PI X tg (Oi "range" a) b
zKM:=λ f vs=>(PySem.call f vs)
zlC:=["pairs", "name", "other"]
znp:=(zjM "name" "x" "y")
zlp a:=∃ o,(a/\(∀ v,(o.data≠(.cell v))))
zwM:=(LN v r)
zrn a b:=xdx (x0 w a srt) (xao a) b
ztF a:=seqObj "list" a 0
zpA:=GOk zs.length g
zpz:=(dB [] ?_ .nil)
zva:=v i dk dk
zZx:=i9+((eg m)*1)
zwL a b:=by ext SL a Zr;ext dP b z
zsK a b:=Jr a b (λ_ _ h'=>h')
zla a b:=OpR X (compareOp a) (rI0 (λ i j=>(R0 b)))
zys a b:=by show(NN,a,T.n_bt,lkZo,b)
zVn a:=P (.done (.ret .none)) a
zrH:=IsPart vl lo
zrG:=IsPart vu hi
zpZ a b c d:=(s∈a)↔(b/\((iU<c)/\(dU=d)))
zlK:=(L.take p)++((j,h,x)::zgd)
zmW:=(t.slot j)=(.live i)
zlJ:=.frz ob (.dT (LnT (D b)))
zmh:=k b o (λ z=>(f (ie z))) e
zwK a b:=by ext HP a hp kvs hk pl b
zsx a:=by ext zbN c a;rw[Z1,b];rfl
zmA:=I.base.free b o e n y
zyh a:=(VX mN (zii a))
zyg a:=Drw.set1 m a s
zwJ a b:=λ v a h1=>(thn h1 b)
zrm a:=∀ b u,(a->(pH->zre))
zpk a:=by show ((xay (Zh a))∈_);ext tP
zoR:=(du,asked t,n)
zoQ:=(du,clsV c,cv)
zwI a b:=(d9 a (uU p) uz b)
zky:=(yM (i5,l,.lst (ts.map (λ t=>(.ref va)))))
zuZ:=Rch f a b
zkF:=(oG,v,0,(v+(eg n)).toNat,min v.toNat n)
zpY:=putK kvs eA fM
zKk a:=∀ j,((j<n)->(zv,a,ky j,ad j))
zoe a:=atI (rs.map V.ref) (a-1)
zQg a:=(zuC,i<=kvs.length,wh a)
zlV:=sliceBounds lo hi none n
zwH:=(znL d)
zoP:=(sS H2 s e ly f)
zKj:=.go own rent asked crowd
zpO a:=(fJ q s a e2 (o8 e3))
zkv:=pC (okD_aw T) hr T.aw.g T.aw.F.kp T.aw.b Ut
znO a:=by have no:(∀(c:Cl) (s:Str),a):=zQj
zVm:=(c+(s*ya)) % 26
zyf:=by by_cases e:(eA=j)
zlU:=∃ u,(du,h'.get? e,u)
zom:=(xax a)≠(xax b)
zoO:=∀ a,(Us->(UE a))
zrF:=(hashAt i)=h
zpy a b:=(gT a T.c_e T.n_bp rfl b)
zpx:=(tf (FH gH) og)
zpw:=(e=x)\/(Ep e x)
zZw:=kas_rev p 0 k
zoN a b:=Ze (Jr a b (λ_ _ h'=>h'))
zoM:=AkD H d al asked
zuM a b c:=(eP 84 _ a b rfl c rfl)
zpv:=(rD H2 [iC,MY])
znN a:=Sg t H' p d1 d2 a so' ho'
zsJ:=Itrs lo d n
zmv a:=(Mv (zNE,xcc xs more) OZ a)
zqJ:=KB H H' d1 d2
zKL a b c d e:=⟨I.ok,I.os,I.bare,a,I.loc,I.cell,b,c,d,e,I.len⟩
zmz a b c:=(jK,(sW,f8-a,b,true,c),_,xgd w a b false c)
zkI:=["width", "height", "points", "seats"]
zkX a b c d e:=["picture", "pairs", "signs", "name", a, b, c, d, e]
zkU:=Ip/\(Me/\(zij,h.DictOf xN a vs))
zno:=prs.map (exP p1 p2)
zrE a b:=by show(fV,a,_,rfl,ef b,zob,?_)
zkZ b c:=by obtain ⟨a,dp,b,c,h',ps,ss,srt,rfl,_⟩:=h;rfl
znn:=λ b c=>(h b (Zm _ c))
zPc a:=(zIV,xbx xcb (pv a) xar oW)
znS:=(gm M4 0 0 M4 0 0)
zwj a:=(zEx,(a).nox,kq)
zmu a:=by ext zBB;ext BJ;ext Ak zTm;ext eX a
zPb a b:=by refine (Q9 _ (λ rest r s'=>a) _ ?_ ?_ _ _ b)
zpX a b c d:=(zKl,a,.cons b (.cons c .nil),d)
ztT:=xr4 xnd xp
zmt:=by rw [Zd] at hx;ext rW o ho hx
zod a:=by refine⟨83,.non,_,a,rfl,q⟩
zrl a:=by have:=a;ext rJ this
zyr:=[a,b,c]
ztS a b c d:=I.lset (its':=a) b e c d ?_
zkG a:=∀(s:Shared) (u:Value),(zgC (uD [u]) [(a,u)])
zjR a:=∀(cdv:Value) (A:Around) (outer:qE) (s:Shared) (H:Hp) (vs:dz) (Q:VK) (E:XK),((zpo (zma jA cdv))->a)
znM a:=by simp only[shp,Zq,Yq.injEq] at a
zlT:=∃ ks' b,(Sn/\(w8 ks' b))
zlS:=["thing", "low", "high"]
zkp:=["_law_cell_here", "_law_size_here", "_law_many"]
zkq:=["_law_picture_here", "_law_ways", "_law_pairs"]
zkH:=["_law_name", "_law_side", "_law_row"]
zmV a b:=∃ tk,(du,mg a,.int b tk)
zyq a b c d e f:=by obtain ⟨a,b,c,d,e,f,rfl,_⟩:=h;rfl
zmL:=by obtain ⟨_,k,A⟩:=(v s' q e)
zmU a b c d:=by generalize eu:(jI H4 a b)=H5;ext kQ c d g5
zXl a:=∀ c s,((du a s)->(P s))
zrD:=P0/\(P1/\P2)
qbG:=lv/\(o5/\uQ)
qbF:=kY/\(oP/\uB)
qbE:=kP/\(oM/\tW)
qbD:=kO/\(oF/\tL)
zwi a:=by show(dA,od,J,a,I.look)
znR:=s _ _ (ne_f x e) x
zwG:=Rd H a u
ztR:=Jv _ h rfl
zuY a b:=(dY (rC a) b ?_ ?_)
zrC:=(eF N ps st)
zZv:=(m<i)/\(i<=k)
zlo:=by refine(hD ?_ Uq);refine (io ?_);intros
zms a b c d e:=by show(fU,a,b,c,(mQ X ns 1 (sx,s2.seqL hs,λ d=>e)))
zyp a b:=xe6 (xau a b xad)
zye a:=(hF y H' s' a)
zRE a b c:=(List.foldl (λ x1 x2=>(x1++x2)) a b)=c
zDc:=λ a h=>(dH,xg (λ z=>(by rw[z,e] at h;cases h)),h)
zlf:=(zjM "askers" "asked_by" "gap")
zwh a:=mir w (mir w a)
zqI:=eOf X.K H m d
zrB:=λ c u _ e=>e
zqH:=q B.1 B.2
zmn a b c:=(Wp K mainGlobals a)=(qz,.int b c)
zyd a:=tSeq a u D Z H
zmd a:=X.trans (af.trans (D.trans a))
zrA:=(dY 0 0 0 0)
zqG:=cs++[(nm,hs)]
zkW a:=x8 (qI,a,T.c_a,T.f.m,ok_f T,fF,T.f.b)
zlm a b:=[(CN p1),(CN p2),.ref qc,.int a,.int b]
zqF:=putK kl zA zAm
zlh a:=(V.str (xa3 a))=(V.str (Zh "right"))
zkR a c:=by have b:(Vc g a):=(beq_iff_eq.mpr h);simp only[Je,b,c]
zmp:=∀ s,(EW->((rent s)=0))
zkL a:=xaz (iI,fA,T.c_a,T.j.m,ok_j T,fF,T.j.b,a)
zyc a:=Moved a G s s2
zpu:=(sW xn yn b rn)
zpt:=(sW xf yf b rf)
qbC a:=by show(R5,a,xh1 I hg hm ?_ hdb)
zmT:=vs=[eQ,zAf,zAg,sgn dU]
zIs:=(V6 "str" T.n_str boot_str)
zpW:=rimC w (xax s)
zmo:=kvs++[(xz fj,.int hV)]
zls:=∀ C ex s H pn,(PE Kj elt te)
zll:=∀ C ex s H pn,(PIf Kj ifs tc)
zoL:=f b _ q (λ z=>z)
zmg:=(Dl Uv (zqs,C1,M5+C2))
ztE a:=.cons rfl iP iP a
zuL a:=(uH,.bl a,j,i,f)
zoc:=by ext wO ru r;ext qF d ru
zoK:=(zjG zAh zAi zX IV)
zMG c d:=(tz,zcG,λ v c=>(zd,Po,λ u s₂=>d,c))
zkD:=by show(mG,σ',H',I,q,h);exact(fP σ' H' I.unwish q)
zCM a:=by rw[hs3];show(qm,spliced ((false,a)::(backTo pos [])));refine (Ys ?_)
zol:=gs.getD i (.f t0)
qbB b:=(IM L j T.n_be lkH b)
zJx:=sets (marks hs no LM) pts
zuK a:=λ b u b1 b2 e=>a
zmK d e f:=by obtain⟨a,b,c⟩:=s;dsimp only at d e f
zlr:=(F9,Tq,(p i)=false,M H')
zpN c:=by ext OI c;intro a b ha hb z
zlk:=λ j y s h1 h2=>(k lG y s Ib On)
zkQ a b:=Best own rent asked (λ a' x'=>((P a' x')\/a)) b
zmS:=seqObj "list" (#[]) iZ
zlR:=λ f=>(yp,yl,I.tok f,rfl)
zkK:=[("outer",V.ref o),("inner",V.ref i)]
zkP:=[(.inr zjf,(CN v)),(.inr zjg,(CN C))]
zjZ:={ s3 with heap:=s3.heap.push (iN,"slice",.fields (#[B,vu,.none])) }
zln a:=I.laid (t':=s.toks) (o:=a) qbO eV ?_
zko:=∀ y∈scope.names,((y.2=.local)->(zlz .local))
zkC a:=∃ j e,((IW,(a).j,j)/\((gU L e)/\((Mh=qg)->zKN)))
zlQ:=∀ x∈C1,((M5+zhT)<=fY)
zkS:=["picture", "name", "side", "row"]
zkk:=["_law_width", "_law_spot", "_law_side", "_law_row"]
zkc:=["_law_picture_here", "_law_rows", "_law_pairs", "_law_steps"]
zjW a:=∀(kV doc pm:Value) (an:mF) (cdv ct:Value) (a0:Value),(zai a [a0] [p0])
zjY a:=∀(kV doc pm:Value) (an:mF) (cdv ct:Value) (a0 a1:Value),(zai a zhQ zhM)
zjV a:=∀(kV doc pm:Value) (an:mF) (cdv ct:Value) (a0 a1 a2:Value),(zai a zdW zdU)
zjU a:=∀(kV doc pm:Value) (an:mF) (cdv ct:Value) (a0 a1 a2 a3:Value),(zai a zcg zce)
zlI:=xkr (st:=s_b) l_b c_b k_b
zlB:=(zwE,X.N[i]?)=(ys.map some)
znQ:=(du (X5 i9) en)
zoJ:=.s (.c y) (.c x)
zsw d:=c _ (λ a b z e=>d)
zwg a:=by show(dy,w2,a,gl,xjv G)
zoI:=(d9 P0 P1 P2 P3)
zTl:=(d9 lv o5 uQ A5)
zTk:=(d9 kY oP uB AB)
zTj:=(d9 kP oM tW zZ)
zTi:=(d9 kO oF tL zB)
zuJ a:=xer _ a hi p' ab
zkE:=by rw[Zr] at z;show(dA,p,b,e,Zc.mp z);exact (n p b e)
ztD a b c:=(jk a b s2 x H2 I2 rx c)
zyo a c:=tFor wi g b a c H
zlq a b:=(UO xi6 T.n_abs boot_abs (yF xb8 a b))
zMF:=λ a u na h=>(gS na h)
zps:=x0 M ps C pt.nm
zyb a:=by exact (g.ok p (D p a))
zmc b:=kK/\(dN uj zg (zag pw ph) Em b)
zku:=xaz (iI,fA,T.c_a,T.i.m,ok_i T,fF,T.i.b,nN)
zmy:=A++(p1::(B++(p2::C)))
zVl:=AkD H' da ui zaC
zrk a:=by exact(ja (fJ _ _ zAl a h))
zle:=by ext eZ kvs e l r s;ext j5 kvs e dk r
zmb:=by obtain⟨c,rfl,f⟩:=f;cases r1
zpr:=f zgc (.int j u)
zlA a b:=(d9,m4 m y a,n<=9,m<=9,xT b)
zME a:=a->(g PR EY H2 (λ σ' H3=>EX))
zoH:=(ztx,y,r,r<v)
zjP a:=by show(iF,λ i m Z H=>(zeq kvs.length zY),zer kvs.length);rintro i m Z H (⟨rfl,a,p⟩:43);have q:=(hl i Z H a p);by_cases hlt:zcF
zuI a:=binT ha hb I h a
zuH a:=λ c u n1 n2 e=>a
zoG:=ZN lt (ZI hn dF)
zRD:=PIE X pins Z tg R
zkr:=x8 (pC (ok_a2 T) hr T.a2.g T.a2.F.kp T.a2.b pP)
zVk a:=(eP 65 a dG qp ?_ xi ?_)
zmJ a b c:=.of_wp (λ A R s ⟨1042,a,b⟩=>c)
zlH:=(zje,So,cd Io (rimC w mT))
zjT:=by rw[(jK,putF f v (vY::r),(jq,k,f,(k,v)::r,vY::(putF f v r)),rfl)];by_cases hk:(k=f)
zkY:=s.heap.IsSliceOf sl vl vu .none
zqt a:=by obtain⟨z,its,n,r,e⟩:=a
zkt:=∀ x,(yP,foldedSetIterable iter X.env x,x)
zmm a:=by obtain⟨u,rfl,⟨t,rfl⟩⟩:62:=a
zIr a:=∀ k,((a<=k)->((k<xs.size)->(j<=ztA)))
zke:=∀ nm∈names,(∀ q,((∃ kvs,((Bs dl)/\(FU=C0)))->(q≠da)))
znm:=(dN P0 P1 P2 P3 P4)
zPa:=(dN lv o5 uQ A5 Nm)
zOZ:=(dN kY oP uB AB Mm)
zOY:=(dN kP oM tW zZ Lm)
zOX:=(dN kO oF tL zB KH)
znl:=.dK (putK kl zA zAm)
zok a b:=Kp.Rch N7 (.ask a jG 0 0) b
zkb a b:=a->(mK->(∀(N:vM) (M:LI),((∀ y H',(eC,Tq,(p i)=true,zgi,N y H'))->b)))
zoj:=a.free c ob q n i
zrj a:=λ c u n1 n2 n3 e=>a
zsI a b:=xdd I hg hm hv a hn b
zkg:=pC (ok_ax T) hr T.ax.g T.ax.F.kp T.ax.b (ji 0 (vQ 3 4 5))
zDN a:=by refine (.lst (ef e) (ma Za Za h.len) (eI j x d a c));rw[Zd] at a c
zBU a:=Kp.Rch (xfd a ho) (.go (setI own nm 0) rent jG [nm]) (zAo own' rent')
zKi:=[IB,OB,zsu,(j3 "rent" M)]
zpj a:=FunD K x qual st T f a
zMD:=look I C asked b f0 y
zkw a:=G9.put ar bc.1.1 bc.1.2 (eE bc) (fH bc) a
zEJ:=by rw[(show ((isNm (iH (Vm dU)))=(nmC dU)) from (xj2 _))]
zlP:=below.go xs j fuel lo hi
zlj:=λ y H' s' f=>(h1 y H' s' rfl f)
zkl a:=∃ q qs s l,(d9 pG (yL (MA qs l)) (Es qs s) (dX a (s,l)))
zjX a:=by refine (WN hA ?_);show(eX,Q8 zAl WC (Zp (h _ (mO a ?_))));ext zbu;show(lZ,YO _ _ (Z2 a))
zmf:=P0/\(dN P1 P2 P3 P4 P5)
zIq:=lv/\(dN,o5,uQ,A5,Nm,P5 a)
zHs:=kY/\(dN,oP,uB,AB,Mm,P5 a b)
zKK:=kP/\(dN oM tW zZ Lm zya)
zKJ:=kO/\(dN oF tL zB KH zuB)
zlG:=(Lu u7 t7 u8 u6 t6 zJz)
zli:=P0/\(P1/\(dN P2 P3 P4 P5 P6))
zjO:=["_law_picture_here", "_law_rows", "_law_pairs", "_law_steps", "_law_other", "_law_found", "_law_places_here", "_law_due_here"]
zjS:=["picture", "name", "side", "row", "x", "y", "toward", "down", "upright", "level"]
zAR:=λ r s'=>(d9,r=(.ok (.ret (.bool true))),OldK s₁.heap s'.heap,s'.os=s₁.os,zbq)
zka a:=by refine (xrt v m S len (λ A outer s H vs Q E y c=>?_));show(ue,t,h,q,a,t,h.nox,q)
zZu a:=Array.isEmpty_iff.mp a
zVj:=Int.mul_comm ..
zXk:=Int.neg_mul ..
zXj:=by rw[List.cons_lt_cons_iff]
qbA:=∃(a:A0),lv
zTh:=∃(a:A0),(lv/\o5)
qbz:=∃(a:A0),qbG
qby:=∃(a:A0),zTl
qbx:=∃(a:A0),zPa
qbw:=∃(a:A0),zIq
zOW:=∃(a:A0) (b:A1),kY
zKI:=∃(a:A0) (b:A1),(kY/\oP)
zOV:=∃(a:A0) (b:A1),qbF
zOU:=∃(a:A0) (b:A1),zTk
zOT:=∃(a:A0) (b:A1),zOZ
zOS:=∃(a:A0) (b:A1),zHs
zIU:=∃(a:A0) (b:A1) (c:A2),kP
zGV:=∃(a:A0) (b:A1) (c:A2),(kP/\oM)
zIT:=∃(a:A0) (b:A1) (c:A2),qbE
zIS:=∃(a:A0) (b:A1) (c:A2),zTj
zIR:=∃(a:A0) (b:A1) (c:A2),zOY
zIQ:=∃(a:A0) (b:A1) (c:A2),zKK
zFN:=∃(a:A0) (b:A1) (c:A2) (d:A3),kO
zEI:=∃(a:A0) (b:A1) (c:A2) (d:A3),(kO/\oF)
zFM:=∃(a:A0) (b:A1) (c:A2) (d:A3),qbD
zFL:=∃(a:A0) (b:A1) (c:A2) (d:A3),zTi
zFK:=∃(a:A0) (b:A1) (c:A2) (d:A3),zOX
zFJ:=∃(a:A0) (b:A1) (c:A2) (d:A3),zKJ
zXi:=∃ o',(zsD o')
qbv:=(Iz).objs.size
zNB:=by simpa using I.len
zOR:={ s with heap:=Iz }
zOQ:={ s with heap:=zkV }
zEH a:=∀(pins:eJ) (s:Shared) (Z:St) (H:Hp) (Q:VK),a
zNA a:=∃(o:Obj) (its:oC) (n:Nat),a
zRC:=by simpa using hs
zRB:={ D with nx:=Pv }
zRA:=by simpa using hu
qbu:=(Uw+2).toNat
zXh a c d:=∃ i σ' H',(d9,a,tn i c,zcf,d)
zXg a b:=RelO.some_of (v:=v) (o:=a) b
zQf:=∀ x∈P,(zld\/V3)
zTg:=by simpa using Q
zTf:=by simpa using O
zTe:=by simpa using U
zGg a:=∀(w:World) (mg:iO) (fa:Addr) (h:Heap),a
zRz:=by simpa using hp
zTd:=by simpa using B
zOP:={ x with heap:=h' }
zLH a:=∀(j:Nat) (x y:DV),(RV->(zfb->a))
qbt:=by unfold slot;simp only[]
zVi:=∀ v∈rest,zmk
zTc:=by simpa using A
zOO:={ D with heap:=zkB }
zON:={ K with heap:=zkA }
zRy:=by simpa using eu
zOM:={ y with heap:=h' }
zKH a:=by unfold acr;cases b1<;>simp at a ⊢<;>lia
zJw:=∀ a∈T,((so a).isSome)
zVh:=λ_ _ _ _ _=>xO
zXf b:=xi (H:=H) (a:=d) (o:=b)
zQe a:=∃ v5 v6 v7 Y X L J I:f7,a
zLG:=∀ z∈zs,(AS z z sz)
zRx:=by simpa using hi
zXe:=∀ p∈prs,zVs
zKG a:=∀(j:Nat) (s:Seat),((gU al s)->a)
zVg b:=∀(k:Nat) (a:Str),(Uh->b)
zVf:=∀ kv∈kvs,zgb
qbs:=by unfold lsS Drw.ls;split
qbr a b:=by unfold innP;rw[a,b];rfl
zKh:=by unfold Geo.upN;ext kR
zKg a:=∃ v5 v6 U S v9 L J I ad ac:f7,a
zLF:=.ref s3.heap.objs.size
zVe:=(eg kvs.length)
zXd:=(eg p.x.toNat)
zXc:=(eg rs.length)
zTb:=args_list_sort _
zOL:=of_decide_eq_true a
qbq:=PlainAttrs T
zTa:=Nat.le_total a b
zSZ:=Int.le_total a b
zZt a:=(du,s.heap.get? b,a)
zRw:=(fw h1.objs.size)
zNz:=(om "BaseException")
zHJ:=PySem.F.args_tuple_add_2 _ _
zZs:=IsTup.new _ _
zIp:=List.pairwise_singleton _ _
zRv:=List.of_mem_zip b
zXb:=(lJ PySem.Fin)
zXa a:=(jQ a s.heap.objs.size)
zWZ:=CXo X.prog X.w
qbp:=by rw[List.filter_map];rfl
zWY:=Array GenState
zOK:=(jc sc.isCoroutine)
zOJ:=(jc sc.isGenerator)
qbo:=xkv mask h r
qbn:=xtg mask h r
zRu:=decide_eq_false p
zSY a:=(fC a Array.append_assoc)
zWX:=(gY ns.length)
zZr:=(gY z.length)
zZq:=ls.eraseIdx j
zRt a b:=(hR,I.turnedL (t':=s.toks) a b)
qbm a:=pr.keep (Same.tups a)
qbl a:=a6.keep (Same.tups a)
qbk a:=aj.keep (Same.tups a)
qbj a:=az.keep (Same.tups a)
qbi:=j<1073741824
zQd:=(du,h1.get? b,o)
zZp:=(du,H' b,o)
zIo:=(du,X.s₀.heap.get? b,o)
qbh:=Zv xs.length
zWW:=(sizeLine:Nat)
zZo:=crowd.idxOf q
zSX a b:=by rw[a];exact (T.srt.sublist b)
zOI:=Nat.min_eq_right dk
zZn:=(Vq NameKind)
zZm:=(du,H1 c,u)
qbg:=rs.map V.ref
qbf:=cq.map V.ref
zSW:=decide_eq_true v
zZl:=ps.length<=12
zVd a:=by refine(nX a);refine (sq7 ?_);intros
zVc a:=by refine(nX a);refine (sq6 ?_);intros
zNy:=scope.names.lookup y
zZk:=o.pok.ok p hp
zZj:=o.pal.ok p hp
zLE:=x.cps.toList.length<=i
zZi:=us.toArray[j]
qbe:=B.toArray[j]
zVb:=(X.H₀ b)=none
zMC:=by refine (gx ?_);refine (iq ?_);intros
zMB:=by refine (gx ?_);refine (io ?_);intros
zMA:=by refine (gx ?_);refine (wq ?_);intros
zMz:=by rw[Za];exact (ar dk)
zVa:=(lR,nomatch hp)
zSV:=Gl X "enumerate"
zUZ:=itP w ss prs gu
zZh:=(BQ false hs)
zUY:=I.ok.noex b o e
zZg a:=(qX,t Z H (λ x H1=>a))
zUX:=names.map V.str
zZf:=Itkd d ob kvs
zIn:=(AD x (iH "__classdict__"))
zOH:=s.heap.objs.size<=b
zWV:=fs.length<1000
zSU:=(Ft "enumerate")
zRs:=Room q0 k callerA
qbd:=O.sg.same s4
zOG:=s.heap.objs.size<=a
zZe:=l.map (mir w)
zZd:=m.map (mir w)
zWU:=AllBare s.gens
qbc:=mem_rg.mpr A
qbb:=ns.length<12
zZc a b:=(mY a H { s with heap:=b })
qba:=o.pal.ok p j
zZb:=(Yj K C)=true
zZa:=(Yy K C)=true
zUW a:=by rw[Za,Za];exact (xba a)
zUV:=ss.Pairwise xby
qaZ:=λ kv=>(Xo y)
zKf a:=(du,h'.get? s.heap.objs.size,a)
zQc:=Vals xs its.toList
zMy:=by refine (nx ?_);refine (fo ?_);intros
qaY:=xfs kvs more
zYZ:=(ro t.C_n [])
zYY:=(ro t.C_d [])
zYX:=(ro t.C_g [])
zYW:=f y (Zm _ hy)
zYV:=a<h.objs.size
zWT:=(UG ps.length)
zWS:=(ss.map r).sum
zUU:=xcq _ (nv x jL)
zUT:=(scal x y)=true
zYU:=(gQ Nat Heap)
zQb:=(fs.lookup m)=none
qaX:=(Ry,k,k-1)
qaW:=(HC "items")
zYT:=(HC "values")
zWR:=(dH (lB hd) e)
qaV:=xu xew DL xp
zYS:=.inr (.inr z)
zRr:=Int.add_mul x y r
zQa:=λ j hj=>(jn,Qa dk)
qaU:=I1.hok d _ e
qaT:=I2.hok d _ e
zYR:=(zaN pt.nm pt)
zYQ:=SqL K H' a xs
zST:=(zik more.length)
zYP:=s₁.gens=(#[])
zRq:=sc.kind=.function
zWQ:=(O.bs b o e).1
zYO:=.int i s.toks
zNx:=Obj.data_mapDict b _
qaS:=f.mt.iff n s
zLD:=(Dl,Uv,s∈(room n))
qaR:=(zwE,(GN).join)
qaQ:=sets zJx dots
zYN:=λ x=>(V.ref fj)
zDf:=(AO (du,s.heap.get? b,u) (du,h'.get? b,u))
zSS:=by show(Ci,?_);refine (ifN fR ?_)
zWP:=(zpp xs.length)
qaP:=(SE (tZ PV))
zUS:=ZV it s.heap h'
zDH:=xda σ' H3 (λ b H4=>(wn,te σ' H4 N,M H4))
zSR:=by ext N3;obtain⟨_,rfl⟩:=P
zOF:=standAt apos.atName
zFg:=YS "BaseException.__getattribute__"
zHI:=YS "object.__getattribute__"
zUR:=Nat.succ.inj hl
zOE:=xs.length=ys.length
zOD:=xs.length=ds.length
zNw:=kvs.length=vs.length
zNv:=kvs.length=ps.length
zMx:=s.heap.objs.size≠it
zYM a:=(xs.foldl a []).length
zMw:=∀ n∈Fp,(∃ c,ND)
qaO:=(zih,0<=M5)
zYL:=(Mg wG).head?
qaN:=(gQ V Value)
zOC a:=(eO,a,.lst (rs.map V.ref))
zHH:=(gY,xs.length+more.length)
zNu:=J.keep (Same.tups D)
zNt:=I.keep (Same.tups D)
zKF:=(du,bootBuiltins x,u)
zUQ:=(du,X.mg x,u)
qaM:=Vals ys its'
zMv:=Yz C s.heap.objs.size
zWO:=(du,so a,s1)
zWN:=(o[j]?)=(qz i)
zYK:=(BK a "dict")
zRp:=(mD,e (Jd.inj z))
zWM:=(BV eQ "list")
zWL:=(BV eQ "dict")
zUP:=(zRG us.toArray)
zIm a:=(zav,s.heap.push (iN,"tuple",.seq a))
zYJ:=(wP H w h ps)
qaL:=Room q0 gu A
qaK:=(zej "tuple")
zSQ a b:=PS X (.Assign [a] value pos) b
zPZ:=C.update a (Yl zxW)
zPY:=c.update a (Yl zxW)
zRo a b:=by ext zu a;refine (Call_ (Ls boot_range b))
zNs:=sm fs ks (f.p.w k l)
zKE:=ledP sp sb sm w x y b r
zYI:=(zig,13+m).1
zLC:=by rw[D];simpa using J
zYH a:=by rw[D];exact(hD M a)
zNr:=by subst h1;rw[gq];by_cases h2:(x=s)
zKD:=λ_ s'=>(zaw,Q σ' H')
zUO a b c:=∃ kvs:eG,(a/\((kvs.length<=b)/\c))
zKe:=(es.map (λ s=>dU)).Nodup
zYG:=(l.map f).sum
zUN:=(prs.map f).sum
qaJ:=λ b ps e=>?_
zLB:=λ b ps e=>⟨#[],CU⟩
zOB:=(du,K.lookup a,o)
zWK:=(zoh,nomatch z)
zHG:=WR F.plain_set_update_loop _
zYF:=Itr 0 (Mj NW)
zLA:=(Nn,Value.bytes b t)
zLz:=(Nn,Value.float b t)
zSP a:=PI X DX (Vb "items" []) a
zWJ:=(ZH.mp c.nd).2
zYE:=(yI (jY q m))
zWI:=(yI (jY q hn))
zLy:=ZR I.ok.bsz I.ok.above
zSO:=ZR I.ok.bsz I.sz
zYD a:=(xS (PQ "dict.get" a))
qaI:=CrL H' cs qs
zKC:=λ i y _=>(zcj (MX p.nm))
zOA:=(GT,hL y (Zm _ hy))
zRn:=(IW,(K1 k).j,i)
qaH:=(oq x zX IV)
zWH:=(oq do_ zX IV)
zWG:=(Nx 2 (uI gB))
qaG:=xbp ky ad dW
zYC:=RelV fM q.2
zWF:=RelV fM (fH q)
zYB:=(dB xs zqq eV)
zPX a:=(l.contains (.type a))=true
zRm:=λ h' j hs=>(h _ ?_)
zRl:=λ h' m hs=>(h _ ?_)
zLx a:=Builtin.Range.rangeSize lo hi a
zWE:=(zuT ws.length)
zRk:=by simp only [h,if_false]<;>lia
zSN:=by simp only [h,if_true]<;>lia
zUM:=Int->(Int->Int)
zYA:=Int->(Int->V)
zKd:=I.base.slot b o e n R hx
zYz:=(ztP,xjq fR)
zSM:=mark1 hs m dM fY
zNq:=Drw.mark1 hs m dM fY
zFf a b:=by refine (YJ Yt q.typeIs Q1 (PySem.F.args_dict_get_2 _ _) a b)
zEG a b:=by refine (YJ Yt q.typeIs Q1 (PySem.F.args_dict_get_3 _ _ _) a b)
zWD a b:=by show(vG,hz,y0,gF a z,B,KF rS,zTn,b)
zIP a b:=by show(vG,hz,gY vs.length,gF a z,B,KF rS,zTn,b)
zOz:=keyKind' vs.toArray
zNp:=acc.length+xs.length
zUL a b:=a&&(scope.names.all (λ y=>b))
zNo:=s.heap.objs.size≠e
zWC:=show O7 from e
zPW a b c:=by simp only[Zy,a,b,decide_eq_false_iff_not] at c
zUK:=(asked dM)=none
qaF:=(H0 fj)=none
zWB:=(dX t.place j)
qaE:=kvs++[(k,v)]
zYy:=(nmC dU)=true
qaD:=(xf3 y)=true
zYx:=(jJ 0 (lX C))
zWA:=(du,H1 a,RY)
zPV:=I.base.tups b xs e
zSL:=λ x=>(V.ref (f x))
zOy:=o.data=(.seq its n)
qaC:=absurd rfl z
zWz:=.cons rfl .nil
qaB:=sk _ _ dk dk
zNn a:=(nH,a,.lst (qs'.map V.ref))
zRj:=s.heap.IsCell c v
zUJ:=by ext lD h1;by_cases h2:(x=s)
zOx:=(zik L.length)<=1000
zUI:=(ef,z _ _ hl)
zKc:=s.heap.Ns X.env.locals m
zKB:=if_pos (b.symm.trans e)
zWy:=PrsL H' prs qs
zLw:=Zu.mp (I.mem_iff.mp q)
zGU:=(dB,k,xQ,r.keep (Same.tups s))
zPU:=(JV K C name)=true
zGA:=λ z=>(by rw[z] at c;ext gz c dF)
zRi:=C.filter (xb7 pt)
zYw:=o.at_rim hs r
zPT:=(Nb xO (pI xO xO))
zYv:=(zVp (kZ e D))
zYu:=(yp sP I rfl)
zRh:=(Qu a:Key)=(Qu b)
zWx:=(lY lH (rB C))
qaA a:=(RT,xgq jx a gB,Mo)
zWw:=SqL X.K H a xs
zWv:=SqT X.K H a xs
zUH a c:=(EK (Gz (Nx a (uI gB)) c) Mo)
zYt:=Ents w es kvs
zYs:=(dB o h hx.1)
zUG:=(zjC (yI,xkm r))
zWu:=xd8 (o.name j)
zUF:=by refine (ZR Uj ?_);rw[Ji];lia
zYr:=(zPd,.ref y)
qaz:=ad nm (Zi I)
zNm:=(m6 102 _ _ rfl rfl)
zOw:=.Subscript o i pos'
qay:=s=(ofL [M3])
zYq:=mayB ss eA fY
zSK:=KeyKind prog w K
zWt a b:=HoD.keep (dB m2 a g2) (jO b)
zCL a:=by refine (xce a (λ i ys H2=>(d9,mK,LJ,vE i,F i ys H2)) ?_ ?_ ?_ ?_)
zRg:=xs.foldl oneK acc
zSJ:=xiz s.heap I.big
zNl:=by simp at h1 h2;subst h1;subst h2
zUE a:=by rintro ⟨u,v⟩;rw[a,b,JE.injEq]
zWs:=xb6 (j:=0) rfl
zYp:=Sts H' do_ ss
zSI:=x0 w ps srt p.nm
zSH:=.hand so ho zXn s
zUD:=way t.mask qg n
zYo:=(e+(k*j),f,h)
zWr:=ZV a s.heap h'
zYn:=by ext jD p A v;exact (rb _)
qax:=(fP Z H I h)
zDA:=(kL e (du,h.get? b,u) (du,h'.get? b,u))
zYm:=RelV (kV k) u
qaw:=upd H v zng b
zFI:=(oq M (du,H1 c,u) (du,L c,u))
qav:=(zKk s2.heap)
zKb:=(zQg,.frz ob (.dT kvs))
zFe:=(zxV,st,wpAny_pyIter_rangeiter st h)
zIl:=∀ p∈prs,((eA∈ps)/\zVs)
zWq:=if_neg (z n j)
zNk:=Zu.mp (I.stkSub b z)
zOv a b:=by obtain⟨z,hd,⟨vs,a,dd⟩⟩:43:=(xgv b e)
zYl a:=h.IsStrIter it a x t i
qau a:=(G.length*a)<=(16*32)
zRf a b:=by refine(mQ X ns 3 (sx,s9.seqL hs,λ a=>b))
zUC:=xm (xbi xar zlM)
zWp:=Meth X.K C m f
zSG:=by show(eZ,its,B,p,hz,I.list y)
zKA:=InstAt s.heap x ox C od
zRe a:=(UF,mroIn K C (.type a))
zYk a:=O.keep (λ z hz u e=>a)
zFs a b c d:=by rintro i xs a lt (⟨b,_,_,c,_⟩:64);exact(fP,_,.ref GK,d,ie lt)
zFH:=qs.map (λ q=>(V.ref q,V.bl true))
zCW:=PySem.W.WalkO q loose XP YP l.row.toRowW d [] zKM
zWo:=T.filterMap so
qat:=srt.map rent
zGz:=its.toArray.size+c.toArray.size
zLv:=sysModules<h.objs.size
zUB:=X.env.scope=sc0
zJv:=a.cps.toList=b.cps.toList
zOu:=bs.length=as.length
zMu:=⟨(gO hs),(gO hs)⟩
zRd:=(I.ok.bs b o e).2
zUA:=by refine (JU.append_left _ ?_)
zYj a b:=by rw[a];show(eX,wpAny_standAt (Ze b))
zYi:=¬ (P (fH e))
zPS:=Uv↔(du,ho s,n)
zUz:=∀(a:A0),(lv->C)
zLu:=∀(a:A0) (b:A1),(kY->C)
zHr:=∀(a:A0) (b:A1) (c:A2),(kP->C)
zET:=∀(a:A0) (b:A1) (c:A2) (d:A3),(kO->C)
qas:=true == true
zWn:=(f y) == (f x)
zPR:=by by_cases e:(∃ p∈ps,(zL=zm))
zPQ a:=∀{xs:dz}{us:d4} (i:Nat),a
zPP a:=∀{xs:dz}{us:d4} (n:Nat),a
zWm a:=if (r≠y) then a else []
zSF b c:=show (s.heap.IsTuple a b) from c
zGf:=∃ sl,(zsD { o with slots:=sl })
zIk:=∀ b∈ch,(d9 zkJ By Ug zcd)
zWl:=λ_ _ _ _ n=>n
zRc:=(JE.injEq ..)▸e
zJu:=λ_ _=>(z6 [] rfl rfl m9)
zBn a:=∀(pins:eJ) (s:Shared) (Z:St) (H:Hp) (x y:V) (v u:Value) (Q:VK),(eC dI xA j8 a)
zYh:=∀ xs,(zn->B3)
zUy:=∃ xs x,(zn/\B3)
zPO:=c.kept (t':=tk) qo
zNj a:=∀{H':Hp},(zcf->(∀ b∈fp,a))
zWk a:=∃ i,((xs=[iC])/\(tY a))
zNi:=by simp only[Z6];lia
zKz a b c:=wpAny_letOwnedTupleGo_enum (s:=(DS a)) b c
zEl b c d e:=I.laid (a:=s.heap.objs.size) (o:=b) (h':=c) (t':=s.toks) d eV e
zGe:=∀ y∈sc.names,(y.2≠.free)
qar a:=∀{binds:E9}{m:iO},a
zSE:=(vs++ws).toArray
zUx:=by rw[Z6]<;>lia
qaq a b:=I.laid (t':=s.toks) a eV b
zWj:=∀ a,((r a)<=0)
zKa a:=∀(w:World) (h:Heap),((YP w h)->a)
zDs a:=∀(kV doc pm:Value) (an:mF) (cdv ct:Value) (us:d4),a
zYg a:=∀(f k:Nat),((1<=k)->a)
zPN a:=∀ j,((n<=j)->((σ'[j]?)=a))
zWi:=I.type (M:=pD)
zRb:=by unfold clsIn at b;split at b
zYf:=(x::ys).Nodup
zSD:=by unfold KatGo;by_cases e:(a=c)
zJZ:=∀ w∈ws,(w.length<=k)
zPM:=∀ a∈T,(a∈ss)
zSC:=by unfold upd1;by_cases h1:(n=a)
zWh a:=by rename_i h1;rw[h1,<- a];exact ra
qap:=by unfold upd1 at h;ext Di
qao a:=λ_ _ _ _ _ _ us j=>a
qan a b:=∀ H' l qs,(eC fZ zwe a b)
zRa a:=λ_ _ _ _ _=>(xfh (PW.pt a))
zSB a b c:=∀{ss:a}{ys:dz},(zoF ss.length b c)
zLt a:=by let Pv (i:Nat) (Z:L2.St) (H3:Hp):Prop:=a
zLs a:=by let Pv (i:Nat) (Z:L2.St) (H2:Hp):Prop:=a
zPL a:=∀{k:Nat}{x:Str},((TC x)->a)
zUw:=by unfold Kp.upd1 at e;ext Na
zJt a b c:=∀ H' l qs cs so ho,(fZ->(mM->(FB zwe a b c)))
zMt:=∀{n:Nat},(zhI->(yg n))
zQZ:=by unfold xbc at hs;split at hs
zLr:=∃ pt∈ps,(pt.nm=nm)
zKy:=by unfold ledS Drw.ledP;rw[Zd,hc];rfl
zHq:=C.keep (H':=H6) (jO,s6 _ _ e)
zGT:=G5.keep (H':=H6) (LF,s6 _ _ e)
zWg:=by unfold ptsS;rw[Zd,hp];rfl
zYe:=by unfold sgsN;exact Jh.nil
zQY a:=by unfold outP;rw[r,a];rfl
zOt:=by unfold rimB at h;simpa using h
zQX:=∀ r∈rs,(fw r)
zQW a b:=xj8 (rs:=rs) (y:=y) a (dH af b)
zGy a:=reduceHash (Builtin.Tuple.tupleHashOf a)
zOs a c:=(du,s₁.heap.get? b,o)->(a->c)
zMs:=some (toP (zes,m+1))
zQV:=some (.out crowd)
zWf:=(fH,hch c z)
zPK:=.int (Drw.rim C b)
qam:=(dH a.sz hk)
zJY:=(hD,q.mapOf,h _ _ um ?_)
zGx a:=(eD,by rw[a];exact (beq_self_eq_true _))
zWe:=pre++[V.ref a]
zSA:=nAt mask h (r+1)
qal:=xpr mask h n
zQU:=s.heap.update p f
zSz a:=by show(dO,(pok.ok p a).x1,(pok.ok p a).x2)
qak:=(xup e)=true
zMr:=(t.fits es.size)=true
zMq a:=by show(gV,V.int.inj (of_decide_eq_true a))
zNh:=(jJ (eg iM) (eg sG))
zHp:=dr.pm.nodup_iff.mpr dr.ok.1
qaj:=s.TypeIs v T
zWd:=(gC (dH CD e))
qai a:=by rw[a];exact (xb6 zhF)
qah:=(t.put yV).1
zIO:=(du,s₁.heap.get? a,Xa)
zSy:=hc e s Z H _ I h
zSx:=λ u j=>(hall u zjb)
zMp:=es.any (λ z=>(dEq z d))
zKx:=(i5 s.heap.objs.size e)
zUv:=Qb (xuk _ _) ?_
zHo a:=by refine (wpAny_pyIter_range (IsRange.new ..) a ?_)
qag:=absurd rfl h
zPJ:=I.base.tbls b ps e
zOr:=[("inner",V.ref i)]
zWc:=(du,H1 d,HZ)
zNg:=(jy (gF r.length z))
qaf:=(pI xar xar)
zIj a:=by refine (T.aw.F.okn (k:=0) sc_aw (d7 H Q E h) a)
zHF:=if_pos (of_decide_eq_true z)
zOq:=λ k=>(∃ c,(k=(ck c)))
zQT:=λ k=>(es.getD k zeZ)
zYd:=by simp[sliceBounds,HT.sIx]
zYc a b:=(eval (zmR m a pos) X.env)=b
zOp a:=(ma List.contains_cons a Qe)
zPI:=λ n s=>⟨rP,rP⟩
zUu a:=absurd (Z3 a) (Wn.mpr h)
zUt:=valV kvs (ck c)
zPH:=HOk P w H' s'.heap
zOo:=.Attribute o f pos'
qae:=adv t.mask p
zSw:=λ z h=>(nomatch h)
zSv:=(IN xl6 (i3 gB))
zGw:=(XE,xb5 jx (DZ (w6 2)) fA iw)
zHn:=Builtin.Dict.addKeywords d []
qad:=G.getD gH []
zGv:=V.int.inj (of_decide_eq_true y)
zUs:=by rw[e1,Option.none_or] at e
zYb:=.inl (.inl h)
zEw a:=by ext ud;unfold Builtin.Dict.selfAndRest;show(eX,YT a ?_)
zYa:=M (ya,(kG j))
qac:=(xc7 k.nm).2
zDM:=(yp,.int ys.length,um,⟨Sw,(fC Z6 j)⟩)
zJs:=by show (gY 0);exact (Jb _)
zHE:=p.map (λ i=>(vs.getD i .none))
zHm a:=by show(eX,wpAny_eqIsQuiet_tuple a ?_);ext Ee Wb
zMo:=I.base.there b o e hx
zSu:=(rimB lc j)=true
zXZ:=PtsL H' ps qs
zKw:=(kL d pH (du,H2 b,u))
zPG:=λ z=>(e (f.trans z))
zUr:=(xa3 a)=(xa3 b)
zMn:=by show(Er,PySem.W.kitx_list,iJ j)
zWb:=Zv (jX r pt.y)
zXY:=Zv (jX hi lo)
zMm:=Zv (jX,pt.x,0+(-1))
zWa:=Zv (jX pt.y r)
zLq:=Zv (jX,(z+1)+1,pt.x)
zSt:=(gS,A c _ q,q)
zOn:=es.Perm (inns w mj)
zOm:=fs.Perm (outs w mj)
zUq:=toPt G.length z
zUp:=λ kv=>(zwd,kv.2)
zXX a:=by have kl:(kvs.length=ss.length):=a
zGS:=ta Z H (λ x H1=>(zrw,R x y H2))
zIi a:=(BA,xs,y0/\(∀ p,((zjL p)->(uE p a))))
zJX:=z.sameBut hs (cne y c e)
zUo:=ixN xs.length i
zUn:=by show(zim,(zgB (IW,(GL).j,i)))
zUm:=xs[((zZx).toNat)]?
zSs:=prs.map (uprI j)
zXW:=(d8 i hi hi2)
zQS:=(zet [OA] (tZ OA))
zNf:=by rw[(d6 z1)] at hm;by_cases f:BI
zUl:=PrOk ps pw ph p
zNe:=((f a)=(f b))->(a=b)
zQR:=by rw[Zq,Zq];refine (.cons ?_ ih)
zUk:=by cases c;cases m;exact .int
zPF a:=∀ s',(zhP->(Q (.bool a) s'))
zSr a:=by rw[<- a,List.getElem_cons_drop,Yu]
zHl:=by refine (Zp (jy,WR F.xl_plain_dict_loop _))
zFG:=(Ia,seqObj "list" vs.toArray n)
zXV:=(pL H2 dq [])
qab:=(pL H7 M [])
zKv:=es.Pairwise (uS,zjd<=zjc)
zHD:=∀ a b,(((f a)=(f b))->(a=b))
zXU a b:=by show (wg a);refine b;by_cases z:(j=zK)
zXT:=PSs X body tb
zQQ:=l.find? (λ c=>zsr)
zJW:=j.map (λ t=>(t.1,va,JJ))
zOl:=(V.ref dM,V.int hV)
zSq:=.frz ob (.dK ko)
zSp:=by ext lD c;by_cases d:(n∈as)
zXS a:=Drw.sets a (xbj w prs)
zNd:=λ c e=>(c (inj _ _ e))
zMl:=(iQ,H,p,xs.set j v)
qaa a b:=λ a _=>(xeb w b k.x1 k.x2 _)
zFr:=s.heap.DictOfH (tupleKind kk) d xs
zHk:=.Compare a [op,op'] [b,c] pos
zQP:=(XB hd (nU 1 ?_))
zIN:=(Ox 12 T.v_bv.choose_spec)
zLp a b d:=by have C:=c.length;obtain⟨o,J,a,⟨n,b⟩⟩:63:=d
zUj:=[.inl a,.inl b]
zSo:=by subst hb;ext kd xi e new
zMk:=(G.getD gH []).length
zUi:=xum (B.cells I)
zSn:=u=(Value.type n)
zSm:=(du,xr1 cs,cv)
zGd:=decide_eq_false (λ q=>(nomatch q))
zIh:=(q0=true)->(A.handled=none)
zIg:=(iW k (x,y+(s*(0+(eg k)))))
zVZ:=(yL (xW ff t))
zVY:=(yL (xW fK l))
zVX:=kb _ _ b1 b2 e
zKu:=(((dM).1)=0)\/(((dM).1)=f8)
zHj:=(DI,[ov],getMethod ov m pl)
zGu:=∀ j,((j<n)->(w8,ky j,ad j))
zUh:=(Fg,f,zK+1,r)
zVW:=(zel (wI 6 xp))
zUg:=DPut H d y v H'
zQO:=DPut H d qS qT H'
zLo:=(zuC,i<=xs.length,zn)
zNc:=.Slice lo hi none p2
zQN:=(NI,mW,tCB r t)
zJV a b:=(tz,tZ iter,λ v a=>(zd,pyIter v,b,a))
zMj:=.go o1 r1 asked crowd
zDG:=pC (ok_aw T) hr T.aw.g T.aw.F.kp T.aw.b nN
zUf a:=(zdz ⟨a,k _ dG _ He⟩)
zQM a b:=by have U:=zhO;exact(DG Z 0 zM (li a rfl b))
zUe:=λ m=>(xs[(i+m)]?)
zGR:=show (∃ t',(v=(Qr j t'))) from c
zIf:=(zdA,(own ff)+(rent fM)).sum
zVV:=by simp[carriedByValue] at h
zIe:=∀ s a,(vh->(zqs,Um,U9+C2))
zZZ a b c d:=by show(zqr,a,b,c,xfm o.good (sn.pf.mem_iff.mp d))
zUd:=(shp x)=(shp y)
zQL a:=(du (OL,f,toP (K1 n)) a)
zVU:=(dB ob g ex.1)
zVT:=by exact (.of_refs q both.1)
zQK:=(dH (jY Sq J) Sq)
zGt:=(dH,(jY,s1 _ _ j,J),s1 _ _ j)
zVS:=Drw.sets m L c
zJr:=Drw.sets (zpT Drw.no) zJ c
zKt:=(H b)=(some (.dT more))
zMi:=Q (.int Dh s.toks) vc
zUc a:=((-1000000)<=a)/\(a<=1000000)
zSl:=(G0 rfl rfl rfl)
zXR a:=fI K a "__init__" f_a4
zXQ:=(zv h' dM fY)
zQJ:=(rD H2 (rE iC o))
zXP:=(mD,e z.symm)
zZY:=by show(oz,f.dm n,e);ext zqC
zNb b:=PI X DX (Oi "enumerate" ww) b
zJU a:=dI->(LE->(zpn,isTrue e X.env a))
zSk:=PE X PV (tVar i)
zVR:=PE X PV (tC v)
zUb:=(LH=0)\/(LH=CV)
zZX:=Pv dW xs' H'
zZW:=(zoa vY [vY])
zDe:=(IH C "__setattr__" (zi "object.__setattr__"))
zUa:=Lay mask hs k o
zZV a:=by ext iu kvs e L;exact (ne_f a e)
zMh:=λ p j z=>(e (dB p j z))
zGQ:=(Ru (tH b) (du,h2.get? b,o))
zOk:=by show(zoA,xs.length,dB xs q eV)
zLn a b:=by have D:(((a+(eg its.toArray.size)).toNat)=j):=b
zTZ:=mayL lc os is s
zFF a:=(du,D.get? s.heap.objs.size,(Iy,#[a,u]))
zTY:=DPut H a y v H'
zVQ:=xbc ps U pt.nm
zBx:=by unfold Geo.lvL Geo.lvN Geo.wayI;ext zyn;rw[(jK (Mj pt.x) (jX,pt.x,0+(-1)) dk)]
zBb:=by unfold Geo.lvL Geo.lvN Geo.wayI;ext zyn;rw[(jK (jX,z+2,pt.x) (jX,(z+1)+1,pt.x) dk)]
zQI:=fs.map (toPr D G)
zPE:=fs.map (toPr J znF)
zEk:=(gY y.length)/\(k=((eg y.length) != 0))
zFd:=(gY y.size)/\(k=((eg y.size) != 0))
zGs:=by rw [L,Bool.true_or] at x;show(eW,x,q,q _ j)
zHC:=by rw [(Ja.mpr J),JK] at x;show(eW,x,q,q _ j)
zMg:=(xbe w p1)+(xbe w p2)
zMf:=(xbe w zdm)+(xbe w zdn)
zMe:=(jP yn rn)+(jP yf rf)
zMd:=(jP yn rf)+(jP yf rn)
zMc:=(sS H5 s5 e5 ly5 fy5)
zMb:=(sS H5 s5 el5 ly5 f5)
zQH:=by show(su,U,T,f2,S,R,Q,A it dG)
zEa a:=by show ((bindL kindOf ((p,w)::(P.zip vs)) m a)=_);unfold bindL
zDZ a:=by show ((bindC kindOf ((p,w)::(P.zip vs)) m a)=_);unfold bindC
zLm:=(zGB,-1,F6 (dC l2 Z))
zLl:=znI+((ss.map rent).sum)
zSj a:=(unsupported a:Sem PUnit)
zXO b:=(zgA o)/\(Q (.bl b) H2)
zGP a b:=by rw[xi,a];congr 3;funext nn;dsimp only;by_cases c:(nn=b)
zZU:=by have m:=(w.shift mt sn p)
zQG:=by show (FndV L J zMD);unfold look
zXN:=λ_ p2 h2=>?_
zXM b:=by obtain⟨_,a,_⟩:62:=b;exact a
zId:=ts.Perm (es'.map (λ x=>zhE))
zNa:=(du,fs.lookup f,v)
zIM:=L _ _ nb (D _ _ (Y _ _ e))
zZT a:=(H5 U)=(some (.dK a))
zZS:=hitB H gH iU
zPD:=(lJ,Value × d4)
zVP:=(d8 itv s2 h2)
zVO b c d e:=(d9,wP b w ph ps,c,st.length<=d,e)
zIL:=.ins C s.heap.objs.size []
zIK:=by have e:((j.size-i)=((j.size-dW)+1)):=dk
zDr:=by rw[I.ok.glob];exact (I.mod.glob.keeps I.bk)
zZR:=(iQ H9 Y zxP)
zJT a:=(du,PySem.W.takerIn K C a,none)
zHi a:=(jo,false,!(inV (sgn dU) a),inV (sgn dU) a)
zOj:=R.map (λ s=>(s,pT))
zXL:=(rE,kV pB,qa)
zCG a:=(us.length=ps.length)->((bindArgs a zhH)=(pure (ps.zip us)))
zZQ:=(kh R i kvs)
zPC:=λ n s z=>(nomatch z)
zJS:=QQ (λ i=>(vs.getD i JJ)) p
zZP:=(AS fK fK w)
zPB:=λ o z=>(k it dG o z)
zTX a:=by ext jD p b hs;exact (lo.ins _ _ a)
zDq:=(F8,(g zZw i)=(if (i<k) then (g p Th) else U7))
zPA:=(LL,xz (b,i),y,g2)
zMZ:=vs=[eQ,FT,vL,.int r]
zTW:=(E4 (pI qbN qbN))
zSi:=storedH xs k a v
zZO:=g.iff n x h2
zFE:=by rw[JB,Zt];refine (xal.snoc (xal.keep Tk y) ?_)
zSh:=vs=(Ch eQ o1 o2)
zSg a b c d:=(eF ["self", "row", "column", a, b] c d)
zJq:=(qbJ,qbL,tAsg te (xcy i))
zHB:=(VT,e,some (.Name x pos'))
zZN a b:=(oR fK a)/\((1<=ir)/\b)
zCV a:=R (.ok (.ret (.ref s.heap.objs.size))) { s with heap:=a }
zVN a b c:=⟨p,M,_,rfl,D,Uz,p,a,rfl,b,c⟩
zLk:=prs.map (λ p=>(zAj,fM))
zSf:=GPr ps oQ vN prs
zXK:=by rw[LG,Ti,e] at z;cases z
zOi:=(jq,g,f,some u,D g)
zQF:=by ext IG p;ext Fs xp;exact h
zIJ a:=(zaL,zml/\zcF,v,a,zml/\(kvs.length<=i))
zOh a b:=((c∈a)/\(c∈b))↔(zcB/\(c=zhD))
zQE:=by rintro i xs H2 lt _;exact lt
zIc a:=by obtain⟨⟨dx,hp⟩,_,w1,w2,h1,h2,_⟩:=(id a)
zHh:=by rw[Jf,Yb,decide_eq_true_iff];constructor
zOg a:=(d9,Da i,a,ztQ i,Q v H)
zIb a:=by refine(uX _ (zlg qT FS));show(ij,64,_,rfl,a,zy)
zTV:=k b u (m b n) q
zEF a:=by ext ua b a D4;exact (c.fpOk (Zl _) (c.hok.fresh (Zl _)))
zEE b:=(zVn { s with heap:=sortedHeap s.heap a vs b })
zVM:=by show(fG,sD e j,lB x,e)
zII:=(m6 64 rfl ?_ ?_ (dC U S))
zCU a:=(zkO,(H1 d)=(some (.dT kvs)),∀ ob,(DO->(R a (DR H1))))
zDY:=∀ d,((du od d)->(∃ fs,(wh,XD d fs)))
zSe a b:=(zRE,#[],a,(b).flatten.toArray)
zEj a:=(zjB,∃ q p,(zjD a p (du,H5 q,.tup (tri p))))
zDz:=(zAd,t vs Z H Q,t vs Z H (λ σ' H'=>VG))
zJR:=by show(mG,σ7,B,z,O,C);exact (again z O)
zOf:=by obtain⟨e,n,ne,nf,d⟩:45:=Rw
zBS:=∃ d ob u,((du,H2 d,.frz ob u)/\(DO/\(Q v (upd H2 d u))))
zDy a b:=by rw[YY];simp only[Zu,Jz,or_false,not_or];show(dO,a,ZU (ZI b (WB _)))
zBw a b:=by rw[filter_all,Zx] at ly;refine (fin ys H2 s e ly (λ i y a=>(f i y i a ?_)));rw[filter_all,(ZW (jH b))]
zJp a c d e f:=a->(∃(v3':V) (X U S:f7),(nW c (znY v3' X U S) d e f))
zJQ:=s3.toks+(([]:E9).length)
zSd a b:=.lst (ef e) a (λ j x d h c=>b)
zXJ:=cellOf env dM
zOe:=r.foldl zRI (zio kvs)
zPz:=Drw.sets Drw.no DT
zJP:=(z0 mB)=(dY jZ Df jZ Hd)
zMa:=(rimC w a)=(rimC w b)
zTU b c:=⟨λ g a s e=>b,λ a x p=>c⟩
zJO:=[("holder_of",V.ref d2)]
zSc:=(i,j,r.getD j 0)
zQD:=(es'.getD j qbU).1
zLZ:=by cases h;exact (J7 _)
zIH:=by rw[e1,e2];simpa using c
zGO a b c:=by have I2:=(I1.lnew (t':=tk) a b);show(eX,wpAny_newList ?_ c)
zKs:=((zxQ).isNone)&&(xfq f Rs)
zHA a b:=(gk a 1)&&((!(gM,b<[97]))&&(!(gM,[122]<b)))
zIa:=by obtain⟨o',J⟩:=(I.base.there b o e y)
zFq:=(SqL X.K H p ys)\/(SqT X.K H p ys)
zOd:=(kD,V.int (rent s))
zDL:=(xdq true G.length)++(xdq false G.length)
zLY:=∀(a:A0),(lv->(o5->C))
zHz:=∀(a:A0) (b:A1),(kY->(oP->C))
zFc:=∀(a:A0) (b:A1) (c:A2),(kP->(oM->C))
zDF:=∀(a:A0) (b:A1) (c:A2) (d:A3),(kO->(oF->C))
zLX:=if (i<0) then (-i) else i
zFb:=∀ b o u,((eO b Sm)->(du,H' b,Sm))
zED a:=by have:=a;unfold xck;revert this;cases (Py,jZ+d)<;>simp
zOc a:=by unfold frs;ext fG JQ c a
zCf a:=∀(pins:eJ) (s:Shared) (Z:St) (H:Hp) (D:Ends),(dI->((t D Z H)->a))
zJo:=∃ xs,(zn/\(xs.length<=i))
zOb:=λ v _=>(v=(.bl true))
zSb a c d:=by obtain⟨o,a⟩:(∃ o,rO):=c;show(rq,ZU (Z3 a),d)
zVL:=by unfold ixN;rw[Tl,Tl];simp
zHg a:=∃ p ys,(gf xs [mN] a (tY ys.length))
zTT a:=∃ ob,(a/\(ob.dict=none))
zIG a b:=by obtain ⟨_,_,⟨a,_,c⟩⟩:43:=b;exact c.typeIs
zPy a:=∀ j,(a->((j<k)->(zga=true)))
zTS a:=looks_findIn (M:=pD) X a
zGr a c d:=∃ i xs H',(d9,Inv Hk [] Y2 H' a,tn i c,zcf,d)
zBa:={ J with heap:=J.heap.push (iN,"dict_itemiterator",.fields (zkm vs.length)) }
zSa a:=∀ n∈ns,(((-a)<=n)/\(n<=a))
zLj a:=∀(i:Nat) H2,(zsp,i<m,zME a)
zOa a:=by rename_i hm;exact ((hm _ (Y _ a)).elim)
zBi:={ D with heap:=D.heap.push (iN,"dict_itemiterator",.fields (zkm U.size)) }
zGc a:=by unfold picF;rw[Z1,(Sv a "width")];show ((Je (iH a) zlE)=_)
zGq a b:=∀(H2:Hp) (qs:dJ),(eC mK (du,H2 l,m7) a b)
zMY:=(toPt G.length s).nm
zMX:=∀ x∈L,(Es dM fj)
zBX a b:=by let Pv (i:Nat) (Z:L2.St) (C:Hp):Prop:=a;refine (xg8 (xs:=(GV G)) (Pv:=Pv) b ?_ ?_ ?_)
zHf a:=∀{α:Type}{zs:fc} (hz:(i<zs.length)),a
zRZ a:=∀(i:Nat) l,((dX ws l)->a)
zLi:=rim_in (w:=C) dk (b,y)
zPx:=names.map (mkPr f)
zRY:=xmo (K w.params)
zIF a:=(a<=xs.size)/\((∀ k,((k<a)->(ztA<j)))/\(zIr a))
zXI:=(dB ?_ vx xi)
zNZ:=(N.take P.length)=P
zBK:=by exact (Option.isNone_iff_eq_none.mp (by rw[<- Option.not_isSome,this];rfl))
zFp a c:=(dN a Fn (qj b zs) (gY,xs.length+zs.length) c)
zQC a b:=by refine (wpAny_ite_split (λ_=>a) (λ_=>b))
zZM:=by rw[(UD zc),(eD zc)];rfl
zQB:=(jY,km x hx,fr)
zXH a b:=by show(eX,QK (T:=a) b ?_);rw[(eD dF)]
zVK:=(vZ [] rfl m9)
zPw:=Xr/\(i=kvs.length)
zXG:=(G0 _ j9 rfl)
zLh:=by rw[l];exact (j.val k)
zXF:=λ p=>(V.ref eA)
zTR a b c:=(iz,xcp (xov a) (xcp b (xc4 c)))
zQA:=xqi I ha (dC d e)
zVJ:=shR r1 asked g
zRX:=.frz o (.lst xs)
zFo:=congrArg (λ s:Str=>s.cps.toList) h
zIE:=f dW y (by simpa using hy)
zZL:=(kh H4 I zks)
zLg:=(Jt X.K (.ref f))=true
zBR:=x8 (UO,xhj rfl,T.n_sorted,PyProof.Rows.Boot.«sorted»,Mc)
zHe:=(H2 eA)=(some (.tup [nR,iT]))
zXE:=λ σ' H' z=>z
zTQ a:=(sZ,a,"left",a,"right",a="both")
zGp:=(x'.2-(own a'))-(rent x'.1)
zVI:=by rw [(eD,ZO _ d),(eD d)]
zZK:=(sA,s b _ e)
zMW:=(PD "seating" mN zKi)
zXD:=xr N ps scope
zLf:=some (assign zuv X.env)
zRW:=.hand zS wB D5 s
zKr:=(rD C [.int i9,(Tx r)])
zQz:=a.inj _ _ dk dk e
zTP a:=PE X (.Dict [] [] pos) a
zJN:=(MC,uT eA,(fH eA).2)
zFD a:=(iI,fA,T.c_a,T.ai.m,ok_ai T,fF,T.ai.b,a)
zZJ a b c d:=(mh (lF a vk [0] b c) Ax lu kX i7 d)
zZI:=xbc ps srt n
zGb:=(lastMarks [op,op'] [b,c])=false
zGo a b:=by ext iG r;cases (jK T a ty);show(dO,b,λ_ e=>(nomatch e))
zTO a:=(valV a j)=(Pd,j=k,y,zuw)
zVH b:=(xS,compareOp b u eQ)
zID a:=λ b ps q=>⟨#[],by rw[a,q];simp⟩
zMV:=(vd (PQ,id,v::us))
zNY:=(k*(a / k))+(a % k)
zJn:=λ a xs h=>(dH (sD h e) h)
zMU a b:=(EL a (dY,om "dict",none,b,#[]))
zCK:=SetT knd h2 s.heap.objs.size (xbp ky ad its.size)
zXC a:=by show(Ei,s,Zc.mp j);exact (xe9 w a)
zHZ:=by show(Er,PySem.W.kitx_dict,dB o j m.1)
zTN:=(eC P0 P1 P2 C)
zGa:=(iN,"list",.seq its'.toArray n')
zZH:=(AF b fK ir)
zLe:=[zM,.int p.x,.int p.y]
zDx:=xde (v:=(.ty "str")) rfl T.n_str boot_str rfl
zMT:=(es.getD B.2 zeZ).1
zRV a:=compEnvC scope Ku a X.env
zPv:=PA X mW (xin te t)
zXB:=by show(iX,(rh,xb e2 e),e)
zNX:=by ext FC lo hi;ext eB hs h1 h2
zMS:=zxS++(c::(l.drop dW))
zNW:=by subst c;rw[(eD Tg),gq,(d6 nb)]
zTM:=by rw [U5,(jY zV J)];exact zV
zZG:=(LL kD h hb)
zJM a b c:=(dB,let ⟨dx,e⟩:=g.ins; a,b,g.ho.keep c)
zTL:=y X (L.trans J)
zRU:=.inl (xsq dF dF)
zJL a c:=(iI,a,T.c_a,T.q.m,ok_q T,fF,T.q.b,c)
zZF:=(sW x y b r)
zCF a b:=xef JH PySem.F.slot_list_extend PySem.F.type_list_extend xl3 a b
zHY:=(V6 "int" T.n_int boot_int)
zGN:=(V6 "bool" T.n_bool boot_bool)
zES:=s.heap.DictOfH (tupleKind kk) o more
zTK:=ZV C s'.heap h2
zQy b:=by rw[b];refine (xhy (c _ _ zwa zrc _ ?_))
zDX a b:=(zQi a)\/((zQi b)\/(∃ kvs,((Bs p)/\(k=(! kvs.isEmpty)))))
zPu:=by exact (Z3 (show (zj _) from x))
zFn a:=by ext jd j;refine (PySem.W.methodCall_KW (pl:=pl) a ht)
zVG:=Dv X.K H n x d
zLd:=l.map (λ n=>(k n,f n))
zLW:=(eC V V V (gQ Hp LI))
zJK:=(du,canO w ss p1 p2,c)
zJm:=eq0 (congrArg Nat.cast h)
zRT:=vs=(Ch CB la da)
zPt:=by ext lD h2;exact (g.iff n x h2)
zFZ:=(IN xc6 (i3,xaj xbf fA xp iw))
zER:=xbp (λ i=>(xs.getD i [])) ad xs.length
zTJ b:=(zep,J,D _ _ (z _ _ I),b)
zEv:=by show(ua,i,kvs.length,zge);show(MI,pV rfl,hd Z H p)
zBz:=xgn (wI 4 (UJ,pv 14)) (xaj xbf (xci (uI (qM jj))) (zPc 13) iw) xet
zCT a:=by show(qZ,(dY (pV hlt) M6 (U6 a (z6,kvs.length-dW,zge,hlt,a)) (d8 x H' y)))
zMR:=xcc xs (more.take i)
zLV:=(iW,k,V.str (ltr zVm))
zFm:=(oG,v,0,max (v+(eg n)) 0,min v nO)
zCu a c:=(yy (FX fA xar) (iz,xfk a (ok_a4 T) fF rfl c T.a4.b .nil xq nN))
zLc:=(tN (fj,rimC v hV,ziZ))
zKq a:=λ r s'=>((r=w)/\(EP X a Z Q r s'))
zPs:=by show(eB,o,e,λ v z=>(US d z))
zDE:=(zek,Builtin.«list.sort» { pos:=o4 },P)
zHX:=(zpM,Tq,F dW (ys++[y]) H')
zPr:=sm fs ks (0,[],[])
zNV:=(fJ q s Z O (o8 Y))
zPq a b:=by refine (.tup (SqT.of h) rfl (eI j x d a b))
zJl a:=Srt.g_at (by rw[<- Jj];exact (Zb a))
zVF:=Slot T name id
zJJ:=X.stack=(X.env::X.outer)
zPp a:=(xfu t H p false n)/\(tY a)
zHy a b:=(gM a)&&((gM,(is.filter b)=[])&&(gM qbK))
zBT:=by rw[(show (es=ds) by injection ed with z;exact z.symm),xe3];exact (Z8.same _)
zLU:=by rw [zAc,xsw] at c;dsimp only at z
zQx a b c d:=⟨126,crowd,al,asked,_,C,a,rfl,b,c,d⟩
zIC a b:=by exact(Nd,_,_,I.lnew (t':=s.toks) a b,q _ I.fresh)
zDW a c:=(hD,xi,Pl.snoc (p:=(gm nm x y sd Y a)) (pl.keep Tk) c)
zEu:=(v=r)/\(wL,oR u x,(x<=u)/\(u<=f8))
zBF:=by show(fG,(show ((its.toArray.any (eqU x))=(its.any (eqU x))) by simp),xku r fs,q)
zZE a:=by ext iG B;obtain⟨J,j⟩:a:=e
zAP a:=by refine (QH F.xl_entry_dict_loop ?_);rw[(QG F.xl_plain_dict_loop _)];show (wpAny _ A.in1 (zbb>>=_) _ _ s);ext eX a
zBm a:=by refine (QH F.entry_set_update_loop ?_);rw[(QG F.plain_set_update_loop _)];refine (Ze (m:=zbb) a)
zHd:=by have e:=(ih j.1 (λ n h=>(all n (ZO _ h))))
zFC:=by show(zC,p,h,YC.mp h);unfold xdb Drw.ledL at h
zLT:=by show(zC,p,b,YC.mp b);ext Hi c zhK
zNU:=xu xa2 kC (GO jj 0)
zTI a:=by ext zwB k;show ((a,r)=_);ext me;lia
zVE:=(GP l1 L l hl)
zTH a b:=by show(ij,o,_,a,_,uG (fX m3) rfl rfl b)
zEt a:=by subst ey eH;obtain⟨z,C,⟨vs,a,D⟩⟩:43:=(xgv I.hok e)
zBW a:=by subst ey eH;show(TK,u=(Zw b),ry);obtain⟨z,C,⟨xs,a,D⟩⟩:43:=(xjt I.hok e)
zXA:=(zwz ff nR iT)
zCE a b c:=by refine (YJ Qt a PySem.F.entry_dict_items (PySem.F.args_dict_items_1 _) b (jy c))
zCt a b c:=by refine (YJ Qn a PySem.F.entry_dict_values (PySem.F.args_dict_values_1 _) b (jy c))
zDp:=by show(mf,L,j,T.n_bh,lkP,gK M kvs X (XB (jH pl.len) ?_))
zLb:=(zwb,FndV H' v Hr,Gt)
zEQ:=by show(su,U,T,f2,S,R,O,C it dG);show(Oj,B,j.length)
zDw a:=xgb (λ p _=>(xeb w fM H D _)) (λ s _=>(xeb w s H D _)) a
zTG:=q h' s'.toks zvZ
zNT:=Mod X.K X.mg X.base
zNS:=putSet_of es' t' hd
zHW:=cellsFrom m8 scope.names []
zJk a:=by show (((Drw.rim v a)=0)\/((Drw.rim v a)=_));ext zrx
zMQ:=∀ H,(zja->(F 0 [] H))
zFa:=valV (l.map (λ n=>(k n,f n))) (k a)
zNR a b:=by have a:(¬ (c=b)):=(λ y=>(z (decide_eq_true y)))
zHc a b c:=by ext n7 I3 J H1 a b;show(Ab,n0,nL,nC,nP,I2.size_lt (Zl c))
zIB b:=(zXm,∃ a,(oK/\((IsD H1 a)/\(zrv b))))
zNQ:=.hand zsm zso asked l
zGM a:=by have p:(GZ zvW):=(gC a);exact(fQ,p,xi,rfl,F0 _ p)
zHV a:=(Dg Ui 5 sc_l.nd (Dt (FX (Im 5) a)))
zXz:=hG k eV dk zsk
zAF a:=by rw[(decide_eq_false c)];ext Ee YB;rw[sm];ext Pc;ext zim liv;ext zim Z;refine (Ze (wpAny_isSame_ref_self ?_));ext BJ;ext Pc;exact a
zXy:=k j U2 e mV b
zJI a:=(gC,s6 b u (xb e hx) (kc zhJ a e))
zCA a b:=by obtain⟨its,_,r,_⟩:63:=a;obtain⟨c,_,q,_⟩:63:=b;exact ((xlj r q).elim)
zGL:=(xC,M,A,storeName X.env x u)
zHU a c:=λ h' eb=>(hR (tw (mO,a,eb b o a e) U T S R c))
zTF:=(zvY o Rv sy Gy)
zXx:=by rw [Ur,(xg L),Ur];exact xi
zRS:=by ext gZ q znJ YV q;ext zqB q
zDl a:=xa9 P w H (h.push (iN,"dict",.dict (#[]))) h.objs.size a
zHx:=(qbH T "__getitem__" (zi id))
zHT:=lenI (eg M) pt.x pt.y gH og
zLa:=by ext zJy c;show(eB,e2.symm,dk,dk)
zJH a b c d e f g:=(zKL (eP I.base.keep I.base.slot a I.base.there b c d) ?_ e f g)
zFl:=(zMG s₁ (zd,f v u,Q,s₂))
zKp:=CE outer P w H s Q u s'
zRR a:=Jn a (fC hs hs2) (ib hs2)
zJj:=∀(a:A0),(eC lv o5 uQ C)
zFY:=∀(a:A0) (b:A1),(eC kY oP uB C)
zEi:=∀(a:A0) (b:A1) (c:A2),(eC kP oM tW C)
zDd:=∀(a:A0) (b:A1) (c:A2) (d:A3),(eC kO oF tL C)
zNP a:=λ z hz y=>(d ((xdg a y)▸hz))
zPo:=∃ u,((us=[u])/\sj)
zIA:=by obtain⟨_,_,_,q⟩:82:=hs;exact (Ym q)
zEs:=show (s.heap.IsTuple b B.toArray) from C
zAX:=∀ b ps,(((H b)=(some (.tbl ps)))->(∃ more,((H' b)=(some (.tbl (ps++more))))))
zEh:=∀ x:Str,(OY->((mb x)=(bootBuiltins x)))
zCe:=by have:(du,X.env.scope.names.lookup x,.free):=j;ext js k this this
zLS a:=by obtain⟨a,O,r,_,_,_⟩:65:=(xh5 I.hok e)
zCk a:=∀{P:dD}{vs:d4}{i:Nat}{m:iO},(eC P.Nodup (dX P x) (dX vs v) a)
zAT a:=∀(pins:eJ) (s:Shared) (Z:St) (H:Hp) (x:V) (xs:dz) (v:Value) (us:d4) (Q:VK),(eC dI xA nF a)
zNO:=by obtain⟨cd,b,_,_⟩:63:=c.mro
zFk a:={ heap:=a,gens:=g,drawn:=d,toks:=K,os:=os }
zBh a b:=∀(j:Nat) (h1:(j<its.toArray.size)) (M:(j<B.toArray.size)),(Z8 A.in1 s (its.toArray[j]) a b)
zEZ:=λ z=>(by rw[<- (ask s),e] at z;cases z)
zFX a:=xip (v:=e.1) (by rw[T.at_,U4,<- M,a];rfl)
zEC a:=by rename_i met hm;cases (hm.symm.trans (Y _ a));simp only[]
zFW:=["rows", "found", "row", "text"]
zBQ:=["_law_cell_here", "_law_many", "_law_letters", "_law_step"]
zBI a:=∀(i:Nat) (H2:Hp) (R:VK),(jS->((zVo (rD H2 (jJ,(f i).1,(f i).2)))->a))
zKZ a b:=∃ so' ho',(d9 a zar (Oa b) (zEb Ki))
zHS a b:=∀ x∈L,(dN,fj≠l2,dM≠l2,zmr,a,b)
zEg:=∀ n∈names,((n∉crowd)->(M5<=1200))
zIz a b:=∀ H' d,(eC,fZ,Uk,SD H' d a b,GX d)
zXw:=by unfold sgsN;rw[JB,YA,Q2]
zDb a:=∀ s∈st,((1<=og)/\((og<=pQ)\/((og=CZ)/\((zsH gH)<a))))
zEB a b:=by rintro i Z a _ (⟨_,_,_,_,⟨_,_,_,_,_,_,rfl,b,_⟩⟩:121)
zJi a:=(du,near wZ o1 r1 asked crowd,a)
zVD a:=(du,xfd lens ho zKj,a)
zQw:=L (c.mono more) D
zTE:=xdc fR (xjq fR)
zEr:=live.map (λ B=>(B.1,es.getD B.2 zeZ))
zPn:=Inv X pins vg H s'
zZD:=(dY n r x y)
zJG a b:=(ft,a,mK,LJ,F i ys H2,∀(N:vM),b)
zDV:=.inr (zqD,M,D,.inr (zGB 1 (Md (dC l2 Z))))
zDk a:=pC (xmz T) hr T.B_drawn.g T.B_drawn.F.kp T.B_drawn.b a
zCS a:=pC (xlg T) hr T.B_answer.g T.B_answer.F.kp T.B_answer.b a
zQv:=vs=[eQ,vL,.int r]
zJh a b:=by exact (call_range_3 dF (xls A a b q) (Yw (Wu dF)))
zKY a:=wpAny K2 X.A zbb (λ r s1=>a) E s
zHb:=by have e:(b=s.heap.objs.size):=Bz;rw[e];simp
zGn a:=by have e:((sgsN G iZ)=(Sk++(sgR n (G.getD n [])))):=a
zTD:=(hF ob nf l hl)
zRQ a b:=a/\(dN zGh zRF names.Nodup Bx b)
zTC:=PG X PV (xcy i)
zRP:=(pj P0 P1 P2 P3)
zNN:=by ext kH;exact (absurd z (g.no n))
zZC a:=(xd0 lens names a)=Pn
zRO a b:=by have dn:(d≠s.heap.objs.size):=a;exact b
zJg:=kvs.map (λ kv=>(zwd,kv.2))
zCs:=(GW { s with heap:=h',gens:=g',drawn:=d',toks:=t' })
zFV a:=wpAny qh X.A (zem s.heap.objs.size) zRD E a
zTB:=.ask KE zXn i lG
zHw a b:=by ext ud;show(qm,forIn c _ _);rw[<- Zac];ext zPb a b
zXv a b:=xgz lens own rent asked a b
zHa:=xmd lens own rent asked crowd
zVC:=(eI j d e f b)
zVB:=(eI j z k A q)
zDj:=by show(vP,by simpa using p);ext eZ o1 Y c1 d1 st;ext zog Y
zEP:=beq_eq_false_iff_ne.mpr (Z2 (ZU hb))
zTA:=J.yld i H2 v H3
zTz:=λ a b h1 h2=>dk
zNM:=(Bc,absurd z (D b))
zNL:=(gS,A c _ q znZ,q)
zCa:=(typeOf (.builtin id))=(pure (.type "method_descriptor"))
zXu a b:=by show ((adv mask a)=_);rw[b];unfold adv
zXt a b:=(uG (ef a) ar jV (dC q3 b))
zCd:=(F8,(g Oy i)=(jq,i,m,g p k,if zZv then (g p wv) else U7))
zPm a:=by ext Fs a;obtain⟨⟨m,j⟩,q⟩:=h
zFB a:=by show(fW,pz,_,aS,_,_,rfl,gT aI T.c_d T.n_bo lkZs a)
zBd:=by have A:=ztu;rw[Zn,ZZ] at A;show(FC,j,al.length);rw[(Jc (Zl _)),Nat.sub_self] at e;cases e
zZB a:=by show(F7,B,M,QF.mp q);rw[a] at B
zTy:=(zcU J k4 e4 ?_)
zZA a b:=LRun kM names own rent a b
zLR b:=zbo/\((is.length<=600)/\(O0 b))
zKX:=xg5 tx G.length (Zl _)
zAW:=pC (xf4 T) hr T.B_exchangeable.g T.B_exchangeable.F.kp T.B_exchangeable.b (pd 2)
zRN:=by show(hJ,i,j,rfl,rfl,q,xq5 h)
zNK:=by have T:(b=a):=(Y b (tT q));subst T
zNJ a:=by exact(hD,a,λ v k=>(by ext OF k' k))
zDU a:=xfk T.k_a (ok_ar T) fF rfl T.g_a T.ar.b .nil xq a
zCr a:=b.congr (λ a' x'=>⟨.inl,λ h=>(h.elim id (λ z=>(nomatch a)))⟩)
zCz a:=by refine (hB its.toList r a ?_);have e:=r.length;simp only[Jm] at e;lia
zKW:=by obtain⟨x,j⟩:=(a.there c ob q i)
zBv:=by obtain⟨fs,A⟩:=(hd d e);obtain⟨_,_,⟨o,_,_,B,_⟩,_⟩:=(xwj I A);ext dO o B
zJf a:=by show(dy,au,J _ _ bf,a,ax.keep (Same.tups J))
zXs:=PC X op a b t
zNI a b c:=(HI,tg,a,IsRangeIter h it b (nO-zAb) c)
zBP:=by intro b u e;have A:(b≠l):=(xb e hl);show(fG,xg A,(jY,q _ _ e,x),q _ _ e)
zGZ a:=Kp.Rch (xfd wZ ho) (.go zbF aa jG zhL) a
zAA a:=by show(iF,λ i m Z H=>(zeq xs.length zY),zer xs.length);rintro i m Z H (⟨rfl,a,p⟩:43);have q:=(hl i Z H a p);by_cases hlt:(i<xs.length)
zNH b:=opI (λ i j _ _ _ _ _ a q=>b)
zFA:=by rw [(pE,show ((iM,rH)∈ss) from O),J6] at c
zRM:=PG Kj PV (xcy i)
zPl:=x.above y c (Ya h)
zMP:=B.free y (B.ysf y L)
zIy:=rg ((min y r)+1) (max y r)
zFz a c:=(iI,Nw a,T.c_e,T.B_w.m,ok_w T,fF,T.B_w.b,c)
zDv:=(iI,fA,T.c_d,T.af.m,ok_af T,fF,T.af.b,Lk)
zDT:=(iI,fA,T.c_g,T.z.m,ok_z T,fF,T.z.b,CW)
zJF a:=by show(nY,xes.mpr (dB dk dk (kc a c v.symm)))
zGK a:=(upd H1 q1 (.tup a) M)=(some (.dK kvs))
zVA a:=xo (pN 5 a) (xo (pN 6 a) (zw 7 a 8 a))
zHR a b c:=by obtain⟨a,b⟩:(∃ r,(lQ G 0 r)):=(iK,Zb h1);have l0:=c
zBH a:=by show(qZ,(dY (fP,xs,xs[i],q,ie hlt) M6 (U6 a (z6,xs.length-dW,dk,hlt,a)) (d8 x H' y)))
zTx a b:=(cn*(jP yn a))+(cf*(jP yf b))
zDD:=(zdp+(jP y1 r1))+((acr w x2 b2)+(jP y2 r2))
zDC:=((acr w x1 b2)+(jP y1 r2))+(zdo+(jP y2 r1))
zFj:=by show(mf,L,j,T.n_bh,lkP,znG M zkT (My nm X) CH)
zAM:=by show(zjF,st.typeIs,Yp);show(Hj,Yp,st.typeIs,F.entry_dict_keyiterator_next,F.args_dict_keyiterator_next_1 _)
zAI:=by show(zjF,st.typeIs,Ye);show(Hj,Ye,st.typeIs,F.entry_dict_valueiterator_next,F.args_dict_valueiterator_next_1 _)
zCR:=((a<=b)/\((min a b)=a))\/((b<=a)/\((min a b)=b))
zCQ:=((a<=b)/\((max a b)=b))\/((b<=a)/\((max a b)=a))
zHQ:=[Tn,zhR,(dR J),(hO g),v4,v5]
zFy:=[Ul,(dR d3),(dR q0),some O,v4,v5]
zPk a:=by refine (congrArg List.sum (ZT (rC a)))
zCj a:=by have r:=(m.rm n s e);exact (Z9.mpr ⟨hr n s r,(zjE,n,a,decide_eq_true r)⟩)
zHv:=by rw [Za,Zx,(jK,(M4).length,0,fR)];ext TM
zGJ a b:=by obtain ⟨kz,aa,_⟩:62:=a;rw[<- b,hl] at aa;cases aa
zDo:=["pairs", "name", "other", "seats", "giver"]
zDa a b:=λ_ _ _ _ _=>(xfh (xae (r:=(rInV K true)) (xle (xbu hr)) a b C4))
zCm:=∃ so2 ho2,((Kp.Mt (xav kM) so2 ho2)/\(∀ z∈vp,zsl))
zRL:=by show(eZ,its,U,p,aa,I.list Q)
zQu a b c:=λ h' u sb=>(q _ h' s'.toks (iJ a) b c)
zEq a c d:=(Af,a,pC (ok_au T) hr T.au.g T.au.F.kp T.au.b (xa c d))
zTw a:=(gf,r.1,none,s'=s,a)
zJe:=Geo.cells C D.x D.y b2 r2
zVz d:=λ x b c H Q=>(∃ a xs,d)
zEO a:=(d9,1<=pt.x,pt.x<=a,1<=pt.y,pt.y<=ph)
zGI a:=by rw[JL];intro d a z;exact (no d a (of_decide_eq_true z))
zGY:=by show(vS,dB o e pk,a,m);ext Dc m o e CY
zMO:=λ k b hk eb z hz=>?_
zLQ a:=wk.frame _ s2 _ _ H (Qf _ _) a
zCq:=xml (xi7 t) [] Oz (xin (tVar i) (xin (tVar j) tNil))
zGX:=xhz wd (xep dr.lt) aC Y.nn aF
zLP a:=(gW 86 ob es Gu ex a hk hp hn)
zDS:=by show(Ab,x1,x2,y1,y2,ok.xy);show(dy,r1,ok.r1,r2,ok.r2)
zAS a:=by show(R5,J,(Ls,PyProof.Rows.Boot.«list»,?_));refine (Jn ?_ (ib hs3) rfl);show(zCM,tZ OA);ext zkj J a H1
zBl b c:=wpAny_Dict_empty (zah,I.laid (a:=s.heap.objs.size) (o:=b) (t':=s.toks) ztv eV c,h _ HS)
zQt:=(L2.upd H p o)=H'
zVy a b:=xp3 jx gB a jj b (by ext sM)
zHP:=PassesOwn qh X.A X.env X.xe
zQs:=xrs X.w X.K D kvs
zTv:=at2 dEq ds es j
zTu:=.go zS wB D5 KE
zIx:=∀(a:A0),(pj lv o5 uQ A5)
zFx:=∀(a:A0) (b:A1),(pj kY oP uB AB)
zDR:=∀(a:A0) (b:A1) (c:A2),(pj kP oM tW zZ)
zCZ:=∀(a:A0) (b:A1) (c:A2) (d:A3),(pj kO oF tL zB)
zEA:=by obtain⟨_,_,⟨_,_,o,_,_,e,_⟩⟩:43:=x;ext AJ
zEp:=by have:(x≠n):=(by rintro rfl;exact (h v Zo));simp[this]
zBg a b:=∀ whole,((isTrue a X.env whole)=(do let v <- whole; (standAt b); (holding [v] (truthy v))))
zGH:=∃ xs,(EV/\(h.DictOfH znH a xs))
zTt:=by unfold mroIn;rw[h,Wg,zts,a]
zGG d:=fun⟨1043,a,b,c⟩=>(dB,a,b,λ j hj=>d)
zEN a:=∀ p∈ps,(gf,p.sd,"both",p.lo=1,p.hi=a)
zLO a b:=by obtain⟨⟨old,a⟩,⟨o1,b,c1,d1⟩⟩:=st
zDu:=λ_ _ _ _ _ ⟨1042,(iK st),_⟩ h=>(QZ st h)
zDt:=∀(j:Nat) (x:V) (d:DV),(RV->((gU ds d)->zdT))
zEY:=∀(i:Nat) (a:α),(RX->((p i)=(q a)))
zBM:=∀ i ys zs H H',(eC,qj l zs,D0 l,F i ys H,F i ys H')
zCJ:=∀ e∈L,(∃ k' b,(gf Mh (zsC k') zrh (w8 k' b)))
zHO a:=by rintro ⟨r1,r2⟩ s' ⟨a,rfl,_⟩;simp only at a
zAJ:=∀(l:Addr) (ss':dD),(eC,mM,ss'.Perm ss,(sortedS ss')=true,(yM (i5,l,.lst (ss'.map V.str))))
zCP:=["rows", "letters", "height", "points", "seats"]
zEo:=[Tn,(zN pt.nm),(dR Y),(dR da),(dR qs)]
zMN:=by rintro Z _ (⟨R,rfl,rfl⟩:62)
zBu a b c:=∃(i:Nat) (crowd:dD) (al:dE) (asked:dQ) (v6 v7:f7),(nW,a+i,13,i<=crowd.length,b,c)
zAZ a:=∃(crowd:dD) (al:dE) (asked:dQ) (o1:fS) (r1:fO) (g:Int) (b:Str) (s:Seat) (qs:Addr),a
zDi b c d:=∃(v3 v4 v5 v6 v7 v8:f7),(gf Z [hU,nM,b,v3,v4,v5,v6,v7,v8] c d)
zKV a b c:=by rintro i Z a _ (⟨_,_,_,rfl,b,_⟩:103);ext nI c
zCc a:=∀{L:BP}{m:fD},((∀ c s,(zcD->(P s)))->((∀ x∈L,(P fY))->(zXl a)))
zGm a c:=xe1 (P:=a) (hs:=hsS) zNC (L:=DT) no (λ x b=>c)
zAQ:=∀ H' l',(eC,fZ,fw l',(H' l')=(some (.lst (xdl w h (xee w ps srt prs)))),GX l')
zGl a:=by obtain⟨⟨dx,a⟩,_,⟨kvs,hk,ld⟩,_⟩:=(id lt)
zFi a b:=a/\((d9,(-lN)<=i,i<lN,(-lN)<=j,j<lN)/\b)
zMM a b:=Kp.Rch N7 (.ask a jG 0 0) (.out b)
zEX a b:=by have ak:((trP y ss zU)=zvV):=a;unfold stP;show(dP,ak,sB _ _ b)
zPj:=λ z=>(j _ Uf _ dG z)
zEn:=by refine (nd_map (wa a b) Yr);ext zuU;split at e<;>lia
zGF:=(eC P0 P1 P2 (pj P3 P4 P5 P6))
zGk:=(ja,xjj (s:=kJ) g2 c2 d2 dF ?_)
zML d:=(Aj,a,a,b,b,tIfS c a b d s H)
zHu:=.ins t.C_a L (picF pw O M U)
zFw:=by show(j7,j,a,b,xgl ky ad i x h);ext eB j dk b
zKU a:=by show ((atI (GV G) Ay)=_);exact (xb6 (xmm a))
zLN:=(sS H8 s8 e8 ly8 fy8)
zIw:=by ext rK Zg ey;show(Rb,k',y',ey,rfl,ey)
zFU a:=(ev ρ μ (e.w k l))=((ev ρ μ l)+(k*a))
zJE a:=by rw [Zd,Zd] at hx;ext rW x2 a hx;ext rW s hs a
zDQ:=by ext pi h2;exact(fJ,.int k,H,zxR,iP,q k dk dk dk zbp)
zGE:=(oX pm an cdv ct (vZ osl l c))
zKT b:=by have e:(zj b):=x;show (zsG b);exact (k a _ jr e)
zFv a:=by rw[(eD z)] at hm;have m:(zl\/BI):=a;unfold acr;ext zyn
zQr a b:=by show(vo,k',e',l',id a);ext kd b e' l'
zCD:=(2*CZ)+(O9 (zen,(V.str (xa3 sb))=(V.str "left")))
zBG d e:=by show(dw,c,AD op CmpOp.In,d,a,AD op CmpOp.NotIn,e);cases b<;>simp[behindInMarks,c,a]
zMK:=P0->(pj P1 P2 P3 P4)
zQq:=Inv zfZ pins Z H s
zDn:=by rw[Zd] at U;ext rW o X U;show(eZ,p,m1,m2,m3,M o (Zi X))
zQp a b:=by rintro a rest r s' (⟨b,rfl,hall⟩:43)
zEf:=by rw [(Ja.mpr L),WV] at x;show(ij,_,rfl,zQh,_,?_);ext zEJ
zFT:=by exact(fJ so0 ho0 a1 a2 (re,ZO _ (a3 z hz)))
zMJ a:=a->(g x EY H2 (λ σ' H3=>EX))
zJd:=h x _ m (pV xi) (xwe m j)
zBq:=by show(mf,L,R,T.n_bh,lkP,(ur M (Cg,.inr nm,Z,ZN ((jH pl.len):kvs.length<12) dF)))
zJc a:=by show(MG,a,hG l dk lo (λ j h b=>(hi j dk b)))
zVx d e:=(nZ (zdB a) v d x f c r1 b e)
zBy:=by rw[(decide_eq_true c)];show(Rc,Bool.and_self);exact (Zp (yes (mQ,_,Zi le,b,c▸H)))
zFS:=by have e':=zV;show(fG,sD e' Sq,jY e' J,e')
zJD:=by show(gR,jV,λ u m=>(x _ u (h9 m) m ?_))
zCI c:=by ext rT a;refine (wpAny_execs_cons (thn (h1 a s Z H c I h) (wm f b)))
zEW a b:=(zfr "askers" "asked_by" "gap" "asker" "seat" a b)
zEe:=A++((p1.1,p2.2)::(B++((p2.1,p1.2)::C)))
zJb a:=PE X (Vb name mW) (tBM a T r to t)
zHN:=LRun lens ns own rent so ho
zBC:=by ext zim Z;show(LK,wpAny_eqBool_tuple hu H hk ?_);ext ztO hf;by_cases c:(k'=k)
zJC:=Fit kM ns so ho own rent
zDh a d:=by show(dw,c,wu=k,f.symm.trans e,b,du a q.2,Tf d c);ext fG GM b i
zFR a:=by subst hj;ext fe hi J J;show(UR,Ww U);ext eB u r a
zPi a:=λ x hx qq ⟨kv,y1,y2⟩=>a
zTs b c:=by show(fW,65,_,b,hB _ xi ?_ mI,zMF,c,zDc)
zAL a:=by show(fU,A,(x m.heap.objs.size)=none,v.hok.fresh (Zl _),(Nd,m.heap.objs.size,a,v.laid (t':=m.toks) ztw eV ?_,q _ A))
zAN:=by ext rV a A e;rw[mem_rg] at A;simp only[JE.injEq] at e;obtain⟨⟨rfl,rfl⟩,rfl⟩:=e;show(oS,rfl,A)
zKo b:=(zep _ C (G0 b v (eI I X R j J)))
zPh:=by show(ue,kvs,e,r,s,kvs,h _ e,r)
zGW:=(zbM K2 callerA fa zzZ zAR s₁)
zJB:=by show(dA,A,b,z,h.get u);ext fe y b b
zEV a b c e f:=by obtain⟨a,I,b,c,_⟩:64:=e;refine(gK d a I (yO f ?_));rw[aa];unfold Drw.mark1
zAH:=by ext fe e b b;rw[d] at d';injection d' with d1 _;have:(its=its'):=(EN (AQ Array.toList d1));ext AK;exact (r.inj c)
zFu a b:=⟨(lS z),(fP,a,c,xio e1 (eI j y u ey eu),b)⟩
zEU:=⟨U1,(fJ,k,xs,Kh,q,h _ _ um ?_)⟩
zXr a:=xqx (xcy i) t vs Z H a
zQo:=xue r r' ta tb tc
zGj a:=callWith pos f first (N8 pos a) (zKm pos)
zGD:=∀(a:A0),(lv->(pj o5 uQ A5 Nm))
zEz:=∀(a:A0) (b:A1),(kY->(pj oP uB AB Mm))
zVw a b:=compPost qh X.A X.xe U R a b
zDm:=∀(a:A0) (b:A1) (c:A2),(kP->(pj oM tW zZ Lm))
zCy:=∀(a:A0) (b:A1) (c:A2) (d:A3),(kO->(pj oF tL zB KH))
zKS a b:=by obtain⟨m,⟨o,a,ep,b,r⟩,_⟩:62:=(id I.loc)
zBt:=∀ v u s2 x y H2,(ft,qN H2 s2,xA,j8,R x y H2,(zd,f v u,Q,s2))
zAB a:=∀(X:Cx),(ft,X.prog=P,X.w=w,X.K=K,nh,∀(i:Nat) (pins:eJ) (s:Shared) (Z:St) (H:Hp) (E:eR),(eC,dI,ziX,tn i s.heap,a))
zDK a:=∃ od,(a/\(∀ name,((WD name od)=(some (mA name)))))
zBs:=by simp only[sliceBounds,HT.sIx,Option.getD_none,(zq,uA>0),if_true];by_cases h:(i<0)
zCi:=by obtain⟨_,_,⟨_,_,o,_,_,e,b,_⟩⟩:43:=(uL p hk);ext eB o e b
zCY a:=∃ ox vs,(d9,a,jQ ox.cls C,ox.dict=od,zfq ox.data)
zCb:=λ_ _ _ _ _ ⟨1081,ok,ov,st⟩ h=>(PySem.W.kcp_self st h)
zTr a:=by obtain ⟨a1,a2,a3,a4,a5⟩:45:=a
zNG a b c:=λ i h h' ⟨1042,⟨old,a⟩,b⟩ k=>c
zCO a:=∀ c u,(U3->(ft,c≠X,c≠da,c≠Y,(du,H7 c,u),a))
zBV a:=by generalize S:(jI H1 O a)=H2;ext rY U D S Y;ext zme O Y qJ;ext zvX j U C
zEd a:=(dN,dX names pt.nm,pt∈ps,a,pG,(D8 (pt,s)))
zQn a b:=λ h' m x e=>(D its c hz h' m a b)
zCp:=(pq t [.str ((eA).1),.str (eE eA),sH,.int nR,.int iT])
zFQ a:=by refine (xfi I zI hs (pV x) a);show(rq,xem J e rP,J)
zMI:=λ j y v' J e2 e3=>?_
zFP:=(met mask lO 0 0)=(0,(2 ^ lO)-1)
zEM a:=by simp at e;exact(eP 84 a q rfl e.1.symm e.2.symm h)
zQm:=⟨"",a,M,_,rfl,hp,i8,a,R,x,S,U⟩
zGC:=by have q:=(I.base.frzs d o' u' z);ext rJ q
zEm a b c e:=KdlSrc prog w a b d es.size (λ i v=>(∃ en,(Rt/\(v=c)))) (λ h=>e)
zCo a b:=Turn P w K DX a [e,it] e (λ i h=>((∃ old,(IsEnum h e it i old))/\b))
zCl a:=by show(dA,q,e,b,k 0 y s rfl rfl);show(ue,rs,v,r,a,q::rs,jw e v,.cons b r)
zDJ:=by show(su,U,f1,f2,f3,f4,f5,hf it dG);show(Oj,S,m.length)
zBo a:=by refine (xce n (λ i xs H2=>(∃ qs:dJ,(dN,xs=(qs.map V.ref),qbM,mK,zpq xs,a))) ?_ ?_ ?_ ?_)
zBJ b:=by show(mf,L,j,T.n_be,lkH,(IL,Y,O,l1,dk,iteF (qbB (gW b Y O rfl dk dk true rfl CH))))
zVv a b:=by obtain⟨p,xs,i,z,rfl,rfl,a,b,q⟩:=h
zCN:=(zfs "pairs" "width" "signs" "name" "side" "row")
zBL:=by refine (xmn ?_);refine (hte i _ _ lt (λ p x=>(dB,?_,?_,B _ _ (zVk,qs++[p]))))
zJa a:=(jk a d D z n j L (dY 1062 k e i))
zAY:=⟨Z,_,1,zxU,rfl,rfl,zjh,rfl,Z,_,2,zxT,rfl,rfl,zjh,rfl,Fo,(zaM (gK u p D xi))⟩
zCn:=(((jf yT) == 0)&&(uA == 1))&&((Hu-yT) == items.size)
zKR:=by exact(eP 65 [] rfl eV zAa xi .nil)
zJA a:=by ext zkf;show(qG,qa,a,he,hk,hq,hr,f i k x hx)
zBk a b:=forIn ifs true (λ c r=>(if (r=true) then do let ok <- (isTrue c a b); (UI ok) else (UI r)))
zHM:=xm9 wi zs.length g fr tc te
zLM a:=by have ol:=((a).2);show(GA,nl,nQ,ps.length,zND)
zKQ:=by rintro ⟨a,U⟩ A ⟨d,d'⟩ B e
zBO:=xcp zIs (xcp (zwA (IN xc6 pP)) (xc4 (xg3 xf2 xf2 xar fA xar)))
zEL a:=by show(Mn,i,t,rfl,z);exact (λ A Q E s _ q=>(QK (T:=a) rfl q))
zBE b c:=by show(Ra,R,jN C T.c_g b c jV (dC Z ab));generalize eu:(yd H2 Z zhU vy)=U;ext kQ D ab g3
zBr:=["picture", "one", "other", "name", "side", "row", "theirs", "cell"]
zBN:=by show(dw,e1,its.toArray.size=ds.length,qp,e2,B.toArray.size=es.length,qp)
zAO:=xfw (qI,A4,T.c_o,T.B_at.m,ok_at T,fF,T.B_at.b) (qI,A4,T.c_e,T.ap.m,ok_ap T,fF,T.ap.b)
zHt:=by ext zDN i;ext rW q u i;ext rW p y c
zTq:=hG m p y dk a u
zDP:=∀(a:A0),(lv->(o5->(pj,uQ,A5,Nm,P5 a)))
zCH:=∀(a:A0) (b:A1),(kY->(oP->(pj,uB,AB,Mm,P5 a b)))
zCC:=∀(a:A0) (b:A1) (c:A2),(kP->(oM->(pj tW zZ Lm zya)))
zBZ:=∀(a:A0) (b:A1) (c:A2) (d:A3),(kO->(oF->(pj tL zB KH zuB)))
zAx:=["enumerate", "zip", "dict_itemiterator", "dict_reverseitemiterator", "odict_iterator", "itertools.zip_longest", "itertools.pairwise"]
zAK a c:=by obtain⟨_,m,⟨a,_,j⟩⟩:43:=c;show(gG,j.typeIs,pY q,m);cases q;obtain⟨ob,_,_,u,n,_⟩:103:=j;show(eB,ob,u,eE n)
zKP:=[a0,a1,a2,a3,a4,a5,a6]
zFO:=(xnz scope sc0 N0 zs ys fr)=true
zCx a b c d:=(eP,let ⟨dx,a⟩:=p.ins; b,let ⟨c,a,q⟩:=p.pl; d,p.w1,p.w2,p.h1,p.h2,p.len)
zBf:=(dN,wD eA fM,fw eA,zuV eA,eA∉X.fs,∀ v,(((fM).data)≠(.cell v)))
zHL a b:=PE X (zmR m a pos) (xms C m sp dvs E ta b)
zBj a b:=xu xnt yB (mh (lF "_law_k" ["_law_row", "_law_x"] [3,4] zjQ s_ba) a lu kX i7 (Nb b nN))
zLL a:=by show(iu,o,g,T.obj 0 _ ab b D);exact (Z3 a)
zCh:=by show(jb,(ja,Zp (h _ ?_ (ZV.update _ _ _))),(Ai,Jv _ j rfl,?_));rfl
zLK:=λ i H v H' lt s y=>?_
zZz:=by ext su U S f2 Q P O fo
zCX:=xof T.k_n (ok_aq T) fF rfl T.g_n T.aq.b .nil xq
zCw:=by show(mG,σ3,m,J,z,q);show(ue,B,C,y,K σ3 m z,B,C,fP σ3 m J y)
zBA a:=by ext jd j;refine (wpAny_Call_method m.base m.few m.line JW Yt PySem.F.type_dict_get a)
zBY:=by rw[(Qa (Z2 hj))] at e2;show(dA,u',r',q,hl j y v' J e2 e3);ext iF u' r'
zKO a c:=by show(qR,L,B,A,v,a,hB c (ib B) (zwC A) (sY b))
zNF a b:=λ us m ⟨1084,xs,x,v,r,z,a⟩=>b
zIZ:=λ A i s Q E st h=>(WG st h)
zIY:=(gW 105 q R ep x P O M L)
zEy:=I.turned (mO,f,kk b o Id e) O M L J D
zBp b:=⟨a,L,_,rfl,j,i8,a,M,U,pw,O,ps,nm,x,y,rfl,I,λ p j _=>((no p j).2),(dC H1 b)⟩
zIX:=λ i H2 lt s N M h1 h2=>?_
zDg:=λ i h h' ⟨1081,ok,ov,st⟩ k=>(dB ok ov zsn)
zXq:=by intro i s ek le st O D A
zBc a c:=xjj (s:=(DS Q)) (n:="range_iterator") j rfl rfl dF (iY,85,a,H,Y,c,vq,j,λ b f=>((q b f).1))
zCv a:=wpAny_collect_seq d (T:="list") jr el rfl rfl (dC h1 keep) a
zIv:=by rintro i v Z _ U (⟨R,rfl,rfl⟩:62)
zFt a:=∀ H' qs,(yj (zss zAh zAi da IV) zmq a zVl qs)
zAw c:=by show(gL,all,xjg (xs:=ds) (ys:=es) (e:=IT) (λ j x y h1 M=>(xjo h1 M)),both,(ZS A s eQ qS zux)/\(ZG A s eQ qS (! zux)),c);simp only[dEq];show(gR,?_,both);by_cases q:oa
zAr:=by show(eX,Jk C B ?_);ext TJ C B;ext ud;rw[Std.Legacy.Range.forIn_eq_forIn_range'];simp only[Std.Legacy.Range.size,Nat.sub_zero,Nat.add_sub_cancel,Nat.div_one];exact (U _ (λ h' a b=>(Zp (hQ h' a b))))
zDI a b:=by ext BS hy Z S;ext dA p' ad hq a;ext fe D ad ad;ext yw Z b
zFh a d:=by intro c s e;refine (xc1 (P:=a) (L:=uh) ztt (λ x b=>d) c s e)
zBD a:=⟨a,I.os,I.bare,I.base,I.loc,I.cell,I.free,I.freeC,I.pin,I.hok,I.len⟩
zDB a:=(Mz,xjr (xbu hr) rfl rfl T.n_len rfl T.n_set a,GG a)
zAG:=by ext zHK;exact (wpAny_pyNext_range_end (I.ok.hd A) st (by have:(n<=i):=y;lia) (λ h' U=>(hR (tw (mO,f,U b o f e) O M L J D))))
zBe a:=by ext qbC c;refine (WZ (h₀:=X.base) I.ok.mod.kin a (nZ ziY us u vs z j r q (jy j.kIn)) he hpl)
zAs a b:=by refine (zjJ p C _ (gT y T.c_n T.n_bk lkSo (vZ v (CI,k1,.inl L) (kB a b))));show(fW,p,_,C,_,_,rfl,gT y T.c_n T.n_bk lkSo (gK v H2 as ?_));show(fW,p,_,C,_,_,rfl,gT ac T.c_n T.n_bi lkHo (gK D H3 ar ?_))
zAt c d e f:=c\/(∃(qs:Addr) (s:Seat) (a:Str) (so1:fh) (ho1:dQ) (n1:Nat),(oU,jQ O qs,d,vh,e,Kp.Hand room (λ z=>zsq) so1 ho1 s,∀ b,(((I b)<=(I a))->((so1 b)=(j b))),f,(n1+(I a))<=(n+20),zEb zcC))
zAU:=["rows", "letters", "row", "column", "sign", "name", "place", "picture", "pairs"]
zCg:=by rintro xs H2 (⟨qs,rfl,_,q,j,y⟩:65);show(dO,eV,fin H2 qs q j y)
zCB:=by ext gc;rw[gq] at q;show(dP,eD dG,xnr xs ys _ _ dW i0 r r' q)
zAz:=by show(ij,nm,rfl,hn,true,CH);show(jb,⟨a,L,_,rfl,j,i8,a,M,U,pw,O,ps,x,y,rfl,I,x1,x2,y1,y2,?_⟩,(Lr,nK,iteF (eY,.inr sd,rfl,false,ib aa,CH)))
zMH a b c:=(nZ,hc f D Z n _ j i,A,B,q,a,b,K,M,c)
zAu a:=wpAny qh X.A.in1 (a>>=(λ l=>((DI,[l],call (.builtin "list.sort") [l] [])>>=(λ_=>(ret l))))) (λ fin s'=>(∃ v,((fin=(Fin.done (Flow.ret v)))/\(RS v s')))) X.xe zhG
zAD a:=by ext zHK;have W:=(Walks.range (prog:=X.prog) (w:=X.w) (I.ok.hd A) it lo a n);refine (W.item i s _ _ y st (λ v h' Q S j kk=>?_));ext iG S
zAV:=λ_ _ _ _ tp ⟨q,qs,s,l,z1,z2,z3,z4⟩=>(gW 124 q qs s l z1 (o8 z2) (o8 z3) z4)
zAy:=l.map (λ(m,k)=>(if (((k == WS)&&(env.scope.kind == .function))&&((env.kindOf m) == (some .cell))) then (m,NameKind.cell) else (m,k)))
zAp a b:=by obtain⟨n,X⟩:(∃ n:Nat,(nO=NW)):=⟨(NW).toNat,RU⟩;have O:((Mj NW)=iZ):=dk;show a;rw[O];have Y:(n<17):=(by split at X<;>lia);refine (xdf (λ k=>(x,y+(b*(0+(eg k))))) S dk (λ i H R _ k=>(dB Rr jV k)) (eI H4 qs1 s4 hu4 cu4))
zAE a:=∀ H' own' rent' so' ho' asked s,((F5 H H' dl d_o d_r d1 d2)->(ft,a,zBU kM,zlF kM zuu,Fit kM vp so' ho' own' rent',se))
zAv:=⟨ok.mod,ok.kind,ok.glob,ok.blt,ok.above,ok.inj,ok.has,ok.cab,ok.hd,ok.frames,ok.stk,ok.exf,ok.bs,ok.bsz,ok.noex,ok.exfs,ok.funs,ok.frf⟩
zAC:=(Bv,D.map V.ref,λ i Z H3=>(∃ R:f7,((Z=[hU,(zN nm),(hO x),(hO y),nM,R])/\(O=H3))),Sl,λ_ _ _ _ ⟨_,_,z⟩=>(qbI C))
zAq:=by show(vz,x,hx,P,xh8 r1 h1,y,hy,D,xh8 r2 M);show(dw,U,j<ds.length,P7 h1,S,j<es.length,P7 M);show(dP,xjo (Zb U) (Zb S),(ih j x _ hx (Zb U) (k j y _ hy (Zb S)) (A:=A.in1) (zru,((A.units+1)+n)+m) P D).1)
def n42  {P0 P1:Prop} (h0:P0) (h1:P1):P0/\P1:=MV h1
def i42  {P0 P1:Prop}{C:Prop} (k:P0->P1->C):(P0/\P1)->C:=λ h=>k iA i0
def j42  {P0 P1:Prop}{C:Prop} (z:P0/\P1) (k:P0->P1->C):C:=i42 k z
def n43  {P0 P1 P2:Prop} (h0:P0) (h1:P1) (h2:P2):zrD:=(MV,n42 h1 h2)
def i43  {P0 P1 P2:Prop}{C:Prop} (k:zTN):zrD->C:=λ h=>i42 (k iA) i0
def j43  {P0 P1 P2:Prop}{C:Prop} (z:zrD) (k:zTN):C:=i43 k z
def n44  {P0 P1 P2 P3:Prop} (h0:P0) (h1:P1) (h2:P2) (h3:P3):zoI:=(MV,n43 h1 h2 h3)
def i44  {P0 P1 P2 P3:Prop}{C:Prop} (k:zRP):zoI->C:=λ h=>i43 (k iA) i0
def j44  {P0 P1 P2 P3:Prop}{C:Prop} (z:zoI) (k:zRP):C:=i44 k z
def n45  {P0 P1 P2 P3 P4:Prop} (h0:P0) (h1:P1) (h2:P2) (h3:P3) (h4:P4):znm:=(MV,n44 h1 h2 h3 h4)
def i45  {P0 P1 P2 P3 P4:Prop}{C:Prop} (k:zMK):znm->C:=λ h=>i44 (k iA) i0
def j45  {P0 P1 P2 P3 P4:Prop}{C:Prop} (z:znm) (k:zMK):C:=i45 k z
def n46  {P0 P1 P2 P3 P4 P5:Prop} (h0:P0) (h1:P1) (h2:P2) (h3:P3) (h4:P4) (h5:P5):zmf:=(MV,n45 h1 h2 h3 h4 h5)
def i46  {P0 P1 P2 P3 P4 P5:Prop}{C:Prop} (k:(ft,P0,P1,P2,P3,P4->P5->C)):zmf->C:=λ h=>i45 (k iA) i0
def j46  {P0 P1 P2 P3 P4 P5:Prop}{C:Prop} (z:zmf) (k:P0->P1->(pj P2 P3 P4 P5)):C:=i46 k z
def n47  {P0 P1 P2 P3 P4 P5 P6:Prop} (h0:P0) (h1:P1) (h2:P2) (h3:P3) (h4:P4) (h5:P5) (h6:P6):zli:=(MV,n46 h1 h2 h3 h4 h5 h6)
def i47  {P0 P1 P2 P3 P4 P5 P6:Prop}{C:Prop} (k:zGF):zli->C:=λ h=>i46 (k iA) i0
def j47  {P0 P1 P2 P3 P4 P5 P6:Prop}{C:Prop} (z:zli) (k:zGF):C:=i47 k z
def n61 {A0:Type}{P0:mH} (a:A0) (h0:lv):qbA:=jt h0
def i61 {A0:Type}{P0:mH}{C:Prop} (k:zUz):Kt lv:=(jv,k a h)
def j61 {A0:Type}{P0:mH}{C:Prop} (z:qbA) (k:zUz):C:=i61 k z
def n62 {A0:Type}{P0 P1:mH} (a:A0) (h0:lv) (h1:o5):zTh:=(jt,n42 h0 h1)
def i62 {A0:Type}{P0 P1:mH}{C:Prop} (k:zLY):(Kt,lv/\o5):=(jv,i42 (k a) h)
def j62 {A0:Type}{P0 P1:mH}{C:Prop} (z:zTh) (k:zLY):C:=i62 k z
def n63 {A0:Type}{P0 P1 P2:mH} (a:A0) (h0:lv) (h1:o5) (h2:uQ):qbz:=(jt,n43 h0 h1 h2)
def i63 {A0:Type}{P0 P1 P2:mH}{C:Prop} (k:zJj):Kt qbG:=(jv,i43 (k a) h)
def j63 {A0:Type}{P0 P1 P2:mH}{C:Prop} (z:qbz) (k:zJj):C:=i63 k z
def n64 {A0:Type}{P0 P1 P2 P3:mH} (a:A0) (h0:lv) (h1:o5) (h2:uQ) (h3:A5):qby:=(jt,n44 h0 h1 h2 h3)
def i64 {A0:Type}{P0 P1 P2 P3:mH}{C:Prop} (k:zIx):Kt zTl:=(jv,i44 (k a) h)
def j64 {A0:Type}{P0 P1 P2 P3:mH}{C:Prop} (z:qby) (k:zIx):C:=i64 k z
def n65 {A0:Type}{P0 P1 P2 P3 P4:mH} (a:A0) (h0:lv) (h1:o5) (h2:uQ) (h3:A5) (h4:Nm):qbx:=(jt,n45 h0 h1 h2 h3 h4)
def i65 {A0:Type}{P0 P1 P2 P3 P4:mH}{C:Prop} (k:zGD):Kt zPa:=(jv,i45 (k a) h)
def j65 {A0:Type}{P0 P1 P2 P3 P4:mH}{C:Prop} (z:qbx) (k:zGD):C:=i65 k z
def n66 {A0:Type}{P0 P1 P2 P3 P4 P5:mH} (a:A0) (h0:lv) (h1:o5) (h2:uQ) (h3:A5) (h4:Nm) (h5:P5 a):qbw:=(jt,n46 h0 h1 h2 h3 h4 h5)
def i66 {A0:Type}{P0 P1 P2 P3 P4 P5:mH}{C:Prop} (k:zDP):Kt zIq:=(jv,i46 (k a) h)
def j66 {A0:Type}{P0 P1 P2 P3 P4 P5:mH}{C:Prop} (z:qbw) (k:zDP):C:=i66 k z
def n81 {A0 A1:Type}{P0:mE} (a:A0) (b:A1) (h0:kY):zOW:=(jt,n61 b h0)
def i81 {A0 A1:Type}{P0:mE}{C:Prop} (k:zLu):HR kY:=(jv,i61 (k a) h)
def j81 {A0 A1:Type}{P0:mE}{C:Prop} (z:zOW) (k:zLu):C:=i81 k z
def n82 {A0 A1:Type}{P0 P1:mE} (a:A0) (b:A1) (h0:kY) (h1:oP):zKI:=(jt,n62 b h0 h1)
def i82 {A0 A1:Type}{P0 P1:mE}{C:Prop} (k:zHz):(HR,kY/\oP):=(jv,i62 (k a) h)
def j82 {A0 A1:Type}{P0 P1:mE}{C:Prop} (z:zKI) (k:zHz):C:=i82 k z
def n83 {A0 A1:Type}{P0 P1 P2:mE} (a:A0) (b:A1) (h0:kY) (h1:oP) (h2:uB):zOV:=(jt,n63 b h0 h1 h2)
def i83 {A0 A1:Type}{P0 P1 P2:mE}{C:Prop} (k:zFY):HR qbF:=(jv,i63 (k a) h)
def j83 {A0 A1:Type}{P0 P1 P2:mE}{C:Prop} (z:zOV) (k:zFY):C:=i83 k z
def n84 {A0 A1:Type}{P0 P1 P2 P3:mE} (a:A0) (b:A1) (h0:kY) (h1:oP) (h2:uB) (h3:AB):zOU:=(jt,n64 b h0 h1 h2 h3)
def i84 {A0 A1:Type}{P0 P1 P2 P3:mE}{C:Prop} (k:zFx):HR zTk:=(jv,i64 (k a) h)
def j84 {A0 A1:Type}{P0 P1 P2 P3:mE}{C:Prop} (z:zOU) (k:zFx):C:=i84 k z
def n85 {A0 A1:Type}{P0 P1 P2 P3 P4:mE} (a:A0) (b:A1) (h0:kY) (h1:oP) (h2:uB) (h3:AB) (h4:Mm):zOT:=(jt,n65 b h0 h1 h2 h3 h4)
def i85 {A0 A1:Type}{P0 P1 P2 P3 P4:mE}{C:Prop} (k:zEz):HR zOZ:=(jv,i65 (k a) h)
def j85 {A0 A1:Type}{P0 P1 P2 P3 P4:mE}{C:Prop} (z:zOT) (k:zEz):C:=i85 k z
def n86 {A0 A1:Type}{P0 P1 P2 P3 P4 P5:mE} (a:A0) (b:A1) (h0:kY) (h1:oP) (h2:uB) (h3:AB) (h4:Mm) (h5:P5 a b):zOS:=(jt,n66 b h0 h1 h2 h3 h4 h5)
def i86 {A0 A1:Type}{P0 P1 P2 P3 P4 P5:mE}{C:Prop} (k:zCH):HR zHs:=(jv,i66 (k a) h)
def j86 {A0 A1:Type}{P0 P1 P2 P3 P4 P5:mE}{C:Prop} (z:zOS) (k:zCH):C:=i86 k z
def n101 {A0 A1 A2:Type}{P0:mw} (a:A0) (b:A1) (c:A2) (h0:kP):zIU:=(jt,n81 b c h0)
def i101 {A0 A1 A2:Type}{P0:mw}{C:Prop} (k:zHr):HE kP:=(jv,i81 (k a) h)
def j101 {A0 A1 A2:Type}{P0:mw}{C:Prop} (z:zIU) (k:zHr):C:=i101 k z
def n102 {A0 A1 A2:Type}{P0 P1:mw} (a:A0) (b:A1) (c:A2) (h0:kP) (h1:oM):zGV:=(jt,n82 b c h0 h1)
def i102 {A0 A1 A2:Type}{P0 P1:mw}{C:Prop} (k:zFc):(HE,kP/\oM):=(jv,i82 (k a) h)
def j102 {A0 A1 A2:Type}{P0 P1:mw}{C:Prop} (z:zGV) (k:zFc):C:=i102 k z
def n103 {A0 A1 A2:Type}{P0 P1 P2:mw} (a:A0) (b:A1) (c:A2) (h0:kP) (h1:oM) (h2:tW):zIT:=(jt,n83 b c h0 h1 h2)
def i103 {A0 A1 A2:Type}{P0 P1 P2:mw}{C:Prop} (k:zEi):HE qbE:=(jv,i83 (k a) h)
def j103 {A0 A1 A2:Type}{P0 P1 P2:mw}{C:Prop} (z:zIT) (k:zEi):C:=i103 k z
def n104 {A0 A1 A2:Type}{P0 P1 P2 P3:mw} (a:A0) (b:A1) (c:A2) (h0:kP) (h1:oM) (h2:tW) (h3:zZ):zIS:=(jt,n84 b c h0 h1 h2 h3)
def i104 {A0 A1 A2:Type}{P0 P1 P2 P3:mw}{C:Prop} (k:zDR):HE zTj:=(jv,i84 (k a) h)
def j104 {A0 A1 A2:Type}{P0 P1 P2 P3:mw}{C:Prop} (z:zIS) (k:zDR):C:=i104 k z
def n105 {A0 A1 A2:Type}{P0 P1 P2 P3 P4:mw} (a:A0) (b:A1) (c:A2) (h0:kP) (h1:oM) (h2:tW) (h3:zZ) (h4:Lm):zIR:=(jt,n85 b c h0 h1 h2 h3 h4)
def i105 {A0 A1 A2:Type}{P0 P1 P2 P3 P4:mw}{C:Prop} (k:zDm):HE zOY:=(jv,i85 (k a) h)
def j105 {A0 A1 A2:Type}{P0 P1 P2 P3 P4:mw}{C:Prop} (z:zIR) (k:zDm):C:=i105 k z
def n106 {A0 A1 A2:Type}{P0 P1 P2 P3 P4 P5:mw} (a:A0) (b:A1) (c:A2) (h0:kP) (h1:oM) (h2:tW) (h3:zZ) (h4:Lm) (h5:zya):zIQ:=(jt,n86 b c h0 h1 h2 h3 h4 h5)
def i106 {A0 A1 A2:Type}{P0 P1 P2 P3 P4 P5:mw}{C:Prop} (k:zCC):HE zKK:=(jv,i86 (k a) h)
def j106 {A0 A1 A2:Type}{P0 P1 P2 P3 P4 P5:mw}{C:Prop} (z:zIQ) (k:zCC):C:=i106 k z
def n121 {A0 A1 A2 A3:Type}{P0:mq} (a:A0) (b:A1) (c:A2) (d:A3) (h0:kO):zFN:=(jt,n101 b c d h0)
def i121 {A0 A1 A2 A3:Type}{P0:mq}{C:Prop} (k:zET):Ho kO:=(jv,i101 (k a) h)
def j121 {A0 A1 A2 A3:Type}{P0:mq}{C:Prop} (z:zFN) (k:zET):C:=i121 k z
def n122 {A0 A1 A2 A3:Type}{P0 P1:mq} (a:A0) (b:A1) (c:A2) (d:A3) (h0:kO) (h1:oF):zEI:=(jt,n102 b c d h0 h1)
def i122 {A0 A1 A2 A3:Type}{P0 P1:mq}{C:Prop} (k:zDF):(Ho,kO/\oF):=(jv,i102 (k a) h)
def j122 {A0 A1 A2 A3:Type}{P0 P1:mq}{C:Prop} (z:zEI) (k:zDF):C:=i122 k z
def n123 {A0 A1 A2 A3:Type}{P0 P1 P2:mq} (a:A0) (b:A1) (c:A2) (d:A3) (h0:kO) (h1:oF) (h2:tL):zFM:=(jt,n103 b c d h0 h1 h2)
def i123 {A0 A1 A2 A3:Type}{P0 P1 P2:mq}{C:Prop} (k:zDd):Ho qbD:=(jv,i103 (k a) h)
def j123 {A0 A1 A2 A3:Type}{P0 P1 P2:mq}{C:Prop} (z:zFM) (k:zDd):C:=i123 k z
def n124 {A0 A1 A2 A3:Type}{P0 P1 P2 P3:mq} (a:A0) (b:A1) (c:A2) (d:A3) (h0:kO) (h1:oF) (h2:tL) (h3:zB):zFL:=(jt,n104 b c d h0 h1 h2 h3)
def i124 {A0 A1 A2 A3:Type}{P0 P1 P2 P3:mq}{C:Prop} (k:zCZ):Ho zTi:=(jv,i104 (k a) h)
def j124 {A0 A1 A2 A3:Type}{P0 P1 P2 P3:mq}{C:Prop} (z:zFL) (k:zCZ):C:=i124 k z
def n125 {A0 A1 A2 A3:Type}{P0 P1 P2 P3 P4:mq} (a:A0) (b:A1) (c:A2) (d:A3) (h0:kO) (h1:oF) (h2:tL) (h3:zB) (h4:KH):zFK:=(jt,n105 b c d h0 h1 h2 h3 h4)
def i125 {A0 A1 A2 A3:Type}{P0 P1 P2 P3 P4:mq}{C:Prop} (k:zCy):Ho zOX:=(jv,i105 (k a) h)
def j125 {A0 A1 A2 A3:Type}{P0 P1 P2 P3 P4:mq}{C:Prop} (z:zFK) (k:zCy):C:=i125 k z
def n126 {A0 A1 A2 A3:Type}{P0 P1 P2 P3 P4 P5:mq} (a:A0) (b:A1) (c:A2) (d:A3) (h0:kO) (h1:oF) (h2:tL) (h3:zB) (h4:KH) (h5:zuB):zFJ:=(jt,n106 b c d h0 h1 h2 h3 h4 h5)
def i126 {A0 A1 A2 A3:Type}{P0 P1 P2 P3 P4 P5:mq}{C:Prop} (k:zBZ):Ho zKJ:=(jv,i106 (k a) h)
def j126 {A0 A1 A2 A3:Type}{P0 P1 P2 P3 P4 P5:mq}{C:Prop} (z:zFJ) (k:zBZ):C:=i126 k z
namespace L2
open PySem PySem.Spec PyProof.Rows
variable {q0:Bool}
noncomputable abbrev Key:=Sum Int Str
noncomputable def xg4:AN Key Value
 | ziM,v=>Value.isInt k v
 | Av,v=>Value.isStrOf x v
noncomputable def keyH (w:World):Key->Int
 | ziM=>hashInt k
 | Av=>hashStr w x
theorem xb0:∀{k:Key}{v:Value},xg4 k v=true->(∃ i t,k=Qu i/\v=Qr i t)\/(∃ x t,k=Jd x/\v=We x t)
 | .inl i,v,h=>by
  show(lK,t,Value.isInt_shape (k:=i) (v:=v) h);show(iE,fP i t rfl e)
 | Av,v,h=>by
  show(lK,t,Value.isStrOf_shape (x:=x) (v:=v) h);show(hX,fP x t rfl e)
def xs8 (i:Int) (t:Tok):xg4 (.inl i) zgc=true:=by simp[xg4,Value.isInt]
def xsn (x:Str) (t:Tok):xg4 (.inr x) (.str x t)=true:=by simp[xg4,Value.isStrOf]
def x0y (a b:Int):decide zRh=LT:=by
 by_cases e:oa
 .ext gc; simp
 .have h:¬ zRh:=λ q=>e (Qu.inj q);show(dP,zow,(beq_eq_false_iff_ne.mpr e).symm)
def x1h (a b:Str):sN (gM zor) oa:=by
 by_cases e:oa
 .ext gc; simp
 .have h:¬ zor:=λ q=>e (Jd.inj q);rw[zow,decide_eq_false e]
def x0f (a:Int) (b:Str):PX ((Qu a:Key)=Jd b):=zGd
def x00 (a:Str) (b:Int):PX ((Jd a:Key)=Qu b):=zGd
noncomputable def xak (prog:Program) (w:World):PySem.KeyKind prog w Key where
 is:=xg4
 hash:=keyH w
 inj:=λ v a b q m=>by
  rcases xb0 q with⟨i,t,rfl,rfl⟩|⟨x,t,rfl,rfl⟩
  .rcases xb0 m with⟨j,u,rfl,e⟩|⟨y,u,rfl,e⟩
   .ext zqA; rw[e1]
   .ext zyl
  .rcases xb0 m with⟨j,u,rfl,e⟩|⟨y,u,rfl,e⟩
   .ext zyl
   .ext zqA; rw[e1]
 byValue:=λ k v h=>by
  rcases xb0 h with⟨i,t,rfl,rfl⟩|⟨x,t,rfl,rfl⟩<;>rfl
 pyHash:=λ f h=>by
  rcases xb0 f with⟨i,t,rfl,rfl⟩|⟨x,t,rfl,rfl⟩
  .exact wpAny_pyHash_int h
  .exact wpAny_pyHash_str h
 eqBool:=λ p f h=>by
  rcases xb0 p with⟨i,t,rfl,rfl⟩|⟨x,t,rfl,rfl⟩
  .rcases xb0 f with⟨j,u,rfl,rfl⟩|⟨y,u,rfl,rfl⟩
   .ext j4 x0y; exact wpAny_eqBool_int h
   .ext j4 x0f; exact Z8.int_str i t y u _ _ _ _ h
  .rcases xb0 f with⟨j,u,rfl,rfl⟩|⟨y,u,rfl,rfl⟩
   .ext j4 x00; exact Z8.str_int x t j u _ _ _ _ h
   .ext j4 x1h; exact wpAny_eqBool_str h
 «strs»:=λ k x t v h=>by
  rcases xb0 h with⟨i,u,rfl,e⟩|⟨y,u,rfl,e⟩
  .ext zyl
  .ext zqA
   subst e1;cases v<;>rfl
def xo3 (prog:Program) (w:World) (i:Int) (t:Tok):(xak prog w).is (.inl i) zgc=true:=xs8 i t
def xo1 (prog:Program) (w:World) (x:Str) (t:Tok):(xak prog w).is (.inr x) (.str x t)=true:=xsn x t
inductive V where
 | non|bl (b:Bool)|int (i:Int)|str (x:Str)|byt (b:Array UInt8)|flt (b:UInt64)|ref (a:Addr)|ty (n:String)
 deriving DecidableEq
noncomputable def RelV:qaN
 | .non,u=>u=JJ
 | yl,u=>u=YI b
 | iC,u=>O7
 | qT,u=>zqW
 | .byt b,u=>zLA
 | .flt b,u=>zLz
 | eQ,u=>u=Zw a
 | .ty n,u=>zSn
noncomputable abbrev Vals:gQ dz d4:=Paired RelV
def Vals.length {xs:dz}{us:d4} (r:nF):xs.length=us.length:=Yf r
theorem Vals.get:∀{xs:dz}{us:d4}{i:Nat}{x:V},nF->B3->∃ u,(dX us u)/\sj
 | _,_,_,_,.nil,e=>K3
 | _,_,0,_,zvF,e=>by ext E0; exact ja r
 | _,_,dW,x,KQ,e=>by
  show(ue,u,b,a,Vals.get (i:=i) (x:=x) t yZ,u,Ow,a)
theorem Vals.set {x:V}{u:Value} (r:sj):(zPQ,nF->Vals (xs.set i x) (us.set i u))
 | _,_,_,.nil=>.nil
 | _,_,0,KQ=>wW
 | _,_,dW,.cons q t=>.cons q (Vals.set r i t)
theorem Vals.append:∀{xs ys:dz}{us ws:d4},nF->Vals ys ws->Vals (xs++ys) (us++ws)
 | _,_,_,_,.nil,s=>s
 | _,_,_,_,wW,s=>.cons r (Vals.append t s)
theorem Vals.take:(zPP,nF->Vals (xs.take n) (us.take n))
 | _,_,0,_=>.nil
 | _,_,_+1,.nil=>.nil
 | _,_,iZ,wW=>.cons r (Vals.take n t)
theorem Vals.drop:(zPP,nF->Vals (xs.drop n) (us.drop n))
 | _,_,0,r=>r
 | _,_,_+1,.nil=>.nil
 | _,_,iZ,KQ=>Vals.drop n t
noncomputable def RelO:gQ f7 BU
 | Au,some u=>pF
 | none,none=>True
 | _,_=>False
noncomputable def KV {κ:Type}:gQ je Cp:=Paired λ(p:zyW) (q:κ × Value)=>eA=wu/\zYC
noncomputable def kV:Key->V
 | .inl i=>iC
 | Av=>qT
inductive HO where
 /-- a list -/
 | lst (xs:dz)
 /-- a tuple (never changes) -/
 | tup (xs:dz)
 /-- a dict whose keys are ints and texts; one whose keys are tuples of ints and texts (the empty one is both) -/
 | dK (kvs:eG)|dT (kvs:gJ)
 /-- a set of ints: its members,its size -/
 | set (S:Int->Bool) (n:Nat)
 /-- an instance of the class at C,its dict at dx,its attributes -/
 | ins (C dx:Addr) (fs:oE)
 /-- the dict of the instance at x -/
 | own (x:Addr)
 /-- the dict of an exception -/
 | xd (fs:oE)
 /-- a bound method,f of x -/
 | met (f x:Addr)
 /-- a range object lo,lo+1,.. below hi -/
 | rng (lo hi:Int)
 /-- a thing that is known to the object (the script; a dict while a loop walks it): read,never written while it is so -/
 | frz (o:Obj) (u:HO)
 /-- a code object's table -/
 | tbl (ps:oC)
 /-- any other thing,by what is true of its one object (a def of one's own: SetO a S n:=HO.ext λh=>..) -/
 | ext (φ:oh Heap)
noncomputable abbrev Hp:=Addr->(hW HO)
noncomputable def upd (H:Hp) (a:Addr) (o:HO):Hp:=λ b=>(jq,b,a,some o,wt)
def xi {H:Hp}{a:Addr}{o:HO}:(du,upd H a o a,o):=by unfold upd; rw[gq]
def xg {H:Hp}{a b:Addr}{o:HO} (h:b≠a):upd H a o b=H b:=by unfold upd; rw[zfV]
def xd9 {H:Hp}{a:Addr}{o u:HO}:upd Ld a u=(i5 a u):=by
 funext b; unfold upd; split<;>rfl
def xem {H:Hp}{a b:Addr}{o u:HO} (h:Sc) (h':pH) (d:o≠u):GI:=by
 intro e; ext gc; show(eW,h,h',d (ZM.inj h'))
def xb {H:Hp}{a b:Addr}{o:HO} (h:Sc) (h':iS):GI:=by
 intro e; ext gc; ext js h h' h'
section
variable (P:Program) (w:World)
noncomputable def xa9 (H:Hp) (h:Heap) (a:Addr):oh HO
  | .lst xs=>y0/\(zpS,EQ/\(zj DQ))
  | .tup xs=>y0/\∃ its:d4,EQ/\IsTup h a its.toArray
  | FK=>zkU
  | zhe=>Ip/\Me/\∃ xs:qu,
      Paired (λ(p:iB × V) (q:iB × EB)=>gf eA wu (eO (eE q) (.tup ((eA).map kV))) zWF) kvs xs /\
      ∃ o es ep,TZ/\o.ExactDict/\nA/\es.toList=xs.map (entryOfKey (tupleKind xN))/\(xs.map (·.1)).Nodup
  | .set S n=>h.SetOf (intKind P w) a S n
  | RY=>(Ep dx a)/\zbm/\dx≠a/\(zj zyG) /\
      ∃ mA,zdd/\NB/\Wo mA (fs.map (·.1))
  | .own _=>∃ o,TZ
  | .xd fs=>∃ mA,h.Ns1 a mA/\NB
  | zui=>∃ t u v,zj (Ss "range" (zLJ 1))
  | Sm=>TZ/\xa9 H h a u
  | .tbl ps=>zj zlc
  | .met f x=>zj (zPd uw)
  | .ext φ=>φ h/\(∃ o,TZ)/\∀ h1 h2:Heap,φ h1->(∀ o,(du,h1.get? a,o)->(du,h2.get? a,o))->φ h2
noncomputable def HOk (H:Hp) (h:Heap):Prop:=∀ a o,Sc->zpD
#check _
section
variable {P:Program}{w:World}{H H':Hp}{h h':Heap}{a:Addr}{o:HO}
theorem xa9.lt (x:zpD):zYV:=by
 cases o with
 | lst xs=>obtain⟨_,_,_,_,e⟩:=x; ext AJ
 | tup xs=>obtain⟨_,_,_,p⟩:=x; exact p.lt
 | dK kvs=>ext zEA
 | dT kvs=>ext zEA
 | set S n=>obtain⟨o,_,_,_,e,_⟩:122:=x; ext AJ
 | ins C dx fs=>obtain⟨_,_,_,e,_⟩:45:=x; ext AJ
 | own y=>obtain⟨_,e⟩:=x; ext AJ
 | xd fs=>obtain⟨_,⟨_,_,_,e,_⟩,_⟩:62:=x; ext AJ
 | rng lo hi=>obtain⟨_,_,_,e⟩:101:=x; ext AJ
 | frz ob u=>obtain⟨e,_⟩:=x; ext AJ
 | tbl ps=>ext zPu
 | met f y=>ext zPu
 | ext φ=>obtain⟨_,⟨_,e⟩,_⟩:43:=x; ext AJ
theorem Paired.mapP {α β:Type}{F G:gQ α β}:∀{l₁:fc}{l₂:FR},Paired F l₁ l₂->(∀ a b,F a b->G a b)->Paired G l₁ l₂
 | _,_,.nil,_=>.nil
 | _,_,wW,f=>.cons (f _ _ r) (Paired.mapP t f)
theorem xa9.stay (x:zpD) (k:∀ b u,(b=a\/(Ep b a))->(du,h.get? b,u)->(du,h'.get? b,u))
    (ho:∀ b,(Ep b a)->H' b=some (.own a)) (ht:NC):xa9 P w H' h' a o:=by
  induction o with
  | lst xs=>ext zqt x; show(dO,z,fP its n r vt)
  | tup xs=>obtain⟨z,its,r,ob,e,c⟩:=x; exact gm z its r ob vt c
  | dK kvs=>obtain⟨z,y,⟨vs,r,ob,A,ep,e,c⟩⟩:43:=x; exact(eY,z,y,vs,r,zdr ob vt)
  | dT kvs =>
    obtain⟨z,y,⟨xs,r,ob,A,ep,e,c⟩⟩:43:=x;exact(eY,z,y,xs,Paired.mapP r λ p q z=>(dB,iM,ht _ _ sG,qQ),zdr ob vt)
  | set S n=>obtain⟨ob,A,ep,t,e,c⟩:122:=x; exact eP 122 ob A ep t vt c
  | ins C dx fs =>
    obtain⟨d,z,D,e,⟨B,⟨od,A,ep,I,c⟩,r⟩⟩:45:=x;exact(gT,ho _ d,z,D,vt,dB B (zdr,od,k _ _ (.inr d) I) r)
  | own y=>ext lK ob x; ext dO ob vt
  | xd fs=>obtain⟨B,⟨od,A,ep,e,c⟩,r⟩:62:=x; show(eB,B,zdr od vt,r)
  | rng lo hi=>obtain⟨t,u,v,e⟩:101:=x; exact eY 101 t u v vt
  | frz ob u ih=>ext sr e x; show(dO,vt,ih q)
  | tbl ps =>
    ext zKT zlc
  | met f y =>
    ext zKT zYr
  | ext φ=>obtain⟨p,⟨o,e⟩,st⟩:43:=x; show(eB,st _ _ p λ o q=>k _ _ jr q,⟨o,vt⟩,st)
def HOk.lt (x:qO) (e:Sc):zYV:=(x a o e).lt
theorem HOk.fresh (x:qO) (e:zqk):Us:=by
 cases q:H a with
 | none=>rfl
 | some u=>show(Cf,ZI (x.lt q) e)
def HOk.kept (x:qO) (k:VH):zjK h':=λ a o e =>
 (x a o e).stay (λ b u _ q=>zgQ) zfC KC
def HOk.laid (x:qO) (k:VH) (hp:zqk) (new:xa9 P w Ld h' a o):HOk P w Ld h':=λb u e=>by
 have m:=x.fresh hp;by_cases hb:b=a
 .ext zSo
 .show(rF,xg hb);exact (x b u e).stay (λ c v _ q=>k c v q) (λ c q=>zYE) (FZ zYE)
#check _
noncomputable def Rd (H:Hp) (a:Addr) (u:HO):Prop:=zxZ\/∃ o,eO a Sm
def Rd.of {H:Hp}{a:Addr}{u:HO} (h:zxZ):zwG:=.inl h
theorem Rd.ok {P:Program}{w:World}{H:Hp}{h:Heap}{a:Addr}{u:HO} (r:zwG) (x:qO):xa9 P w H h a u:=by
 rcases r with r|⟨o,r⟩
 .exact x a u r
 .obtain ⟨_,q⟩:=x a _ r;exact q
noncomputable def Mut:oh (hW HO)
 | some (.lst _)=>True
 | some (.dK _)=>True
 | some (.dT _)=>True
 | some (.set _ _)=>True
 | some (.ins _ _ _)=>True
 | some (.ext _)=>True
 | _=>False
section
variable {P:Program}{w:World}{H:Hp}{h h':Heap}{x e:Addr}{o':HO}
def HOk.write (ok:qO) (mu:zvb) (he:zpw) (k:zDA) (heo:zlU)
    (new:xa9 P w (i5 x o') h' x o'):HOk P w (i5 x o') h':=λ b u q=>by
  show(dw,f,∀ c y,(Ep c y)->c≠x,λ c y r z=>znh r,j,∀ c xs,(pq c xs)->c≠x,λ c xs r z=>znh r)
  by_cases hb:b=x
  . subst hb; ext kd xi q new
  . rw[xg hb] at q
    by_cases hbe:b=e
    . have A:Ep b x:=by
        rcases he with z|z
        . exact absurd (hbe.trans z) hb
        . ext dP hbe z
      ext fe q A A;show(vj,v,B,heo,v,dH hbe B)
    . refine (ok b u q).stay (λ c v m r=>k c v ?_ r) (λ c r=>gS (f c b r) r) λ c xs r=>gS (j c xs r) r
      rcases m with rfl|m
      . exact hbe
      . rintro rfl
        rcases he with z|z
        . exact f c b m z
        . ext fe m z z; exact hb rfl
#check _
structure Un (fs ex:dJ) (H H':Hp) (h h':Heap):Prop where
 keep:∀ b o,(ft,wz,iS,b∉fs,T4,Bq)
 slot:∀ b o,(ft,wz,iS,b∈fs,T4,zGf)
 free:∀ b o,eC wz iS T4 EZ
 there:∀ b o,wz->T4->zXi
 tups:NC
 frzs:zFb
 tbls:zAX
section
variable {fs fs' ex ex':List Addr}{H H1 H2:Hp}{h h1 h2 h':Heap}{a x e:Addr}{o:HO}
def Un.any (u:Fq H1 h1) {b:Addr}{ob:Obj} (q:(du,h.get? b,ob)) (n:iS) (hx:T4):∃ sl,(du,h1.get? b,{ ob with slots:=sl }):=by
 by_cases hb:b∈fs
 .exact u.slot b ob q n hb hx
 .show(DB,ob.slots,u.keep b ob q n hb hx)
def Un.trans (a:Fq H1 h1) (b:Un fs ex H1 H2 h1 h2):Fq H2 h2 where
 keep:=λ c ob q n m i=>b.keep c ob (a.keep c ob q n m i) zoj m i
 slot:=λ c ob q n m i=>by
  show(h8,C,j,a.slot c ob q n m i,v,y,b.slot c _ j zoj m i);ext dO v y
 free:=λ c ob q n i=>by
  ext zKW;exact b.free c x j zoj i
 there:=λ c ob q i=>by
  ext zKW;exact b.there c x j i
 tups:=(FZ,b.tups c xs (a.tups c xs q))
 frzs:=λ c ob xs q=>b.frzs c ob xs (a.frzs c ob xs q)
 tbls:=λ c ps q=>by
  show(h8,B,j,a.tbls c ps q,A,y,b.tbls c _ j);show(dO,B++A,zSY y)
def Un.kept (k:VH):Fq H h' :=
 ⟨zgo ob zxh,zgo ob ⟨ob.slots,zxh⟩,λ_ _ _ n _=>n,λ b ob q _=>GE zxh,KC,λ_ _ _ q=>q,λ_ ps q=>⟨#[],tT q⟩⟩
def Un.refl:Fq H h:=Un.kept KC
def Un.laid (k:VH) (hp:zqk) (hn:Us):Fq Ld h' where
 keep:=zgo u zgQ
 slot:=zgo u ⟨u.slots,zgQ⟩
 free:=λ b u q n _=>(dH,xg (ZU (ZI (Z3 q) hp)),n)
 there:=λ b u q _=>⟨u,zgQ⟩
 tups:=λ b xs q=>zWI
 frzs:=λ b u xs q=>zWI
 tbls:=(zID,jY q hn)
def Un.write (mu:zvb) (he:zpw) (k:zDA) (heo:zlU):Fq zxt h':=by
 have j:(F2,b≠x):=λ b n z=>znh n
 have m:(F2,b≠e):=λ b n z=>by
  subst z;rcases he with r|r
  .exact j b n r
  .ext AE n r
 have f:∀ b u,pH->¬ Mut (some u)->b≠x:=λ b u q nm z=>by subst z; rw[q] at mu; exact nm mu
 refine⟨λ b u q n _ _=>zTV,λ b u q n _ _=>⟨u.slots,zTV⟩,λ b u q n _=>(dH,xg (j b n),n),λ b u q _=>?_,
  λ b xs q=>gS zoL q,λ b u xs q=>gS zoL q,(zID,xg zoL)⟩
 by_cases hbe:b=e
 .subst hbe; exact heo
 .show(DB,u,k b u hbe q)
#check _
noncomputable def trk (h:Heap) (H:Hp):dJ:=(zqn).filter λ a=>(H a).isSome
noncomputable def hidT (h:Heap) (H:Hp):Heap:=PySem.W.hideAll h (trk h H)
def xs0 (h:Heap) (H:Hp):(zfB).objs.size=h.objs.size:=PySem.W.hideAll_size _ _
def xur {h:Heap}{H:Hp}{b:Addr}{o:Obj} (e:wz) (n:iS):(du,(zfB).get? b,o) :=
 PySem.W.hideAll_get _ e λ a=>by
  have q:kN wt:=(Z9.mp a).2;rw[n] at q; simp at q
theorem xx7 {h:Heap}{H:Hp}{b:Addr}{o:Obj} (e:(du,(zfB).get? b,o)):wz/\iS:=by
 have a:wz:=PySem.W.of_hideAll zyL e;ext nY a;cases q:wt with
 | none=>rfl
 | some x =>
  show(dw,c,b∈zyL,(R9,ZD.mpr (Z3 a),ie q),z,(zfB).get? b=none,PySem.W.hideAll_none zyL c);ext GR z
noncomputable def xxv (g h:Heap) (L:Addr):eJ:=(zqn).filterMap λ a=>if a=L\/(kN (g.get? a)) then none else (h.get? a).map λ o=>(a,o)
noncomputable def rest (g h:Heap) (L d:Addr):eJ:=(xxv g h L).filter λ p=>gM (eA≠d)
structure Mod (K:Zf) (mg:iO) (base:Heap):Prop where
 kin:zvz
 glob:zLI
 blt:∃ mb,base.Ns builtinsNs mb/\zEh
 nolimit:base.NoLimit
structure Cx where
 prog:Program
 w:World
 K:Zf
 mg:iO
 base:Heap
 A:Around
 N:dD
 s₀:Shared
 H₀:Hp
 env:Env
 outer:qE
 stack:qE
 ex:dJ
 fn:Str->Bool
 calm:Bool
 pn:eJ
 xe:eR
noncomputable def frs (l:qE):dJ:=l.filterMap (·.frame)
noncomputable abbrev Cx.fs (X:Cx):dJ:=frs X.outer
noncomputable def Vis (sc:Scope) (x:Str):Prop:=zld\/V3\/(du,sc.names.lookup x,.free)
noncomputable def Loc (sc:Scope) (x:Str):Prop:=zld\/V3
noncomputable def Look (env:Env) (h:Heap) (m:iO) (x:Str) (u:Value):Prop :=
 ((du,env.kindOf x,.local)/\(du,m x,u))\/(((du,env.kindOf x,.cell)\/(du,env.kindOf x,.free))/\∃ c,(du,env.cells.lookup x,c)/\h.IsCell c (some u))
structure Cx.Ok (X:Cx):Prop where
 mod:zNT
 kind:X.env.scope.kind=.function
 glob:X.env.globals=mainGlobals
 blt:X.env.builtins=builtinsNs
 above:N9 X.env.locals
 inj:∀ x y c,V5->(du,X.env.cells.lookup y,c)->x=y
 has:∀ x,((du,X.env.kindOf x,.cell)\/(du,X.env.kindOf x,.free))->∃ c,V5
 cab:∀ x c,zri->V5->X.s₀.heap.objs.size<=c
 hd:nh->X.A.handled=none
 frames:du X.A.frames X.stack
 stk:X.stack=X.outer\/(X.stack=X.env::X.outer/\(du X.env.frame X.env.locals))
 exf:∀ b∈X.ex,By/\Ug
 bs:(Xn,zIo/\zVb)
 bsz:X.base.objs.size<=X.s₀.heap.objs.size
 noex:(Xn,b∉X.ex)
 exfs:∀ b∈X.ex,zfM
 funs:X.s₀.heap.FunFrames X.base X.outer
 frf:∀ b∈X.fs,zVb
structure Inv (X:Cx) (pins:eJ) (Z:zpH) (H:Hp) (s:Shared):Prop where
 ok:X.Ok
 os:s.os=X.s₀.os
 bare:zWU
 base:Un X.fs X.ex X.H₀ H X.s₀.heap s.heap
 loc:∃ m,zKc/\∀(i:Nat) (x:Str) (v:V),(eC,wS,GN=(qz v),zaA,∃ u,pF/\Look X.env s.heap m x u)
 cell:(zgG,∃ v,zRj)
 free:fw X.env.locals
 freeC:zgG (fw c)
 pin:zil zBf
 hok:zeo H s.heap
 len:Z.length=X.N.length
section
variable {X:Cx}{pins:List (Addr × Obj)}{Z:List (Option V)}{H H':Hp}{s:Shared}{h':Heap}
def Cx.Ok.nofr (ok:X.Ok) {b:Addr}{o:Obj} (e:(du,X.base.get? b,o)):zfM:=λ c=>by
 show(zrl,(ok.funs.mem c).1)
def Inv.bs (I:dI):(Xn,rO/\iS):=λ b o e =>
 ⟨I.base.keep b o zot zRd (I.ok.nofr e) zUY,I.base.free b o zot zRd zUY⟩
def Inv.bk (I:dI):Xn rO:=(ye,(I.bs b o e).1)
def Inv.mod (I:dI):zNT:=I.ok.mod
def Inv.kIn (I:dI):X.K.In s.heap:=I.ok.mod.kin.keeps I.bk
def Inv.fr (I:dI):∃ m,Fr X.base X.env.locals s.heap m :=
 let ⟨m,hn,_⟩:=I.loc
 dY m hn I.bk zLy
def Inv.lt (I:dI):tH X.env.locals:=let ⟨_,hn,_⟩:=I.loc; hn.lt
def Inv.sz (I:dI):N9 s.heap.objs.size:=ZR I.ok.above (Jw I.lt)
def Inv.nofs (I:dI) {a:Addr} (h:zOG):a∉X.fs:=λ q=>by
 obtain⟨_,o,c,_⟩:=I.ok.funs.mem q;show(Cf,ZI (Z3 c) (ZR I.sz h))
def Inv.cne (I:dI):Tz X.env.locals:=λ x c e z=>by
 ext mG v o h i zcx;obtain⟨m,⟨j,q,ep,b,f,_⟩,_⟩:62:=(I.loc)
 rw[z,b] at h; cases h; ext js f i i
theorem Inv.funs (I:dI):zut X.base X.outer:=by
 have all:∀(l:qE),(∀ b∈frs l,b∈X.fs)->X.s₀.heap.FunFrames X.base l->s.heap.FunFrames X.base l:=by
  intro l
  induction l with
  | nil=>intro _ _; trivial
  | cons env r ih =>
   intro hs A;obtain⟨B,⟨L,o,c,y,v,C⟩,q⟩:43:=A;have j:L∈X.fs:=hs L (zOc Zo);show(lK,D,I.base.slot L o v (I.ok.frf L j) j λ z=>I.ok.exfs L z j)
   show(eB,B,eP 84 L _ c y e C,ih (λ b i=>hs b (zOc,Zm _ i)) q)
 exact all X.outer (λ_ i=>i) I.ok.funs
def Inv.stack (I:dI):zut X.base X.stack:=by
 rcases I.ok.stk with e|⟨e,q⟩
 .show(iX,e,I.funs)
 .rw [e];show(iu,m,j,I.loc)
  refine .cons (BR I.ok.kind) q j ?_ I.funs;exact Heap.get?_none_of_le zLy
def Inv.stkSub (I:dI):∀ b∈Kq,b∈X.env.locals::X.fs:=λ b h=>by
 rcases I.ok.stk with e|⟨e,i⟩
 .ext j4 e; exact Zm _ h
 .ext j4 e;unfold frs at h;rw[JQ,i] at h;exact h
def Inv.stkFree (I:dI):∀ b∈Kq,iS:=λ b h=>by
 rcases Zu.mp (I.stkSub b h) with e|h
 .show(iX,e,I.free)
 .obtain ⟨_,o,j,_⟩:=I.ok.funs.mem h;exact I.base.free b o j (I.ok.frf b h) λ z=>I.ok.exfs b z h
def Inv.step {g':zWY}{t':Nat}{d':Drawn}{ch:dJ} (I:dI)
    (hch:zIk)
    (keep:vT By (ft zfM Gj rO iS Bq))
    (slot:vT By (ft,b∈X.fs,Gj,rO,iS,zGf)) (free:∀ b o,eC Gj rO iS EZ)
    (there:Ru Gj zXi)
    (tups:NC) (frzs:zFb) (tbls:zAX)
    (ns:∀ m,zKc->h'.Ns X.env.locals m) (hok:ztY) (hg:AllBare g') :
    zCs:=by
  have M:vT (du,X.s₀.heap.get? b,o) By:=(ye,ZU (An I.ok.above));have D:∀ b o,zIo->b∉X.ex->Gj:=λ b o e y K=>by
    rcases (hch b K).1 with z|z
    . exact y z
    . show(Cf,An z)
  have B:(zgG,∀ v,zRj->h'.IsCell c v):=λ x c e v ⟨1062,o,L,Q⟩=>by
    have A:c∉ch:=λ z=>(zWf).1 x c e rfl;by_cases hc:c∈X.fs
    . show(sr,sl,slot c o (I.cne x c e) hc A L zbV)
      exact hD q Q
    . show(eB,o,keep c o (I.cne x c e) hc A L zbV,Q)
  refine⟨I.ok,I.os,hg,(eP,zft K y,zft K y,eI b o e n y,Tu y,(sA,tups b xs zPV),(mO,xs,frzs b o xs (I.base.frzs b o xs e)),qaJ),?_,zwX,?_,zwX,Cr,hok,I.len⟩
  . exact keep b o (M b o e) K zeM (I.base.keep b o e n K y) zmA
  . show(h8,sl,J,I.base.slot b o e n K y,P,O,slot b _ (M b o e) K zeM J zmA);ext dO P O
  . ext zIa
    exact free b o' zeM J zmA
  . ext zIa
    exact there b o' zeM J
  . show(h8,U,J,zPJ,T,O,tbls b _ J);show(dO,U++T,zSY O)
  . show(dA,m,Y,hl,I.loc)
    show(gG,m,ns m Y,λ i x v J O e3=>?_);show(dA,u,r,l,hl i x v J O e3);ext iF u r;rcases l with l|⟨k,c,e,z⟩
    . ext iE l
    . show(hX,(dY,k,c,e,B x c e _ z))
  . show(vj,v,z,zcx,v,B x c e v z)
  . obtain⟨m,⟨o,_,_,L,_⟩,_⟩:62:=(I.loc)
    exact free _ o (λ z=>(hch _ z).2.1 rfl) L I.free
  . ext mG v o L Q zcx
    exact free c o (λ z=>(zWf).1 x c e rfl) L zbV
  . obtain⟨e,n,S,R,d⟩:45:=Rw
    have A:eA∉ch:=λ z=>(fH (hch eA z)).2 p hp rfl;exact(gT,keep eA fM S R A e n,free eA fM A e n,S,R,d)
def Inv.un {t':Nat} (I:dI) (u:RD X.fs [] h') (hok:ztY):GW Tj:=by
 ext zKS D v;obtain⟨B,A⟩:=u.any v I.free dG;exact I.step (g':=s.gens) (d':=s.drawn) (ch:=[]) m9 (λ b o _ hb _ e n=>u.keep b o e n hb dG) (λ b o _ hb _ e n=>u.slot b o e n hb dG) (λ b o _ e n=>u.free b o e n dG) (λ b o _ e=>u.there b o e dG) u.tups u.frzs u.tbls (λ m' hm=>by
  ext Mu C j q i x hm;ext fe v i i;exact m6 102 j q A x) hok I.bare
def Inv.call {g':zWY}{t':Nat}{d':Drawn}{ch:dJ} (I:dI) (u:RD Kq ch h') (hok:ztY) (hg:AllBare g')
    (hch:zIk) :
    zCs:=by
  ext zKS P J;obtain⟨M,B⟩:=u.any J I.free λ z=>(hch _ z).2.1 rfl
  exact I.step (ch:=ch) hch (λ b o B L q e n=>u.keep b o e n (λ z=>(zNk).elim B L) q) (λ b o _ _ q e n=>u.any e n q) (λ b o q e n=>u.free b o e n q) (mO,q,u.there b o e q) u.tups u.frzs u.tbls (λ m' hm=>by
    ext Mu O C D A K hm;ext fe J A A;exact m6 102 C D B K) hok hg
def Inv.turned {t':Nat}{it:Addr} (I:dI) (k:XZ Bq) (hn:fw it) (hL:zuV it)
    (h1:it∈X.ex\/(N9 it)) (h2:Tz it) (h3:(zil,eA≠it)):zzM:=by
  have A:(AO,pH,b≠it):=λ b u e z=>by ext nS z hn e e
  refine I.step (g':=s.gens) (d':=s.drawn) (ch:=[it]) (pY D) (zea f zmh) (zea f ⟨o.slots,zmh⟩) zWl
    (mO f ⟨o,zmh⟩) zdO Ka zLB (dC m C) vx I.bare
  . show(vP,by simpa using D);exact fQ h1 hL h2 h3
  . ext Mu o J ep B r C
    show(zwV,J,k _ o (Z2 hL) B)
  . refine (zth).stay (λ c v f q=>k c v ?_ q) zfC KC
    rcases f with z|z
    . show(dP,z,A b u e)
    . exact A c _ z
def Inv.tok (I:dI) (t:Nat):yN { s with toks:=t }:=I.un (h':=s.heap) (t':=t) Un.refl I.hok
def Inv.kept {t':Nat} (I:dI) (k:zDf):zzM:=I.un (Un.kept k) (I.hok.kept k)
def Inv.laid {a:Addr}{o:HO}{t':Nat} (I:dI) (k:zDf) (hp:zOG) (new:xa9 X.prog X.w Ld h' a o) :
    qN Ld Tj:=I.un (Un.laid k hp (I.hok.fresh hp)) (I.hok.laid k hp new)
def Inv.write {x e:Addr}{o:HO}{t':Nat} (I:dI) (mu:zvb) (he:zpw) (k:kL e (du,s.heap.get? b,u) (du,h'.get? b,u)) (heo:zlU)
    (new:KM zxt h' x o):qN zxt Tj:=I.un (Un.write mu he k heo) (I.hok.write mu he k heo new)
def Inv.weak {σ':zpH} (I:dI) (hl:σ'.length=Z.length) (w:∀(i:Nat) v,σ'[i]?=(qz v)->GN=CS):Inv X pins σ' H s :=
 ⟨I.ok,I.os,I.bare,I.base,let ⟨m,hn,hl'⟩:=I.loc; (dB,m,hn,λ i x v u q j=>hl' i x v u (w i v q) j),I.cell,I.free,I.freeC,I.pin,I.hok,hl.trans I.len⟩
def Inv.pins_of {pins':eJ} (I:dI) (h:∀ p∈pins',zBf):mY pins' H s :=
 (zKL,I.base,I.free,I.freeC,λ p j=>(zzw).elim (λ z=>I.pin p (ZO _ z)) (h p),I.hok)
def xnl {N:dD} (hN:N.Nodup) {i j:Nat}{x:Str} (a:dX N x) (b:gU N x):i=j:=by
 show(h8,q,f,Zj.mp a,h,c,Zj.mp b);exact (List.getElem_inj hN).mp (f.trans c.symm)
def xmb {M:Model}{A:Around}{E:eR}{i:Nat}{x:Str}{v:V}{u:Value}{Q:wY} (I:dI) (hN:X.N.Nodup) (hi:wS) (hx:D2) (r:pF)
    (h:∀ s',zPn->(∃ a,ZV a s.heap s'.heap/\(a=X.env.locals\/(du,X.env.cells.lookup x,a)))->Q () s') (hf:DN:=by first|ext pK|ext sC|ext ii):zGL:=by
  show(dA,m,hn,hl,id I.loc);show(dw,Y,jc (X.env.scope.kind == .class||(X.env.scope.kind == .module&&X.env.locals != X.env.globals)),ib I.ok.kind,U,i<Z.length,(dH,I.len,xU hi))
  have cne:=I.cne;have D:∀{a:Addr}{h':Heap},(∃ o,(Ia o)/\Us)->zWr->(zeo H h'):=λ{a h'} ha hs b ob e=>by
    ext zzX L ha;refine (I.hok b ob e).stay (λ c w' K q=>(hs.2 c ?_).trans q) zfC KC;rintro rfl;rcases K with rfl|K
    . ext GR L
    . ext js L K K
  rcases hx with O|O
  . refine wpAny_storeName_local O hn (AY ac hs) Y
    obtain⟨oL,_,_,ab,_⟩:102:=id hn;refine h _ ⟨I.ok,I.os,I.bare,(eP,zex,zex,I.base.free,Tu hx,I.base.tups,I.base.frzs,I.base.tbls),hD ac zMI,wa y c,I.free,I.freeC,Cr,D (dB oL ab I.free) hs,zNB⟩ (hD hs jr)
    . exact (hs.2 b (ZU (An I.ok.above))).trans (I.base.keep b o e n R hx)
    . show(vj,sl,J,zKd,sl,(hs.2 b (ZU (An I.ok.above))).trans J)
    . show(vj,o',J,zMo,o',(hs.2 b (ZU (An I.ok.above))).trans J)
    . by_cases hj:j=i
      . show(zFR,CI O dG)
      . ext zBY;rcases q with⟨k,e⟩|⟨k,c,e,z⟩
        . show(Dn,jy k)
          have:y≠x:=λ e=>hj (xnl hN J (e▸hi));simp[this,e]
        . show(hX,dY k c e zJX)
    . show(vj,w',z,I.cell y c e,w',zJX)
    . ext zOf
      exact(gT,(hs.2 eA ne).trans e,n,ne,nf,d)
  . have P:zri:=by
      rcases hf with z|z
      . ext i4
      . ext js z O O
    show(h8,c,K,I.ok.has x (.inl O),w',z,I.cell x c K);refine wpAny_storeName_cell I.ok.kind O K z (AY aa hs);show(dA,oc,T,S,id z);refine h kJ ⟨I.ok,I.os,I.bare,(eP,zex,zex,I.base.free,Tu hx,I.base.tups,I.base.frzs,I.base.tbls),(dB,m,hn.sameBut hs (Z2 (cne x c K)),zMI),wa y c',I.free,I.freeC,Cr,D (dB,oc,T,I.freeC x c K) hs,zNB⟩ (dB,c,hs,.inr K)
    . exact (hs.2 b (ZU (An (I.ok.cab x c P K)))).trans (I.base.keep b o e n R hx)
    . show(vj,sl,J,zKd,sl,(hs.2 b (ZU (An (I.ok.cab x c P K)))).trans J)
    . show(vj,o',J,zMo,o',(hs.2 b (ZU (An (I.ok.cab x c P K)))).trans J)
    . by_cases hj:j=i
      . show(zFR,.inr (dY,.inl O,c,K,aa))
      . ext zBY;rcases q with q|⟨k,c',e,z'⟩
        . ext iE q
        . show(qZ,(dY,k,c',e,z'.sameBut hs ?_))
          rintro rfl;exact hj (xnl hN J (I.ok.inj _ _ _ e K▸hi))
    . by_cases hcc:c'=c
      . subst hcc; exact iK aa
      . show(vj,w2,z2,I.cell y c' e,w2,z2.sameBut hs hcc)
    . ext zOf
      show(fV,45,(hs.2 eA ?_).trans e,n,ne,nf,d);intro q;rw[q,T] at e;have q':oc=fM:=zfS;exact d w' (gF q' S)
def xjf {M:Model}{A:Around}{E:eR}{i:Nat}{x:Str}{v:V}{u:Value}{Q:wY} (I:dI) (hN:X.N.Nodup) (hi:wS) (hx:D2) (r:pF)
    (h:zbK zPn) (hf:DN:=by first|ext pK|ext sC|ext ii):zGL :=
  xmb I hN hi hx r (λ s' b _=>h s' b) hf
def Inv.call' {s':Shared}{ch:dJ} (I:dI) (ho:s'.os=s.os) (u:RD Kq ch s'.heap) (hok:zeo H' s'.heap) (hg:zbq)
    (hch:∀ b∈ch,zkJ/\By/\Ug/\zcd):FV:=by
  obtain⟨h',g',d',t',f⟩:=s';show(ua,f,s.os,ho);exact I.call (g':=g') (t':=t') (d':=d') u hok hg hch
#check _
noncomputable abbrev XK:=Addr->(uJ Addr)
noncomputable abbrev St:=zpH
noncomputable abbrev VK:=vM
noncomputable abbrev TE:=zgD St
noncomputable abbrev TT:=zgu zH
noncomputable abbrev TA:=zgu FW
structure Ends where
 nx:qK
 rt:VK
 bk:qK:=zk
 ct:qK:=zk
noncomputable abbrev TS:=Ends->qK
noncomputable def EP (X:Cx) (pins:eJ) (Z:St) (Q:VK) (u:Value) (s':Shared):Prop:=∃ v H',FV/\pF/\Gt
noncomputable def TP (X:Cx) (pins:eJ) (Z:St) (Q:zH) (b:Bool) (s':Shared):Prop:=∃ H',FV/\Q b H'
noncomputable def AP (X:Cx) (pins:eJ) (Z:St) (Q:FW) (us:d4) (s':Shared):Prop:=∃ vs H',zyD Ly vs
noncomputable def SP (X:Cx) (pins:eJ) (D:Ends) (f:Flow) (s':Shared):Prop :=
 match f with
 | .next=>(zaw,D.nx σ' H')
 | .brk=>(zaw,D.bk σ' H')
 | .cont=>(zaw,D.ct σ' H')
 | .ret u=>∃ v σ' H',(zcV pins)/\pF/\D.rt v H'
noncomputable def PE (X:Cx) (e:Expr) (t:TE):Prop :=
 (zEH,dI->LE->(vd zo))
noncomputable def PT (X:Cx) (e:Expr) (t:TT):Prop :=
 (VL,zH,zJU zo)
noncomputable def PW (X:Cx) (e:Expr) (t:TT):Prop :=
 ∀(whole:zfa) (pins:eJ) (s:Shared) (Z:St) (H:Hp) (Q:zH),zJU whole
def PW.pt {X:Cx}{e:Expr}{t:TT} (h:PW X e t):PT X e t:=h _
noncomputable def PA (X:Cx) (es:nw) (t:TA):Prop :=
 ∀(pos:Pos) (pins:eJ) (s:Shared) (Z:St) (H:Hp) (Q:FW),dI->LE->(tz (spliced ES) (AP X pins Z Q))
noncomputable def PS (X:Cx) (st:Stmt) (t:TS):Prop :=
 zCf (tz (exec st X.env) (SP X pins D))
noncomputable def PSs (X:Cx) (st:Fm) (t:TS):Prop :=
 zCf (tz (execs st X.env) (SP X pins D))
def thn {α:Type}{t:Sem α}{Q Q':zhq}{M:Model}{A:Around}{E:eR}{s:Shared} (h:xC M A t) (hQ:∀ a s,Q a s->Q' a s):wpAny M A t Q' E s:=zdt h hQ
section
variable {X:Cx}
def bin {a b:Expr}{ta tb:TE} (ha:qx) (hb:zD) {pins:eJ}{s:Shared}{Z:St}{H:Hp}{R:V->vM} (I:dI) (h:zGS)
    {α:Type}{Q:zhq}{f:Value->Value->Sem α}
    (hf:zBt) :
    zFl:=by
  show(o3,P8 pins,lI v c x H1 q r1 j ?_);show(o3,hb pins c Z H1 _ q j,lI u s2 y H2 m r2 i ?_);exact hf v u s2 x y H2 m r1 r2 i
@[reducible] def oV:gQ zop (oh V)
 | CS,k=>k v
 | _,_=>False
theorem x2m:∀{o:zop}{k:oh V},oV o k->∃ v,o=CS/\k v
 | CS,_,h=>nU v h
@[reducible] def iV:V->(gQ V zcp)
 | iC,.int j,k=>k i j
 | _,_,_=>False
theorem xq5 {x y:V}{k:zcp} (h:iV x y k):∃ i j,Rn/\(Da j)/\k i j:=by
 cases x with
 | int i =>
  cases y with
  | int j=>exact mQ i j rfl h
  | _=>exact h.elim
 | _=>exact h.elim
@[reducible] def lV:gQ dz (gQ V dz)
 | uO,k=>k v r
 | [],_=>False
theorem xwp:∀{l:dz}{k:gQ V dz},lV l k->∃ v r,l=uO/\k v r
 | uO,_,h=>fP v r rfl h
@[reducible] def nV:gQ dz Prop
 | [],p=>p
 | eK,_=>False
theorem xwo:∀{l:dz}{p:Prop},nV l p->l=[]/\p
 | [],_,h=>hR h
@[reducible] def tVar (i:Nat) (Z:St) (H:Hp) (Q:VK):Prop:=oV GN λ v=>Q v H
@[reducible] def tC (v:V):TE:=(MK,Q v H)
def x1c {i:Nat}{x:Str}{pos:Pos} (hN:wS) (hv:zaA) (hd:rM:=by decide) (hcd:zIn:=by decide):zSk:=by
 ext jd j;show(dA,v,e,h,x2m h);show(vz,m,q,y,I.loc,u,r,l,y i x v hN e hv);have f:EP X j Z Q u s:=zwM
 rcases l with⟨b,hm⟩|⟨b,c,hc,hcell⟩
 .show(zwm,wpAny_loadName_local I.ok.kind b q hm f)
 .rcases b with b|b
  .show(zwm,wpAny_loadName_cell I.ok.kind b hc hcell f)
  .show(zwm,wpAny_loadName_free I.ok.kind b hc hcell f hcd)
def xp {i j pos}:zoT iC (tC (.int i)):=(IP,wpAny_Constant_int (fJ iC H um iP h))
def xf0 {b j pos}:zoT zzI (tC (.bl b)):=(IP,Constant_bool (LN yl rfl))
def xdz {j pos}:PE X (.Constant .none j pos) (tC .non):=(IP,Constant_none (LN .non rfl))
def xar {x j pos}:zoT qT (tC (.str x)):=(IP,Calls.Constant_str (fJ qT H um iP h))
noncomputable def Gl (X:Cx) (x:Str):Prop:=(du,X.env.kindOf x,.globalImplicit)
def xh1 {E:eR}{pins:eJ}{s:Shared}{Z:St}{H:Hp}{x:Str}{u:Value}{pos:Pos}{Q:eR} (I:dI) (hg:vH) (hm:zUQ) (h:Q u s)
    (hd:rM:=by decide):qaP :=
  Calls.Name_function_global I.ok.kind hg (Calls.loadGlobal_global zDr hm h) hd
def xdd {E:eR}{pins:eJ}{s:Shared}{Z:St}{H:Hp}{x:Str}{u:Value}{pos:Pos}{Q:eR} (I:dI) (hg:vH) (hm:ziz) (hv:zKF) (h:Q u s)
    (hn:OY:=by decide) (hd:rM:=by decide):qaP:=by
  show(dA,y,q,j,I.mod.blt)
  exact Calls.Name_function_global I.ok.kind hg (Calls.loadGlobal_builtin zDr hm (by rw[I.ok.blt]; exact q.keeps I.bk) ((j x hn).trans hv) h) hd
def xeu {x:Str}{v:V}{u:Value}{pos:Pos} (hg:vH) (hm:zUQ) (r:pF) (hd:rM:=by decide):zVR :=
 (IP,xh1 I hg hm zwM hd)
def xde {x:Str}{v:V}{u:Value}{pos:Pos} (hg:vH) (hm:ziz) (hv:zKF) (r:pF) (hn:OY:=by decide) (hd:rM:=by decide):zVR :=
 (IP,zsI zwM hd)
variable {a b:Expr}{ta tb:TE}{pos:Pos}
noncomputable def PC (X:Cx) (op:CmpOp) (a b:Expr) (t:TE):Prop :=
 ∀(pins:List (Addr × Obj)) (s:Shared) (Z:St) (H:Hp) (Q:VK),dI->LE ->
  (zMG,c,zd (compareOp op v u) (EP X pins Z Q) s₂)
def xmt (b:Expr) {op:CmpOp} (h:op≠.In) (h2:op≠.NotIn):Hy:=by
 show(zBG,(by cases op<;>first|rfl|ext mP h),by cases op<;>first|rfl|ext mP h2)
inductive tB_i (x:V) (H1:Hp) (Q:zH):Prop
 | mk (c) (e_:zeH) (r_:Q c H1)
noncomputable def tB (t:TE):TT:=(zZg,tB_i x H1 Q)
def xov {op:CmpOp}{t:TE} (h:zXs) (h1:Hy:=by first|exact xmt _ dF dF|rfl):PE X Xq t:=λ c s Z H Q I f=>wpAny_Compare1 (h c s Z H Q I f) h1
def xds {op:CmpOp}{t:TE} (h:zXs) (h1:Hy:=by first|exact xmt _ dF dF|rfl):PT X Xq (tB t):=by
 ext Lv f i;refine wpAny_isTrue_Compare1 (thn (S6 f i) (zwJ,j,λ u s2 h2=>jk h2 c s3 x H1 I1 r1 q1)) h1;obtain⟨d,rfl,q⟩:=q1;cases r1;exact JR (dB H1 I1 q)
def xbs {e:Expr}{t:TE} (h:yK t) (he:zBg e e.pos:=by ext Mx):PT X e (tB t):=by
 ext Lv a c;refine isTrue_plain (jk (S6 a c) v j x i f r1 b) (he _);obtain⟨d,rfl,q⟩:=b;cases r1;exact JR (rG i f q)
variable {tA tB':TT}{rest:List Expr}
noncomputable def tAnd (t u:TT):TT:=BA c (jo,c,u Z H1 Q,Q false H1)
noncomputable def tOr (t u:TT):TT:=BA c (jo,c,Q true H1,u Z H1 Q)
noncomputable def tNot (t:TT):TT:=(BA,c,Q (! c) H1)
theorem xqn (ha:RJ):ID .And ww tA:=by
 ext R3 f b;refine isTrue_and (thn (ha b s Z H Q I h) λ c i e=>?_);cases c with
 | true=>exact isTrue_and_nil e
 | false=>exact e
theorem xc5 (ha:RJ):ID .Or ww tA:=by
 ext R3 f b;refine isTrue_or (thn (ha b s Z H Q I h) λ c i e=>?_);cases c with
 | false=>exact isTrue_or_nil e
 | true=>exact e
theorem xsm (ha:RJ) (hb:ID .And Cn tB'):ID .And (a::Cn) (tAnd tA tB'):=by
 ext R3 m e;refine isTrue_and (thn (P8 e) (zp c q j i f));cases c with
 | true=>exact hb m e q Z j Q i f
 | false=>ext eB j i f
theorem xc9 (ha:RJ) (hb:ID .Or Cn tB'):ID .Or (a::Cn) (tOr tA tB'):=by
 ext R3 m e;refine isTrue_or (thn (P8 e) (zp c n j i f));cases c with
 | true=>ext eB j i f
 | false=>exact hb m e n Z j Q i f
def xch (ha:RJ):PT X (.UnaryOp .Not a pos) (tNot tA):=by
 ext jd b;exact isTrue_not (ha b s Z H (λ c e=>Q (! c) e) I h)
inductive xyl (tb:TE) (Z:St) (x:V) (H1:Hp) (Q:VK):Prop
 | mk (c) (e_:zeH) (r_:(jo,c,tb Z H1 Q,Q (.bl false) H1))
noncomputable def x27 (ta tb:TE):TE:=(yU,xyl tb Z x H1 Q)
inductive x01 (tb:TE) (Z:St) (x:V) (H1:Hp) (Q:VK):Prop
 | mk (c) (e_:zeH) (r_:(jo,c,Q (.bl true) H1,tb Z H1 Q))
noncomputable def tOrV (ta tb:TE):TE:=(yU,x01 tb Z x H1 Q)
inductive xyg (x:V) (H1:Hp) (Q:VK):Prop
 | mk (c) (e_:zeH) (r_:Q (.bl (! c)) H1)
noncomputable def x21 (ta:TE):TE:=(yU,xyg x H1 Q)
def xc4 {op}{t:TE} (h:PE X a t):O2 op ww t:=λ b s Z H Q I c=>BoolOp_one (h b s Z H Q I c)
theorem xcp (ha:qx) (hb:O2 .And Cn tb):O2 .And (a::Cn) (x27 ta tb):=by
 ext jd e;refine BoolOp_and (jk (ha e s Z H _ I h) v m x j i r1 f);ext zmb;ext zjp;cases c with
 | true=>exact hb e m Z j Q i f
 | false=>exact zuL false
theorem xqw (ha:qx) (hb:O2 .Or Cn tb):O2 .Or (a::Cn) (tOrV ta tb):=by
 ext jd e;refine BoolOp_or (jk (ha e s Z H _ I h) v m x j i r1 f);ext zmb;ext zjp;cases c with
 | false=>exact hb e m Z j Q i f
 | true=>exact zuL true
def xti (ha:qx):PE X (.UnaryOp .Not a pos) (x21 ta):=by
 ext jd e;refine UnaryOp_ (jk (ha e s Z H _ I h) v m x j i r1 f);ext zmb;exact not_of (JR (zuL (! c)))
noncomputable def tIf (t:TT) (ta tb:TE):TE:=BA c (jo,c,ta Z H1 Q,tb Z H1 Q)
theorem xd5 {c:Expr} (hc:PT X c tA) (ha:qx) (hb:zD):PE X (.IfExp c a b pos) (tIf tA ta tb):=by
 ext jd e;refine wpAny_IfExp (thn zSy (zp d i n m j));cases d with
 | true=>exact ha e i Z n Q m j
 | false=>exact hb e i Z n Q m j
#check _
noncomputable def SqL (K:Zf) (H:Hp) (a:Addr) (xs:dz):Prop :=
 Rd H a (.lst xs) \/
  (zNA,zOB/\(dN (zej "list") ztl zOy (gY its.size) zQc))
noncomputable def SqT (K:Zf) (H:Hp) (a:Addr) (xs:dz):Prop :=
 Rd H a (.tup xs) \/
  (zNA,dN zOB qaK zOy (gY its.size) zQc)
noncomputable def absV:Value->(hW V)
 | .none=>some .non
 | zzI=>some (.bl b)
 | .int i _=>hO i
 | .str x _=>zN x
 | .bytes b _=>some (.byt b)
 | .float b _=>some (.flt b)
 | eQ=>hU
 | om n=>some (.ty n)
 | _=>none
theorem RelV.abs {x:V}{u:Value} (r:sj):(du,absV u,x):=by
 cases x with
 | non=>ext n8 r
 | bl _=>ext n8 r
 | int _=>ext Lq
 | str _=>ext Lq
 | byt _=>ext Lq
 | flt _=>ext Lq
 | ref _=>ext n8 r
 | ty _=>ext n8 r
def RelV.inj {x y:V}{u:Value} (r:sj) (q:j8):x=y:=ZM.inj (r.abs.symm.trans q.abs)
theorem Vals.inj:∀{xs ys:dz}{us:d4},nF->(AV ys)->xs=ys
 | _,_,_,.nil,.nil=>rfl
 | _,_,_,wW,.cons r' t'=>(fC,r.inj r',Vals.inj t t')
section
variable {X:Cx}{pins:List (Addr × Obj)}{Z:St}{H:Hp}{s:Shared}{a:Addr}{xs ys:List V}
def SqL.of {K:Zf} (h:qj a xs):zn:=zYb
def SqT.of {K:Zf} (h:pq a xs):Pk:=zYb
def Inv.list (I:dI) (h:zWw):∃ its:d4,EQ/\PlainL s.heap a its.toArray/\y0:=by
 rcases h with h|⟨o,its,n,c,m,j,hs,hz,r⟩
 .obtain ⟨z,its,n,r,e⟩:=h.ok I.hok;show(j5,its,r,zuM n e rfl,z)
 .show(zCz,(eP,84,o,n,I.kIn a o c,m,j,zRC))
def Inv.tuple (I:dI) (h:zWv):∃ its:d4,EQ/\IsTup s.heap a its.toArray/\y0:=by
 rcases h with h|⟨o,its,n,c,j,hs,hz,r⟩
 .obtain ⟨z,its,r,p⟩:=h.ok I.hok;ext j5 its r p z
 .show(zCz,(hB,o,I.kIn a o c,j,⟨n,zRC⟩))
def Inv.list_inj (I:dI) (h:zWw) (h':SqL X.K H a ys):xs=ys:=by
 obtain⟨its,r,⟨o,n,e,_,_,d⟩,_⟩:63:=I.list h;obtain⟨its',c,⟨f,m,b,_,_,d'⟩,_⟩:63:=I.list h';ext zAH
def Inv.tuple_inj (I:dI) (h:zWv) (h':SqT X.K H a ys):xs=ys:=by
 obtain⟨its,r,⟨o,e,_,n,d⟩,_⟩:63:=I.tuple h;obtain⟨its',c,⟨f,b,_,m,d'⟩,_⟩:63:=I.tuple h';ext zAH
#check _
noncomputable abbrev Cx.wish (X:Cx) (E:eR):Cx:={ X with xe:=E }
noncomputable abbrev Cx.nox (X:Cx):Cx:=X.wish zk
def Cx.Ok.wish {X:Cx} (ok:X.Ok) (E:eR):(zfZ).Ok :=
 zAv
def Cx.Ok.unwish {X:Cx}{E:eR} (ok:(zfZ).Ok):X.Ok :=
 zAv
section
variable {X:Cx}{pins:List (Addr × Obj)}{Z:St}{H:Hp}{s:Shared}{E:Value->Shared->Prop}
def Inv.wish (I:dI) (E:eR):zQq:=(zBD,I.ok.wish E)
def Inv.unwish (I:zQq):dI:=zBD I.ok.unwish
theorem SP.unwish {D:Ends}{f:Flow}{s':Shared} (h:SP zfZ pins D f s'):SP X pins D f s':=by
 cases f with
 | next=>ext zkD
 | brk=>ext zkD
 | cont=>ext zkD
 | ret u=>show(MF,v,σ',H',I,r,q,h); exact eP 103 v σ' H' I.unwish r q
def PSs.nox {st:Fm}{t:TS} (h:PSs X.nox st t):PSs X st t:=λ a s Z H D I b =>
 Jr (h a s Z H D (I.wish _) b) (λ_ _ q=>q.unwish) (Db,Ym z)
#check _
section
variable {X:Cx}{st:Stmt}{rest:List Stmt}{t u:TS}{e:Expr}{te:TE}{pos:Pos}
noncomputable def x18:TS:=qW zW
noncomputable def tSeq (t u:TS):TS:=(qW,t Od Z H)
def xad:PSs X [] x18:=λ_ _ Z H _ I h=>W0 qax
theorem xj (h1:zeI) (h2:PSs X rest u):PSs X (st::rest) (tSeq t u):=by
 ext zCI Od;cases f with
 | next =>
  show(mG,σ',H',c,q,q);exact h2 a b σ' H' D c q
 | ret v=>exact q
 | brk=>exact q
 | cont=>exact q
theorem xm (h1:zeI):PSs X [st] t:=by
 ext zCI D;cases f with
 | next=>exact W0 q
 | ret v=>exact q
 | brk=>exact q
 | cont=>exact q
def Inv.quiet {pins:eJ}{Z:St}{H:Hp}{s:Shared} (I:dI):interactive X.env=false:=by simp[interactive,I.ok.kind]
noncomputable def x2a (te:TE):TS:=(qW,te Z H λ_ H1=>D.nx Z H1)
def xaz (he:xH) (hs:VT e none:=by rfl):PS X (.Expr e pos) (x2a te):=by
 ext rT a;exact wpAny_Expr_any (zVx,j,fP Z f c b) I.quiet hs
noncomputable def tRet (te:TE):TS:=(qW,te Z H D.rt)
def xw (he:xH):PS X (.Return (some e) pos) (tRet te):=by
 ext rT a;exact wpAny_Return_some (zVx,i,eP 103 x Z f c r1 b)
noncomputable def tIfS (c:TT) (t u:TS):TS:=(qW,c Z H λ b H1=>(wn,t D Z H1,u D Z H1))
theorem xau {c:Expr}{a b:Fm}{tc:TT} (hc:PT X c tc) (ha:PSs X a t) (hb:PSs X b u):PS X (.If c a b pos) (tIfS tc t u):=by
 ext rT e;refine wpAny_If (thn zSy (zp d i n m j));cases d with
 | true=>exact ha e i Z n D m j
 | false=>exact hb e i Z n D m j
noncomputable def x0v:TS:=OX
def xbh:PS X st x0v:=λ_ _ _ _ _ _ h=>h.elim
#check _
noncomputable abbrev TG:=DH V St Hp qK
noncomputable abbrev TGs:=DH dz St Hp qK
noncomputable def PG (X:Cx) (target:Expr) (t:TG):Prop :=
 ∀(pins:eJ) (s:Shared) (Z:St) (H:Hp) (v:V) (u:Value) (Q:qK),dI->pF->t v Z H Q ->
  (tz (assign target X.env u) zKD)
noncomputable def PGs (X:Cx) (ts:nw) (t:TGs):Prop :=
 ∀(pins:eJ) (s:Shared) (Z:St) (H:Hp) (vs:dz) (us:d4) (Q:qK),dI->Ly->t vs Z H Q ->
  wpAny qh X.A (assignInOrder ((zsz ts).map (·.2)) us) zKD X.xe s
noncomputable abbrev TSet:=zLW
noncomputable def PSet (X:Cx) (t:TSet):Prop :=
 ∀(pins:eJ) (s:Shared) (Z:St) (H:Hp) (o i v:V) (ov iv u:Value) (Q:LI),dI->RelV o ov->RelV i iv->pF->t o i v H Q ->
  (tz (setItem ov iv u) (λ_ s'=>∃ H',FV/\Q H'))
noncomputable abbrev TIp:=OS
noncomputable def PIp (X:Cx) (op:Operator) (t:TIp):Prop :=
 ∀(pins:List (Addr × Obj)) (s:Shared) (Z:St) (H:Hp) (x y:V) (v u:Value) (Q:VK),Inv X pins Z H s->RelV x v->RelV y u->t x y H Q ->
  (vd (inplaceOp op v u))
section
variable {X:Cx}{pos:Pos}
@[reducible] def xcy (i:Nat):TG:=λ v Z H Q=>Q vg H
def xfl {i:Nat}{x:Str} (hN:X.N.Nodup) (hi:wS) (hx:D2) (hf:DN:=by first|ext pK|ext sC|ext ii):zTC:=by
 intro b s Z H v u Q I r h;exact wpAny_assign_Name (xjf I hN hi hx r (λ s' j=>fP _ H j h) hf)
@[reducible] def gNil:TGs:=λ vs Z H Q=>nV vs (Q Z H)
@[reducible] def xqx (t:TG) (u:TGs) (vs:dz) (Z:St) (H:Hp) (Q:qK):Prop:=lV vs λ v r=>t v Z H λ σ' H'=>u r σ' H' Q
def xaa:PGs X [] gNil:=by
 ext zuG a vs;show(xD,h,xwo h);ext gc;cases r;exact assignInOrder_nil qax
theorem xo {e:Expr}{es:nw}{t:TG}{u:TGs} (h1:PG X e t) (h2:PGs X es u)
    (hs:(zsz mW).map (·.2)=assign e X.env::(znB).map (·.2):=by rfl):PGs X mW (xqx t u):=by
  ext zuG b vs;show(mG,v,vr,i,h,xwp h);subst i;cases r with
  | cons r rr =>
    rw[hs];refine assignInOrder_cons (thn (h1 b s Z H _ _ _ I r h) λ_ c ⟨1082,σ1,q,j,f⟩=>?_);exact h2 b c σ1 q _ _ Q j rr f
inductive gTup (K:Zf) (n:Nat) (t:TGs) (v:V) (Z:St) (H:Hp) (Q:qK):Prop
 | mk (a xs) (e_:uU a) (r_:Pk/\xs.length=n/\t xs Z H Q)
def xag {es:nw}{k:Nat}{t:TGs}{n:Nat} (hc:nh) (h:PGs X es t)
    (hn:vU znB n:=by rfl) (hst:(znB).findIdx? (·.1)=none:=by rfl):PG X (.Tuple es k pos) (gTup X.K n t):=by
  intro j s Z H v u Q I r q;obtain⟨a,xs,D,B,C,q⟩:=q;subst D;cases r;show(eZ,its,y,A,hz,I.tuple B);refine assign_Tuple_tuple np A (by simp[hn,<- C,y.length]) hst (dC h' z);show(n7,J,j,H,kJ,I.kept (t':=s.toks) (ye,z b o (ZU (Z3 e)) e));exact h j _ Z H xs _ Q J zpi q
noncomputable def gSub (to ti:TE) (t:TSet):TG:=λ v Z H Q=>to Z H λ o H1=>ti Z H1 λ i H2=>t o i v H2 λ H3=>Q Z H3
def xgn {o i:Expr}{to ti:TE}{t:TSet} (ho:zF) (hi:PE X i ti) (hs:PSet X t)
    (ha:∀ v,assign (.Subscript o i pos) X.env v=(do
      let ov <- holding [v] (eval o X.env)
      let iv <- holding [v,ov] (eval i X.env)
      standAt pos
      DI [v,ov,iv] (setItem ov iv v)
      release [v,ov,iv] []):=by ext Mx):PG X (.Subscript o i pos) (gSub to ti t):=by
  intro a s Z H v u Q I r h;rw[ha];show(LK,jk (ho a s Z H _ I h) ov j x K C r1 z);show(LK,jk (hi a j Z K _ C z) iv f y J B r2 q);refine Ze (wpAny_standAt (Ze (Jo (thn (hs a f Z J x y v ov iv u _ B r1 r2 r q) λ_ L ⟨1062,D,A,m⟩=>?_))));exact wpAny_release (fP Z D A m)
noncomputable def tAsg (te:TE) (g:TG):TS:=(qW,te Z H λ x H1=>g x Z H1 D.nx)
def xbi {tg e:Expr}{te:TE}{g:TG} (he:xH) (hg:PG X tg g) (hs:(yP,swapsWithSole [tg] e pos.line X.env,false):=by rfl) (hw:(yP,swappedStores [tg] e X.env,none):=by rfl)
    (h1:(zsz [tg]).map (·.2)=[assign tg X.env]:=by rfl):qbJ tg (tAsg te g):=by
  ext rT b;refine wpAny_Assign_stores (jk (he b s Z H _ I h) v c x r j r1 f) hs hw;show(dP,h1,thn (hg b c Z r x v _ j r1 f) λ_ u q=>q)
def xcf {i:Nat}{x:Str}{e:Expr}{te:TE}{pos':Pos} (hN:X.N.Nodup) (hi:wS) (hx:D2) (he:xH) (hs:zHB:=by rfl) (hf:DN:=by first|ext pK|ext sC|ext ii) :
    zJq:=by
  ext rT b;refine wpAny_Assign_Name (jk (zdB b) v J y B z r1 j) hs;exact xjf z hN hi hx r1 (λ C q=>fP _ B q j) hf
noncomputable def tAug (i:Nat) (te:TE) (ti:TIp):TS:=(qW,∃ x,GN=(qz x)/\te Z H λ y H1=>ti x y H1 λ z H2=>D.nx (Z.set i (some z)) H2)
def xzn {i:Nat}{x:Str}{e:Expr}{te:TE}{op:Operator}{ti:TIp}{pos':Pos} (hN:X.N.Nodup) (hi:wS) (hx:D2) (he:xH) (ho:PIp X op ti) (hf:DN:=by first|ext pK|ext sC|ext ii) :
    PS X (.AugAssign qbL op e pos) (tAug i te ti):=by
  ext rT b;show(vz,v,O,h,h,m,L,M,I.loc)
  have q:zaA:=by rcases hx with k|k; exact ziM; exact .inr (.inl k)
  show(dA,u,r,l,M i x v hi O q);refine wpAny_AugAssign_Name ?_;have B:tz zo (λ w s₂=>zd (inplaceOp op u w) (λ r s₃=>zd (storeName X.env x r) (λ_=>SP X b D .next) s₃) s₂):=by
    show(o3,zdB b,lI w C y T R r1 K ?_);show(o3,ho b C Z T v y u w _ R r r1 K,lI z s2 U S Q r2 J ?_);exact xjf Q hN hi hx r2 (λ Y P=>fP _ S P J) hf
  rcases l with⟨j,hm⟩|⟨j,c,hc,hcell⟩
  . exact wpAny_loadName_local I.ok.kind j L hm B
  . rcases j with j|j
    . exact wpAny_loadName_cell I.ok.kind j hc hcell B
    . rcases hx with k|k
      . ext zCe
      . ext zCe
#check _
section
variable {X:Cx}{pos:Pos}
noncomputable def xhs (c:TT) (tb:TS):TS:=λD Z H=>∃ W:FN,(∃ m,W m Z H)/\∀ m Z H,W m Z H ->
 c Z H λ b a=>(wn,(zKn,(Su,m,W m' σ' H'),tb (Xw N) Z a),D.nx Z a)
theorem xg1 {c:Expr}{body:Fm}{tc:TT}{tb:TS} (hp:zHP) (hc:PT X c tc) (hb:zXT):PS X (.While c body [] pos) (xhs tc tb):=by
 ext rT a;obtain⟨W,⟨m0,Q⟩,j⟩:62:=h;refine wpAny_While (codeAny_whileLoop (λ n s'=>∃ σ' H',(zcV a)/\W n σ' H') ?_ m0 (fP Z H I Q));rintro n S (⟨σ1,O,T,P⟩:82);show(E1,hc a S σ1 O _ T (j n σ1 O P),zp b R M L u);cases b with
 | true =>
  ext dA N K u u;rw[gq];show(E1,hb a R σ1 M _ L u,wm f U);cases f with
  | next =>
   ext zCw
  | cont =>
   ext zCw
  | brk=>exact q
  | ret v=>exact q
 | false =>
  rw[d6 Z4];exact W0 (fP σ1 M L u)
#check _
structure It where
 go:uJ Nat
 yld:Nat->Hp->vM
 stop:uJ Nat
noncomputable def FpOk (X:Cx) (pins:eJ) (H:Hp) (b:Addr):Prop :=
 iS/\(dN By zfM zkJ Ug zcd)
def Inv.fpOk {X:Cx}{pins:eJ}{Z:St}{H H':Hp}{s:Shared}{b:Addr} (I:dI) (hb:zOH) (hn:EZ):To H' b:=by
 show(fW,46,hn,Qv (ZI I.lt hb),I.nofs hb,.inr (ZR I.sz hb),hF x c e z,uW p hp)
 .obtain ⟨v,q⟩:=zcx;show(Cf,ZI q.lt (dH z hb))
 .show(Cf,ZI (Z3 (Rw).1) (dH z hb))
structure Turn (P:Program) (w:World) (K:Zf) (tg:Expr) (J:It) (fp:dJ) (it:Addr) (tn:zYU):Prop where
 mem:it∈fp
 obj:∀ i h,tn i h->∀ b∈fp,(zlp wz)
 keep:∀ i h h',tn i h->(∀ b∈fp,∀ o,wz->Bq)->tn i h'
 item:∀(X:Cx),X.prog=P->X.w=w->X.K=K->X.calm=true->∀(i:Nat) (pins:List (Addr × Obj)) (s:Shared) (Z:St) (H:Hp) (E:Value->Shared->Prop),Inv X pins Z H s->(∀ b∈fp,FpOk X pins H b)->tn i s.heap->zxx ->
  wpAny (model P w) X.A (pyNext (.ref it)) (λr s1=>∃ u,(du r u) /\
   wpAny K2 X.A (letOwnedTupleGo tg Cy u) (λ_ s2=>∃ x H',(dN,GW s2,sj,J.yld i H x H',tn dW s2.heap,zcf)) E s1) E s
 done:∀(X:Cx),X.prog=P->X.w=w->X.K=K->X.calm=true->∀(i:Nat) (pins:List (Addr × Obj)) (s:Shared) (Z:St) (H:Hp) (E:Value->Shared->Prop),Inv X pins Z H s->(∀ b∈fp,FpOk X pins H b)->tn i s.heap->J.stop i H ->
  (zKY,r=none/\(yN s1))
 self:∀(A:Around) (i:Nat) (s:Shared) (Q:eR) (E:eR),tn i s.heap->(uE it s)->(xC K2 A (pyIter (.ref it)))
noncomputable abbrev TI:=zgu S9
noncomputable def PIE (X:Cx) (pins:eJ) (Z:St) (tg:Expr) (R:S9) (itv:Value) (s2:Shared):Prop :=
 ∃(it:Addr) (fp:dJ) (tn:zYU) (J:It) (H':Hp),(jQ itv it)/\(dN,GW s2,Turn X.prog X.w X.K tg J fp it tn,tn 0 s2.heap,zry H',R J H')
noncomputable def PI (X:Cx) (tg iter:Expr) (wi:TI):Prop :=
 ∀(pins:eJ) (s:Shared) (Z:St) (H:Hp) (R:S9),dI->wi Z H R ->
  (zJV a zRD)
def xjj {M:Model}{A:Around}{E:eR}{s:Shared}{tg:Expr}{it:Addr}{u:Value}{o:Obj}{n:String}{vs:oC}{Q:wY} (ho:wD it o) (hc:zej n) (hd:zfq o.data)
    (hn:(zAx).contains n=false) (hQ:Q () s):xC M A (letOwnedTupleGo tg Cy u):=by
  unfold letOwnedTupleGo;cases tg<;>first
    | exact Zp hQ
    | (cases u<;>first
        | exact Zp hQ
        | (show(eX,wpAny_load ho ?_)
           rw[hc,hd];show xC M A (MJ ((zAx).contains n&&vs[0]? == some (rawInt _)));show(zgs,(by intro h; rw[hn,JK] at h; cases h),hQ)))
noncomputable def Itl (K:Zf) (a:Addr):It :=
 (zaL,zUy,x,Nf zYh,zJo)
noncomputable def Itr (lo:Int) (n:Nat):It:=(dB,λ i _=>jS,U8 x (Nf,x=.int (lo+i)),λ i _=>n<=i)
def xt4 {P:Program}{w:World}{K:Zf}{tg:Expr} (a it:Addr):(HI,tg,Cm,h.IsListIter it a i) where
 mem:=dG
 obj:=λi h st b m=>by
  ext vP Bz;ext eZ o e c d st;ext zPs
 keep:=(zdz,st.at λ o e=>k it dG o e)
 item:=by
  intro X M D O Y i f s Z H E I A st J;subst M D O;ext mG xs x y C J;ext zSG;show(dA,u,hu,ru,B.get C);ext zQH;refine wpAny_pyNext_list_item st p.isList (x:=u) zRA (AY q sb);show(n7,I1,f,H,kJ,tw (mO,m,(sb.2 b m).trans e) U T S R Q);show(eZ,o,e,c,d,id q);show(yw,u,xjj (s:=kJ) e c d dF (iY,85,x,H,I1,ru,(hR,λ ys hy=>(dH,I.list_inj hy y,C)),q,λ b m=>(A b m).1))
 done:=by
  intro X M D O Y i f s Z H E I A st J;subst M D O;ext dA xs y C J;ext zSG;ext zQH;have hl:=B.length;exact wpAny_pyNext_list_end (I.ok.hd Y) st p.isList qp (zHU m Q)
 self:=(zxV,st,wpAny_pyIter_listiter st h)
def xr8 {P:Program}{w:World}{K:Zf}{tg:Expr} (it:Addr) (lo:Int) (n:Nat):zNI R7 (lo+zAb*1) 1 where
 mem:=dG
 obj:=λi h st b f=>by
  ext vP Id;exact⟨_,st,λv z=>by
   ext OF R z⟩
 keep:=zdz zsn
 item:=by
  intro X B x C A i c s Z H E I q st y;show(zAD,1);show(fU,Y,mY c H (DS Q),zEy,ja (zBc,PR,jy t));rw[Int.mul_one]
 done:=by
  intro X B x C A i c s Z H E I q st y;ext zAG
 self:=zFe
section
variable {X:Cx}{tg:Expr}
noncomputable def x11 (K:Zf) (tl:TE):TI:=λ Z H R=>tl Z H λ x H1=>∃ a,oK/\(∃ xs,O5)/\R Cm H1
def x8 {l:Expr}{tl:TE} (hl:PE X l tl):PI X tg l (x11 X.K tl):=by
 ext zu c;show(o3,hl c s Z H _ I h,lI v m x A n r1 u ?_);obtain⟨a,e,⟨xs,y⟩,q⟩:63:=u;ext gc;cases r1;show(eZ,its,B,p,hz,n.list y);refine wpAny_pyIter_list p.isList ?_;show(Fe,m.heap.objs.size,⟨66,A,rfl,n.kept (t':=m.toks) qo,xt4 a _,Km,Cq,q⟩);show(ua,b,m.heap.objs.size,D4);exact n.fpOk (Zl _) (n.hok.fresh (Zl _))
def xm3 {pins:eJ}{Z:St}{H:Hp}{s:Shared}{R:S9}{E:eR}{lo hi:Int}{t u v:Tok}{tk:Nat} (I:dI) (h1:-lN<=lo) (h2:lo<lN) (h3:-lN<=hi) (h4:hi<lN)
    (q:R (Itr lo E8) H):zFV (Bk,IA 1):=by
  show(zHo,small_one h1 h2 h3 h4);have c:yN (Bk,IA 1):=I.kept qo;refine⟨121,zpc,[zpc],_,_,⟨66,H,rfl,
    zPO,xr8 _ lo E8,?_,Cq,q⟩⟩
  . show(dw,x,lo+Ay*1=lo,dG,m,(jf E8)-Ay=(zLx 1),zlx)
    show IsRangeIter _ _ (lo+Ay*1) ((jf E8)-Ay) 1;ext fG x m j9
  . ext zEF zpc
noncomputable def x1y (ta:TA):TI:=(Xu,∃ j:Int,(nW,vs,[.int j],-lN<=j,j<lN,R (Itr 0 j.toNat) H1))
noncomputable def x2g (ta:TA):TI:=(Xu,∃ i j:Int,(zFi,vs=(jJ i j),R (Itr i (jX j i)) H1))
theorem xec {a:Expr}{ta:TA}{p pos:Pos} (hg:zsj) (hm:zsf) (ha:zdK) (hs:zdE:=by rfl):zqa ww (x1y ta):=by
 show(zRo,b,zjr (Tt (OO b) u x i c));ext tX j e c f q c;ext gc;cases r1 with
 | cons r rr =>
  ext ztH;exact call_range_1 (xm3 i dk dk c f zaY)
theorem xf7 {a b:Expr}{ta:TA}{p pos:Pos} (hg:zsj) (hm:zsf) (ha:PA X [a,b] ta) (hs:Pw [a,b] [AU zcG,AU Po]:=by rfl) (hs2:zet [b] Po:=by rfl) :
    zqa [a,b] (x2g ta):=by
  ext zu c;refine Call_ (Ls boot_range (zRR (Tt ziY A B z f)));obtain⟨i,j,e,⟨f,y,x,u⟩,q⟩:83:=f;ext gc;cases r1 with
  | cons r rr =>
    cases rr with
    | cons r' rr =>
      ext ztH;ext iL r';exact call_range_2 (xm3 z f y x u q)
noncomputable def tFor (wi:TI) (g:TG) (tb:TS):TS:=λD Z H=>wi Z H λ J H1=>∃ W:Nat->Nat->St->Hp->Prop,(∃ m,W 0 m Z H1)/\∀ i m Z H,Fh ->
 (J.stop i H/\zW)\/(J.go i H/\(Et (Eh,J.yld i H x H',Z,H',σ2,a,tb (Xw N) σ2 a)))
noncomputable def xhm (fp:dJ) (h:Heap):eJ:=fp.filterMap λ b=>(h.get? b).map λ o=>(b,o)
def xek {fp:dJ}{h:Heap}{b:Addr}{o:Obj} (hb:b∈fp) (e:wz):(b,o)∈xhm fp h:=Yd.mpr (dB b hb vI)
theorem xtt {fp:dJ}{h:Heap}{p:Addr × Obj} (hp:p∈xhm fp h):eA∈fp/\(Fd eA fM):=by
 show(dA,b,a,e,Yd.mp hp);cases q:h.get? b with
 | none=>ext GR q
 | some o =>
  rw[q] at e;have c:UW=p:=zfS;subst c;ext dO a q
def Inv.pinned {pins:eJ}{Z:St}{H:Hp}{s:Shared}{fp:dJ} (I:dI) (hf:ziX) (ho:∀ b∈fp,(zlp rO)):mY (pins++xhm fp s.heap) H s :=
 I.pins_of λ p r=>(Zz.mp r).elim (λ z=>I.pin p (ZB _ z)) λ z=>by
  show(lK,j,xtt z);obtain⟨y,x,u,_⟩:44:=hf eA j;show(dA,o,q,d,ho eA j);ext fe e q q;exact gT e y x u d
def Inv.unpinned {pins pl:eJ}{Z:St}{H:Hp}{s:Shared} (I:mY (pins++pl) H s):dI:=I.pins_of λ p a=>I.pin p (ZB _ (ZO _ a))
def xa1 {iter:Expr}{body:Fm}{wi:TI}{g:TG}{tb:TS}{pos:Pos} (hp:zHP) (hc:nh) (hi:zbi) (hg:PG X tg g) (hb:zXT)
    (hs:zkt:=by ext Mx):PS X (.For tg iter body [] pos) (tFor wi g tb):=by
  ext rT q;refine wpAny_For (thn (PZ q) (zwJ s1 zVP)) hs;obtain⟨it,fp,tn,J,⟨H2,e,I2,T,R,f2,W,⟨m0,w0⟩,L⟩⟩:121:=h2;ext gc
  -- what stays true of the iterator's objects through the loop
  have y:(zNj,FpOk X q H' b):=λ hn b hb=>⟨hn b hb,(f2 b hb).2⟩
  refine codeAny_forLoop_any (λ n s'=>(zXh,zcV q,s'.heap,W i n σ' H')) ?_ m0 (mX,0,Z,H2,I2,R,λ b hb=>(f2 b hb).1,w0);rintro n s3 (⟨i,σ3,Q,I3,M,P,w3⟩:104);rcases L i n σ3 Q w3 with⟨stop,qn⟩|⟨go,N,hN,step⟩
  . show(E1,T.done X rfl rfl rfl hc i q s3 σ3 Q X.xe I3 (y P) M stop,λ r s4 ⟨1042,U,I4⟩=>?_)
    subst U;exact W0 (fP σ3 Q I4 qn)
  . show(E1,T.item X rfl rfl rfl hc i q s3 σ3 Q X.xe I3 (y P) M go,zp r s4 u U h4)
    subst U;show(E1,h4,λ_ s5 ⟨1085,x,H5,I5,r5,y5,K,Y⟩=>?_);have aa:=I5.pinned (y Y) (T.obj _ _ K);show(E1,hg _ s5 σ3 H5 x u _ aa r5 (step x H5 y5),λ_ s6 ⟨1082,σ6,H6,I6,q6⟩=>?_);show(E1,hb _ s6 σ6 H6 _ I6 q6,d8 f S C);have again:∀{σ7:St}{B:Hp},Inv X (q++xhm fp s5.heap) σ7 B S->N σ7 B->(zfe (zXh,Inv X q σ' H' S,S.heap,W i m σ' H')):=λ{σ7 B} z O=>by
      show(dA,m',hm,w7,hN σ7 B O);show(gG,m',hm,mX dW σ7 B z.unpinned (zgx,K,λ b hb o e=>(z.pin UW (OC hb)).1) Cq w7);show(dA,o,e,d,T.obj _ _ K b hb);exact eE (z.pin UW (OC hb))
    cases f with
    | next=>ext zJR
    | cont=>ext zJR
    | brk=>show(mG,σ7,B,z,C,C); exact fP σ7 B z.unpinned C
    | ret v=>show(MF,x7,σ7,B,z,r7,C,C); exact eP 103 x7 σ7 B z.unpinned r7 C
#check _
def xa5 {K:Zf}{a:Addr}{xs:dz}{g:TG}{tb:TS}{D:Ends}{Z:St}{H:Hp} (Pv:FN) (h0:Lc) (hl:zLo)
    (hs:∀ i x Z H,B3->zY->(VX x H)) (hd:zWP) :
    ∃ W:Nat->Nat->St->Hp->Prop,(∃ m,W 0 m Z H)/\∀ i m Z H,Fh ->
      ((Cm).stop i H/\zW)\/((Cm).go i H/\(Et (Eh,(Cm).yld i H x H',Z,H',σ2,H2,HQ))):=by
  ext zAA c
  . ext zBH b
    ext xD y y;ext gc;exact hs i x Z _ (y xs q) p
  . ext zOk
def xhx {lo:Int}{n:Nat}{g:TG}{tb:TS}{D:Ends}{Z:St}{H:Hp} (Pv:FN) (h0:Lc)
    (hs:zuC jS (VX PR H)) (hd:zpp n) :
    ∃ W:Nat->Nat->St->Hp->Prop,(∃ m,W 0 m Z H)/\∀ i m Z H,Fh ->
      ((R7).stop i H/\zW)\/((R7).go i H/\(Et (Eh,(R7).yld i H x H',Z,H',σ2,H2,HQ))):=by
  show(iF,λ i m Z H=>zeq n zY,zer n);rintro i m Z H (⟨rfl,b,p⟩:43);by_cases hlt:jS
  . show(qZ,(dY,hlt,M6,U6 a (z6,n-dW,dk,hlt,a),d8 x H' y))
    ext xD y y;subst e y;exact hs i Z _ hlt p
  . ext zoA n eV
noncomputable abbrev R2:=OS
noncomputable def OpR (X:Cx) (f:Oe) (r:R2):Prop :=
 ∀(pins:List (Addr × Obj)) (s:Shared) (Z:St) (H:Hp) (x y:V) (v u:Value) (Q:VK),Inv X pins Z H s->RelV x v->RelV y u->r x y H Q ->
  (vd (f v u))
noncomputable def UnR (X:Cx) (f:Value->zfa) (r:ziv):Prop :=
 ∀(pins:eJ) (s:Shared) (Z:St) (H:Hp) (x:V) (v:Value) (Q:VK),dI->xA->r x H Q ->
  (vd (f v))
noncomputable def xcw (X:Cx) (f:Value) (r:zgD dz):Prop :=
 ∀(pins:eJ) (s:Shared) (Z:St) (H:Hp) (xs:dz) (us:d4) (Q:VK),dI->nF->r xs H Q ->
  (vd (call f us))
noncomputable def TruR (X:Cx) (r:V->(gQ Hp zH)):Prop :=
 ∀(pins:eJ) (s:Shared) (Z:St) (H:Hp) (x:V) (v:Value) (Q:zH),dI->xA->r x H Q ->
  (zpn (truthy v))
noncomputable def tOp (r:R2) (ta tb:TE):TE:=yU (zrw,r x y H2 Q)
noncomputable def tUn (r:ziv) (ta:TE):TE:=(yU,r x H1 Q)
@[reducible] def rI (C:zcp) (g:zYA) (x:V) (y:V) (H:Hp) (Q:VK):Prop:=iV x y λ i j=>C i j/\Q Dh H
@[reducible] def rI0 (g:zYA) (x:V) (y:V) (H:Hp) (Q:VK):Prop:=iV x y λ i j=>Q Dh H
noncomputable def rU (g:Int->V):ziv:=λ x H Q=>∃ i,Rn/\Q (g i) H
section
variable {X:Cx}{a b c:Expr}{ta tb tc:TE}{pos:Pos}
def binT (ha:qx) (hb:zD) {pins:eJ}{s:Shared}{Z:St}{H:Hp}{R:V->vM} (I:dI)
    (h:zGS) {Q:eR}{f:Oe}
    (hf:zBt) :
    zFl:=by
  show(o3,P8 pins,lI v c x H1 q r1 j ?_);show(o3,hb pins c Z H1 _ q j,lI u s2 y H2 m r2 i ?_);exact hf v u s2 x y H2 m r1 r2 i
def xu {op:Operator}{r:R2} (ho:zcT op r) (ha:qx) (hb:zD):PE X (.BinOp a op b pos) zcX:=by
 ext jd c;exact wpAny_BinOp (zuI,λ v u e x y z m j f q=>ho c e Z z x y v u Q m j f q)
def xr4 {op:UnaryOp}{r:ziv} (ho:UnR X (unaryOp op) r) (ha:qx):PE X (.UnaryOp op a pos) (tUn r ta):=by
 ext jd b;exact UnaryOp_ (RK,b,c,i,f,e,ho b c Z i x v Q f r1 e)
def opI {f:Oe}{C:zcp}{g:zUM}
    (rule:(zkx,C i j->zMi->(SE zpr))) :
    OpR X f (rI C (SG Dh)):=by
  intro a s Z H x y v u Q I c b h;show(qG,i,j,rfl,rfl,e,q,xq5 h);ext Dz;ext iL b;exact rule i j t t' s _ _ e (F1 Dh)
def opI0 {f:Oe}{g:zUM}
    (rule:(zkx,zMi->(SE zpr))) :
    OpR X f (rI0 (SG Dh)):=by
  intro a s Z H x y v u Q I c b h;ext zRN;ext Dz;ext iL b;exact rule i j t t' s _ _ (F1 Dh)
def opB0 {f:Oe}{g:AN Int Int}
    (rule:(zkx,Q (.bool Dh) s->(SE zpr))) :
    OpR X f (rI0 λ i j=>.bl (g i j)):=by
  intro a s Z H x y v u Q I e c h;ext zRN;ext iG e;ext iL c;exact rule i j t t' s _ _ ⟨83,.bl (g i j),H,I,rfl,q⟩
noncomputable def CDiv (i j:Int):Prop:=0<j/\qbi
noncomputable def CMul (i j:Int):Prop:=(-uu<i/\i<uu)\/(-uu<j/\j<uu)
def CMul.ok {i j:Int} (h:CMul i j):IntMulOk i j:=by
 rcases h with⟨h1,h2⟩|⟨h1,h2⟩
 .exact .of_left (intBits_le_64 h1 h2)
 .exact .of_right (intBits_le_64 h1 h2)
def xq3 (k:Nat):pT<=2 ^ k:=by
 rw[two_pow_cast];exact Int.natCast_nonneg _
def xa2:zmF .Add (i+j):=opI0 λ_ _ _ _ _ _ _ q=>add_int q
def xb8:zmF .Sub (i-j):=opI0 λ_ _ _ _ _ _ _ q=>sub_int q
def xdv:zfg .Mult CMul (i*j):=opI λ_ _ _ _ _ _ _ a q=>mul_int q a.ok
def xew:zfg .FloorDiv CDiv (i / j):=opI λi j _ _ _ _ _ a q=>by
 show(dw,c,pT<j,p5,b,qbi,a.2);exact floordiv_int dk (yI,Int.fdiv_eq_ediv_of_nonneg i dk) (.inl (Wu dk))
def xcg:zfg .Mod (λ_ j=>0<j) (i % j):=opI λi j _ _ _ _ _ a q=>by
 have b:pT<j:=a;exact mod_int' dk (yI,Int.fmod_eq_emod_of_nonneg i dk)
def xzq:zfg .RShift (λ_ j=>0<=j) (i / 2 ^ j.toNat):=opI λ i j _ _ _ _ _ b q =>
 rshift_int b (yI,Int.fdiv_eq_ediv_of_nonneg i (xq3 _))
def xzx:zmF .BitAnd (Builtin.bitAnd i j):=opI0 λ_ _ _ _ _ _ _ q=>and_int q
def xxy:OpR X (inplaceOp .Add) (rI0 (SG (i+j))):=opI0 λ_ _ _ _ _ _ _ q=>iadd_int q
def unI {f:Value->zfa}{g:Int->Int}
    (rule:∀(i:Int) (t:Tok) (s:Shared) (Q:eR) (E:eR),Q (.int (g i) s.toks) vc->(SE (f (.int i t)))) :
    UnR X f (rU λ i=>.int (g i)):=by
  intro a s Z H x v Q I b h;ext sR i q h;ext iG b;exact rule i t s _ _ (TB,.int (g i))
def xnd:UnR X (unaryOp .USub) (rU λ i=>.int (-i)):=unI λ_ _ _ _ _ q=>neg_int q
#check _
noncomputable def scal:AN V V
 | .non,.non=>true|.non,vK=>true|vK,.non=>true|.non,sP=>true|sP,.non=>true|.non,nK=>true|nK,.non=>true
 | vK,vK=>true|sP,sP=>true|nK,nK=>true|.byt _,.byt _=>true
 | vK,nK=>true|nK,vK=>true|sP,nK=>true|nK,sP=>true
 | _,_=>false
noncomputable def rEq:R2:=(Tv,zUT/\Q (R0 (x=y)) H)
noncomputable def rNe:R2:=(Tv,zUT/\(xT (!(gk x y))))
def xqh {i j:Int}:decide (V.int i=V.int j)=(i == j):=by
 ext UQ
def xs5 {i j:Bool}:decide (V.bl i=V.bl j)=(i == j):=by
 ext UQ
def xp5 {i j:Str}:decide (V.str i=V.str j)=(i == j):=by
 ext UQ
def xqc {i j:Array UInt8}:decide (V.byt i=V.byt j)=(i.toList == j.toList):=by
 rw[Jf];cases i;cases j;simp
section
variable {X:Cx}{a b c:Expr}{ta tb tc:TE}{pos:Pos}
def xa0 {pins:eJ}{Z:St}{H:Hp}{s:Shared}{Q:VK}{k k':Bool} (I:dI) (q:xT k) (e:k=k'):RS (.bool k') s:=by
 ext gc;exact(yp,.bl k,I,rfl)
theorem xcb:wE .Eq rEq:=by
 intro f s Z H x y v u Q I c a h;ext uY hs;cases x with
 | non =>
  cases c;cases y with
  | non=>cases a; exact PySem.EqNone.eq_none_none jW
  | bl j=>cases a; exact PySem.EqNone.eq_none_bool jW
  | int j=>ext iL a; exact PySem.EqNone.eq_none_int jW
  | str j=>ext iL a; exact PySem.EqNone.eq_none_str jW
  | _=>ext yh
 | bl i =>
  cases c;cases y with
  | non=>cases a; exact PySem.EqNone.eq_bool_none jW
  | bl j=>cases a; exact eq_bool (v0 xs5)
  | str j=>ext iL a; exact PySem.EqMixed.eq_bool_str jW
  | _=>ext yh
 | int i =>
  ext Dz;cases y with
  | non=>cases a; exact PySem.EqNone.eq_int_none jW
  | int j=>ext iL a; exact eq_int (v0 xqh)
  | str j=>ext iL a; exact PySem.EqMixed.eq_int_str jW
  | _=>ext yh
 | str i =>
  ext Dz;cases y with
  | non=>cases a; exact PySem.EqNone.eq_str_none jW
  | bl j=>cases a; exact PySem.EqMixed.eq_str_bool jW
  | int j=>ext iL a; exact PySem.EqMixed.eq_str_int jW
  | str j=>ext iL a; exact eq_str (v0 xp5)
  | _=>ext yh
 | byt i =>
  ext Dz;cases y with
  | byt j=>ext iL a; exact PySem.W.eq_bytes (v0 xqc)
  | _=>ext yh
 | _=>cases y<;>exact absurd zZh Z4
theorem xmp:wE .NotEq rNe:=by
 intro f s Z H x y v u Q I c a h;ext uY hs;cases x with
 | non =>
  cases c;cases y with
  | non=>cases a; exact PySem.EqNone.ne_none_none jW
  | bl j=>cases a; exact PySem.EqNone.ne_none_bool jW
  | int j=>ext iL a; exact PySem.EqNone.ne_none_int jW
  | str j=>ext iL a; exact PySem.EqNone.ne_none_str jW
  | _=>ext yh
 | bl i =>
  cases c;cases y with
  | non=>cases a; exact PySem.EqNone.ne_bool_none jW
  | bl j=>cases a; exact ne_bool (v0 (AQ not xs5))
  | str j=>ext iL a; exact PySem.EqMixed.ne_bool_str jW
  | _=>ext yh
 | int i =>
  ext Dz;cases y with
  | non=>cases a; exact PySem.EqNone.ne_int_none jW
  | int j=>ext iL a; exact ne_int (v0 (AQ not xqh))
  | str j=>ext iL a; exact PySem.EqMixed.ne_int_str jW
  | _=>ext yh
 | str i =>
  ext Dz;cases y with
  | non=>cases a; exact PySem.EqNone.ne_str_none jW
  | bl j=>cases a; exact PySem.EqMixed.ne_str_bool jW
  | int j=>ext iL a; exact PySem.EqMixed.ne_str_int jW
  | str j=>ext iL a; exact ne_str (v0 (AQ not xp5))
  | _=>ext yh
 | byt i =>
  ext Dz;cases y with
  | byt j=>ext iL a; exact PySem.W.ne_bytes (v0 (AQ not xqc))
  | _=>ext yh
 | _=>cases y<;>exact absurd zZh Z4
def xgf:zla .Lt (i<j):=opB0 λ_ _ _ _ _ _ _ q=>lt_int q
def xga:zla .LtE (i<=j):=opB0 λ_ _ _ _ _ _ _ q=>le_int q
def x2x:zla .GtE (j<=i):=opB0 λ_ _ _ _ _ _ _ q=>ge_int q
theorem xs3:wE .Is (Tv,y=.non/\Q (R0 (x=.non)) H):=by
 intro c s Z H x y v u Q I a e h;show(uY,rfl);cases e;refine is_none_gen (v0 ?_);cases x<;>first
  | (ext n8 a)
  | (ext iG a; rfl)
theorem xid:wE .IsNot (Tv,y=.non/\(xT (!(gk x .non)))):=by
 intro f s Z H x y v u Q I a j h;show(uY,rfl);cases j;refine isnot_none_gen (v0 ?_);cases x<;>first
  | (ext n8 a)
  | (ext iG a; rfl)
noncomputable def isObj:HO->Bool
 | .lst _=>true
 | .ins _ _ _=>true
 | _=>false
def xac (b:Expr) {op:CmpOp} (h:op≠.In:=by decide) (h2:op≠.NotIn:=by decide):Hy:=by
 show(zBG,(by cases op<;>first|rfl|ext mP h),by cases op<;>first|rfl|ext mP h2)
def xbx {op:CmpOp}{r:R2} (ho:zez) (ha:qx) (hb:zD) (hm:Hy):PE X Xq zcX:=by
 ext jd c;exact wpAny_Compare1 (zuI,λ v u f x y z n j i q=>ho c f Z z x y v u Q n j i q) hm
inductive xyq (x:V) (H':Hp) (Q:zH):Prop
 | mk (k) (e_:x=.bl k) (r_:Q k H')
noncomputable def xwt (t:TE):TT:=(qX,t Z H λ x H'=>xyq x H' Q)
def xae {op:CmpOp}{r:R2} (ho:zez) (ha:qx) (hb:zD) (hm:Hy):PT X Xq (xwt zcX):=by
 ext jd f;refine wpAny_isTrue_Compare1 (thn (ha f s Z H _ I h) λv i ⟨1083,x,J,B,r1,q⟩=>thn (hb f i Z J _ B q) λ u s2 ⟨1083,y,H2,I2,r2,q2⟩ =>
  (jk,ho f s2 Z H2 x y v u _ I2 r1 r2 q2,c,K,z,D,A,j,dB k e n)) hm
 ext gc;cases j;exact JR (dB D A n)
noncomputable def xue (r r':R2) (ta tb tc:TE):TE:=λZ H Q=>ta Z H λx H1=>tb Z H1 λy H2=>r x y H2 λ z H3=>∃ k,z=.bl k /\
 (jo,k,tc Z H3 λ a c=>r' y a c Q,Q (.bl false) H3)
theorem xg3 {op op':CmpOp}{r r':R2} (ho:zez) (ho':wE op' r') (ha:qx) (hb:zD) (hc:PE X c tc)
    (hm:zGb:=by with_unfolding_all rfl):PE X zHk zQo:=by
  ext jd f;refine Compare_chain (thn (ha f s Z H _ I h) λv J ⟨1083,x,T,R,r1,O⟩=>chain_link (thn (hb f J Z T _ R O) λ u s2 ⟨1083,y,H2,I2,r2,q2⟩ =>
    zJa (ho f s2 Z H2 x y v u _ I2 r1 r2 q2))) hm
  ext gc;cases L;ext zjp;cases k with
  | false=>exact ite_ff ⟨83,.bl false,n,j,rfl,i⟩
  | true=>exact ite_tt (chain_last (zMH,S,P,ho' f B Z S y q u A Q P r2 K M))
theorem xm2 {op op':CmpOp}{r r':R2} (ho:zez) (ho':wE op' r') (ha:qx) (hb:zD) (hc:PE X c tc)
    (hm:zGb:=by with_unfolding_all rfl):PT X zHk (xwt zQo):=by
  ext jd f;refine isTrue_chain (thn (ha f s Z H _ I h) λv J ⟨1083,x,Y,T,r1,O⟩=>test_link (thn (hb f J Z Y _ T O) λ u s2 ⟨1083,y,H2,I2,r2,q2⟩ =>
    zJa (ho f s2 Z H2 x y v u _ I2 r1 r2 q2))) hm
  ext gc;cases L;ext zjp;cases k with
  | false =>
    obtain⟨k',R,P⟩:=i;cases R;exact ite_ff (dB n j P)
  | true =>
    refine ite_tt (test_last (zMH U S (jk,ho' f B Z U y q u A _ S r2 K M,d',s5,z2,H5,I5,r5,dB k2 e2 q5)));subst e2;cases r5;exact JR (dB H5 I5 q5)
noncomputable def TruV (K:Zf) (x:V) (H:Hp) (k:Bool):Prop :=
 match x with
 | .non=>jc k
 | yl=>k=b
 | iC=>k=(i != 0)
 | .str y=>zEk
 | .byt y=>zFd
 | mN=>zDX zcw zrZ
 | _=>False
def xra {κ:Type}{kvs:je}{vs:Cp} (r:tS):(! vs.isEmpty)=! kvs.isEmpty:=by
 cases r<;>rfl
def xkm {xs:dz}{its:d4} (r:EQ):(! its.toArray.isEmpty)=! xs.isEmpty:=by
 cases r<;>simp
def xfn:zWW<xX:=BR WA
theorem xz6:TruR X (λ x H Q=>∃ k,TruV X.K x H k/\Q k H):=by
 intro C s Z H x v Q I B h;ext dA k e q h;have R:=xfn;have hs:sizeLine=16777216:=WA;cases x with
 | non =>
  cases B;have j:k=false:=e;subst j;exact truthy_none (dB H I q)
 | bl b =>
  cases B;have j:k=b:=e;subst j;exact JR (dB H I q)
 | int i =>
  ext iG B;have j:k=(i != 0):=e;subst j;exact PySem.P.truthy_int (dB H I q)
 | str y =>
  ext zZE zEk;subst j;exact PySem.P.truthy_str dk (zjC q)
 | byt y =>
  ext zZE zFd;subst j;exact PySem.W.truthy_bytes dk (zjC q)
 | ref p =>
  cases B;have j:(zDX,SqL X.K H p xs,SqT X.K H p xs):=e;rcases j with⟨xs,hx,j⟩|⟨xs,hx,j⟩|⟨kvs,hx,j⟩
  .subst j;ext zpm hx;have A:=r.length;exact wpAny_truthy_list pl.isList zNi zUG
  .subst j;show(eZ,its,r,pl,hz,I.tuple hx);have A:=r.length;exact truthy_tuple pl zNi zUG
  .subst j;obtain⟨hz,M,vs,r,m⟩:Ip/\(ED p)/\(zij,s.heap.DictOf pA p vs):=uL p hx;show(Oj,A,Yf r);exact wpAny_truthy_dict M m dk (zjC (yI,xra r))
 | _=>exact (show False from e).elim
def xmu (ha:qx) (he:zBg a a.pos) :
    PT X a (qX,ta Z H λ x H'=>∃ k,TruV X.K x H' k/\Q k H'):=by
  ext jd b;exact isTrue_plain (RK,b,c,j,i,f,xz6 b c Z j x v Q i r1 f) (he _)
theorem xcx {x:V}{us:d4} (r:AV [x]):zPo:=by
 cases r with
 | cons r1 r2=>cases r2; exact ja r1
theorem xr3 {x y:V}{us:d4} (r:AV [x,y]):∃ u w',(gf,us,[u,w'],sj,RelV y w'):=by
 cases r with
 | cons r1 r2 =>
  cases r2 with
  | cons r3 r4=>cases r4; exact ku r1 r3
def xi6:Pq "abs" (UK,zWk zLX):=by
 ext rp a;ext sR i q h;show(zmm,xcx r);exact call_abs_int λ u c=>F1 zLX
def xgi:(zjt,om "int",(zWk i)\/∃ k,xs=[.bl k]/\(tY (O9 k))):=by
 ext rp c;rcases h with⟨i,rfl,q⟩|⟨k,rfl,q⟩
 .obtain ⟨u,rfl,⟨t,rfl⟩⟩:62:=xcx r;exact call_int_int (yp iC I iP)
 .show(j7,u,rfl,r1,xcx r);cases r1;exact call_int_bool (F1 (O9 k))
#check _
structure ObjM (h:Heap) (x dx C:Addr) (mA:iO):Prop where
 obj:(du,h.get? x,zyG)
 ns:zdd
 ne:dx≠x
def xuo {h:Heap}{dx:Addr}{mA:iO} (n:zdd):zDK (Fd dx od):=by
 obtain⟨o,c,ep,u,A,x,_,v⟩:105:=n;show(gG,o,u,gO name);have e:=v name;unfold nsFind findBy at e;rw[<- Array.find?_toList] at e;unfold WD;rw[A]
 ext zwy
 .rename_i y q
  rw[q] at e;exact congrArg some e
 .rename_i q
  rw[q] at e;have a:c.toList.any (·.refKey)=false:=by
   rw[List.any_eq_false];intro y j;show(Mn,z,t,b,x y (Array.mem_toList_iff.mp j));simp[DictEntry.refKey,b]
  have B:¬ c.toList.any (·.refKey)=true:=dH a Z4
  show(qV,B,zid some)
def ObjM.look {h:Heap}{x dx C:Addr}{mA:iO} (I:ObjM h x dx C mA):(zDK,PySem.W.InstAt h x zyG C (some od)) :=
 let ⟨od,ho,hl⟩:=xuo I.ns
 (dB,od,G0 I.obj rfl ho,hl)
section
variable {prog:Program}{w:World}{A:Around}{E:Value->Shared->Prop}{s:Shared}{K:Zf}{x dx C f:Addr}{mA:Str->Option Value}{name:Str}{v:Value}
def xy9 {expr:Bool}{Q:eR} (X:BN) (I:zmE) (hg:zPU) (hh:zqU)
    (ha:sE C name) (hv:(du,mA name,v)) (hv':PySem.W.handedIn v=true) (h:Q v vc) :
    jh (getAttr uw name expr):=by
  ext zwi c
  exact PySem.W.get_value X J (WO hg).1 (PySem.W.findObj_own hh ha rfl (fC c hv)) hv' h
def xv1 {pl:zfI}{Q:zPD} (X:BN) (I:zmE) (hg:zPU)
    (hf:zwD name) (ht:NZ) (hv:mA name=none) (h:Q (.ref f,[uw]) s) :
    jh (getMethod uw name pl):=by
  ext zwi b
  exact PySem.W.method_fn X J (WO hg).1 (WO hg).2 hf (beq_iff_eq.mp ht) (by show (WD name od).map (·.isSome)=some false; rw[b,hv]; rfl) h
def xzf {ns:dD}{Q:wY} (X:BN) (I:zmE)
    (hs:zDe) (hp:zZb) (ht:zJT name) (hh:zqU)
    (hw:Wo mA ns) (hsz:zWX)
    (h:(Mv,ObjM h' x dx C (λ y=>(jq,y,name,Au,mA y)),ZV dx s.heap h',Q () (DS,s.toks+2))) :
    jh (setAttr uw name v):=by
  ext zwi U
  refine PySem.W.set_plain X J hs (PySem.W.osa_open (s:=vc) (r:=none) X J hp ht (gO b));show(dA,cd,P,H,PySem.W.any_some hh);have O:(du,s.heap.get? x,(dY,Mi,some dx,.plain,#[])):=I.obj;refine Ze (Zp (Ze (Ze (wpAny_loadPart O (Ze (PySem.W.Looks.here (s:=vc) (PySem.W.looks_clsIn X P) ?_))))));rw[H];refine Zp (a:=some dx) (Ze (Zp (Ze ?_)));refine wpAny_nsSet1 (s:=vc) I.ns (wm h' z);show(MF,T,R,S,B,D,M,z.count (Wo.cons name v hw));show(eX,wpAny_lookBehind B (by rw[D]; exact pastItsLine_dict (ZR M (sv ZF))) ?_);exact Zp (h _ (dB,(q.2 _ (Z2 I.ne)).trans I.obj,z,I.ne) q)
def xwc {R:ztp}{vs:d4}{kw:E9} (X:BN) (hm:zZa)
    (hi:zpE) (hf:PySem.W.typeIn K (.ref f)=some (.type "function"))
    (h:codeAny pD (zIt ⟨Mi::vs,kw⟩) (.call (.ref f) ⟨.ref m8::vs,kw⟩) (PySem.W.InitBack m8 R)
      { s with heap:=(El).push (Yz C s.heap.objs.size) }) :
    zbM pD A C ⟨vs,kw⟩ R s:=by
  ext qv x d t v;exact PySem.W.make_core (PySem.W.makes_of X hm) (PySem.W.looks_findIn X hi) (λ q=>PySem.W.bind_fn X q hf) jr h
#check _
noncomputable def putF (f:Str) (v:V):oE->oE
 | []=>[(f,v)]
 | (g,x)::r=>(jq,g,f,(g,v)::r,(g,x)::putF f v r)
theorem xiu (f g:Str) (v:V):∀ fs:oE,(zdg).lookup g=(jq,g,f,Au,fs.lookup g)
 | []=>by
  show Je g [(f,v)]=_;by_cases h:g=f
  .ext zkR f zfW
  .show(Vt,g == f,zlL);simp only[Je,b,zfV]
 | vY::r=>by
  have c:=xiu f g v r;ext zjT
  .ext pi hk;by_cases h:g=k
   .show(zkR,k,if_pos (h.trans hk))
   .show(Vt,g == k,zlL);simp only[Je,b,d6 (λ e:g=f=>h (e.trans hk.symm))]
  .ext lD hk;by_cases h:g=k
   .show(zkR,k,d6 (λ e:g=f=>hk (h.symm.trans e)))
   .show(Vt,g == k,zlL);simp only[Je,b];exact c
theorem xho (f:Str) (v:V):∀ fs:oE,f∈(zdg).map (·.1)/\∀ g,g∈fs.map (·.1)->g∈(zdg).map (·.1)
 | []=>⟨ie putF,λ g h=>BF⟩
 | vY::r=>by
  show(UN,j,xho f v r);ext zjT
  .ext pi hk;subst hk;show(dO,dG,λ g h=>tE)
  .ext lD hk;show(vS,?_,g,h)
   .ext iX Zq zjb
   .rw [Zq] at h ⊢;rcases Ae with e|e
    .exact Zu.mpr (.inl e)
    .exact Zm _ (b g e)
theorem xir (f:Str) (v:V):∀ fs:oE,(kS,zdg,fs.length+1)
 | []=>ie putF
 | vY::r=>by
  have a:=xir f v r;ext zjT
  .rw [eD hk,ZF,ZF]; lia
  .rw [d6 hk,ZF,ZF]; lia
theorem RelO.some_of {v:V}{o:BU} (r:RelO (some v) o):∃ u,(du o u)/\pF:=by
 cases o with
 | none=>ext Ig
 | some u=>ext yw u r
theorem RelO.none_of {o:BU} (r:RelO none o):o=none:=by
 cases o with
 | none=>rfl
 | some u=>ext Ig
theorem xul {v:V}{u:Value} (r:pF):PySem.W.handedIn u=true:=by
 cases v with
 | non=>show(n8,jK u JJ r)
 | bl b=>show(n8,(Fu,u=YI b))
 | int i=>ext zbe O7
 | str x=>ext zbe zqW
 | byt b=>ext zbe zLA
 | flt b=>ext zbe zLz
 | ref a=>show(n8,(Fu,u=Zw a))
 | ty n=>show(n8,Fu zSn)
section
variable {P:Program}{w:World}{H H':Hp}{h h':Heap}{a C dx:Addr}{fs fs':List (Str × V)}
def xh5 (hok:qO) (e:RM):∃ mA,ObjM h a dx C mA/\NB/\Wo mA (fs.map (·.1))/\zbm/\(Ep dx a):=by
 obtain⟨d,z,b,ob,⟨mA,n,r,q⟩⟩:45:=(zac,RY,hok a _ e)
 exact(eP,65,mA,dB ob n b,r,q,z,d)
#check _
structure Cls (K:Zf) (C:Addr):Prop where
 pg:EM C
 hd:zqU
 po:zZb
 sa:zDe
def Cls.get {K:Zf}{C:Addr} (c:SZ) (f:Str):JV K C f=true:=c.pg
noncomputable def xfz (K:Zf) (C:Addr) (f:Str):Prop:=sE C f
def xfz.taker {K:Zf}{C:Addr}{f:Str} (n:zvj):zJT f:=by
 unfold PySem.W.takerIn;rw[show sE C f from n];rfl
structure Meth (K:Zf) (C:Addr) (m:Str) (f:Addr):Prop where
 at_:zwD m
 fn:NZ
 kp:TX
section
variable {X:Cx}{pins:List (Addr × Obj)}{Z:St}{H:Hp}{s:Shared}{a C dx:Addr}{fs:List (Str × V)}{f:Str}{v:V}{A:Around}{E:Value->Shared->Prop}
def xq4 {b:Bool}{Q:eR} (I:dI) (e:RM) (c:RI) (n:xfz X.K C f) (l:zNa)
    (h:∀ u s',zhP->pF->Q u s'):xS (getAttr eQ f b):=by
  ext zLS q;show(dA,u,x,j,(zXg,q f,(by rw[<- l]; exact r f)));exact xy9 I.kIn O (c.get f) c.hd n x (xul j) (h u _ um j)
def xkb {m:Str}{g:Addr}{pl:zfI}{Q:zPD} (I:dI) (e:RM) (c:RI) (k:Meth X.K C m g) (l:zQb)
    (h:Q (.ref g,o4) s):xS (getMethod eQ m pl):=by
  ext zLS b;have j:b m=none:=RelO.none_of (by rw[<- l]; exact r m);exact xv1 I.kIn O (c.get m) k.at_ k.fn j h
def xrq {y:V}{u:Value}{Q:wY} (I:dI) (e:RM) (c:RI) (n:xfz X.K C f) (hl:zWV) (ry:j8)
    (h:zbK (qN (i5 a (ro C zsX)) s')):xS (setAttr eQ f u):=by
  obtain⟨D,O,r,B,_,J⟩:65:=xh5 I.hok e;have hz:(fs.map (·.1)).length<=sizeLine:=FY Za WA
  refine xzf I.kIn O c.sa c.po n.taker c.hd B hz λ h' v sb=>h _ ?_;have L:∃ o,zxN dx o:=let ⟨o,_,_,e',_⟩:=v.ns; ⟨o,e'⟩;refine I.write (x:=a) (e:=dx) zI (.inr J) (λ b q M z=>(sb.2 b M).trans z) L ?_;show(fV,45,gS O.ne J,?_,O.ne,v.obj,(hB,_,v.ns,gO g,dC g hg))
  . show(gV,xir f y fs)
  . show RelO ((zsX).lookup g) zOi
    rw[xiu];by_cases q:g=f
    . ext fG ziP ziP ry
    . rw[d6 q,d6 q]; exact r g
  . by_cases q:g=f
    . show(dP,q,(xho f y fs).1)
    . refine (xho f y fs).2 g (B g λ z=>hg ?_)
      show zOi=none;ext qV q z
def Inv.made (I:dI):Inv X pins Z (upd (upd H s.heap.objs.size (.own m8)) m8 zIL)
    { s with heap:=(El).push (Yz C s.heap.objs.size) }:=by
  have r:(du,(El).get? s.heap.objs.size,JY):=Z0 s.heap rfl;have x:(du,((El).push (Yz C s.heap.objs.size)).get? m8,zMv):=by
    show(zef,Z0 El (o:=zMv) rfl,YY)
  have v:(El).Ns s.heap.objs.size jG:=(mX,JY,#[],_,r,rfl,λ e he=>zju he,qD)
  have A:=(zEl,.own m8,El,λ b u q=>Uy,iK r);refine A.laid (a:=m8) (o:=zIL) (t':=s.toks) (λ b u q=>Uy) (Nat.le_of_eq (YY _ _)) ?_;have c:s.heap.objs.size≠m8:=zvg;show(fV,45,(fC,xg c,xi),lW,c,x,(hB,jG,(Heap.Ns1.of_empty v).at λ o q=>Uy,λ_=>JD,(GT,absurd rfl hy)))
def xxa {prog:Program}{w:World}{env:Env}{e:Expr}{f:Str}{pos:Pos}{s:Shared}{Q:eR} (hb:attributeBase e f env zdR=zdR)
    (h:zek zdR (λ o s₁=>uo (getAttr o f true) Q E s₁)):jh (Vf (.Attribute e f pos)) :=
  Attribute_any_ h (fC arm_eval_Attribute hb)
#check _
inductive x1b (K:Zf) (f:Str) (x:V) (H1:Hp) (Q:VK):Prop
 | mk (a C dx fs v) (e_:oK) (r_:(dN,zWA,SZ,zvj,zNa,Q v H1))
noncomputable def tFld (K:Zf) (ta:TE) (f:Str):TE:=(yU,x1b K f x H1 Q)
noncomputable def sFld (K:Zf) (ta tv:TE) (f:Str):TS:=λD Z H=>tv Z H λ y H1=>ta Z H1 λ x H2=>∃ a C dx fs,oK/\(du,H2 a,RY)/\SZ/\zvj/\zWV /\
 D.nx Z (upd H2 a (ro C zsX))
noncomputable def InOp (X:Cx) (op:Operator) (rd:OS):Prop :=
 ∀(pins:eJ) (s:Shared) (Z:St) (H:Hp) (x y:V) (u v:Value) (Q:VK),(ft,dI,sj,zxB,rd x y H Q,vd (inplaceOp op u v))
section
variable {X:Cx}{o e value:Expr}{f:Str}{pos pos' tpos:Pos}{ta tv:TE}
def xv (he:yK ta) (hb:attributeBase e f X.env zo=zo):PE X (.Attribute e f pos) (tFld X.K ta f):=by
 ext jd j;refine xxa hb (thn (zdB j) (lI u O x J D m ⟨a,C,P,fs,v,y,z,c,n,l,q⟩ ?_));ext w4 y m;exact xq4 D z c n l λ L M B p=>fJ v J B p q
def xcr (ha:zvK) (hv:zqN) (hs:VT value (some zOo)):zSQ zOo (sFld X.K ta tv f):=by
 ext rT j;refine plainObj_wpAny_Assign_Attribute (nZ,hv j s Z H _ I h,u,m,y,J,B,p,q,ztD (ha j m Z J _ B q) ov ⟨1126,a,C,dx,fs,ex,ea,c,n,l,q2⟩) hs;subst ex;show(jz,ov=Zw a,rx);exact xrq I2 ea c n l p λ L z=>fP Z _ z q2
inductive rAdd (x:V) (y:V) (H:Hp) (Q:VK):Prop
 | mk (i j) (e_:Rn) (r_:(Da j)/\(tY (i+j)))
inductive rSub (x:V) (y:V) (H:Hp) (Q:VK):Prop
 | mk (i j) (e_:Rn) (r_:(Da j)/\(tY (i-j)))
def x07:InOp X .Add rAdd:=by
 rintro b s Z H x y u v Q I e c ⟨i,j,rfl,rfl,q⟩;ext iG zWC
 ext iL zGR
 exact PyProof.Rows.iadd_int (F1 (i+j))
def x09:InOp X .Sub rSub:=by
 rintro a s Z H x y u v Q I e c ⟨i,j,rfl,rfl,q⟩;ext iG zWC
 ext iL zGR
 exact PyProof.Rows.isub_int (F1 (i-j))
#check _
section
variable {X:Cx}{pins:List (Addr × Obj)}{Z:St}{H:Hp}{s:Shared}{A:Around}{E:Value->Shared->Prop}{Q:Value->Shared->Prop}{c:Value}{b:Bool}
inductive TyOf (K:Zf) (H:Hp):qaN where
  | non:BV .non "NoneType"
  | bl (x:Bool):BV (.bl x) "bool"
  | int (i:Int):BV iC "int"
  | str (x:Str):BV qT "str"
  | flt (x:UInt64):BV (.flt x) "float"
  | lst {a:Addr}{xs:dz} (e:qj a xs):zWM
  | frz {a:Addr}{o:Obj}{xs:dz} (e:eO a zRX):zWM
  | tup {a:Addr}{xs:dz} (e:pq a xs):BV eQ "tuple"
  | dK {a:Addr}{kvs:eG} (e:L4):zWL
  | dT {a:Addr}{kvs:gJ} (e:Gf):zWL
  | ins {a C dx:Addr}{fs:oE} (e:RM) (cl:SZ) (ha:IH C "__class__" (zi "object.__class__"))
      (hn:zkz) (htk:zki)
      (hm:(UF,PySem.W.mroIn K C (.type "object"))):TyOf K H eQ Mi
theorem xs2 {x:V}{u t:Value} (I:dI) (rx:sj) (ty:TyOf X.K H x t) (e:(du,WE X.K t c,b)) (h:∀ tk,Q (.bool b) { s with toks:=tk }) :
    xS (PQ "isinstance" [u,c]):=by
  cases ty with
  | non=>cases (jK u JJ rx); show(Er,PySem.W.kitx_none,JD)
  | bl y=>show(TK,u=YI y,rx); show(Er,PySem.W.kitx_bool,JD)
  | int i=>show(zoU,show O7 from rx,PySem.W.kitx_int)
  | str y=>show(zoU,(show (Nn,We y t) from rx),PySem.W.kitx_str)
  | flt y=>show(zoU,(show (Nn,Value.float y t) from rx),PySem.W.kitx_float)
  | @lst a xs ea =>
    ext II;obtain⟨_,_,n,_,j⟩:=(Nz (.lst xs))
    ext zMn
  | @frz a ob xs ea =>
    ext II;obtain⟨_,_,⟨_,n,_,j⟩⟩:43:=(Nz (.frz ob (.lst xs)))
    ext zMn
  | @tup a xs ea =>
    ext II;obtain⟨_,_,_,p⟩:=(Nz (.tup xs))
    ext vo o j m p;show(Er,PySem.W.kitx_tuple,dB o j m)
  | @dK a kvs ea =>
    ext II;obtain⟨_,_,⟨vs,_,p⟩⟩:43:=(Nz FK)
    obtain⟨o,v,ep,j,m,_⟩:103:=p;ext zHZ
  | @dT a kvs ea =>
    ext II;obtain⟨_,_,⟨xs,_,o,v,ep,j,m,_⟩⟩:43:=(Nz zhe)
    ext zHZ
  | @ins a C dx fs ea cl ha hn htk hm =>
    ext II;show(iu,B,O,xh5 I.hok ea);show(iu,od,J,O.look)
    show(Er,PySem.W.kitx_own (cl.get _) cl.hd ha hn htk hm,J)
#check _
structure Room (q0:Bool) (k:Nat) (A:Around):Prop where
 hd:zIh
 dp:A.depth+3*k+5<recursionLimit
 un:A.units+16*k+200<cLine
 gd:du A.guards []
def Room.mono {j k:Nat}{A:Around} (r:ET) (h:j<=k):Room q0 j A:=(dY,r.hd,jH r.dp,jH r.un,r.gd)
def Room.deeper {k:Nat}{A:Around} (r:qaL) (env:Env):zpo env :=
 (dY,r.hd,by have:=r.dp; show A.depth+1+3*k+5<_; lia,by have:=r.un; show A.units+3+16*k+200<_; lia,r.gd)
def xry {A:Around}{C:Addr}{us:d4}{kw:E9}:(zyA).depth=A.depth+1:=by
 first|rfl|simp[Around.under,Code.weight,Code.isCreation,Code.isGuard,Code.isCaller,Code.frames,Code.isFrame,guardIds]
def xrd {A:Around}{C:Addr}{us:d4}{kw:E9}:(zyA).units=A.units+1:=by
 first|rfl|simp[Around.under,Code.cUnits,Code.frames,Code.isFrame]
def Room.make {k:Nat}{A:Around} (r:qaL) (C:Addr) (us:d4) (kw:E9):Room q0 k (A.under (.builtin "type.__call__" zVt)) :=
 (dY,r.hd,by have:=r.dp; rw[xry]; lia,by have:=r.un; rw[xrd]; lia,by first|exact r.gd|(simpa [Around.under,Code.guards,Code.isGuard,guardIds,pushGuards] using r.gd))
def Room.depth {k:Nat}{A:Around} (r:ET):A.depth<recursionLimit:=jH r.dp
def Room.units {k:Nat}{A:Around} (r:ET):ztM 64:=jH r.un
noncomputable def tNil:TA:=(MK,Q [] H)
@[reducible] def xin (ta:TE) (tr:TA):TA:=(yU,tr Z H1 λ xs H2=>Q vX H2)
section
variable {X:Cx}{e:Expr}{es:List Expr}{te:TE}{t:TA}{pos:Pos}
def xh:PA X [] tNil:=λ_ _ _ _ H Q I h=>YW (LN [] .nil)
def xa (ha:xH) (hr:zeS) (hs:yQ:=by rfl):zPv:=by
 ext R3 b a;rw[hs];show(qm,(spliced ((false,zo)::(N8 b es))));refine Ys (jk (ha a s Z H _ I h) u f x r p r1 j);exact thn (hr b a f Z r _ p j) (lI us y xs q m r2 i (fJ,vX,q,m,.cons r1 r2,i))
noncomputable def tTup (t:TA):TE:=zIi (rD H1 xs)
noncomputable def tLst (t:TA):TE:=zIi (iQ H1 p xs)
def xab {x1} (h:zeS):PE X (.Tuple es x1 pos) (tTup t):=by
 ext Lv c y;refine wpAny_Tuple_spliced (thn (h pos c s Z H _ I y) (zNF q zNg));show(zAL,jI x m.heap.objs.size xs);exact(dY,z,us,r,Ai j9 iP)
def xci (h:zeS):PE X (.List es pos) (tLst t):=by
 ext Lv c y;refine wpAny_List_spliced (thn (h pos c s Z H _ I y) (zNF q zNg));show(zAL,iQ x m.heap.objs.size xs);show(dO,z,fP us 0 r j9)
#check _
noncomputable abbrev Sp:=DH dz Hp VK XK
noncomputable abbrev CXT:=ft qE Hp Shared XK eR
structure Env0 (P:Program) (w:World) (K:Zf) (mg:iO) (base:Heap) (A:Around) (outer:qE) (s:Shared) (H:Hp):Prop where
 frames:du A.frames outer
 mod:Mod K mg base
 bs:(vT,(du,base.get? b,o),rO/\iS)
 bsz:base.objs.size<=s.heap.objs.size
 funs:zut base outer
 frf:∀ b∈frs outer,iS
 hok:zjK s.heap
 bare:zWU
noncomputable def CE (outer:qE) (P:Program) (w:World) (H:Hp) (s:Shared) (Q:VK) (u:Value) (s':Shared):Prop :=
 ∃ v H',s'.os=s.os/\(dN zbq (RD (frs outer) [] s'.heap) zPH pF Gt)
noncomputable def CR (CX:CXT) (outer:qE) (P:Program) (w:World) (H:Hp) (s:Shared) (Q:VK) (E:XK) (r:Result) (s':Shared):Prop :=
 match r with
 | .ok (.ret u)=>zKp
 | .ok _=>False
 | .error e=>CX outer H s E e s'
structure FnOk (q0:Bool) (P:Program) (w:World) (K:Zf) (mg:iO) (base:Heap) (CX:CXT) (k:Nat) (f:Addr) (fd:FuncData) (ps:dD) (sp:Sp):Prop where
 len:NA
 run:∀(A:Around) (outer:qE) (s:Shared) (H:Hp) (args:Args) (us:d4) (vs:dz) (Q:VK) (E:XK),ET->(Xi A)->(zgC args zeK)->Ly->Kv ->
  (zbM K2 A f args (CR CX outer P w H s Q E) s)
def Env0.make {P:Program}{w:World}{K:Zf}{mg:iO}{base:Heap}{A:Around}{outer:qE}{s:Shared}{H:Hp} (e:Xi A) (C:Addr) (us:d4) (kw:E9) :
    Xi zyA:=(iY,by first|exact e.frames|(simpa [Around.under,Code.envs,Code.isFrame,pushEnvs] using e.frames),e.mod,e.bs,e.bsz,e.funs,e.frf,e.hok,e.bare)
section
variable {X:Cx}{pins:List (Addr × Obj)}{Z:St}{H:Hp}{s s':Shared}
def Inv.env0 (I:dI):Env0 X.prog X.w X.K X.mg X.base X.A X.stack s H :=
 iY I.ok.frames I.ok.mod I.bs zSO I.stack I.stkFree I.hok I.bare
def Inv.after {Q:VK}{u:Value} (I:dI) (h:CE X.stack X.prog X.w H s Q u s'):RS u s':=by
 obtain⟨v,H',n,i,un,m,r,q⟩:86:=h;obtain⟨x,g,d,t,j⟩:=s';show(jz,j=s.os,n);exact(fJ,v,H',I.call (h':=x) (g':=g) (d':=d) (t':=t) (ch:=[]) un m i (Bc,absurd z dG),r,q)
#check _
noncomputable def xml (sp:Sp) (dvs:dz) (E:TQ) (t:TA):TE:=(BA,vs,sp Ck H1 Q (E Z))
inductive xxw (C:Addr) (m:Str) (sp:Sp) (dvs:dz) (E:TQ) (t:TA) (Z:St) (x:V) (H1:Hp) (Q:VK):Prop
 | mk (a dx fs) (e_:oK) (r_:zWA/\zQb/\t Z H1 λ vs H2=>sp (x::Ck) H2 Q (E Z))
noncomputable def xms (C:Addr) (m:Str) (sp:Sp) (dvs:dz) (E:TQ) (ta:TE) (t:TA):TE:=(yU,xxw C m sp dvs E t Z x H1 Q)
noncomputable def xw5 (C:Addr) (sp:Sp) (dvs:dz) (E:TQ) (t:TA):TE:=λZ H Q=>t Z H λ vs H1=>∀ x dx,(zjL x)->(zjL dx)->dx≠x ->
 sp (uw::Ck) (upd (Fc H1 x) x zvE) (λ v a=>v=.non/\(uE x a)) (E Z)
noncomputable def xca (K:Zf) (fd:FuncData) (ps:dD) (ds:d4):Prop :=
 ∀(s:Shared) (us:d4),BN->(zdx CO)->(zgC zhH (ps.zip CO))
def xca.all {K:Zf}{fd:FuncData}{ps:dD} (h:∀ us:d4,zCG fd):zgS:=λ s us _ b=>by
 rw[Yn] at b ⊢;exact .of_eq (h us b)
noncomputable def xe4 (CX:CXT) (X:Cx) (E:TQ):Prop:=∀(pins:eJ) (Z:St) (H:Hp) (s:Shared) (e:Value) (s':Shared),dI->CX X.stack H s (E Z) e s'->X.xe e s'
section
variable {X:Cx}{CX:CXT}{k:Nat}{f C:Addr}{fd:FuncData}{ps:List Str}{sp:Sp}{dvs:List V}{ds:List Value}{E:St->XK}{x m:Str}{p pos apos:Pos}{e o:Expr}{es:List Expr}{ta:TE}{t:TA}
theorem xmy {pins:eJ}{Z:St}{H:Hp}{s:Shared}{Q:VK}{us:d4}{vs:dz} (F:FnOk q0 X.prog X.w X.K X.mg X.base CX k f fd ps sp) (hr:zbW) (hb:Ec) (hd:EO) (hx:E5)
    (I:dI) (r:Ly) (h:sp Ck H Q (E Z)):vd (call (.ref f) us):=by
  show(dw,r2,Vals Ck CO,r.append hd,j,zdx CO,(gF,r2.length,F.len _ _ _ _ h))
  refine WW (QL (F.run X.A X.stack s H zhH CO Ck Q (E Z) hr I.env0 (hb s us I.kIn j) r2 h) (d8 r s' i));cases r with
  | error e=>exact hx pins Z H s e s' I i
  | ok fl =>
    cases fl with
    | ret u=>exact I.after i
    | next=>exact Ym i
    | brk=>exact Ym i
    | cont=>exact Ym i
def xzd (F:FnOk q0 X.prog X.w X.K X.mg X.base CX k f fd ps sp) (hr:zbW) (hg:vH) (hm:Rz f) (hk:zLg) (hb:Ec) (hd:EO) (hx:E5)
    (ha:B0) (hdb:rM:=by decide) (he:yQ:=by rfl) (hpl:(ES).any (·.1)=false:=by rfl) :
    NI mW (xml sp dvs E t):=by
  ext zBe hk;exact xmy F hr hb hd hx j r q
def xaf {pl:zfI} (he:zvK) (c:RI) (hm:zWp) (F:FnOk q0 X.prog X.w X.K X.mg X.base CX k f fd ps sp) (hr:zbW) (hb:Ec) (hd:EO) (hx:E5) (ha:B0)
    (hst:yQ:=by rfl) (hpl:(ES).any (·.1)=false:=by rfl)
    (ht:eval (.Call (.Attribute o m apos) mW [] pos) X.env=(do
      let ov <- zjj
      zOF
      let (f,first) <- zHj
      zGj mW):=by rfl) :
    zHL mW t:=by
  show(zFn,(jk,he j s Z H _ I h,u,D,x,P,B,J,eP a S fs M O l q));ext w4 M J;refine xkb B O c hm l ?_;refine WZ (first:=o4) (h₀:=X.base) I.ok.mod.kin hm.kp (nZ,ha pos j D Z P _ B q,us,R,vs,T,z,r,L,jy z.kIn) hst hpl;exact xmy (us:=eQ::us) (vs:=eQ::vs) F hr hb hd hx z (.cons rfl r) L
def xat {pl:zfI} (he:zvK) (c:RI) (hm:zWp) (F:FnOk q0 X.prog X.w X.K X.mg X.base CX k f fd ps sp) (hr:zbW) (hb:Ec) (hd:EO) (hx:E5)
    (ht:eval (.Call (.Attribute o m apos) [] [] pos) X.env=(do
      let ov <- zjj
      zOF
      let (f,first) <- zHj
      zGj []):=by rfl) :
    zHL [] tNil:=by
  show(zFn,(jk,he j s Z H _ I h,u,J,x,M,y,z,eP a L fs B D l q));ext w4 B z;refine xkb y D c hm l ?_;exact PySem.W.callWith_K0 (first:=o4) y.kIn hm.kp (xmy (us:=o4) (vs:=o4) F hr hb hd hx y zWz q)
structure Mk (K:Zf) (C f:Addr):Prop where
 makes:zZa
 init:zpE
 fn:NZ
 kp:wC C
theorem xnp {pins:eJ}{Z:St}{H:Hp}{s:Shared}{Q:VK}{us:d4}{vs:dz} (M:ztZ) (F:FnOk q0 X.prog X.w X.K X.mg X.base CX k f fd ps sp) (hr:zqe) (hb:Ec) (hd:EO)
    (hx:E5) (I:dI) (r:Ly)
    (h:∀ x dx,(eC,fw x,fw dx,dx≠x,sp (uw::Ck) (upd (Fc H x) x zvE) (λ v H2=>v=.non/\(uE x H2)) (E Z))) :
    vd (call (.ref C) us):=by
  show(dy,D,h m8 s.heap.objs.size (I.hok.fresh (WB _)) HS zvg,B,Inv.made (C:=C) I);have r2:Vals (V.ref m8::Ck) (Zw m8::CO):=.cons rfl (r.append hd);have O:zdx (ztk++ds):=by
    have e:=r2.length;show(eW,F.len _ _ _ _ D,e,e.symm)
  refine WW (xwc (f:=f) I.kIn M.makes M.init (beq_iff_eq.mp M.fn) (QL (F.run _ X.stack _ _ (uD ztk) (Zw m8::CO) _ _ (E Z) (hr.make C us [])
    (B.env0.make C us []) (hb _ ztk B.kIn O) r2 D) (wm r s')))
  cases r with
  | error e=>exact hx pins Z _ _ e s' B q
  | ok fl =>
    cases fl with
    | ret u =>
      show(qG,v,H',P,J,ev,L,B.after q);subst ev;show(dO,J,(uH,V.ref m8,H',P,L))
    | next=>exact Ym q
    | brk=>exact Ym q
    | cont=>exact Ym q
def xfk (M:ztZ) (F:FnOk q0 X.prog X.w X.K X.mg X.base CX k f fd ps sp) (hr:zqe) (hg:vH) (hm:Rz C) (hb:Ec) (hd:EO) (hx:E5)
    (ha:B0) (hdb:rM:=by decide) (he:yQ:=by rfl) (hpl:(ES).any (·.1)=false:=by rfl) :
    NI mW (xw5 C sp dvs E t):=by
  show(zBe,M.kp);exact xnp M F hr hb hd hx j r q
def xof (M:ztZ) (F:FnOk q0 X.prog X.w X.K X.mg X.base CX k f fd ps sp) (hr:zqe) (hg:vH) (hm:Rz C) (hb:Ec) (hd:EO) (hx:E5)
    (hdb:rM:=by decide):NI [] (xw5 C sp dvs E tNil):=by
  ext qbC j;exact PySem.W.callWith_K0 I.kIn M.kp (xnp (us:=[]) M F hr hb hd hx I .nil h)
#check _
structure xr (N P:dD) (sc:Scope):Prop where
 kind:zRq
 co:zOK
 gen:zOJ
 nd:N.Nodup
 pre:zNZ
 par:zQf
 nofree:zGe
theorem xk8 {kindOf:zap}{x:Str}:(qar,(∀ v,(x,v)∉binds)->bindL kindOf binds m x=m x)
 | [],_,_=>rfl
 | (n,v)::r,m,h=>by
  unfold bindL;rw[xk8 λ w b=>h w T7];split
  .ext zEp
  .rfl
theorem xlq {kindOf:zap}{x:Str}:(qar,(∀ v,(x,v)∉binds)->bindC kindOf binds m x=m x)
 | [],_,_=>rfl
 | (n,v)::r,m,h=>by
  unfold bindC;rw[xlq λ w b=>h w T7];split
  .rfl
  .ext zEp
theorem xk5 {kindOf:zap}{x:Str}{v:Value}:∀{P:List Str}{vs:List Value}{i:Nat}{m:Str->Option Value},P.Nodup->P[i]?=some x->vs[i]?=some v->(du,kindOf x,.local) ->
    (du,bindL kindOf (P.zip vs) m x,v)
  | [],_,_,_,_,h,_,_=>BF
  | eK,[],_,_,_,_,h,_=>BF
  | p::P,w::vs,0,m,nd,h1,h2,hk=>by
    ext zNl;ext zEa p;rw[xk8 λ v b=>(ZH.mp nd).1 (zRv).1,eD hk];simp
  | p::P,w::vs,dW,m,nd,h1,h2,hk=>by
    ext zEa x;exact xk5 (i:=i) (ZH.mp nd).2 Ib On hk
theorem xk7 {kindOf:zap}{x:Str}{v:Value}:∀{P:List Str}{vs:List Value}{i:Nat}{m:Str->Option Value},P.Nodup->P[i]?=some x->vs[i]?=some v->kindOf x≠some .local ->
    (du,bindC kindOf (P.zip vs) m x,v)
  | [],_,_,_,_,h,_,_=>BF
  | eK,[],_,_,_,_,h,_=>BF
  | p::P,w::vs,0,m,nd,h1,h2,hk=>by
    ext zNl;ext zDZ p;rw[xlq λ v b=>(ZH.mp nd).1 (zRv).1,d6 hk];simp
  | p::P,w::vs,dW,m,nd,h1,h2,hk=>by
    ext zDZ x;exact xk7 (i:=i) (ZH.mp nd).2 Ib On hk
noncomputable def start (N:dD) (vs:dz):St:=vs.map some++Ju (N.length-vs.length) none
noncomputable def cxOf (q0:Bool) (CX:CXT) (P:Program) (w:World) (K:Zf) (mg:iO) (base:Heap) (N:dD) (qual:Str) (scope:Scope) (f:Addr) (cd:Value) (A:Around) (outer:qE) (s:Shared) (H:Hp) (E:XK):Cx where
 prog:=P
 w:=w
 K:=K
 mg:=mg
 base:=base
 A:=A.deeper Ev
 N:=N
 s₀:=s
 H₀:=H
 env:=Ev
 outer:=outer
 stack:=Ev::outer
 ex:=[]
 calm:=q0
 fn:=RR
 pn:=[]
 xe:=λ e s'=>wpAny K2 (A.deeper Ev) (leaving Ev e) (λ_ s''=>CX outer H s E e s'') (λ e' s''=>CX outer H s E e' s'') s'
def xnx {sc:Scope}{n:Nat}{x:Str} (h:V3):∃ c,(du,(cellsFrom n sc.names []).lookup x,c):=by
 have q:=PySem.W.cellsFrom_some sc.names n [] (.inl h);exact Wc.mp q
def xsa {CX:CXT}{P:Program}{w:World}{K:Zf}{mg:iO}{base:Heap}{N ps:dD}{qual:Str}{scope:Scope}{f:Addr}{cd:Value}{A:Around}{outer:qE}{s s1:Shared}{H:Hp}{E:XK}{us:d4}{vs:dz}
    (S:zXD) (hd:zIh) (e0:Xi A) (hl:vs.length=ps.length) (r:Ly)
    (x:InCallC s s.heap.objs.size (bindL (Ev).kindOf zeK jG) zHW (bindC (Ev).kindOf zeK jG) s1) :
    Inv (cxOf q0 CX P w K mg base N qual scope f cd A outer s H E) [] zdV H s1:=by
  have Y:ps.length<=N.length:=by show(oz,yq S.pre,Ji); lia
  show(mG,R,tk,rfl,U,x.done)
  have D:∀ b:Addr,b∉(cxOf q0 CX P w K mg base N qual scope f cd A outer s H E).ex:=(Bc,zju (zgB zsN));refine⟨⟨e0.mod,S.kind,rfl,rfl,eV,eI y z c R B,dC y J,λ y c _ h=>?_,hd,Around.frames_deeper e0.frames,.inr vq,zNM,e0.bs,e0.bsz,λ b _ _=>D b,zNM,e0.funs,e0.frf⟩,
    rfl,e0.bare,Un.kept U,(hD,x.toInCall.ns,λ i y v R B h3=>?_),λ y c h=>(iK,x.cell y c h),e0.hok.fresh (Zl _),d8 y c h,λ p M=>zju (show p∈([]:eJ) from M),e0.hok.kept U,?_⟩
  . exact name_of_addr x.apart (Ya R) (Ya B)
  . have J:(du,scope.names.lookup y,.cell)\/(du,scope.names.lookup y,.free):=J
    rcases J with J|J
    . exact xnx J
    . show(mP,S.nofree _ (Ya J))
  . exact Jw zPl
  . have Q:i<vs.length:=by
      unfold start at B;by_cases Q:i<vs.length
      . exact Q
      . rw[Jc zTg] at B
        rw[Wk] at B;ext SJ B
    have Z:dX vs v:=by
      unfold start at B;rw[ZL zTg,Zd] at B;cases e:vs[i]? with
      | none=>ext rJ B
      | some a=>ext fe e B B; rfl
    show(dA,u,T,X,r.get Z);have M:dX ps y:=by
      rw[<- S.pre,List.getElem?_take_of_lt dk]; exact R
    have L:ps.Nodup:=by rw[<- S.pre]; exact S.nd.sublist Ub
    ext iF u X;rcases S.par y (Zi M) with k|k
    . show(MI,k,xk5 L M T k)
    . show(lK,c,xnx (n:=m8) k)
      show(qZ,dY ziM c e ?_);have q:=x.cell y c e;show(eW,xk7 L M T (by show zNy≠_; rw[k]; decide),q,q)
  . exact e0.hok.fresh (Jw zPl)
  . unfold start
    show _=N.length;rw[Zn,Za,W8]
    lia
theorem xrt {CX:CXT}{P:Program}{w:World}{K:Zf}{mg:iO}{base:Heap}{k:Nat}{f:Addr}{name qual:Str}{params:Arguments}{body:Fm}{scope:Scope}{dV kV doc pm cdv ct oc:Value}{an od:mF}
    {osl:Bm}{N ps:dD}{sp:Sp} (lk:Xl (Jg name qual params body scope dV kV doc pm an cdv ct)) (hcd:NY) (S:zXD)
    (len:NA)
    (hbody:∀(A:Around) (outer:qE) (s:Shared) (H:Hp) (vs:dz) (Q:VK) (E:XK),(zpo (zma scope cdv))->Kv ->
      (zEx (cxOf q0 CX P w K mg base N qual scope f cdv A outer s H E) body)) :
    FnOk q0 P w K mg base CX gu f (Jg name qual params body scope dV kV doc pm an cdv ct) ps sp:=by
  show(gR,len,λ A outer s H Z us vs Q E X O hb r D=>?_);have hl:=len _ _ _ _ D;have KX:BN:=O.mod.kin.keeps (ye zWQ);have U:s.heap.NoLimit:=O.mod.nolimit.keeps (ye zWQ);have B:∀ y∈zeK,(zlz .local)\/((zlz .cell)/\(kN ((zHW).lookup y.1))):=fun⟨n,v⟩ hy=>by
    rcases S.par n (List.of_mem_zip hy).1 with q|q
    . ext iE q
    . show(hX,(pV,PySem.W.cellsFrom_some _ _ _ (.inl q)))
  refine codeAny_call_function X.depth (KX _ _ lk) rfl S.co S.gen rfl (PySem.W.codeRec_of KX hcd) (hb _ _ _ _ ?_);refine wpAny_newFunctionEnv_cells S.kind B (hF env he Y x);subst he;show(gR,U.keeps x.toInCall.keep,codeAny_func ?_);show(dA,t,ht,hq,hbody A outer s H vs Q E (X.deeper _) D);have I:Inv (cxOf q0 CX P w K mg base N qual scope f cdv A outer s H E) [] zdV H Y:=xsa S X.hd O hl r x;refine Jr (ht [] Y zdV H _ I hq) (d8 fl s' hs) λ e s' hs=>hs;have M:∀{σ':St}{H':Hp}{v:V}{u:Value},(eC,Inv (cxOf q0 CX P w K mg base N qual scope f cdv A outer s H E) [] σ' H' s',pF,Gt,zKp) :=
    λ{σ' H' v u} J T q=>gW 86 v H' J.os J.bare J.base J.hok T q
  cases fl with
  | ret u =>
    show(MF,v,σ',H',J,T,q,hs);exact M J T q
  | next =>
    show(mG,σ',H',J,q,hs);exact M (v:=V.non) (u:=JJ) J rfl q
  | brk =>
    ext zIA
  | cont =>
    ext zIA
section
variable {X:Cx}{x:Str}{p pos:Pos}{e:Expr}{es:List Expr}{t:TA}{id T:String}{r:List V->Hp->VK->Prop}
noncomputable def tCB (r:zgD dz) (t:TA):TE:=(BA,vs,r vs H1 Q)
def x9 (hc:Pq id r) (hg:vH) (hm:ziz) (hv:bootBuiltins x=some (.builtin id)) (ha:B0) (hn:OY:=by decide) (hdb:rM:=by decide)
    (he:yQ:=by rfl) (hpl:(ES).any (·.1)=false:=by rfl):zQN:=by
  show(R5,f,zsI ?_ hdb);exact PyProof.Rows.callWith_builtin1 (nZ,OO f,us,j,vs,A,z,r1,q,hc f j Z A vs us Q z r1 q) he hpl
def xbt (hc:xcw X (.type T) r) (hg:vH) (hm:ziz) (hv:bootBuiltins x=some (.type T)) (ha:B0) (hn:OY:=by decide) (hdb:rM:=by decide)
    (he:yQ:=by rfl) (hpl:(ES).any (·.1)=false:=by rfl):zQN:=by
  show(R5,b,zsI ?_ hdb);exact Jn (nZ,OO b,us,c,vs,j,i,r1,f,hc b c Z j vs us Q i r1 f) he hpl
#check _
#check L2
namespace HT
open PySem PyProof.Rows
section
variable {prog:Program}{w:World}{A:Around}{E:Value->Shared->Prop}{s:Shared}
theorem cat_tup {t b:Addr}{vs ws:d4}{Q:eR} (ht:IsTup s.heap t vs.toArray) (hb:IsTup s.heap b ws.toArray) (hv:vs≠[])
    (h1:ws=[]->(uE t s)) (h2:ws≠[]->(zIm zSE))
    (hsz:(gY,vs.length+ws.length)):jh (binaryOp .Add (.ref t) qS):=by
  obtain⟨⟨cls,L,data,H⟩,C,K,⟨n,J⟩⟩:63:=id ht;obtain⟨⟨M,B,D,m⟩,c,x,⟨I,v⟩⟩:63:=id hb;simp only at K J x v;subst K J x v;have e:vs.toArray++ws.toArray=zSE:=dG
  by_cases hw:ws=[]
  . exact concat_meets (iJ C) (iJ c) noFill_tuple_add seq_tuple_add PySem.F.slot_tuple_add PySem.F.entry_tuple_add zHJ
      (tuple_addW1 t b vs.toArray ws.toArray n I L B H m zoz (ie hw)) (dB,C,c,h1 hw)
  . refine concat_meets (iJ C) (iJ c) noFill_tuple_add seq_tuple_add PySem.F.slot_tuple_add PySem.F.entry_tuple_add zHJ
      (tuple_addW2 t b vs.toArray ws.toArray n I L B H m zoz (by simpa using hw) (kc Z6 Z6 hsz)) (kB C c)
    rw[e];exact h2 hw
noncomputable def sIx (n d:Nat):nB->Nat
 | none=>d
 | Au=>zkF
def sIx_none (n d:Nat):sIx n d none=d:=rfl
def sIx_nat (n d k:Nat):sIx n d (some ya)=min k n:=by
 show (oG,ya,0,(ya+(eg n)).toNat,min (ya).toNat n)=min k n;rw[xJ,JS]
theorem xzz (n d:Nat) (hd:d<=n) (o:nB):sIx n d o<=n:=by
 cases o with
 | none=>exact hd
 | some v =>
  show zkF<=n;by_cases hv:v<0
  .ext pi hv; lia
  .show(iX,d6 hv,Nat.min_le_right _ _)
def xps (v:Int) (n d:Nat):zFm=(jf,sIx n d (some v)):=by
 show zFm=(jf zkF)
 by_cases hv:v<0
 .simp only [eD hv]; lia
 .simp only [d6 hv]; lia
theorem xrr (lo hi:nB) (n:Nat):Builtin.Slice.sliceAdjust lo hi 1 nO=(zbn,jf ztU):=by
 have b:¬ (uA<0):=dk
 unfold Builtin.Slice.sliceAdjust;simp only[b,if_false];refine W9 ?_ ?_
 .cases lo with
  | none=>rfl
  | some v=>exact xps v n 0
 .cases hi with
  | none=>rfl
  | some v=>exact xps v n n
def xri (i j:Nat):Builtin.Slice.slicePlaces i9 pQ 1=j-i:=by
 unfold Builtin.Slice.slicePlaces;have b:uA>0:=dk
 simp only[b,if_true,Int.ediv_one];ext kR
theorem xj5 {v:Value}{o:nB}{Q:lJ nB} (p:IsPart v o) (h:Q o s):jh (Builtin.Slice.slicePartIndex v):=by
 cases p with
 | none=>exact slicePart_none h
 | int i t=>exact slicePart_int h
def xi5 {sl:Addr}{vl vu:Value}{lo hi:nB}{n:Nat}{Q:(lJ,Int × Int × Nat)} (hs:zkY) (pl:zrH) (pu:zrG)
    (h:Q (zbn,1,ztU-sIx n 0 lo) s):jh (Builtin.Slice.sliceApplied (.ref sl) (pure nO)):=by
  show(eZ,v,b,q,m,id hs);unfold Builtin.Slice.sliceApplied Builtin.Slice.sliceFields;refine Ze (Ze (QC b m (x:=vl) rfl (Ze (QC b m (x:=vu) rfl (Ze (QC b m (x:=.none) rfl (Zp ?_)))))));refine Ze (slicePart_none ?_);show(qm,MJ (uA == 0));ext jT dF;show(eX,xj5 pl (Ze (xj5 pu (Ze (Zp ?_)))));show(qm,(match Builtin.Slice.sliceAdjust lo hi 1 nO with|(lo,hi)=>pure (lo,uA,Builtin.Slice.slicePlaces lo hi 1)));rw[xrr lo hi n];show(qm,(pure (zbn,uA,Builtin.Slice.slicePlaces zbn (jf ztU) 1)));rw[xri];exact Zp h
def xuz (xs:oC) (i k:Nat):((Zv k).filterMap (iW m zUm)).toArray=((xs.toList.drop i).take k).toArray:=by
 have e:(iW m zUm)=zUe:=by
  funext m;have:(zZx).toNat=i+m:=dk
  rw[this]
 rw[e];show(oz,pick_run xs i k,QU);have b:((λ x=>xs[x]?)∘λ x=>i+x)=zUe:=rfl;rw[b] at this;rw[this]
def getItem_tuple_cut {t sl:Addr}{items:oC}{vl vu:Value}{lo hi:nB}{Q:eR} (ht:IsTup s.heap t items) (hs:zkY) (pl:zrH) (pu:zrG)
    (hw:¬ (yT=0/\sIx items.size items.size hi=items.size))
    (h:(zIm,((zmZ).take (Hu-yT)).toArray))
    (hsz:gY items.size):jh (getItem (.ref t) (.ref sl)):=by
  have v:sizeOk (.seq ((zmZ).take (Hu-yT)).toArray):=by
    show (gY,((zmZ).take (Hu-yT)).toArray.size);rw[Z6,Ji,List.length_drop,Jm]
    lia
  have R:Hu<=items.size:=xzz _ _ eV hi;show(eZ,J,B,D,K,id hs);have H:BK sl "slice":=dB J B D
  unfold getItem
  try with_reducible refine Jo ?_
  first|ext BJ|skip
  show(eX,wpAny_sequenceKey ht.typeIs dF ?_);refine Ze (JG (name:=Zh "__getitem__") ht.typeIs Q3
    (Jy Q3 ht.typeIs entry_tuple_getitem ?_ (args_tuple_getitem _ _)))
  show(qm,Builtin.Tuple.tupleItemsOf (.ref t)>>=_);show(eX,tupleItemsOf_ ht ?_);show(eX,QK H ?_);rw[eD dF];show(eX,xi5 hs pl pu ?_);have C:¬ (zCn=true):=by
    intro q;rw[Zy,Zy] at q;show(dw,P,(jf yT)=0,QP (wu).1,M,Hu-yT=items.size,QP q.2);exact hw (Vn dk)
  show(qm,MJ zCn);rw[d6 C,xuz]
  first
    | exact V2 (Y3 (Zp zeX) v)
    | exact V2 (Y3 (Ze (Zp (Zp zeX))) v)
    | exact Ze (V2 (Y3 (Zp (Zp zeX)) v))
    | exact Ze (V2 (Y3 (Zp zeX) v))
#check _
#check HT
namespace L2
open PySem PySem.Spec PyProof.Rows
variable {q0:Bool}
noncomputable abbrev TO:=zgu (uJ nB)
noncomputable def PO (X:Cx) (e:hW Expr) (t:TO):Prop :=
 ∀(pins:List (Addr × Obj)) (s:Shared) (Z:St) (H:Hp) (Q:uJ nB),dI->LE ->
  (tz (evalPart e X.env) (λ u s'=>∃ o H',(zyD,IsPart u o,o)))
noncomputable def xxm:TO:=(MK,Q none H)
noncomputable def x1q (t:TE):TO:=(zZg,∃ i,Rn/\Q (some i) H1)
theorem xr7 {ns:eS}:∀{us:d4},Vals (ns.map V.int) us->IntsAre us ns:=by
 induction ns with
 | nil=>intro us r; show(kd,Wr,r,.nil)
 | cons n ns ih =>
  intro us r;rw[Zq] at r;cases r with
  | cons r1 r2 =>
   ext lK t r1;ext gc;exact .cons n t (ih r2)
section
variable {X:Cx}{e:Expr}{te:TE}{lo hi:Option Expr}{tl th:TO}{pos p2:Pos}
def xib:PO X none xxm:=by
 ext jd a;rw[evalPart_none];exact Zp (LN none .none)
def xim (h:xH):PO X (some e) (x1q te):=by
 ext Lv a c;rw[evalPart_some];show(o3,S6 a c,lI u m x j f r1 b ?_);ext sR i q b;ext iG r1;exact(fJ,some i,j,f,zgc,q)
noncomputable def SlR (X:Cx) (r:NP):Prop :=
 ∀(pins:eJ) (s:Shared) (Z:St) (H:Hp) (x:V) (v vl vu:Value) (lo hi:nB) (sl:Addr) (Q:VK),dI->xA->zkY->zrH->zrG->r x lo hi H Q ->
  ∃ T id,zHx/\qaj/\(vd (getItem v (.ref sl)))
noncomputable def tSl (r:NP) (te:TE) (tl th:TO):TE:=(qX,te Z H λ x H1=>tl Z H1 λ l H2=>th Z H2 λ u H3=>r x l u H3 Q)
def xgw {r:NP} (hr:SlR X r) (he:xH) (hl:PO X lo tl) (hu:PO X hi th):zqx e zNc (tSl r te tl th):=by
 ext jd m;refine Subscript_ (jk (he m s Z H _ I h) v D x H1 Y r1 K);refine wpAny_Slice (nZ,hl m D Z H1 _ Y K,B,C,l,H2,U,pl,J,jk (hu m C Z H2 _ U J) vu s3 u H3 I3 pu q3);rw[evalPart_none];ext Aa;show(n7,R,m,H3,zjZ,I3.kept (t':=s3.toks) qbO);show(hJ,T,id,P,L,M,hr m zjZ Z H3 x v B vu l u s3.heap.objs.size Q R r1 (Heap.IsSliceOf.new ..) pl pu q3);show wpAny qh X.A (subscriptTail e zNc v zLF) (EP X m Z Q) X.xe zjZ;exact tail_any (ops:=[zLF,v]) L P M (by with_unfolding_all rfl)
noncomputable def cutV (xs:dz) (lo hi:nB):dz:=(xs.drop (SA xs.length)).take (HT.sIx xs.length xs.length hi-(SA xs.length))
def xiq (xs:dz) (lo hi:nB):kS (cutV xs lo hi) xs.length:=by
 unfold cutV;rw[Ji,List.length_drop]
 lia
noncomputable def rSlT (K:Zf):NP:=λx b c H Q=>∃ a xs,oK/\Pk /\
 ¬ ((OM b)=0/\HT.sIx xs.length xs.length c=xs.length)/\(IU (rD H (cutV xs b c)))
def x06:SlR X (rSlT X.K):=by
 intro J s Z H x v T S C D U Q I M hs pl O h;show(qG,a,xs,rfl,P,R,q,h);cases M;show(eZ,its,r,L,hz,I.tuple P);have B:its.toArray.size=xs.length:=dH Z6 r.length.symm
 refine⟨83, "tuple",_,Q3.lookup,L.typeIs,?_⟩;refine HT.getItem_tuple_cut L hs pl O (dH B R) ?_ (dH B hz);rw[B];refine Sy (zln,.tup (cutV xs C D));exact(dY,ZR (xiq xs C D) hz,_,(r.drop (OM C)).take (HT.sIx xs.length xs.length D-(OM C)),zZs)
inductive xkk (K:Zf) (x:V) (y:V) (H:Hp) (Q:VK):Prop
 | mk (a b xs ys) (e_:oK) (r_:Sn/\Pk/\(dN,SqT K H b ys,xs≠[],(gY,xs.length+ys.length),ys=[]->(uE a H),ys≠[]->(IU (rD H (xs++ys)))))
theorem Vals.nil_iff {xs:dz}{us:d4} (r:nF):us=[]↔xs=[]:=by
 cases r with
 | nil=>simp
 | cons _ _=>simp
def xij:OpR X (binaryOp .Add) (xkk X.K):=by
 intro B s Z H x y v u Q I J D h;obtain⟨a,b,xs,ys,rfl,rfl,T,S,R,hz,M,L⟩:=h;cases J;cases D;show(vo,its,r1,P,I.tuple T);show(vo,C,r2,O,I.tuple S);refine HT.cat_tup P O (λ z=>R (r1.nil_iff.mp z)) (λ z=>(zgv,eQ,M (r2.nil_iff.mp z))) mI (by rw[<- r1.length,<- r2.length]; exact hz);refine(zah,(zln,.tup (xs++ys)),L (λ w=>z (r2.nil_iff.mpr w)) _ HS);exact(dY,dH Zn hz,_,r1.append r2,zZs)
#check _
noncomputable def ixN (n:Nat) (i:Int):hW Nat:=if Ni then (C5 jS i.toNat) else (C5,zxj,(i+n).toNat)
noncomputable def atI {α:Type} (xs:fc) (i:Int):hW α:=(zUo).bind λ j=>xs[j]?
def xp6 {n:Nat}{i:Int}{j:Nat} (h:(Bb,ixN n i)):(d9,(Bb,seqIndex? i n),j<n,zxj,jS):=by
 unfold ixN at h;by_cases h0:Ni
 .show(j4,eD h0);by_cases h1:jS
  .show(j4,eD h1);have e:i.toNat=j:=zfU;exact fQ (fC,seqIndex_of h0 h1,e) dk dk h1
  .show(zib,d6 h1)
 .show(j4,d6 h0);by_cases h1:zxj
  .show(j4,eD h1);have e:(i+n).toNat=j:=zfU;exact fQ (fC,seqIndex_neg dk h1,e) dk h1 dk
  .show(zib,d6 h1)
theorem xkz {α:Type}{xs:fc}{i:Int}{v:α} (h:ztQ i):∃ j,(dN,(Bb,seqIndex? i xs.length),gU xs v,j<xs.length,-eg xs.length<=i,i<xs.length):=by
 unfold atI at h;cases e:zUo with
 | none=>ext rJ h
 | some j =>
  rw[e] at h;show(Ab,f,c,b,a,xp6 e);exact eP 65 j f h c b a
def xb6 {α:Type}{xs:fc}{j:Nat}{v:α} (h:gU xs v):ztQ pQ:=by
 have a:j<xs.length:=(zhx).1;have e:(Bb,ixN xs.length pQ):=by
  ext zVL
 unfold atI; ext pZ h
noncomputable def xyx (b:Expr):Prop:=∀ o i,subscripted b false o i=operate [o,i] (getItem o i)
noncomputable def IxR (X:Cx) (r:R2):Prop :=
 ∀(value slice:Expr) (pins:eJ) (s:Shared) (Z:St) (H:Hp) (x y:V) (v u:Value) (Q:VK),dI->xA->j8->r x y H Q ->
  subscripted slice false v u=operate [v,u] (getItem v u)->(vd (subscriptTail value slice v u))
noncomputable def MtR (X:Cx) (id:String) (r:zbl):Prop :=
 ∀(pins:List (Addr × Obj)) (s:Shared) (Z:St) (H:Hp) (x:V) (xs:List V) (v:Value) (us:List Value) (Q:VK),Inv X pins Z H s->RelV x v->Vals xs us->r x xs H Q ->
  zMV
section
variable {X:Cx}{a b:Expr}{ta tb:TE}{pos:Pos}
def xaj {r:R2} (hr:IxR X r) (ha:qx) (hb:zD) (hs:xyx b):zqx a b zcX:=by
 ext jd e;exact Subscript_ (zuI,λ v u f x y z n m j q=>hr a b e f Z z x y v u Q n m j q (hs _ _))
inductive rIxL (K:Zf) (x:V) (y:V) (H:Hp) (Q:VK):Prop
 | mk (p xs i v) (e_:jQ x p) (r_:zOg zcw)
inductive rIxT (K:Zf) (x:V) (y:V) (H:Hp) (Q:VK):Prop
 | mk (p xs i v) (e_:jQ x p) (r_:zOg zrZ)
inductive rIxS (x:V) (y:V) (H:Hp) (Q:VK):Prop
 | mk (z i c) (e_:x=.str z) (r_:(d9,Da i,zZr,(du,atI z.cps.toList i,c),Q (.str TU) H))
def xbf:IxR X (rIxL X.K):=by
 intro m B b s Z H x y v u Q I O M h hs;ext zVv P S;cases O;ext iG M;ext zpm P;show(uc,j,f,Y,h3,U,T,xkz S);show(dA,w,J,C,r.get Y);show(dy,R,r.length,hn,xfn);have c:EP X b Z Q w s:=yp z I C
 by_cases h0:Ni
 .have D:i.toNat=j:=by
   rw[seqIndex_of h0 T] at f;exact ZM.inj f
  exact item_listR pl.isList h0 dk zLC c hs
 .have D:(i+(its.toArray.size:Int)).toNat=j:=by
   rw[seqIndex_neg dk U] at f;rw[Z6,<- R];exact ZM.inj f
  exact subscriptTail_builtinR (x:=w) pl.isList.typeIs slot_list_getitem.lookup
   (wpAny_getItem_list_neg (Q:=zKq b) pl.isList dk zUx dk zLC (hR c)) hs
def xa7:IxR X (rIxT X.K):=by
 intro b c a s Z H x y v u Q I B A h hs;ext zVv C J;cases B;ext iG A;show(eZ,its,r,pl,hz,I.tuple C);show(uc,j,M,L,T,S,R,xkz J);show(dA,w,O,f,r.get L);show(dy,D,r.length,P,xfn);have m:EP X a Z Q w s:=yp z I f
 exact subscriptTail_builtinR (x:=w) pl.typeIs slot_tuple_getitem.lookup
  (getItem_tuple (j:=j) (Q:=zKq a) pl dk dk (OR D M) zTf (hR m)) hs
def xt1:IxR X rIxS:=by
 intro a b f s Z H x y v u Q I B A h hs;obtain⟨z,i,c,rfl,rfl,hz,D,q⟩:=h;ext iG B;ext iL A;show(uc,j,m,M,S,K,J,xkz D);have C:z.cps.toList.length=z.length:=ie WX
 rw[C] at m K J;have R:=xfn;exact tail_any (zuP z) slot_str_getitem.lookup (getItem_str (c:=c) (by
  show(dw,P,PX (i < -eg xX),Og,O,PX (i>=xX),Og);rw[P,O,WU]) (by rw[m]; simpa using M) (TB,.str TU)) hs
def xqy (its:d4) (n j:Nat) (u:Value):Yl (·.setIfInBounds j u) DQ=(iN,"list",.seq (its.set j u).toArray n):=by
 simp[Yl]
def Inv.lst {pins:eJ}{Z:St}{H:Hp}{s:Shared}{p:Addr}{xs:dz} (I:dI) (h:zvB) :
    (zpS,EQ/\(wD p DQ)/\y0):=by
  show(zqt,uL p h);exact fJ its n r e z
def Inv.lstUpd {pins:eJ}{Z:St}{H:Hp}{s:Shared}{p:Addr}{xs ys:dz}{its its':d4}{n n':Nat}{f:Obj->Obj} (I:dI) (h:zvB)
    (ho:wD p DQ) (hf:f DQ=zGa) (r:qaM) (hz:zbC) (t:Nat) :
    qN (iQ H p ys) { s with heap:=zQU,toks:=t }:=by
  have e:(du,(zQU).get? p,zGa):=by
    rw[Jv f ho (by rw[hf]<;>rfl),hf]
  refine I.write (x:=p) (e:=p) (by rw[h]; trivial) jr (λ b u c q=>(YO _ _ (Z2 c)).trans q) (iK e) ?_;show(dO,hz,fP its' n' r e)
noncomputable def x1v:zLW:=λ o i v H Q=>∃ p xs k j,(dN,jQ o p,i=.int k,zvB,(Bb,ixN xs.length k),Q zMl)
def xet:PSet X x1v:=by
 intro b s Z H o i v T Y u Q I P R O h;obtain⟨p,xs,k,j,rfl,rfl,J,S,q⟩:125:=h;cases P;ext iG R;show(hJ,its,n,r,x,hz,I.lst J);show(Ab,m,h2,L,K,xp6 S);show(dy,C,r.length,hn,xfn);have M:Inv X b Z zMl { s with heap:=s.heap.update p (Yl (·.setIfInBounds j u)) } :=
  I.lstUpd J x (xqy its n j u) (r.set O j) (dH List.length_set hz) s.toks
 by_cases h0:0<=k
 .have D:k.toNat=j:=by
   rw[seqIndex_of h0 K] at m;exact ZM.inj m
  exact PySem.W.ki_setAt x h0 dk (OR C K) (zYH q)
 .have D:(k+(its.toArray.size:Int)).toNat=j:=by
   rw[seqIndex_neg dk L] at m;rw[Z6,<- C];exact ZM.inj m
  exact PySem.W.ki_setBack x dk (OR C L) dk (zYH q)
theorem xnh (lo hi:nB) (n:Nat):(gf,(zlV).1,(jf,SA n),(eE zlV)=(jf,HT.sIx n n hi),(fH zlV)=1):=by
 show(Bg,?_,rfl)
 .cases lo with
  | none=>ext zYd
  | some i =>
   ext zBs
   .ext zSN
   .ext zRk
 .cases hi with
  | none=>ext zYd
  | some i =>
   ext zBs
   .ext zSN
   .ext zRk
def xmh (its:d4) (lo hi:nB):slicePick its.toArray lo hi none=((its.drop (SA its.length)).take (HT.sIx its.length its.length hi-(SA its.length))).toArray:=by
 show(jE,f,c,b,xnh lo hi its.toArray.size);unfold slicePick;rw[f,c,b];simp only[sliceRange_one,pick_run,Z6]<;>rfl
noncomputable def rSlL (K:Zf):NP:=(zVz,oK/\zn/\(zwt (cutV xs b c)))
theorem xkt:SlR X (rSlL X.K):=by
 intro B s Z H x v P O m A R Q I D hs pl J h;show(hJ,a,xs,rfl,M,q,h);cases D;show(eZ,its,r,C,hz,I.list M);have c:=r.length;refine⟨83, "list",_,slot_list_getitem.lookup,C.isList.typeIs,?_⟩;refine wpAny_getItem_list_slice C.isList hs pl J .none dG ?_ zUx;rw[xmh,<- c];refine Sy (zln,.lst (cutV xs m A));show(dO,ZR (xiq xs m A) hz,(fP,_,0,(r.drop (OM m)).take (HT.sIx xs.length xs.length A-(OM m)),j9))
noncomputable def xf3:S0
 | .non=>true
 | sP=>true
 | vK=>true
 | nK=>true
 | _=>false
noncomputable def eqV:AN V V
 | .non,.non=>true
 | .bl a,yl=>LT
 | .bl a,ziS=>(O9 a) == b
 | .int a,yl=>a == (wL 1 0)
 | .int a,ziS=>LT
 | ziQ,Uu=>LT
 | _,_=>false
theorem x0i {A:Around}{s:Shared}{y x:V}{u v:Value} (ry:j8) (rx:xA) (fy:qaD) (fx:zse):Z8 A s u v zgZ:=by
 cases y with
 | non =>
  cases ry;cases x with
  | non=>cases rx; exact Z8.same _
  | bl b=>cases rx; exact Z8.none_bool b
  | int b=>ext De; exact Z8.none_int b t
  | str b=>ext De; exact Z8.none_str b t
  | _=>ext Ek fx
 | bl a =>
  cases ry;cases x with
  | non=>cases rx; exact Z8.bool_none a
  | bl b=>cases rx; exact Z8.bool_bool a b
  | int b=>ext De; exact Z8.bool_int a b t
  | str b=>ext De; exact Z8.bool_str a b t
  | _=>ext Ek fx
 | int a =>
  ext iL ry;cases x with
  | non=>cases rx; exact Z8.int_none a t'
  | bl b=>cases rx; exact Z8.int_bool a t' b
  | int b=>ext De; exact Z8.int_int a t' b t
  | str b=>ext De; exact Z8.int_str a t' b t
  | _=>ext Ek fx
 | str a =>
  ext iL ry;cases x with
  | non=>cases rx; exact Z8.str_none a t'
  | bl b=>cases rx; exact Z8.str_bool a t' b
  | int b=>ext De; exact Z8.str_int a t' b t
  | str b=>ext De; exact Z8.str_str a t' b t
  | _=>ext Ek fx
 | _=>ext Ek fy
noncomputable def eqU (x:V) (u:Value):Bool:=match u with
 | .none=>eqV .non x
 | zzI=>eqV (.bl b) x
 | .int i _=>eqV (.int i) x
 | .str z _=>eqV (.str z) x
 | _=>false
theorem xuf {x y:V}{u:Value} (r:j8) (f:qaD):eqU x u=zgZ:=by
 cases y with
 | non=>ext n8 r
 | bl b=>ext n8 r
 | int i=>ext Lq
 | str z=>ext Lq
 | _=>ext Ek f
theorem xku {x:V}:(zbJ,nF->zos->us.any (eqU x)=xs.any λ y=>zgZ)
 | _,_,.nil,_=>rfl
 | y::xs,MQ,wW,f=>by
  rw[Ql,Zy] at f;rw[Y7,Y7,xuf r f.1,xku t f.2]
theorem xjc {A:Around}{s:Shared}{x:V}{v:Value} (rx:xA) (fx:zse):(zbJ,nF->zos->∀ u∈us,Z8 A s u v (eqU x u))
 | _,_,.nil,_=>λ u b=>by cases b
 | y::xs,MQ,wW,f=>λ h b=>by
  rw[Ql,Zy] at f;rcases Ad with rfl|b
  .show(iX,xuf r f.1,x0i r rx f.1 fx)
  .exact xjc rx fx t f.2 h b
noncomputable def inV (x:V) (xs:dz):Bool:=xs.any λ y=>zgZ
inductive rIn (K:Zf) (neg:Bool) (x:V) (y:V) (H:Hp) (Q:VK):Prop
 | mk (p xs) (e_:zxC) (r_:d9 (zcw\/zrZ) zse zos (xT (zsR,inV x xs)))
def xge:wE .In (rIn X.K false):=by
 intro m s Z H x y v u Q I j B h;obtain⟨p,xs,rfl,c,z,fs,q⟩:=h;cases B;rcases c with c|c
 .show(zaH,r,I.list c);refine SeqAt.in_listAt (eqU x) pl.isList (λ w f=>xjc j z r fs w Id) (zgv sP ?_);ext zBF
 .show(zaH,r,I.tuple c);refine SeqAt.in_tupleAt (eqU x) pl (λ w f=>xjc j z r fs w Id) (zgv sP ?_);ext zBF
def xbn:(ztK,zHg zFq):=by
 ext rp x;show(hJ,p,ys,rfl,m,q,h);ext wO y r;cases y;have z:=xfn;rcases m with m|m
 .show(zaH,v,I.list m);have j:=v.length;exact Calls.call_len_list pl.isList Xx zDM
 .show(zaH,v,I.tuple m);have j:=v.length;exact len_tuple pl Xx zDM
def xc6:(ztK,∃ z,gf xs [.str z] zZr (tY z.length)):=by
 ext rp a;show(eZ,z,rfl,hz,q,h);show(zmm,xcx r);have c:=xfn;exact len_str dk (F1 z.length)
theorem xn3:(zjt,ztB,∃ p ys,(gf,xs,[mN],zFq,∀ l,mM->(yM zsY))):=by
  ext rp v;show(hJ,p,ys,rfl,B,q,h);ext wO P r;cases P;have D:∀(its:d4),Vals ys its->zbC->∀(h':Heap) (m:Nat),(∀ b o',(zZt o')->(zsD o')) ->
      (zKf (Xj,none,.seq its.toArray m,#[]))->EP X v Z Q HK kJ:=λ its c hz h' m x e =>
    (Sy,qaq x (show KM _ h' _ (.lst ys) from ⟨hz,fP its m c e⟩))
  rcases B with B|B
  . show(eZ,its,c,pl,hz,I.list B)
    show(zLp,O,M,pl.isList)
    exact call_list_seq p jr J O M (zQn x e) Xx
  . show(eZ,its,c,pl,hz,I.tuple B)
    ext zLp O M pl;exact call_list_seq p Ca J O M (zQn x e) Xx
noncomputable def tyV (K:Zf) (T:String) (x:V) (H:Hp):Prop:=match x with
  | nK=>T="str"
  | vK=>T="int"
  | mN=>(T="list"/\∃ xs,zcw)\/(T="tuple"/\∃ o,(EL p o)/\qaK/\ztl) \/
      (T="dict"/\((∃ kvs,Bs p)\/∃ kvs,Oo p))\/(T="set"/\∃ S n,eO p (.set S n))
  | _=>False
theorem x0h {pins:eJ}{Z:St}{H:Hp}{s:Shared}{T:String}{x:V}{v:Value} (I:dI) (r:xA) (ty:tyV X.K T x H) :
    qaj/\∀ a,(uU a)->(zTT (Ia ob)):=by
  cases x with
  | str z =>
    show(zGo,"str",zuP z)
  | int i =>
    show(zGo,"int",typeIs_int s i t)
  | ref p =>
    cases r;rcases ty with⟨rfl,xs,hq⟩|⟨rfl,o,hk,hc,j⟩|⟨rfl,hk⟩|⟨rfl,S,n,hk⟩
    . obtain⟨its,_,pl,_⟩:63:=I.list hq
      show(vS,pl.isList.typeIs,a,e);cases e;obtain⟨o,n,e,c,j,_⟩:84:=pl;ext eB o e j
    . show(vS,(dB,o,I.kIn p o hk,hc),a,e)
      cases e;show(eB,o,I.kIn _ o hk,j)
    . have z:∃ o,(wD p o)/\o.ExactDict:=by
        rcases hk with⟨kvs,hk⟩|⟨kvs,hk⟩
        . ext zCi
        . ext zCi
      ext dA o e b z;ext zGY
    . obtain⟨o,_,_,_,e,b,_⟩:123:=uL p hk
      ext zGY
  | _=>exact Ym ty
noncomputable def tBM (K:Zf) (T:String) (r:zbl) (to:TE) (t:TA):TE:=(qX,to Z H λ x H1=>tyV K T x H1/\t Z H1 λ xs H2=>r x xs H2 Q)
variable {o e:Expr}{es:List Expr}{to:TE}{t:TA}{name:Str}{apos cpos:Pos}{T id:String}{r:V->List V->Hp->VK->Prop}
def xef (pa:qbq) (slot:zVF) (hty:zCa) (hm:MtR X id r) (ho:zF) (ha:B0)
    (hbase:HC name:=by rfl)
    (hfew:((L3 mW).all (λ x=>! dM)&&(zeL).all (λ x=>zeY)
      && (VD mW))=true:=by rfl)
    (hline:Bh:=by rfl) (hs:yQ:=by rfl) (hplain:(zsd).any (·.1)=false:=by rfl) :
    zJb X.K:=by
  ext jd c;refine wpAny_Call_method_late hbase hfew hline rfl (thn (PY c) λ v B ⟨1084,x,U,j,r1,q,J⟩=>?_);obtain⟨O,M⟩:=x0h j r1 q;refine gW 86 T id pa slot hty O M ?_;have f:=ha cpos c B Z U _ j J;rw[hs] at f ⊢;refine JZ (by show (false||(zsd).any (·.1))=false; rw[hplain]<;>rfl) (WK ?_);exact thn f (lI,us,z,vs,R,P,r2,D,hm c z Z R x vs v us Q P r1 r2 D)
#check _
noncomputable def MtM (X:Cx) (id:String) (r:zbl):Prop :=
 ∀(pins:List (Addr × Obj)) (s:Shared) (Z:St) (H:Hp) (x:V) (xs:List V) (v:Value) (us:List Value) (Q:VK),Inv X pins Z H s->RelV x v->Vals xs us->r x xs H Q ->
  zMV
theorem Vals.one {x:V}{us:d4} (h:AV [x]):zPo:=by
 cases h with
 | cons r q =>
  cases q;exact ja r
theorem Vals.eraseIdx:(zPQ,nF->Vals (xs.eraseIdx i) (us.eraseIdx i))
 | _,_,_,.nil=>.nil
 | _,_,0,KQ=>t
 | _,_,dW,wW=>.cons r (Vals.eraseIdx i t)
theorem Vals.rep {xs:dz}{us:d4} (h:nF):∀ k:Nat,Vals (zdy xs) (zdy us)
 | 0=>.nil
 | gu=>by
  rw[Qj,Qj,Wa,Wa];exact Vals.append h (Vals.rep h k)
theorem xlz {α:Type}:∀(l:fc) (i:Nat),kS (l.eraseIdx i) l.length
 | [],_=>eV
 | eK,0=>WB _
 | _::r,dW=>Nat.succ_le_succ (xlz r i)
theorem xmc (its:d4):∀(k:Nat) (acc:d4),
    (zRE,acc.toArray,Ju k its.toArray,(acc++(zdy its)).toArray)
  | 0,acc=>dG
  | gu,acc=>by
    have e:acc.toArray++its.toArray=(acc++its).toArray:=dG
    have b:(acc++its)++(zdy its)=acc++(Ju gu its).flatten:=by
      rw[Qj,Wa,JF]
    rw[<- b,<- xmc its k (acc++its),<- e,Qj,QI]
section
variable {X:Cx}{pins:List (Addr × Obj)}{Z:St}{H:Hp}{s:Shared}{l b:Addr}{xs ys zs:List V}
def Inv.lset {its its':d4}{n:Nat}{f:oC->oC}{t':Nat} (I:dI) (hH:Fn)
    (e:wD l DQ) (hf:f its.toArray=its'.toArray) (hv:qaM) (hz:zbC) :
    qN zsY (zmP,s.heap.update l (Yl f)):=by
  show(gZ,q,PySem.IsL.update e f,hf,q);refine I.write (x:=l) (e:=l) (dH hH trivial) jr (λ j u c b=>(YO s.heap (Yl f) (Z2 c)).trans b) (iK q) ?_;show(dO,hz,fP its' _ hv q)
def Inv.lnew {its:d4}{t':Nat} (I:dI) (hv:Vals ys its) (hz:zbC) :
    qN (iQ H s.heap.objs.size ys) (zmP,s.heap.push (iN,"list",.seq its.toArray)) :=
  I.laid ztv eV ⟨hz,fP its 0 hv j9⟩
def Inv.fresh (I:dI):fw s.heap.objs.size:=HS
def Inv.lstM (I:dI) (hH:Fn):y0/\(zpS,EQ/\xs.length=its.length/\(wD l DQ)):=by
 show(zqt,uL l hH);show(dO,z,fJ its n r r.length e)
def xni {n:Nat} (h:gY n):Builtin.List.listTooLong n=false:=by
 unfold Builtin.List.listTooLong;exact decide_eq_false dk
#check _
section
variable {X:Cx}
inductive xxf (x:V) (vs:dz) (H:Hp) (Q:VK):Prop
 | mk (l xs y) (e_:Sf) (r_:(nW,vs,[y],Fn,Ix,Q .non (iQ H l SU)))
def xd7:MtM X "list.append" xxf:=by
 intro b s Z H x vs v us Q I j m h;obtain⟨l,xs,y,rfl,rfl,f,hz,q⟩:=h;cases j;show(sR,u,B,m.one)
 show(D6,C,I.lstM f);refine QS F.slot_list_append L7 F.entry_list_append (F.args_list_append_2 _ _) (PySem.list_append l its.toArray n u zzo) (jy e);show(zod,(ztS,its++[u],f,dG,r.append (.cons B .nil)));rw[Zn,ZZ]
 lia
inductive xye (x:V) (vs:dz) (H:Hp) (Q:VK):Prop
 | mk (l b xs zs) (e_:Sf) (r_:(zFp,vs=[qS],Q .non (iQ H l (xs++zs))))
def xl3:MtM X "list.extend" xye:=by
 intro j s Z H x vs v us Q I C D h;obtain⟨l,b,xs,zs,rfl,rfl,B,P,hz,q⟩:=h;cases C;show(sR,u,J,D.one)
 cases J;show(D6,U,I.lstM B);obtain⟨S,c,K,r2,O,R⟩:=I.lstM P;have hsz:gY zGz:=FY Z6 Z6
 have f:¬ (! its.toArray.isEmpty&&Builtin.List.listTooLong zGz)=true:=by
  show(fG,xni hsz,YB,Z4)
 refine QS F.slot_list_extend L7 F.entry_list_extend (F.args_list_extend_2 _ _)
  (AutoSeq1.list_extend_list_list_0 l its.toArray n b c.toArray K f zzo dk) (kB e R)
 show(zod,(ztS,its++c,B,dG,r.append r2));rw[Zn]
 lia
noncomputable def xzm:zbl:=λ x vs H Q=>∃ l xs i k y,(d9,Sf,vs=[iC],Fn,(dN,-xX<=i,i<xX,(du,seqIndex? i xs.length,k),wp xs y,Q y (i5 l (.lst (xs.eraseIdx k)))))
def xu4:MtM X "list.pop" xzm:=by
 intro c s Z H x vs v us Q I m C h;obtain⟨l,xs,i,k,⟨y,rfl,rfl,j,R,P,O,J,q⟩⟩:121:=h;cases m;show(sR,u,D,C.one)
 ext iG D;show(D6,L,I.lstM j);show(dA,w,K,b,r.get J);refine QS F.slot_list_pop L7 F.entry_list_pop (F.args_list_pop_2 _ _)
  (MeetsSeq.list_pop_at l its.toArray n i t k w (fitsIndex_both R P) (OR L O) (gF Jj K) zzo) (jy e)
 refine fJ y _ (ztS,its.eraseIdx k,j,?_,r.eraseIdx k) b q
 .show its.toArray.eraseIdxIfInBounds k=(its.eraseIdx k).toArray;rw[List.eraseIdxIfInBounds_toArray]
 .show(gV,xlz xs k)
inductive rCat (x:V) (y:V) (H:Hp) (Q:VK):Prop
 | mk (l b xs zs) (e_:Sf) (r_:zFp Sn (zwt (xs++zs)))
def xnt:zcT .Add rCat:=by
 intro j s Z H x y v u Q I B m h;obtain⟨l,b,xs,zs,rfl,rfl,D,J,hz,q⟩:=h;cases B;cases m;show(D6,S,I.lstM D);obtain⟨O,c,R,r2,C,L⟩:=I.lstM J;refine PySem.P.add_list e L ?_ (FY Z6 Z6);have K:its.toArray++c.toArray=(its++c).toArray:=dG
 rw[K];show(zIC,r.append r2,xI)
inductive rRep (x:V) (y:V) (H:Hp) (Q:VK):Prop
 | mk (l k xs) (e_:Sf) (r_:(Da k)/\(dN,Fn,-xX<=k,k<xX,(gY,xs.length*k.toNat),(zwt,(Ju k.toNat xs).flatten)))
theorem xzl {α:Type} (xs:fc) (k:Nat):(Ju k xs).flatten.length=k*xs.length:=by
 induction k with
 | zero=>simp
 | succ k ih=>rw[Qj,Wa,Zn,ih,Nat.succ_mul,Nat.add_comm]
theorem x0u:zcT .Mult rRep:=by
 intro K s Z H x y v u Q I P O h;obtain⟨l,k,xs,rfl,rfl,S,h1,Y,hz,q⟩:=h;cases P;ext iG O;show(D6,R,I.lstM S);have C:gY zlX:=OR R hz
 have J:¬ zlX>(xX-1) / 8:=by
  have:zWW<=(xX-1) / 8:=dF
  lia
 have D:¬ (! Builtin.List.listFitsIndex k)=true:=by
  show(dP,fitsIndex_both h1 Y,Z4)
 have b:¬ Builtin.List.listTooLong zlX=true:=by
  show(dP,xni C,Z4)
 have j:zSe (Ju (jo its.toArray.isEmpty 0 k.toNat) its.toArray) (Ju k.toNat its):=by
  have f0:∀ m:Nat,zSe (Ju m its.toArray) (Ju m its):=λ m=>by
   show(Ed,xmc its m [],W1)
  rw[f0];cases its with
  | nil=>simp
  | cons a r'=>rw[d6 dG]
 refine wpAny_binaryOp_repeat_ref (T:="list") (U:="int") dF L7 (λ s'=>typeIs_int s' k t) noFill_list_mul F.fills_int_mul F.slot_int_rmul repeat_list F.slot_int_index.lookup
  (QS F.slot_int_rmul (typeIs_int s k t) F.entry_int_rmul (F.args_int_rmul_2 _ _) (int___rmul___int_list k t l its.toArray n)
   (fQ,e,rfl,L7,QS F.slot_list_mul L7 F.entry_list_mul (F.args_list_mul_2 _ _) (AutoListH.list___mul___list_int_3 l its.toArray n k t D J b) (jy e)))
 rw[j];show(zIC,r.rep k.toNat,kc xzl Nat.mul_comm hz)
#check _
section
variable {κ:Type} [DecidableEq κ]
noncomputable def valV (kvs:je) (k:κ):f7:=(kvs.find? λ b=>zvs).map (·.2)
noncomputable def putK (kvs:je) (k:κ) (v:V):je :=
 if (zuR,λ b=>zvs) then kvs.map (λ b=>if pk=k then (b.1,v) else b) else qaE
def xbg {p:zyW}{r:je}{k:κ} (e:eA=k):(du,valV wb k,fM):=Tf valV e
def xa8 {p:zyW}{r:je}{k:κ} (e:¬ eA=k):valV wb k=valV r k:=Tf valV e
theorem xd3 (k:κ):∀ kvs:je,(kvs.any zpJ)=zvT
 | []=>rfl
 | wb=>by
  rw[Y7];ext KL
  .simp only [GM,decide_eq_true e,Bool.true_or,Option.isSome_some]
  .rw [AM,decide_eq_false e,WV]; exact xd3 k r
theorem xox (k j:κ) (y:V):∀ kvs:je,valV (kvs.map qaZ) j=(zuw).map λ x=>if j=k then y else x
 | []=>rfl
 | wb=>by
  have b:=xox k j y r;rw[Zq];by_cases h:eA=k
  .rw [if_pos h];ext zyf
   .rw [xbg (p:=(eA,y)) e,GM,Qo,if_pos (e.symm.trans h)]
   .rw [xa8 (p:=(eA,y)) e,AM,b]
  .rw [if_neg h];ext zyf
   .rw [xbg (p:=p) e,GM,Qo,(mD,h (e.trans z))]
   .rw [xa8 (p:=p) e,AM,b]
theorem xlw (k j:κ) (y:V):∀ kvs:je,Ol->(zTO (kvs++[(k,y)]))
 | [],_=>by
  by_cases e:k=j
  .show(iX,eD e.symm,xbg (p:=(k,y)) e)
  .show(iX,zXP,xa8 (p:=(k,y)) e)
 | wb,hn=>by
  rw[List.cons_append];have b:¬ eA=k:=λ z=>(US,xbg z,hn)
  rw[xa8 b] at hn;have f:=xlw k j y r hn;ext zyf
  .rw [GM,GM,(mD,b (e.trans z))]
  .rw [AM,AM,f]
theorem xco (kvs:je) (k j:κ) (y:V):zTO zrK:=by
 unfold putK;by_cases a:(zuR,λ c=>gk fK k)
 .rw [if_pos a,xox];rw[xd3] at a;by_cases e:j=k
  .obtain ⟨x,f⟩:=Wc.mp a;rw[xY,e,f,Qo,gq]
  .ext lD e;cases zuw with
   | none=>rfl
   | some x=>rw[Qo,d6 e]
 .rw [if_neg a];refine xlw k j y kvs ?_;rw[xd3] at a;cases q:tK with
  | none=>rfl
  | some x=>show(eW,q,a,(a rfl).elim)
def xbo (kvs:je) (k:κ) (v:V):(kS,rS,kvs.length+1):=by
 unfold putK;split
 .rw [Za]; lia
 .rw [Zn,ZF,W2]; lia
def xcq {kvs:je}{k:κ} (v:V) (h:Ol):rS=qaE:=by
 unfold putK;rw[xd3,h];exact if_neg dF
theorem RelO.isSome_eq {o:f7}{u:BU} (r:RelO o u):o.isSome=u.isSome:=by
 cases o with
 | none=>cases u with
  | none=>rfl
  | some _=>ext Ig
 | some _=>cases u with
  | none=>ext Ig
  | some _=>rfl
theorem RelO.getD {o:f7}{u:BU}{d:V}{d':Value} (r:RelO o u) (rd:RelV d d'):zyJ d (u.getD d'):=by
 cases o with
 | none=>cases u with
  | none=>exact rd
  | some _=>ext Ig
 | some _=>cases u with
  | none=>ext Ig
  | some _=>exact r
theorem KV.val {kvs:je}{vs:Cp} (r:tS) (k:κ):RelO tK (valueAt vs k):=by
 ext zgl
 induction r with
 | nil=>exact JD
 | @cons p q ps qs h t ih =>
  obtain⟨f,i⟩:=h;ext KL
  .show(zDh,valueAt vW k,valueAt)
  .show(dw,c,¬ wu=k,zPG,b,valueAt vW k=valueAt qs k,Tf valueAt c)
   ext fG AM b ih
theorem KV.any {kvs:je}{vs:Cp} (r:tS) (k:κ):(kvs.any λ kv=>gk sU k)=vs.any zpJ:=by
 ext zgl
 induction r with
 | nil=>rfl
 | cons h t ih=>rw[Y7,Y7,ih,iA]
theorem KV.repl {kvs:je}{vs:Cp} (r:tS) (k:κ) {y:V}{u:Value} (ry:j8) :
    KV (kvs.map qaZ) (vs.map λ kv=>Xo u):=by
  unfold KV at r ⊢
  induction r with
  | nil=>ext pU
  | @cons p q ps qs h t ih =>
    ext zQR;ext CA f h;ext KL
    . rw[xY,zKB]; ext dO b ry
    . rw[d6 e,(mD,e (b.trans z))]; ext dO b f
def KV.put {kvs:je}{vs:Cp} (r:tS) (k:κ) {y:V}{u:Value} (ry:j8):KV zrK (stored vs k u):=by
 unfold putK stored;rw[r.any k];by_cases e:(vs.any λ b=>zvs)=true
 .rw [xY,xY]; exact r.repl k ry
 .rw [d6 e,d6 e]; exact Paired.snoc r (hR ry)
theorem KV.keys {kvs:je}{vs:Cp} (r:tS):kvs.map (·.1)=vs.map (·.1):=by
 ext zgl
 induction r with
 | nil=>rfl
 | cons h t ih=>rw[Zq,Zq,ih,iA]
def KV.length {kvs:je}{vs:Cp} (r:tS):zNw:=Yf r
#check _
theorem xd1 {P:Program}{w:World}{k:Key}{u:Value} (r:zYm):(xN).is k u=true:=by
 cases k with
 | inl i=>show(lK,t,Fu O7); ext gc; exact xo3 P w i t
 | inr x=>show(lK,t,Fu zqW); ext gc; exact xo1 P w x t
theorem xl9 {P:Program}{w:World}:∀{ks:iB}{us:d4},Vals (ks.map kV) us->ItemsAre xN ks us
 | [],_,r=>by show(kd,Wr,r,.nil)
 | k::ks,_,r=>by
  rw[Zq] at r;cases r with
  | cons h t=>exact .cons (xd1 h) (xl9 t)
noncomputable abbrev KT (H:Hp):gQ gJ qu:=Paired λ p q=>gf eA wu (eO (eE q) (.tup ((eA).map kV))) zWF
theorem KT.val {H:Hp}{kvs:gJ}{xs:qu} (r:EV) (k:iB):RelO tK ((zdM).map (·.2)):=by
 induction r with
 | nil=>exact JD
 | @cons p q ps qs h t ih =>
  obtain⟨f,_,i⟩:43:=h;ext KL
  .show(zDh,atKey vW k,atKey)
  .show(dw,c,¬ wu=k,zPG,b,atKey vW k=atKey qs k,Tf atKey c)
   ext fG AM b ih
theorem KT.repl {H:Hp}{kvs:gJ}{xs:qu} (r:EV) (k:iB) {y:V}{u:Value} (ry:j8) :
    KT H (kvs.map λ kv=>Xo y) (xs.map (putAt k u)):=by
  induction r with
  | nil=>ext pU
  | @cons p q ps qs h t ih =>
    ext zQR;ext jE b f j h;unfold putAt;ext KL
    . rw[xY,zKB]; ext eB b f ry
    . rw[d6 e,(mD,e (b.trans z))]; ext eB b f j
def KT.put {H:Hp}{kvs:gJ}{xs:qu} (r:EV) (k:iB) {b:Addr}{y:V}{u:Value} (hb:NM) (ry:j8) :
    KT H zrK (storedH xs k b u):=by
  have e:(kvs.any zpJ)=(zdM).isSome:=by
    rw[xd3,(r.val k).isSome_eq,YV]
  unfold putK storedH;rw[e];by_cases q:kN zdM
  . rw[ziP,ziP]; exact r.repl k ry
  . rw[d6 q,d6 q]; exact Paired.snoc r (Dk hb ry)
def KT.keeps {H H':Hp}{kvs:gJ}{xs:qu} (r:EV) (ht:∀ b ys,(pq b ys)->(Ej b ys)):KT H' kvs xs :=
 Paired.mapP r (Db (rG,iM,ht _ _ sG,qQ))
section
variable {P:Program}{w:World}{H:Hp}{h:Heap}{a:Addr}
def xwy {u:HO} (ok:qO) (e:zwG):xa9 P w H h a u:=e.ok ok
def xfc {kvs:eG} (ok:qO) (e:zaS):zkU :=
 (zac,FK,xwy ok e)
def xgv {kvs:eG} (ok:qO) (e:L4):zkU:=xfc ok (.inl e)
def xeh {ks:iB} (ok:qO) (e:eO a (.tup (ks.map kV))):(znH).is h ks a:=by
 obtain⟨_,its,r,o,f,c,n,b⟩:=(zac,.tup (ks.map kV),ok a _ e)
 exact mX o its.toArray n f c b (EN,xl9 r)
def xgg {kvs:gJ} (ok:qO) (e:zpd):Ip/\Me /\
    zGH:=by
  obtain⟨z,y,⟨xs,r,o,C,ep,B,A,v,u,j⟩⟩:43:=(zac,zhe,xwy ok e)
  refine eY z y xs r ⟨106,o,C,ep,B,A,v,u,sY b,j⟩;have all:∀{l:gJ}{m:qu},KT H l m->∀ x∈m,(znH).is h dM fj:=by
    intro l m q
    induction q with
    | nil=>intro x b; exact nomatch b
    | @cons p q ps qs hq t ih =>
      intro x b;rcases Ad with e|b
      . ext gc
        exact xeh ok (gF,hq.1,eE hq)
      . exact ih x b
  exact all r x b
def xjt {kvs:gJ} (ok:qO) (e:Gf):Ip/\Me /\
    zGH:=xgg ok (.inl e)
#check _
noncomputable def DGet (H:Hp) (a:Addr) (y:V) (r:f7):Prop :=
 (∃ kvs k,zaS/\zwO/\r=tK)\/∃ kvs k b,(d9,zpd,Sn,NM,r=tK)
noncomputable def DPut (H:Hp) (a:Addr) (y v:V) (H':Hp):Prop :=
 (∃ kvs k,(d9,L4,zwO,Il,H'=(kh H a rS))) \/
 ∃ kvs k b,(dN,Gf,Sn,NM,Il,H'=(pL H a rS))
def DGet.k {H:Hp}{a:Addr}{kvs:eG}{k:Key} (e:L4):DGet H a DE tK:=.inl (uH kvs k ziL rfl)
def DGet.t {H:Hp}{a b:Addr}{kvs:gJ}{k:iB} (e:Gf) (eb:NM):DGet H a qS tK:=.inr (mX kvs k b ziL rfl eb rfl)
def DPut.k {H:Hp}{a:Addr}{kvs:eG}{k:Key}{v:V} (e:L4) (hl:Il):DPut H a DE v (kh H a rS):=.inl (eP 84 kvs k e rfl hl rfl)
def DPut.t {H:Hp}{a b:Addr}{kvs:gJ}{k:iB}{v:V} (e:Gf) (eb:NM) (hl:Il) :
    DPut H a qS v (pL H a rS):=.inr (gW 105 kvs k b e rfl eb hl rfl)
section
variable {X:Cx}{pins:List (Addr × Obj)}{Z:St}{H:Hp}{s:Shared}{a:Addr}{y v:V}{u r:Value}{o:Option V}{A:Around}{E:Value->Shared->Prop}
def Inv.big (I:dI):tH sysModules:=by
 have h:mainGlobals<s.heap.objs.size:=(I.mod.glob.keeps I.bk).lt;exact ZN dF h
def xlk {Q:eR} (hu:D3) (I:dI) (g:DGet H a y Au) (ry:j8) (h:(zmw,RelV v w')) :
    xS (getItem (.ref a) u):=by
  rcases g with⟨kvs,k,e,ey,l⟩|⟨kvs,k,b,e,ey,eb,l⟩
  . subst ey
    ext Hs D j B;show(dA,w',q,c,(zXg,valueAt vs k,zLh));exact wpAny_getItem_of Ge B.mapOf q (h w' _ um c)
  . ext Nr D j B;obtain⟨w',q,c⟩:62:=RelO.some_of (v:=v) (o:=(zdM).map (·.2)) zLh;show(dA,p,C,x,Zg.mp q);refine wpAny_getItem_heap U1 Kh B C ?_;show(dP,x,h w' _ um c)
def d_in {Q:eR} (hu:D3) (I:dI) (g:Pf) (ry:j8) (h:zPF o.isSome) :
    zVH .In:=by
  rcases g with⟨kvs,k,e,ey,l⟩|⟨kvs,k,b,e,ey,eb,l⟩
  . subst ey
    ext Hs j c x;refine wpAny_in_of Ge j x.mapOf ?_;ext zqB znJ
  . ext Nr j c x;refine wpAny_in_heap U1 Kh j x ?_;ext zRS
def xx3 {Q:eR} (hu:D3) (I:dI) (g:Pf) (ry:j8) (h:zPF (! o.isSome)) :
    zVH .NotIn:=by
  rcases g with⟨kvs,k,e,ey,l⟩|⟨kvs,k,b,e,ey,eb,l⟩
  . subst ey
    ext Hs j c x;refine wpAny_notIn_of Ge j x.mapOf ?_;ext zqB znJ
  . ext Nr j c x;refine wpAny_notIn_heap U1 Kh j x ?_;ext zRS
def xfi {h':Heap}{t':Nat}{ob:HO} (I:dI) (mu:Mut (H a)) (hs:zWr) (he:zrM) (new:xa9 X.prog X.w (i5 a ob) h' a ob) :
    qN (i5 a ob) Tj :=
  I.write (x:=a) (e:=a) mu jr (λ b q c z=>(hs.2 b c).trans z) he new
def xoj {P:Program}{w:World}{H':Hp}{h':Heap}{kvs:eG}{vs:zfG} (z:Ip) (hd:Me) (rel:tS) (dd:h'.DictOf xN a vs) :
    xa9 P w H' h' a FK:=eY z hd vs rel dd
def xlt {H':Hp}{Q:wY} (hu:D3) (I:dI) (g:zTY) (ry:j8) (rv:RelV v r) (h:zbK FV) :
    xS (setItem eQ u r):=by
  rcases g with⟨kvs,k,e,ey,l,eH⟩|⟨kvs,k,b,e,ey,eb,l,eH⟩
  . ext zEt j;show(zIP,j.length,wpAny_setItem_pairs (hsz:=hz) Ge D zRl);have K:zrM:=let ⟨q,_,_,x,_⟩:=m; pV x;exact xfi I zI hs K (xoj B C (j.put k rv) m)
  . ext zBW j;show(zWD,Yf j,wpAny_setItem_heap (hsz:=hz) U1 Kh D zRl);obtain⟨q,R,ep,x,P,O,M,_,L⟩:106:=m;show(zFQ,(eY,B,C,_,(j.put k eb rv).keeps (d8 c ys J),zIY))
#check _
section
variable {X:Cx}{pins:List (Addr × Obj)}{Z:St}{H:Hp}{s:Shared}{a:Addr}{kvs:List (Key × V)}{k:Key}{u:Value}{A:Around}{E:Value->Shared->Prop}
def x17 {Q:eR} (I:dI) (e:zaS) (h:∀ t s',zhP->Q (.int kvs.length t) s'):xS (PQ "len" o4):=by
 ext Hs j c m;refine call_len_dict j m (by rw[<- c.length]; rw[WA] at z; lia) ?_;show(mL,c.length,h _ _ um)
#check _
noncomputable def NoSl (i:Expr):Prop:=∀ ov iv,subscripted i false ov iv=operate [ov,iv] (getItem ov iv)
def xxs {prog:Program}{w:World}{A:Around}{E:eR}{s:Shared}{env:Env}{value slice:Expr}{pos:Pos}{T id:String}{Q:eR}
    (hl:zHx) (hs:NoSl slice)
    (h:zek (Vf value) (λ o s₁=>uo (Vf slice) (λ i s₂=>s₂.TypeIs o T/\(uo (getItem o i) Q E s₂)) E s₁)) :
    jh (Vf (.Subscript value slice pos)):=by
  refine Subscript_ (zdt h (λ o s₁ z=>zdt z (d8 i s₂ f)));obtain⟨q,f⟩:=f;unfold subscriptTail;ext ud;rw[getitemInPython_of_ne q.not_modules];show(eX,Wz q hl ?_);have a:uo (subscripted slice false o i) (λ r j=>uo (letTemporaryGo value o r>>=λ_=>pure r) Q E j) E s₂:=by
    rw[hs o i];exact wpAny_operating (zdt f (λ r j v=>Ze (wpAny_letTemporaryGo (Zp v))))
  first
    | exact Zp (Ze a)
    | exact Ze (Zp (Ze a))
    | exact Ze a
def xo0 {X:Cx}{pins:eJ}{Z:St}{H:Hp}{s:Shared}{a:Addr}{y:V}{o:f7} (I:dI) (g:Pf):zYK:=by
 rcases g with⟨kvs,k,e,_,_⟩|⟨kvs,k,b,e,_,_,_⟩
 .show(zIG,vs,xfc I.hok e)
 .show(zIG,xs,xgg I.hok e)
inductive xyn (x y:V) (H2:Hp) (Q:VK):Prop
 | mk (a v) (e_:oK) (r_:(zgA Au)/\Q v H2)
noncomputable def x1w (td ty:TE):TE:=zXm (zrv,xyn x y H2 Q)
inductive xzt (x y:V) (H2:Hp) (Q:VK):Prop
 | mk (a o) (e_:oK) (r_:zXO o.isSome)
noncomputable def tDIn (ty td:TE):TE:=zoB (zrs,xzt x y H2 Q)
inductive xub (x y:V) (H2:Hp) (Q:VK):Prop
 | mk (a o) (e_:oK) (r_:zXO (! o.isSome))
noncomputable def xy8 (ty td:TE):TE:=zoB (zrs,xub x y H2 Q)
noncomputable def x24 (td ty tv:TE):TS:=(qW,tv Z H λ v H1=>(zrs,ty Z H2 λ y H3=>∃ a H4,oK/\DPut H3 a y v H4/\D.nx Z H4))
noncomputable def x2v (td ty tv:TE) (rd:OS):TS:=λD Z H=>td Z H λ x H1=>ty Z H1 λy H2=>∃ a v,oK/\(zgA Au) /\
 tv Z H2 λ y2 b=>rd v y2 b λ z H4=>∃ H5,DPut H4 a y z H5/\D.nx Z H5
section
variable {X:Cx}{o i e value:Expr}{pos pos' tpos:Pos}{td ty tv:TE}
def xb5 (hu:Bo) (ho:Fi) (hi:KR) (hs:NoSl i):zqx o i (x1w td ty):=by
 ext jd f;refine xxs PySem.F.slot_dict_getitem.lookup hs (nZ (PY f) u q x J D z B (jk,hi f q Z J _ D B,iv,s2,y,H2,I2,ry,eY a v ex g q2));ext w4 ex z;show(dO,xo0 I2 g,xlk hu I2 g ry λ K L C j=>fJ v H2 C j q2)
def xgq (hu:Bo) (hi:KR) (ho:Fi):PC X .In i o (tDIn ty td):=by
 ext jd c;show(o3,PZ c,(lI B f y v r j p (ztD,ho c f Z v _ r p,u,eY a ov ex g q2)));ext w4 ex rx;exact d_in hu I2 g j λ z q=>(uH,.bl ov.isSome,H2,q,q2)
def xdm (hu:Bo) (hi:KR) (ho:Fi):PC X .NotIn i o (xy8 ty td):=by
 ext jd c;show(o3,PZ c,(lI C f y z r j p (ztD,ho c f Z z _ r p,u,eY a ov ex g q2)));ext w4 ex rx;exact xx3 hu I2 g j λ B q=>(uH,.bl (! ov.isSome),H2,q,q2)
def xct (hu:Bo) (ho:Fi) (hi:KR) (hv:zqN) (hs:VT value (some zOw)) :
    zSQ zOw (x24 td ty tv):=by
  ext rT f;refine wpAny_Assign_Subscript (nZ,hv f s Z H _ I h,r,j,v,C,B,m,q,nZ (ho f j Z C _ B q) u s2 x H2 I2 rx q2 (jk,hi f s2 Z H2 _ I2 q2,iv,s3,y,H3,I3,ry,gm 1083 a H4 ex g q3)) hs;ext w4 ex rx;exact xlt hu I3 g ry m λ J z=>fP Z H4 z q3
def xp3 {op:Operator}{rd:OS} (hu:Bo) (ho:Fi) (hi:KR) (hv:zqN) (hop:InOp X op rd)
    (ha:∀ ov iv new,augStore i ov iv new=(do DI [new,ov,iv] (setItem ov iv new); release [new,ov,iv] []; pure .next)):PS X (.AugAssign (.Subscript o i tpos) op value pos) (x2v td ty tv rd):=by
  ext rT f;refine wpAny_AugAssign_SubscriptAny (nZ (PY f) u B x O M C J (jk,hi f B Z O _ M J,iv,s2,y,H2,I2,ry,gm 1083 a v ex g q2)) ha;ext w4 ex C;refine xlk hu I2 g ry λ m q L j=>nZ (hv f q Z H2 _ L q2) w2 s4 y2 H3 I4 ry2 q3 (jk,hop f s4 Z H3 v y2 m w2 _ I4 j ry2 q3,w3,s5,z,H4,I5,rz,dY 1062 H5 g5 q4);exact xlt hu I5 g5 ry rz λ P K=>fP Z H5 K q4
#check _
def xiz {P:Program}{w:World}{H:Hp} (h:Heap) (hb:zLv):zDl Gh :=
 (eY,lW,zEP,[],.nil,Heap.DictOf.new h)
def xoe {P:Program}{w:World}{H:Hp} (h:Heap) (hb:zLv):zDl L0 :=
 ⟨lW,zEP,[],.nil,(gW,105,_,#[],0,j9,zrT,rfl,rfl,Yh)⟩
noncomputable def x0x:TE:=(MK,IU (kh H p []))
noncomputable def x0d:TE:=(MK,IU (pL H p []))
section
variable {X:Cx}{pos:Pos}
def xeq:zTP x0x:=λ m s Z H Q I h =>
 zBl Gh zSJ
def xfv:zTP x0d:=λ m s Z H Q I h =>
 zBl L0 (xoe s.heap I.big)
#check _
noncomputable def xnq:DH Rk St Hp zzA
 | [],_,H,Q=>Q [] H
 | (tk,tv)::r,Z,H,Q=>tk Z H λ x a=>tv Z a λ y H2=>xnq r Z H2 λ ps H3=>Q ((x,y)::ps) H3
noncomputable abbrev VV:gQ zxX (TD Value):=Paired λ p q=>RelV eA wu/\zYC
noncomputable def PPs (X:Cx) (pos:Pos) (keys:znX) (values:nw) (trs:Rk):Prop :=
 ∀(pins:List (Addr × Obj)) (s:Shared) (Z:St) (H:Hp) (Q:zzA),dI->xnq trs Z H Q ->
  (tz (evalPairs (pairTrees keys values X.env pos)) (λ vs s'=>∃ ps H',(zyD,VV ps vs,ps)))
def xx9 {X:Cx}{pos:Pos}:PPs X pos [] [] []:=(zch,pairTrees_nil_walk (LN [] .nil))
def xmv {X:Cx}{pos:Pos}{k v:Expr}{ks:znX}{vs:nw}{tk tv:TE}{trs:Rk} (hk:PE X k tk) (hv:PE X v tv) (hr:PPs X pos ks vs trs) :
    PPs X pos (some k::ks) (v::vs) ((tk,tv)::trs):=λ a s Z H Q I h =>
  pairTrees_cons_walk (thn (hk a s Z H _ I h) λ u e ⟨1083,x,r,p,f,j⟩=>thn (hv a e Z r _ p j) λ w2 s2 ⟨1083,y,H2,I2,ry,q2⟩ =>
    nZ (hr a s2 Z H2 _ I2 q2) ws z ps q m b i (fJ,(x,y)::ps,q,m,.cons ⟨f,ry⟩ b,i))
noncomputable def xfs (kvs more:eG):eG:=zuW (uS,putK a pk b.2)
theorem KV.merge:∀{more:eG}{rs:zfG}{kvs:eG}{vs:zfG},KV more rs->tS->KV qaY (merged vs rs):=by
 intro more rs kvs vs r;ext zgl
 induction r generalizing kvs vs with
 | nil=>intro q; exact q
 | @cons p q ps qs h t ih =>
  intro a;have e:KV zpY (stored vs wu q.2):=by
   have:=a.put eA i0;ext mL iA this
  exact ih e
theorem xhc:∀(more kvs:eG),kS qaY zST
 | [],kvs=>wU kvs.length (zik 0)
 | wb,kvs=>by
  show(dy,b,xhc r zpY,a,xbo kvs eA fM);show (xfs zpY r).length<=_;rw[ZF]; lia
theorem xj4 {P:Program}{w:World}:∀{kvs:eG}{ws:TD Value},VV (kvs.map zUp) ws->∃ rs,Carries xN ws rs/\KV kvs rs
 | [],_,r=>by ext fe Wr r r; show(eB,[],JD,.nil)
 | p::kvs,_,r=>by
  rw[Zq] at r;cases r with
  | @cons a b as bs h t =>
   show(dA,rs,c,q,xj4 (P:=P) (w:=w) t);ext lK f b;show(eB,(eA,e)::rs,(nU,xd1 h.1,c),.cons (hR i0) q)
noncomputable def x2s (trs:Rk):TE:=(qX,∀ p,uz->xnq trs Z (kh H p []) λ ps H2=>H2 p=some (.dK [])/\(zUO,ps=kvs.map zUp,15,uE p (kh H2 p (xfs [] kvs))))
def xys {X:Cx}{pos:Pos}{keys:znX}{values:nw}{trs:Rk} (h:PPs X pos keys values trs) (hall:keys.all (·.isSome)=true) (hl:keys.length=values.length) (h0:keys≠[])
    (h15:keys.length<=15):PE X (.Dict keys values pos) (x2s trs):=by
  ext Lv v q;show(dy,O,I.hok.fresh (Zl s.heap.objs.size),I1,zEl Gh zkV ztv zSJ);refine wpAny_Dict_walk (knd:=pA) hall hl h0 h15 (thn (h v _ Z _ _ I1 (q _ O)) λ ws s2 ⟨1084,ps,H2,B,A,e,eY 1063 kvs ep lk M⟩=>?_);subst ep;show(dA,rs,c,J,xj4 (P:=X.prog) (w:=X.w) A);obtain⟨z,T,⟨C,L,Y⟩⟩:43:=xgv B.hok e;cases L;refine(hB,rs,c,Y,λ h' x hs=>zah ?_ M);have hz:KF (xfs [] kvs):=by
    show(gZ,U,xhc kvs [],W2,U);rw[WA]; lia
  have R:∃ q,zKf q:=let ⟨q,_,_,hq,_⟩:=x; pV hq;exact xfi B zI hs R (xoj hz T (J.merge .nil) x)
structure M1 (X:Cx) (o:Expr) (m:Str) (apos:Pos) (e:Expr) (cpos:Pos):Prop where
 base:HC m
 few:((L3 [e]).all (λ x=>! dM)&&(zeL).all (λ x=>zeY)
  && (VD ([e]:nw)))=true
 line:Bh
 trees:(L3 [e])=[(false,zo)]
structure M2 (X:Cx) (o:Expr) (m:Str) (apos:Pos) (e f:Expr) (cpos:Pos):Prop where
 base:HC m
 few:((L3 [e,f]).all (λ x=>! dM)&&(zeL).all (λ x=>zeY)
  && (VD ([e,f]:nw)))=true
 line:Bh
 trees:(L3 [e,f])=[AU zo,(AU,tZ f)]
noncomputable def IsD (H:Hp) (a:Addr):Prop:=(∃ kvs,zaS)\/∃ kvs,zpd
def xtu {X:Cx}{pins:eJ}{Z:St}{H:Hp}{s:Shared}{a:Addr} (I:dI) (d:IsD H a) :
    zYK/\(∀ b,(jQ,Zw a,b)->(zTT (du,s.heap.get? b,ob)))/\Me:=by
  rcases d with⟨kvs,e⟩|⟨kvs,e⟩
  . show(zAK,vs,xfc I.hok e)
  . show(zAK,xs,xgg I.hok e)
section
variable {X:Cx}{pins:List (Addr × Obj)}{Z:St}{H:Hp}{s:Shared}{a:Addr}{y d:V}{u r:Value}{o:Option V}{A:Around}{E:Value->Shared->Prop}
def x1i {Q:eR} (hu:D3) (I:dI) (g:Pf) (ry:j8) (h:zmw (zyJ .non w')) :
    zYD [eQ,u]:=by
  rcases g with⟨kvs,k,e,ey,l⟩|⟨kvs,k,b,e,ey,eb,l⟩
  . subst ey
    ext Hs x j q;show(zFf,meets_dict_get pA a Ge x,zJY);rw[l];exact (zho).getD rfl
  . ext Nr x j q;show(zFf,meetsH_dict_get Hz a b x,zEU);rw[l];exact (zho).getD rfl
def xzu {Q:eR} (hu:D3) (I:dI) (g:Pf) (ry:j8) (rd:RelV d r) (h:zmw (zyJ d w')) :
    zYD [eQ,u,r]:=by
  rcases g with⟨kvs,k,e,ey,l⟩|⟨kvs,k,b,e,ey,eb,l⟩
  . subst ey
    ext Hs x j q;show(zEG,meets_dict_get_default pA a Ge x r,zJY);rw[l];exact (zho).getD rd
  . ext Nr x j q;show(zEG,meetsH_dict_get_default Hz a b x r,zEU);rw[l];exact (zho).getD rd
#check _
noncomputable def x1f (td ty:TE):TE:=(zIB,∃ o,(zgA o)/\Q (o.getD .non) H2)
noncomputable def x0a (td ty tx:TE):TE:=(zIB,tx Z H2 λ z H3=>∃ o,DGet H3 a y o/\Q (o.getD z) H3)
section
variable {X:Cx}{o e f:Expr}{apos cpos:Pos}{td ty tx:TE}
def xvo (hu:Bo) (ho:Fi) (he:yK ty) (m:M1 X o "get" apos e cpos):PE X (Vb "get" [e]) (x1f td ty):=by
 show(zBA,(jk,ho j s Z H _ I h,u,D,x,T,v,K,eY 1063 a O d M));ext w4 O K;show(Ff,B,z,xtu v d);ext iF B z;rw[m.trees];refine JZ rfl (WK (Ys (nZ,he j D Z T _ v M,iv,s2,y,S,R,J,dY 1062 ov g L,YW ?_)));exact x1i hu R g J λ U Y P q=>fJ _ S P q L
def xoh (hu:Bo) (ho:Fi) (he:yK ty) (hf:PE X f tx) (m:M2 X o "get" apos e f cpos):PE X (Vb "get" [e,f]) (x0a td ty tx):=by
 show(zBA,(jk,ho j s Z H _ I h,u,K,x,H1,v,O,eY 1063 a T d S));ext w4 T O;show(Ff,D,B,xtu v d);ext iF D B;rw[m.trees];refine JZ rfl (WK (Ys (thn (he j K Z H1 _ v S) λ iv J ⟨1083,y,H2,I2,M,R⟩ =>
  Ys (thn (hf j J Z H2 _ I2 R) (lI,fv,s3,z,H3,Y,L,dY 1062 ov g P,YW ?_)))))
 exact xzu hu Y g M L λ w' s4 U q=>fJ _ H3 U q P
#check _
#check L2
namespace Att
open PySem PySem.W PySem.Calls PyProof.Rows
theorem xke {P:Params}{h:Heap}:∀(ns:eS) (vs:d4),WellAll P h vs (ns.map WData.int)->O6:=by
 intro ns
 induction ns with
 | nil =>
  intro vs w;show(kd,Wr,w,.nil)
 | cons n ns ih =>
  intro vs w;rw[Zq] at w;cases w with
  | cons a b =>
   cases a;exact .cons _ _ (ih _ b)
theorem xuj {l:OpenLaw}{n:Nat} (hn:zqO) {P:Params}{h:Heap}{args:List WData}{vals:d4}
    (hpre:l.row.toRowW.claim.pre args=true) (hwl:WellAll P h vals args) :
    ∃ a vs ns,(dN,vals=[Zw a],args=[WData.list (ns.map WData.int)],zj Xa,O6,zcz):=by
  show(dw,u,WShape.hasAll [] args [.list .int]=true,(pre_splitW hpre).1,v,l.pre.holds [] { args:=args }=true,(pre_splitW hpre).2);show(hJ,d,r,rfl,C,B,hasAllW_cons u);show(AR,hasAllW_nil B);show(dA,xs,rfl,z,hasW_list C);show(oD,ns,items_int z);have b:zcz:=by
    unfold OpenLaw.pre at v;have j:(WTm.not (.lt (.lit (.int nO)) (.len (.arg 0)))).holds [] { args:=[.list (ns.map .int)] }=true:=by
      have j:=(holds_andW v).1;ext eW hn j j
    show(gZ,f,condW_of j (w_not (w_lt w_lit (w_len_list (w_arg rfl)))),Za,f);refine Wi (gO q);have x:nO<(jf ns.length):=dk
    first
      | (rw[decide_eq_true x] at f; ext gz f dF)
      | (simp at f; lia)
  cases hwl with
  | cons w1 w2 =>
    cases w2;cases w1 with
    | list ho hall=>exact(gW,105,_,_,ns,rfl,rfl,ho,xke ns _ hall,b)
def xsv (l:OpenLaw) (args:List WData):l.row.toRowW.claim.post args Rq args=true :=
 postW_of (r:=l.row.toRowW) (X:=qas)
  (show WShape.has [] Rq .bool=true by first|rfl|decide|simp[WShape.has,WShape.arms,WShape.armsAll])
  (show (WTm.eq .res (.lit (.bool true))).value [] { args:=args,res:=some (.bool true),after:=args }=some (.bool qas) from w_eq_bool (w_res rfl) w_lit) rfl
def attach_call {l:OpenLaw}{n:Nat}{q:Program}{loose:dD}{XP:zsa}{YP:zpI}{d:DefRec}
    (hn:zqO) (hdf:znd)
    (call:∀(w:World) (s₀ s₁:Shared) (mg mb:iO) (fa:Addr) (o:Obj) (pm cd doc:Value) (a:Addr) (vs:d4) (ns:eS),
      Ground q loose [] XP w s₀ mg mb s₁.heap->YP w s₁.heap ->
      (du,s₁.heap.get? fa,o)->o.data=.func (docDef d.name d.params d.body d.scope pm cd doc)->s₁.heap.CodeRec cd d.name->zqd ->
      zIO->O6->zcz->zYP ->
      (zbM (model l.prog w) callerA fa zzZ zAR s₁)) :
    WalkO q loose XP YP l.row.toRowW d [] zKM:=by
  intro w s₀ s₁ mg mb G Y fa o pm cd doc dV O S X H L D U M I as v J P B T;show(jz,dV=.none,Dflts.none L hdf);show(jz,O=.none,Dflts.noKw L);obtain⟨a,vs,ns,rfl,rfl,x,j,z⟩:105:=xuj hn v B;refine enter_call (QL (call w s₀ s₁ mg mb fa o pm cd doc a vs ns G Y S (fd_plain X) H D x j z U) (d8 r s' Q));show(Ab,rfl,h2,h3,Z,Q);exact(fQ,.inl (gW,105,Rq,Rq,[],rfl,qD,Rq,xsv l _,λ_=>⟨Jh.nil,λ_ hm=>(nomatch hm)⟩),h2,h3,Z)
section
variable {prog:Program}{w:World}{A:Around}{E:Value->Shared->Prop}{s:Shared}{K:Frag}
noncomputable def x3c (h:Heap) (L d:Addr):eJ:=(zqn).filterMap λ a=>if a=L\/a=d then none else (h.get? a).map λ o=>(a,o)
#check _
#check Att
namespace L2
open PySem PySem.Spec PyProof.Rows
variable {q0:Bool}
theorem xlh:∀{vs:d4}{ns:eS},O6->Vals (ns.map V.int) vs
 | _,_,.nil=>.nil
 | _,_,.cons n t h=>.cons LZ (xlh h)
noncomputable def Only (H:Hp):Prop:=∀ b,iS\/∃ o xs,eO b zRX
theorem xwb {P:Program}{w:World}{K:Zf}{mg mb:iO}{CX:CXT}{k:Nat}{fa a:Addr}{fd:FuncData}{x:Str}{sp:Sp}{s₁:Shared}{vs:d4}{ns:eS}
    (KX:K.In s₁.heap) (hns:s₁.heap.Ns mainGlobals mg) (hb:s₁.heap.Ns builtinsNs mb) (hbb:zEh) (hlim:s₁.heap.NoLimit) (hg:zYP)
    (ha:zIO) (hi:O6) (hl:zWX) (hr:zRs)
    (F:(zbd,zvz,FnOk q0 P w K mg base CX k fa fd [x] sp)) (hbind:zkG x)
    (hsp:∀ H:Hp,Only H->zcu->sp o4 H zOb OX)
    (hCX:∀ H e s',CX [] H s₁ OX e s'->False) :
    zGW:=by
  show(dy,U,xlh hi,J,hi.length)
  -- from an abstract heap in which nothing but the script may be tracked
  have C:∀ H:Hp,Only H->zcu->(zjK s₁.heap)->(∀ b,(yH wt)->b=a)->((yH,H a)->K.lookup a=none) ->
      zGW:=by
    intro H X hS O Y hK;have j:∀{b:Addr}{o:Obj},zOs iS (du,(zaP).get? b,o):=λ e n=>xur e n;have S:∀{b:Addr}{o:Obj}{es:mr}{ep:Nat},zOs nA iS:=λ{b o es ep} e d=>by
      cases q:wt with
      | none=>rfl
      | some u =>
        ext zNK;ext fe ha e e;have d':Data.seq vs.toArray _=Data.dict es ep:=d;cases d'
    have B:∀{b:Addr}{m:iO},s₁.heap.Ns b m->(zaP).Ns b m:=λ{b m} ⟨o,es,ep,e,d,r⟩=>(eP,103,o,es,ep,j e (S e d),d,r)
    have Q:K.In (hidT s₁.heap H):=λb o e=>j (KX b o e) (by
      cases q:wt with
      | none=>rfl
      | some u =>
        ext zNK;show(GR,hK (tT q)))
    show(dw,hM,Mod K mg zaP,(dY,Q,B hns,(dB,mb,B hb,hbb),let ⟨mc,h1,h2⟩:=hlim; (dB,mc,B h1,h2)),e0,Env0 P w K mg zaP callerA [] s₁ H,(iY,rfl,hM,(ye,xx7 e),Nat.le_of_eq (xs0 _ _),trivial,λ b hb=>zju (show zsN from hb),O,.of_eq hg))
    refine QL ((F _ Q (B hns)).run callerA [] s₁ H zzZ o4 o4 _ _ hr e0 (hbind s₁ eQ) zWz (hsp H X hS)) (d8 r s' h);cases r with
    | error e=>exact (hCX H e s' h).elim
    | ok fl =>
      cases fl with
      | next=>exact Ym h
      | brk=>exact Ym h
      | cont=>exact Ym h
      | ret u =>
        obtain⟨v,H',os,R,un,M,r',q⟩:86:=h;have q':v=.bl true:=q;subst q';show(jz,u=YI true,r');refine(li,OldK.of_keep (ye ?_),os,R);cases q:wt with
        | none=>exact un.keep b o e q (by ext kH; show(gz,zgB zsN,dG)) dG
        | some u =>
          rcases X b with z|⟨ob,xs,z⟩
          . ext js q z z
          . have z2:=un.frzs b ob _ z
            obtain⟨Z,_⟩:=O b _ z;obtain⟨e2,_⟩:=M b _ z2;ext kd e Z e2
  cases hk:K.lookup a with
  | some o =>
    -- the script is one of the module's own objects
    have e:=KX a o hk;ext fe ha e e;refine C jG (λ_=>jr) (.inr ⟨GQ,vs.toArray,_,hk,rfl,rfl,rfl,kc Z6 J hl,zTe⟩) (λ b u z=>by have D:du (none:hW HO) u:=z; cases D) (Bc qaC) λ z=>qaC
  | none =>
    refine C (λ b=>(jq,b,a,some (.frz Xa (.lst (ns.map V.int))),none)) (gO b) (.inl (.inr ⟨Xa,gq⟩)) (uW b u) (pY z) λ_=>hk
    . by_cases hb:b=a
      . show(hX,(hD,_,eD hb))
      . exact .inl (if_neg hb)
    . by_cases hb:b=a
      . have D:=(eD hb).symm.trans z
        cases D;subst hb;show(eB,ha,lS hl,fP vs _ U ha)
      . have D:=(d6 hb).symm.trans z
        cases D
    . by_cases hb:b=a
      . exact hb
      . exact absurd (if_neg hb) z
noncomputable abbrev KOf {K:Zf}{h:Heap} (_:Ma):Zf:=K
theorem walk_of {l:PySem.W.OpenLaw}{n k:Nat}{q:Program}{loose:dD}{XP:zsa}{YP:zpI}{d:DefRec}{K:Params->Zf}{CX:World->CXT}{sp:World->Sp}{x:Str}
    (hn:zqO) (hn2:gY n) (hdf:znd) (hr:zRs)
    (hY:(zKa,(zx).In h))
    (F:∀(w:World) (mg:Str->Option Value) (fa:Addr) (h:Heap),(zx).In h->DW->zqd ->
      ∃ fd:FuncData,(zkG x) /\
        (zbd,(zx).In base,FnOk q0 l.prog w zx mg base (CX w) k fa fd [x] (sp w)))
    (hsp:∀(w:World) (H:Hp) (a:Addr) (ns:eS),(eC,zcz,Only H,SqL zx H a zcE,sp w o4 H zOb OX))
    (hCX:∀(w:World) (H:Hp) (s:Shared) (e:Value) (s':Shared),CX w [] H s OX e s'->False) :
    zCW:=by
  refine Att.attach_call hn hdf λ w X C mg mb fa o Z cd U a vs ns G Y ho hd J A z y j D=>?_;have B:=hY w _ Y;show(dA,fd,M,S,F w mg fa _ B G.T.g A);exact xwb B G.T.g G.T.b G.T.builtins G.T.nolimit D z y (ZR j hn2) hr S M (λ H Q P=>hsp w H a ns j Q P) λ H e s'=>hCX w H C e s'
noncomputable def xap (s:Stmt) (j:Nat):Stmt:=match s with
 | .ClassDef _ _ _ body _ _ _ _ _ _ _=>body.getD j (.Pass zrA)
 | _=>.Pass zrA
noncomputable def xbl (s:Stmt):Arguments:=match s with
 | .FunctionDef _ a _ _ _ _ _ _ _ _=>a
 | _=>{ posonlyargs:=[],args:=[],vararg:=none,kwonlyargs:=[],kw_defaults:=[],kwarg:=none,defaults:=[] }
noncomputable def xbb (s:Stmt):Fm:=match s with
 | .FunctionDef _ _ b _ _ _ _ _ _ _=>b
 | _=>[]
noncomputable def xk (s:Stmt):Scope:=match s with
 | .FunctionDef _ _ _ _ _ _ sc _ _ _=>sc
 | _=>{ kind:=.function,names:=[],isGenerator:=false,isCoroutine:=false }
noncomputable abbrev CX0:CXT:=λ_ _ _ _ _ _=>False
structure Fun (K:Zf) (x qual:Str) (st:Stmt) (f:Addr) (fd:FuncData):Prop where
 ex:∃(oc:Value) (od:mF) (kV doc pm:Value) (an:mF) (cdv ct:Value) (osl:Bm),
  (gf,fd,Jg x qual kU kq jA .none kV doc pm an cdv ct,Xl fd,NY)
 kp:TX
section
variable {P:Program}{w:World}{K:Zf}{mg:Str->Option Value}{base:Heap}
def Fun.ok {x qual:Str}{st:Stmt}{f:Addr}{fd:FuncData}{N ps:dD}{k:Nat}{sp:Sp} (F:zne) (S:zrC) (len:NA)
    (hbody:∀(cdv:Value) (A:Around) (outer:List Env) (s:Shared) (H:Hp) (vs:List V) (Q:VK) (E:XK),Room q0 k (A.deeper (envOfC qual (xk st) s.heap.objs.size f cdv))->Kv ->
      (zwj (cxOf q0 CX0 P w K mg base N qual jA f cdv A outer s H E))):FnOk q0 P w K mg base CX0 gu f fd ps sp:=by
  obtain⟨D,od,I,B,⟨C,an,cdv,J,u,rfl,v,m⟩⟩:121:=(F.ex)
  show(zka,hbody cdv A outer s H vs Q E y c)
def Fun.binds {x qual:Str}{st:Stmt}{f:Addr}{fd:FuncData}{ps:dD} (F:zne)
    (h:(zDs,zCG (Jg x qual kU kq jA .none kV doc pm an cdv ct))):zgS:=by
  obtain⟨m,od,kV,doc,⟨pm,an,cdv,ct,c,rfl,q,j⟩⟩:121:=(F.ex)
  exact .all (h kV doc pm an cdv ct)
def fun_mk {x qual:Str}{st:Stmt}{f:Addr}{oc:Value}{od an:mF}{osl:Bm}{kV doc pm cdv ct:Value} (l:EL f ⟨oc,od,.func (Jg x qual kU kq jA .none kV doc pm an cdv ct),osl⟩)
    (c:NY) (k:TX):Fun K x qual st f (Jg x qual kU kq jA .none kV doc pm an cdv ct):=⟨oX oc od kV doc zGE,k⟩
#check _
def xaq {A:Around}{k:Nat} (hr:ET):D3:=J9 (Nat.add_le_add_left (dF:1<=64) _) hr.units
section
variable {X:Cx}
def pv (i:Nat) {x:Str}{pos:Pos} (hN:wS:=by rfl) (hv:zaA:=by first|ext zjo|exact Y4 (Yw rfl)|exact Y4 (Y4 rfl)) (hd:rM:=by decide)
    (hcd:zIn:=by decide):zSk:=x1c hN hv hd hcd
#check _
def iteF {A B:Prop} (h:B):jo false A B:=by
 ext qV Z4 h
def iteT {A B:Prop} (h:A):jo true A B:=by
 ext dP gq h
def ite2 {c A B:Prop} [Decidable c] (h1:c->A) (h2:¬ c->B):if c then A else B:=by
 by_cases h:c
 .rw [if_pos h];exact h1 h
 .rw [if_neg h];exact h2 h
noncomputable def Same (H H':Hp):Prop:=vT (eO b o) zZp
def Same.refl (H:Hp):hZ H:=λ_ _ h=>h
def Same.trans {H H1 H2:Hp} (a:zzH) (b:mK):Ta:=λ c o h=>b c o (a c o h)
theorem Same.free {H H':Hp} (e:fZ) {l:Addr} (h:H' l=Option.none):H l=Option.none:=by
 cases q:H l with
 | none=>rfl
 | some o =>
  show(js,e l o q,h,h)
def Same.seq {K:Zf}{H H':Hp}{a:Addr}{xs:dz} (e:fZ) (h:zn):zYQ:=by
 rcases h with (h|⟨o,h⟩)|h
 .show(RE,e _ _ h)
 .show(KJ,⟨o,e _ _ h⟩)
 .ext hX h
#check L2
namespace Srt
open PySem PySem.W PyProof.Rows
noncomputable abbrev CM:=SH (lJ B2)
noncomputable abbrev g (p:ia) (i:Nat):Nat:=p.getD i 0
structure Ord (n:Nat) (lt:zvA):Prop where
 irr:F8 (jc,lt i i)
 tr:∀ i j k,jS->(ft,j<n,k<n,lt i j=true,lt j k=true,lt i k=true)
 tot:∀ i j,(ft,jS,j<n,i≠j,(jc,lt i j),lt j i=true)
noncomputable def Cmp (n:Nat) (lt:zvA) (cmp:CM) (s:Shared):Prop:=∀ i j,jS->j<n->∀ Q:B2,Q (lt i j) s->cmp i j Q s
def xdk {α:Type}{cmp:CM}{a:α}{Q:zhq}{s:Shared} (h:Q a s):zuF (.ret a) Q:=h
def xhy {α:Type}{cmp:CM}{i j:Nat}{k:Bool->KasT α}{Q:zhq}{s:Shared} (h:cmp i j (λ c s'=>KasT.kasWp cmp (k c) Q s') s):zuF (.ask i j k) Q:=h
def x2b {p:ia}{n:Nat}:kas_asc p 0 n=.ret n:=by unfold kas_asc; rfl
def x1m {p:ia}{f n:Nat}:kas_asc p uZ n=.ask (p.getD n 0) (p.getD (n-1) 0) λ c=>(jo,c,.ret n,kas_asc p f iZ):=jn kas_asc
def x22 {p:ia}{k:Nat}:kas_bin 0 p k=.ret p:=by unfold kas_bin; rfl
def x25 {f:Nat}{p:ia}{k:Nat}:kas_bin uZ p k=(Fg k 0 k).bind λ l=>kas_bin f (bubble p k (k-l)) gu:=jn kas_bin
def xxq {p:ia}{k l r:Nat}:(Fg 0 l r)=.ret l:=by unfold kas_place; rfl
def xy2 {p:ia}{k f l r:Nat}:(Fg uZ l r)=if l>=r then .ret l else .ask zuk (p.getD zK 0) λ c=>(jo,c,Fg f l zK,zUh):=jn kas_place
def x0c {p:ia}{k l:Nat}:kas_desc 0 p k l=.ret (p,k,l):=by unfold kas_desc; rfl
def x03 {f:Nat}{p:ia}{k l:Nat}:kas_desc uZ p k l=.ask zuk zqg λ c=>(jo,c,if l>0 then kas_desc f (kas_rev p (k-(l+1)) k) gu 0 else zgp gu 0,.ask zqg zuk λ d=>(jo,d,.ret (p,k,l),zgp gu (l+1))):=jn kas_desc
section
variable {n:Nat}{lt:Nat->Nat->Bool}{cmp:CM}{s:Shared}
structure Arr (n:Nat) (p:ia):Prop where
 sz:p.size=n
 lt:(F8,U7<n)
 inj:∀ i j,(eC,jS,j<n,g p i=g p j,i=j)
 pm:p.Perm zur
def g_at {p:ia}{i:Nat}{v:Nat} (h:dX p v):g p i=v:=by
 show p.getD i 0=v;rw[QO,h];rfl
def Arr.at {p:ia} (a:xG) {i:Nat} (h:jS):dX p U7:=by
 show(dw,z,i<p.size,dH a.sz h,e,(dX,p,p[i]),Js z);rw[e,g_at e]
noncomputable def Srtd (lt:zvA) (p:ia) (m:Nat):Prop:=∀ i j,i<j->j<m->(U0 i j)
theorem xpk (o:K8) {p:ia} (a:xG) {m:Nat} (hm:m<=n) (h:(zdv,1<=i,U0 wv i)):UB m:=by
 intro i j c b;show(zeb,j=dW+d,j-dW)
 induction d with
 | zero=>exact h dW dk b
 | succ d ih =>
  show(dy,f,ih dk dk,e,h (dW+(d+1)) dk b);exact o.tr _ _ _ wV wV wV f e
theorem xns (c:Ir) {p:ia} (a:xG) {G:zxI}:∀(f k:Nat),1<=k->k+f<=n ->
    (zyx (ft,k<=m,m<=k+f,(zdv,k<=i,jc (Ry i wv)),m<k+f->(U0 m (m-1)),G m s) (kas_asc p f k))
  | 0,k,h1,hf,hG=>by
    show(MG,x2b,hG k eV dk zsk (λ h=>dk))
  | uZ,k,h1,hf,hG=>by
    ext zQy x1m;cases e:qaX with
    | true =>
      exact xdk (hG k eV dk zsk (λ_=>e))
    | false =>
      show wg (kas_asc p f gu);refine xns c a f gu dk dk λ m r b q j=>hG m dk dk zXW (λ h=>j dk);by_cases z:i=k
      . ext lZ z
      . exact q i dk hi2
theorem xqb (o:K8) (c:Ir) {p:ia} (a:xG) {G:(lJ,ia × Ro)}:∀(f k:Nat),1<=k->k+f<=n ->
    (zyx (eC,k<=m,m<=k+f,(zdv,k<=i,U0 i wv),G (p,m,0) s) (zgp k 0))
  | 0,k,h1,hf,hG=>by
    ext MG x0c zXz
  | uZ,k,h1,hf,hG=>by
    ext zQy x03;cases e:qaX with
    | true =>
      show wg (zgp gu 0);refine xqb o c a f gu dk dk λ m u q r=>hG m dk dk zXW;by_cases z:i=k
      . ext lZ z
      . exact r i dk hi2
    | false =>
      ext zsP zrc zwa;have b:g p k≠g p (k-1):=λ z=>(jH,a.inj _ _ dk dk z)
      show(MG,(BQ,lt zqg (p.getD k 0),o.tot _ _ zwa zrc b e),zXz)
def Arr.rev {p:ia} (a:xG) {k:Nat} (hk:k<=n):Arr n zZw/\zDq:=by
 have f:zDq:=λ i b=>by
  have z:=getElem?_mirror_all (xs:=p) (i:=0) (j:=k) qam i;by_cases c:i<k
  .ext pi c;rw[eD ⟨lW,c⟩,(gE,0+k-1-i=Th),a.at (gE,Th<n)] at z;exact g_at z
  .ext lD c;show(zcQ,(Cd,w,c w.2),a.at b)
 show(gR,⟨fC kas_rev_size a.sz,dC i b,eI i j b hj e,(mirror_perm _ _ _ _).trans a.pm⟩,f)
 .rw [f i b];split<;>exact wV
 .rw [f i b,f j hj] at e;split at e<;>split at e<;>have:=zQz<;>lia
def xuw (o:K8) (c:Ir) {p:ia} (a:xG) (h2:2<=n) {G:(lJ,Nat × ia)}
    (hG:∀ m p',(ft,1<=m,m<=n,Arr n p',Srtd lt p' m,G (m,p') s)):wg (kas_count n p):=by
  unfold kas_count;rw[KasT.kasWp_bind];have up:∀ q,Arr n q->∀ i,(eC,1<=i,jS,(jc,lt (g q i) (g q wv)),lt (g q wv) (g q i)=true):=λ q b i h1 h e =>
    o.tot _ _ (b.lt i h) (b.lt wv dk) (λ z=>(jH,b.inj _ _ h dk z)) e
  refine xns c a (n-1) 1 eV dk (eI m y I P O);have u:UB m:=xpk o a dk λ i h f=>up p a i h dk (P i h f);show wg (MJ (m == n));by_cases e1:m=n
  . show(MG,eD zoy,zTq)
  . ext jT zoy
    by_cases e2:m>1
    . rw[eD e2]
      show(zsP,a.lt 0 dk,a.lt (m-1) dk);show(MG,(BQ,lt (p.getD 0 0) (p.getD (m-1) 0),u 0 (m-1) dk dk),zTq)
    . ext jT e2
      have C:m=1:=dk
      subst C;have R:=O dk;unfold kas_descPart;ext zsB;refine xqb o c a (n-(1+1)) (1+1) dk dk (hF k S K M);show wg (if (0:Nat)>0 then _ else kas_tail3 k n p);rw[if_neg (Y6 0)];unfold kas_tail3;ext zsB;show(CA,A,a.rev (k:=k) dk);refine xns c b (n-k) k dk dk λ H J x L _=>?_;refine xdk (hG H _ dk dk b (xpk o b dk (d8 i h f)));by_cases ik:i<k
      . rw[A i dk,A wv dk,eD ik,Tl]
        have Q:zwU-1=Th:=dk
        by_cases z:zwU=1
        . have B:Th=0:=dk
          ext fG z B R
        . show(Ed,M zwU dk dk,Q)
      . exact up _ b i h dk (L i dk f)
theorem xje (o:K8) (c:Ir) {p:ia} (a:xG) {k:Nat} (hk:k<n) (sk:UB k) {G:zxI}:∀(f l r:Nat),l<=r->r<=k->r-l<=f ->
    (∀ j,j<l->(jc zga))->(zPy,r<=j) ->
    (zyx (eC,m<=k,(∀ j,j<m->(jc zga)),(zPy,m<=j),G m s) (Fg f l r))
  | 0,l,r,h1,h2,h3,lo,hi,hG=>by
    ext zJc xxq
  | uZ,l,r,h1,h2,h3,lo,hi,hG=>by
    rw[xy2];by_cases e:l>=r
    . ext zJc xY
    . ext jT e
      show(dw,q,zK<r,dk,i,l<=zK,dk)
      ext zsP zvt wV;cases e2:Ry k zK with
      | true =>
        show(zXU,Fg f l zK,xje o c a hk sk f l _ i dk dk lo (d8 j h b) hG)
        . ext dP z e2
        . exact o.tr _ _ _ zvt wV wV e2 (sk _ _ dk b)
      | false =>
        show(zXU,zUh,xje o c a hk sk f _ r dk h2 dk (dC j h) hi hG)
        . ext dP z e2
        . cases e3:zga with
          | false=>rfl
          | true =>
            show(Ih,o.tr _ _ _ zvt wV wV e3 (sk j zK dk dk),e2)
def Arr.bub {p:ia} (a:xG) {k m:Nat} (hk:k<n) (hm:m<=k):Arr n Oy/\zCd:=by
 have h:zCd:=λ i f=>by
  show(SL,getElem?_bubble (xs:=p) (src:=k) qam (k-m) dk i,(gE,k-(k-m)=m));by_cases c:i=m
  .ext pi c;show(zcQ,Aw,a.at hk)
  .ext lD c;rw[xZ] at z;by_cases d:zZv
   .ext pi d;show(zcQ,eD d,a.at (gE,wv<n))
   .ext lD d;show(zcQ,d6 d,a.at f)
 show(gR,(dY,fC bubble_size a.sz,dC i f,eI i j f hj e,(bubble_perm _ _ _).trans a.pm),h)
 .rw [h i f];split
  .exact a.lt _ hk
  .split<;>exact wV
 .rw [h i f,h j hj] at e;split at e<;>(try ext Na)<;>(try ext Na)<;>(try ext Na)<;>first|lia|(ext gV zQz)
theorem xt0 (o:K8) (c:Ir) {G:lJ ia}:∀(f k:Nat) (p:ia),(ft,k+f=n,xG,UB k,(∀ p',Arr n p'->Srtd lt p' n->G p' s),wg (kas_bin f p k))
 | 0,k,p,h,a,sk,hG=>by
  rw[x22];ext FC k n;exact xdk (hG p a sk)
 | uZ,k,p,h,a,sk,hG=>by
  have q:k<n:=dk
  rw[x25,KasT.kasWp_bind];refine xje o c a q sk k 0 k lW eV dk (λ j H=>dk) (λ j H hj2=>dk) (hF m hm lo hi);show(CA,C,a.bub q hm);refine xt0 o c f gu _ dk b (hF i j B H) hG;show(dw,A,∀ i,i<m->(U0 i k),λ i hi'=>o.tot _ _ (a.lt k q) (a.lt i dk) (λ z=>(jH,a.inj _ _ q dk z)) (lo i hi'),I,∀ i,jS->i=m->g Oy i=g p k,λ i hi z=>(fC,C i hi,eD z))
  show(dw,D,∀ i,(eC,jS,m<i,i<=k,g Oy i=g p wv),λ i hi z z2=>(ma,C i hi,xJ,eD ⟨z,z2⟩),v,(zdv,jS,g Oy i=U7),λ i hi z=>(ma,C i hi,xJ,xJ))
  by_cases j1:j=m
  .rw [I j dk j1,zva];exact A i dk
  .by_cases i1:i=m
   .rw [I i dk i1,D j dk dk dk];exact hi (j-1) dk dk
   .by_cases j2:m<j
    .rw [D j dk j2 dk];by_cases i2:m<i
     .show(iX,D i dk i2 dk,qaB)
     .rw [zva];by_cases z:i=j-1
      .lia
      .exact qaB
    .rw [v j dk dk,zva];exact sk _ _ B dk
def xtf:Arr n zur:=by
 have e:(F8,g zur i=i):=λ i b=>g_at (fC,List.getElem?_toArray,ZW b);exact(dY,dG,λ i b=>(dH,e i b,b),(λ i j b c z=>by show(FA,e i b,e j c)),Array.Perm.refl _)
def sort_wp (o:K8) (c:Ir) (h2:2<=n) {G:lJ ia} (hG:∀ p,xG->(UB n)->G p s):wg (kas_sort n):=by
 unfold kas_sort;ext zsB;refine xuw o c xtf h2 λ m p u j a h=>?_;show wg (oG m n _ _);by_cases e:m<n
 .ext pi e;show(Dm,wg (kas_bin (n-max m 1) p (max m 1)),Nat.max_eq_left u,xt0 o c (n-m) m p dk a h hG)
 .ext lD e;ext FC m n;exact xdk (hG p a h)
#check _
#check Srt
namespace XL
open PySem
noncomputable def Xat (h:Heap) (e:Addr) (cls:Value) (od tb:mF):Prop :=
 ∃ oe vs,(Fd e oe)/\oe.cls=cls/\oe.dict=od/\(zfq oe.data)/\1<vs.size /\
  ((tb=none/\(lQ vs 1 JJ))\/∃ T oT ts,(du tb T)/\(dN,vs[1]?=(dR T),T≠e,Fd T oT,oT.data=.fields ts,lQ ts 3 JJ))
#check XL
namespace XL
open PySem PySem.W PySem.Calls PyProof.Rows Builtin Builtin.ObjectAttr
noncomputable def vErr:d4:=[om "ValueError",om "Exception",zNz,om "object"]
noncomputable def xic:d4->Bool
 | []=>false
 | .ref c::r=>xic r||((.ref c::r:d4) == vErr)
 | uO=>uO == vErr
noncomputable def xxl (K:Frag) (C:Addr):Bool:=(clsIn K C).any λ cd=>xic cd.mro
theorem xiy:∀{l:d4},xic l=true->(zPX "object")/\(zPX "BaseException")/\(jc l.isEmpty)
 | [],e=>by cases e
 | uO,e=>by
  have last:(Vc (uO:d4) vErr)->(uO).contains (.type "object")=true/\(uO).contains (.type "BaseException")=true/\(jc,(uO).isEmpty):=λ z=>by
   rw[QP z];ext oS fR fR
  cases v with
  | ref c =>
   rcases Bool.or_eq_true_iff.mp e with z|z
   .obtain ⟨a,b,_⟩:43:=xiy z;show(oS,zOp a,zOp b)
   .exact last z
  | _=>exact last e
structure XC (K:Frag) (C:Addr):Prop where
 over:xxl K C=true
 hd:hasDictIn K C=true
 sa:X4 "__setattr__" (zi "object.__setattr__")
 ga:X4 "__getattribute__" (zi "BaseException.__getattribute__")
 gh:X4 "__getattr__" none
 ca:X4 "__class__" (zi "object.__class__")
 cg:(du,specialIn K zly "__get__",zGi)
 ct:(UF,takesIn K (.builtin "object.__class__"))
section
variable {prog:Program}{w:World}{A:Around}{E:Value->Shared->Prop}{s:Shared}{K:Frag}{x C dx:Addr}{ox:Obj}{od:Option Obj}{name:Str}{v:Value}{R:Result->Shared->Prop}
def XC.mro (c:CP):∃ cd,(du,clsIn K C,cd)/\xic cd.mro=true/\cd.hasDict=true:=by
 show(dA,cd,f,n,any_some c.over);show(dA,p,b,j,any_some c.hd);ext fe f b b;ext j5 cd f n j
def XC.isObj (c:CP):zRe "object":=by
 show(vo,cd,h,f,c.mro)
 obtain⟨a,_,b⟩:43:=xiy f;ext zTt
def XC.isExc (c:CP):zRe "BaseException":=by
 show(vo,cd,h,f,c.mro)
 obtain⟨_,a,b⟩:43:=xiy f;ext zTt
def xza (v:Value):(yP,bindSpecial (.builtin "BaseException.__getattribute__") v,(.builtin "BaseException.__getattribute__",[v])):=by
 have f:=PySem.F.attr_ValueError.ga.bind v;exact f
def xus:plainId "BaseException.__getattribute__"=true:=PySem.F.attr_ValueError.ga.plain
def xz3 {Q:eR}{expr fill:Bool}{tk:Tok} (X:BN) (c:CP) (I:zKA)
    (h:wpAny pD A.in1 (Builtin.«object.__getattribute__» (uD [uw,zrI]))
      (λ fin s'=>match fin with|.done (.ret v)=>uo (handedOut v) Q E s'|_=>False) zk s) :
    jh (getAttrBy uw zrI fill expr):=by
  ext qv j d t q;show(iR,H,zWi,D,zTS c.ga,L2,zTS c.gh);have sub:Looks pD j (isInstance (.ref x) zNz) true:=I.type.andThen (looks_mroIn X c.isExc);have B:jc (onTheHeap (Zw C)&&zFg == zHI):=by
    rw[zfv zFg zHI fR]; rfl
  have u:jc (expr&&onTheHeap (YS "BaseException.__getattribute__")):=zuS expr
  unfold getAttrBy;refine Jo (Ze (H.at (Ze (D.at ?_))))
  dsimp only
  rw[B];ext yX;unfold getAttrByItsOwn hookBefore;show(eX,L2.at (Ze (Y5 (Jo ?_))));unfold callGetattribute;rw[u];ext yX;unfold boundAndCalled;rw[xza];refine Ze (Zp (WW (codeAny_call_builtin xus PySem.F.entry_bexc_ga
    (@check_slot pD _ _ (eY j g d t q) "BaseException.__getattribute__" "BaseException" "__getattribute__" uw [zrI] [] _ fR fR sub (PySem.F.args_bexc_ga _ _) ?_))))
  refine Jr h (uW fin s') λ e s' z=>z.elim;rcases fin with (_|_|_|_)|_<;>first|ext i4|exact z.elim
def xvq {Q:Cu} (X:BN) (c:CP) (I:zKA) (h:Q (dR C) vc) :
    jh (getAttr? (.ref x) "__class__"):=by
  show(zjz,cd,v,D,c.mro)
  have q:(du,findObj K C od "__class__",.bind (.builtin "getset_descriptor.__get__") zly):=by
    unfold findObj;rw[v,Wg,c.ca,Wg];simp[c.cg,c.ct]
  unfold getAttr? getAttrBy?;refine Ze (wpAny_mkText (Ze (Y5 ?_)));refine xz3 (s:=vc) X c I ?_;show(dy,B,zWi,z,looks_find (M:=pD) X I q);show(eX,Zp (Ze (Zp (Ze (B.here (s:=vc) (Ze (z.here (s:=vc) ?_)))))));show(oy,((DI [_] (call _ [_,uw,.ref C]))>>=ret));show(eX,Jo (WW (class_get (s:=vc) (ox:=ox) (od:=od) X I c.isObj ?_)));ext Aa;show(oy,handedOut (.ref C));exact Zp (Zp h)
#check _
#check XL
namespace XL
open PySem
#check XL
namespace L2
open PySem PySem.Spec PyProof.Rows XL
variable {q0:Bool}
noncomputable def XO (e C:Addr) (od:mF):HO:=.ext λ h=>zCY (Fd e ox)
noncomputable def XD (dx:Addr) (fs:oE):HO:=.ext λ h=>zbm/\∃ mA,zdd/\NB/\Wo mA (fs.map (·.1))
noncomputable def CXo (P:Program) (w:World):CXT:=λ c H s E u s'=>∃ e C od H' T,(jQ u e)/\s'.os=s.os/\zbq/\(RD (frs c) [] s'.heap)/\zPH /\
 (dN,Xat s'.heap e Mi od (some T),nH e (XO e C od),s.heap.objs.size<=T,UE T,E e C H')
section
variable {X:Cx}{pins:List (Addr × Obj)}{Z:St}{H:Hp}{s:Shared}{e C:Addr}{od tb:Option Addr}
def Inv.size_lt (I:dI) {b:Addr} (h:zOH):d9 iS By Ug zcd:=by
 refine(fQ,I.hok.fresh h,mI,hF x c hc z,uW p hp)
 .ext j4 z;exact absurd I.lt (Wn.mpr h)
 .obtain ⟨v,o,q,_⟩:82:=I.cell x c hc;show(eW,z,q,zUu q)
 .have g:=(Rw).1;show(eW,z,g,zUu g)
def xq:xe4 zWZ X Oz:=λ a Z H s u s' I h=>by
 obtain⟨e,C,od,H',⟨T,_,_,_,_,_,_,_,_,_,q⟩⟩:121:=h;exact q.elim
#check _
#check L2
namespace XL
open PySem PySem.W
noncomputable def x1j (e:DictEntry):Bool:=match e.key with|.str _ _=>true|_=>false
noncomputable def xux (K:Frag) (ns:Addr):Bool:=match K.lookup ns with
 | some (dY,_,_,.dict es _,_)=>es.toList.all x1j&&!(es.toList.any (·.key.isStr "__init__"))
 | _=>false
noncomputable def xtv (K:Frag):d4->Bool
  | []=>false
  | eQ::r=>(match K.lookup a with
      | some (dY,_,_,.cls cd,_)=>xux K cd.ns&&xtv K r
      | _=>false)
  | uO=>uO == vErr
noncomputable def x1t (K:Frag) (C:Addr):Bool:=match K.lookup C with
 | some (dY,om "type",_,.cls cd,sl)=>(match cd.mro,sl.toList with
  | .ref C'::bm,[_,_,_,_,zi i,_]=>C' == C&&! cd.hasDel&&i == "ValueError.__new__"&&xtv K bm
  | _,_=>false)
 | _=>false
#check XL
namespace L2
open PySem PySem.Spec PyProof.Rows XL
variable {q0:Bool}
section
variable {X:Cx}{pins:List (Addr × Obj)}{Z:St}{H:Hp}{s:Shared}{a C dx:Addr}{od:Option Addr}{fs:List (Str × V)}{f:Str}{v y:V}{u:Value}{A:Around}{E:Value->Shared->Prop}
def x12 (I:dI) (e:zam):zCY (Ia ox):=(uL a e).1
def xwj (I:dI) (e:eO dx (XD dx fs)):zbm/\∃ mA,s.heap.Ns1 dx mA/\NB/\Wo mA (fs.map (·.1)):=(uL dx e).1
def xoo {o:Obj}{vs:oC} (d:zfq o.data):PySem.W.notCls o=true:=by
 unfold PySem.W.notCls;rw[d]
#check _
structure XMk (K:Zf) (C f:Addr):Prop where
 makes:x1t K C=true
 init:zpE
 fn:NZ
 kp:wC C
#check L2
namespace XL
open PySem PySem.W
#check XL
namespace L2
open PySem PySem.Spec PyProof.Rows XL
variable {q0:Bool}
#check L2
namespace XL
open PySem PySem.W
def xt7 {K:Frag}{x C:Addr} (c:CP):KitX K uw Mi (λ h=>∃ ox od,InstAt h x ox C od) where
 ty:=λ_ _ _ ⟨1081,_,_,I⟩=>I.type
 it:=λ_ _ X _=>by
  ext zNO
  ext zRb
  .rename_i c' d' cd' sl' ho
   intro H B D s' k q;unfold isType loadHead;exact Ze (wpAny_loadPart (k _ _ (X _ _ ho)) (Zp q))
  .cases b
 ne:=λ h tp A its n v X u=>by
  ext zNO
  refine Ja.mpr (gO q);show(ua,C,tp,Zw.inj (beq_iff_eq.mp q));ext zRb
  .rename_i c' d' cd' sl' ho
   have z:=(X _ _ ho).symm.trans u;cases z
  .cases b
 ca:=λ X ⟨ox,od,I⟩ k=>xvq X c I k
#check XL
namespace L2
open PySem PySem.Spec PyProof.Rows XL
variable {q0:Bool}
noncomputable def clsV:V->(hW Value)
 | .ty n=>some (.type n)
 | eQ=>hU
 | _=>none
theorem xjd {c:V}{u cv:Value} (e:zoQ) (r:RelV c u):u=cv:=by
 cases c<;>first|(cases e; exact r)|cases e
noncomputable def xr1:dz->Option (List Value)
 | []=>some []
 | c::r=>(clsV c).bind λ a=>(xr1 r).map (a::·)
theorem xl4:∀{cs:dz}{us cv:d4},zSm->(AV cs)->us=cv
 | [],_,_,e,.nil=>by ext n8 e
 | c::r,_,_,e,.cons rc rr=>by
  show(dA,a,u,j,Option.bind_eq_some_iff.mp e);ext rW b h j;rw[xjd u rc,xl4 h rr]
section
variable {X:Cx}{pins:List (Addr × Obj)}{Z:St}{H:Hp}{s:Shared}{A:Around}{E:Value->Shared->Prop}{Q:Value->Shared->Prop}
theorem xqi {a C:Addr}{od:mF} (I:dI) (h:zam) (hd:∀ d,(du od d)->∃ o,rN):∃ ox odx,PySem.W.InstAt s.heap a ox C odx:=by
 show(qG,ox,vs,g,f,b,c,x12 I h);cases e:od with
 | none=>exact(gm,ox,none,g,f,xoo c,by rw[b,e]; trivial)
 | some d =>
  obtain⟨o,i⟩:=hd d e;exact(gm,ox,some o,g,f,xoo c,kc b e i)
#check _
inductive x2h (K:Zf) (xs:dz) (H:Hp) (Q:VK):Prop
 | mk (x c) (e_:xs=[x,c]) (r_:((∃ t cv b,(d9,TyOf K H x t,zoQ,(du,WE K t cv,b),xT b))\/(∃ a C od cv b,oK/\zam/\(dN zDY CP zoQ (du,WE K (.ref C) cv,b) (xT b)))\/(∃ a C od p cs cv b,(oU,oK,zam,zDY,CP,jQ c p,SqT K H p cs,zSm,(du,PySem.W.kitAny K (.ref C) cv,b),xT b))))
section
variable {X:Cx}
def xcm:xcw X (.builtin "isinstance") (x2h X.K):=by
 intro D s Z H us xs Q I r h;obtain⟨x,c,rfl,h⟩:=h;show(hJ,u,v,rfl,y,m,xr3 r);rcases h with⟨t,cv,b,ty,ec,ek,q⟩|⟨a,C,od,cv,b,rfl,ha,hd,xc,ec,ek,q⟩|⟨a,C,od,p,cs,cv,b,rfl,ha,hd,xc,rfl,hp,ec,ek,q⟩
 .show(AR,xjd ec m);exact xs2 I y ty ek zlR
 .show(AR,xjd ec m);ext qF a y;refine JN (xt7 xc) I.kIn zQA ek rP zlR
  ext zBv
 .ext qF a y;show(jz,v=Zw p,m);show(vo,its,L,O,I.tuple hp);show(AR,xl4 ec L);obtain⟨o,g,J,⟨n,j⟩⟩:63:=O;obtain⟨S,R,P,M⟩:=o
  dsimp only at J j
  subst J j;refine PySem.W.kia_tup (xt7 xc) I.kIn zQA g ek rP zlR
  ext zBv
#check _
noncomputable def xcs (scope:Scope):dD:=(scope.names.filter λ x=>zsV).map (·.1)
noncomputable def Cx.clo (X:Cx) (scope:Scope):zvM:=(Fp).reverse.map λ n=>(n,(XW).getD 0)
theorem xj0 {env:Env}{f:Str->Addr}:∀(l:zZn) (acc:zvM),(∀ x∈l,fY=.free->env.cells.lookup dM=some (f dM)) ->
    (forIn l acc λ x cs=>(if zsV then do let c <- zXJ; UI ((dM,c)::cs) else UI cs:Sem (ForInStep (List (Str × Addr))))) =
      pure ((((l.filter λ x=>zsV).map (·.1)).reverse.map λ n=>(n,f n))++acc)
  | [],acc,_=>rfl
  | wc,acc,h=>by
    have j:=λ a=>xj0 r a (GT,h y (Zm _ hy));rw[List.forIn_cons];by_cases q:fY=.free
    . show(gL,e,h x Zo q,b,Vc fY WS,ib q)
      rw[eD b,Qh,eD b];have z:zXJ=pure (f dM):=by unfold cellOf; rw[e]
      rw[z];simp only[pure_bind];rw[j];simp
    . show(Vt,fY == WS,zaY)
      rw[zts,Qh,zts];simp only[pure_bind];rw[j]
def xum {X:Cx}{scope:Scope} (h:zMw):closureFor scope X.env=pure (X.clo scope):=by
 unfold closureFor;have z:=xj0 (env:=X.env) (f:=λ n=>(XW).getD 0) scope.names [] λ x hx hf=>by
  show(lK,c,h dM (Zc.mpr (A9 (R9,hx,ie hf))));rw[e];rfl
 rw[Yn] at z;refine (bind_pure (m:=Sem) _).trans ?_;ext i4
def xyt {X:Cx}{scope:Scope}{n:Str}{c:Addr} (h:(du,(Ku).lookup n,c)):Gg/\c=(XW).getD 0:=by
 have z:=Ya h;unfold Cx.clo at z;ext yb y a e z;injection e with e1 e2
 subst e1;show(dO,List.mem_reverse.mp a,e2.symm)
theorem xf6 {f:Str->Addr}{n:Str}:∀{l:dD},n∈l->(l.map λ y=>(y,f y)).lookup n=some (f n)
 | [],h=>BF
 | y::r,h=>by
  rw[Zq,Z1];by_cases q:n=y
  .subst q;simp
  .rw [zfv n y zaY];exact xf6 ((Ae).resolve_left q)
def xp9 {X:Cx}{scope:Scope}{n:Str}{c:Addr} (hn:Gg) (h:ND):(du,(Ku).lookup n,c):=by
 have z:=xf6 (f:=λ n=>(XW).getD 0) (List.mem_reverse.mpr hn);unfold Cx.clo;rw[z,h];rfl
structure Blk (X:Cx) (scope:Scope) (x:Str) (ys:dD) (fr:fT):Prop where
 kind:znb
 own:(du,scope.names.lookup x,.local)
 ncell:VO
 names:zko
 free:zkn
 has:∀ n,((du,(kI).names.lookup n,.cell)\/(du,(kI).names.lookup n,.free))->Gg
 slots:zlB
 ysf:znu
 ysc:∀ y∈ys,(du,(kI).names.lookup y,.cell)\/(du,(kI).names.lookup y,.free)
 st:zJJ
 nd:X.N.Nodup
 ndb:zYf
noncomputable def xda:TT:=(MK,Q true H)
noncomputable def PIf (X:Cx) (ifs:nw) (t:TT):Prop :=
 ∀(pins:List (Addr × Obj)) (s:Shared) (Z:St) (H:Hp) (Q:zH),dI->LE ->
  (zpn (zBk X.env (tZ c)))
def xan {X:Cx}:PIf X [] xda:=(zch,Zp (dB H I h))
def xfh {X:Cx}{c:Expr}{t:TT} (hc:PT X c t):PIf X [c] t:=λa s Z H Q I h=>by
 rw[List.forIn_cons];ext ud;rw[gq];show(eX,Jr (hc a s Z H Q I h) (λ b e q=>Zp ?_) Uq);exact Zp q
def xtr {env:Env}{scope:Scope} (nc:VO) (n:Str) (h:(du,(Om).names.lookup n,.cell)\/(du,(Om).names.lookup n,.free)):Gg:=by
 have v:∀ k,(du,(Om).names.lookup n,k)->(k=.cell\/k=.free)->Gg:=λ k e hk=>by
  show(dA,y,B,A,Zc.mp (Ya e));obtain⟨m,j⟩:=y
  dsimp only at A
  split at A
  .rename_i q
   injection A with e1 e2
   subst e1;have:j=.free:=by
    simp only[Zy,beq_iff_eq] at q;exact (wu).1
   ext AK;show(sF,(iJ,R9 B dG))
  .injection A with e1 e2
   subst e1 e2;rcases hk with z|z
   .show(gz,z,nc _ B)
   .subst z;show(sF,(iJ,R9 B dG))
 rcases h with h|h
 .exact v _ h (.inl rfl)
 .exact v _ h (.inr rfl)
def xq0 {env:Env}{scope:Scope}{n:Str} (h:(du,scope.names.lookup n,.free)):(du,(Om).names.lookup n,.cell)\/(du,(Om).names.lookup n,.free):=by
  have b:∀(l:zZn),(du,l.lookup n,.free)->(du,(zAy).lookup n,.cell) \/
      (du,(zAy).lookup n,.free):=λ l=>by
    induction l with
    | nil=>intro e; ext sT
    | cons y r ih =>
      intro e;obtain⟨m,k⟩:=y;rw[Zq];rw[Z1] at e;cases q:n == m with
      | true =>
        ext fe q e e
        ext zwy
        . left; rw[Z1,q]
        . right; rw[Z1,q]
      | false =>
        rw[q] at e;have z:=ih e
        dsimp only
        split<;>(ext fG Z1 q z)
  exact b _ h
section
variable {P:Program}{w:World}{K:Zf}{mg:Str->Option Value}{base:Heap}
def Fun.okn {x qual:Str}{st:Stmt}{f:Addr}{fd:FuncData}{N ps:dD}{k:Nat}{sp:Sp} (F:zne) (S:zrC) (len:NA)
    (hbody:∀(cdv:Value) (A:Around) (outer:List Env) (s:Shared) (H:Hp) (vs:List V) (Q:VK) (E:XK),Room q0 k (A.deeper (envOfC qual (xk st) s.heap.objs.size f cdv))->Kv ->
      (zwj (cxOf q0 dS P w K mg base N qual jA f cdv A outer s H E))):FnOk q0 P w K mg base dS gu f fd ps sp:=by
  obtain⟨D,od,I,B,⟨C,an,cdv,J,u,rfl,v,m⟩⟩:121:=(F.ex)
  show(zka,hbody cdv A outer s H vs Q E y c)
#check _
#check L2
namespace L2
open PySem PySem.Spec PyProof.Rows XL
def ifP {b:Bool}{A B:Prop} (h:Ue) (q:A):wn A B:=by
 ext dP zfW q
def ifN {b:Bool}{A B:Prop} (h:jc b) (q:B):wn A B:=by
 show(qV,BR h,q)
noncomputable def sgn (c:Nat):V:=.str TU
def xqg {h h':Heap}{it:Addr}{ty:String}{x:Str}{t:Tok}{i:Nat} (y:zYl ty) (k:∀ o,(Fd it o)->(zxN it o)):h'.IsStrIter it ty x t i:=by
 show(ue,o,a,r,y,o,k o a,r)
section
variable {X:Cx}
def xf2:wE .LtE (Tv,∃ i j,x=.str i/\(MX j)/\(xT (!(gM (j.cps.toList<i.cps.toList))))):=by
 intro a s Z H x y v u Q I m f h;show(hJ,i,j,rfl,rfl,q,h);ext iG m;ext iL f;exact PySem.P.le_str (xa0 I q rfl)
def xpa:(zjt,om "range",∃ i j,xs=(jJ i j)/\(IU (i5 p (.rng i j)))):=by
 ext rp c;show(mG,i,j,rfl,q,h);obtain⟨u,m,rfl,⟨t,rfl⟩,⟨t',rfl⟩⟩:83:=xr3 r;refine call_range_2 (Sy,I.laid (t':=Sw) qo eV (show KM _ _ _ (.rng i j) from eY 101 _ _ _ j9))
#check _
#check L2
namespace L2
open PySem PySem.Spec PyProof.Rows
variable {q0:Bool}
section
variable {X:Cx}
theorem xio:∀{us:d4}{ys:dz},(UH ys.length)->(∀(j:Nat) (y:V) (u:Value),xB us u j8)->(AV ys)
 | [],[],_,_=>.nil
 | MQ,mS,hl,h=>.cons (zwu u) (xio (Nat.succ.inj hl) λ j a b e f=>h lG a b e f)
noncomputable def rngL (lo hi:Int):dz:=(zXY).map (iW,i,V.int (lo+(eg i)))
def xmf (hc:nh):xcw X ztB (λxs H Q=>∃ p lo hi,xs=[mN]/\(eO p zui)/\(d9,-lN<=lo,lo<lN,-lN<=hi,hi<lN)/\E8<=1000 /\
    ∀ l,mM->(yM (iQ H l (rngL lo hi)))):=by
  ext rp B;obtain⟨p,lo,hi,rfl,O,⟨T,S,R,P⟩,D,q⟩:105:=h;ext wO K r;cases K;obtain⟨t1,t2,t3,g⟩:101:=(show KM H s.heap p zui from uL p O)
  refine call_list_range np g (small_one T S R P) (n:=E8) zlx (ZR D dF) λ h' J v c' M e C=>?_;have len:v.toList.length=(rngL lo hi).length:=zjA rngL Za Zx C.1
  refine(Sy,I.laid (t':=J) M eV (show KM _ h' _ (.lst (rngL lo hi)) from ⟨?_,(fP,v.toList,c',xio len (eI j y u x U),yZ)⟩))
  . rw[rngL,Za,Zx]
    exact ZR D dF
  . have A:gU v u:=zTe
    obtain⟨t,Y⟩:=C.2 j u A;have lt:j<E8:=by
      have:=xU x;simpa [rngL] using this
    rw[rngL,Zd,ZW lt] at x;cases x;show(dO,t,fC Y Int.mul_one)
#check _
structure FunD (K:Zf) (x qual:Str) (st:Stmt) (T f:Addr) (fd:FuncData):Prop where
 ex:∃(oc:Value) (od:mF) (kV doc pm:Value) (an:mF) (cdv ct:Value) (osl:Bm),
  (gf,fd,Jg x qual kU kq jA ziU kV doc pm an cdv ct,Xl fd,NY)
 kp:TX
section
variable {P:Program}{w:World}{K:Zf}{mg:Str->Option Value}{base:Heap}
def FunD.okn {x qual:Str}{st:Stmt}{T f:Addr}{fd:FuncData}{N ps:dD}{k:Nat}{sp:Sp} (F:zpj fd) (S:zrC) (len:NA)
    (hbody:∀(cdv:Value) (A:Around) (outer:List Env) (s:Shared) (H:Hp) (vs:List V) (Q:VK) (E:XK),Room q0 k (A.deeper (envOfC qual (xk st) s.heap.objs.size f cdv))->Kv ->
      (zwj (cxOf q0 dS P w K mg base N qual jA f cdv A outer s H E))):FnOk q0 P w K mg base dS gu f fd ps sp:=by
  obtain⟨D,od,I,B,⟨C,an,cdv,J,u,rfl,v,m⟩⟩:121:=(F.ex)
  show(zka,hbody cdv A outer s H vs Q E y c)
def FunD.binds {x qual:Str}{st:Stmt}{T f:Addr}{fd:FuncData}{ps:dD}{o:Obj}{items:oC}{n:Nat}{ds:d4} (F:zpj fd) (ho:EL T o) (hs:o.data=.seq items n) (m:Nat) (hm:m+ds.length=ps.length)
    (h:∀(kV doc pm:Value) (an:Option Addr) (cdv ct:Value) (us:List Value),(UH m) ->
      ∃ k,bindArgs (Jg x qual kU kq jA ziU kV doc pm an cdv ct) zhH=seqItems? (.ref T)>>=k/\k (some items)=pure (ps.zip CO)):xca K fd ps ds:=by
  obtain⟨C,od,kV,doc,⟨pm,an,cdv,ct,c,rfl,D,v⟩⟩:121:=(F.ex)
  intro s us y j;rw[Zn] at j;show(dA,k,B,A,h kV doc pm an cdv ct us dk);exact BindsTo.of_defaults rfl (y _ _ ho) hs B A
def xkr {x qual:Str}{st:Stmt}{T f:Addr}{oc:Value}{od an:mF}{osl:Bm}{kV doc pm cdv ct:Value} (l:Xl (Jg x qual kU kq jA ziU kV doc pm an cdv ct))
    (c:NY) (k:TX):zpj (Jg x qual kU kq jA ziU kV doc pm an cdv ct):=⟨⟨121,oc,od,kV,doc,zGE⟩,k⟩
#check _
#check L2
namespace L2
open PySem PySem.Spec PyProof.Rows XL
variable {q0:Bool}
noncomputable abbrev Cx.blkG (X:Cx) (scope:Scope) (zs:dD) (ys:dD) (C:Addr) (ex:dJ) (s:Shared) (H:Hp) (pn:eJ):Cx where
 prog:=X.prog
 w:=X.w
 K:=X.K
 mg:=X.mg
 base:=X.base
 A:=X.A
 N:=Ux
 s₀:=s
 H₀:=H
 env:=zRV C
 outer:=X.stack
 stack:=X.stack
 ex:=ex
 fn:=zus
 calm:=X.calm
 pn:=pn
 xe:=zk
theorem xjn {prog:Program}{w:World}{A:Around}{R:ztp}{s:Shared}{elt target iter:Expr}{ifs:nw}{scope:Scope}{pos:Pos}{it acc:Value}{env:Env} (I:zxI)
    (turn:∀ n s,I n s->wpAny pD A (pyNext it) (λ r s₁=>match r with
      | none=>R (.ok .next) s₁
      | Au=>wpAny (model prog w) A (letOwnedTupleGo target it v) (λ_ s₀=>wpAny (model prog w) A (assign target env v) (λ_ s₂ =>
          wpAny (model prog w) A (zBk env (eval c env)) (λ ok s₃ =>
            if ok=true then wpAny (model prog w) A (Vf elt) (λ x s₄ =>
              uo (PQ "list.append" [acc,x]) (λ_ s₅=>(zfe,I m s₅)) Hl s₄) Hl s₃
            else (zfe,I m s₃)) Hl s₂) Hl s₀) Hl s₁) Hl s)
    (n:Nat) (h:I n s):codeAny pD A (.compLoop (zkM target) 0 it acc env) R s:=by
  refine codeAny_loop rfl I (wm n s) n h;show wpAny _ A ((compTurn (zkM target) 0 it acc env).onRaise (λ x=>do noteFrame x env; theTreesLotGoes x)) _ _ s;refine wpAny_noted ?_;show(zYj,compTurn_list,zsK (turn n s q) (d8 r s₁ f));cases r with
  | none=>exact Zp f
  | some v =>
    show(eX,zsK f (λ_ s₀ h₀=>zoN h₀ (λ_ s₂ h₂=>zoN h₂ (d8 ok s₃ h₃))));cases ok with
    | false=>exact Zp (hR h₃)
    | true =>
      exact Ze (Ze (zsK h₃ (λ x s₄ j=>zoN j (λ_ s₅ h₅=>Zp (Zp (hR h₅))))))
structure BlkG (X:Cx) (scope:Scope) (zs:dD) (ys:dD) (fr:fT):Prop where
 kind:znb
 own:∀ x∈zs,(du,scope.names.lookup x,.local)
 ncell:VO
 names:zko
 free:zkn
 has:∀ n,((du,(kI).names.lookup n,.cell)\/(du,(kI).names.lookup n,.free))->Gg
 slots:zlB
 ysf:znu
 ysc:∀ y∈ys,(du,(kI).names.lookup y,.cell)\/(du,(kI).names.lookup y,.free)
 nd:X.N.Nodup
 ndb:Fz
noncomputable def blk0 (Z:St) (fr:fT) (n:Nat):St:=Ju n none++qaR
section
variable {X:Cx}{pins:List (Addr × Obj)}{Z:St}{H:Hp}{s:Shared}{scope:Scope}{zs:List Str}{ys:List Str}{fr:List Nat}{fp:List Addr}
def BlkG.cells (B:Bl) (I:dI):zMw:=λ n b=>I.ok.has n (.inl (B.free n b))
def BlkG.sub (B:Bl) (I:dI) {n:Str}{c:Addr} (h:(du,(Ku).lookup n,c)):ND:=by
 show(h8,a,b,xyt h,d,e,B.cells I n a);rw[e] at b;rw[b,e];rfl
def Inv.blkG {h1:Heap}{m1:iO}{t':Nat} (B:Bl) (I:dI) (hf:ziX) (hz:∀ b∈fp,(tH b)) (n1:h1.Ns s.heap.objs.size m1) (k1:vT rO zQd) :
    Inv (zpV s.heap.objs.size fp KI) [] Y2 H (zmP h1):=by
  have sub:∀ n c,(du,(Ku).lookup n,c)->ND:=λ n c h=>B.sub I h;have cz:∀ n c,ND->(tH c):=λ n c e=>by
    obtain⟨v,o,J,_⟩:82:=I.cell n c e;exact Z3 J
  have O:∀ b∈fp,b∉Kq:=λ b D z=>(zNk).elim (eE TY) (uT TY);have fz:∀ b,b∈Kq->(tH b):=λ b D=>by
    obtain⟨_,o,J,_⟩:=I.stack.mem D;exact Z3 J
  refine⟨⟨I.ok.mod,B.kind,I.ok.glob,I.ok.blt,eV,λ y z c h1 h2=>I.ok.inj y z c (sub y c h1) (sub z c h2),dC y hy,(λ y c hy _=>nomatch hy),I.ok.hd,I.ok.frames,jr,λ b D=>⟨?_,λ y c h=>(zjx TY).1 y c (sub y c h)⟩,
      I.bs,zSO,Tu D,λ b D=>O b D,I.stack,I.stkFree⟩,
    rfl,I.bare,Un.kept k1,(dB,m1,n1,λ i y v e1 T e3=>?_),d8 y c h,HS,λ y c h=>I.freeC y c (sub y c h),Cr,I.hok.kept k1,?_⟩
  . show(lK,c,B.cells I y (B.has y hy))
    show(dO,c,xp9 (B.has y hy) e)
  . exact ZU (hz b D)
  . rcases eE (fH TY) with z|z
    . exact I.ok.noex b o e z
    . show(Cf,ZI (Z3 zot) z)
  . show(GA,P,(Ju zs.length (none:f7)),zs.length,W8)
    by_cases lt:i<zs.length
    . have A:Y2[i]?=CS:=T
      unfold blk0 at A;rw[ZL (dH P lt),Wk] at A;ext SJ A
    . show(zjH,k,rfl,∃ k,i=ztj,i-zs.length)
      have A:qaR[k]?=CS:=by
        have z:Y2[ztj]?=CS:=T;unfold blk0 at z;rw[Jc (sv P),P] at z;ext SM
      have K:wp ys y:=by
        have z:lQ Ux ztj y:=e1;rw[Jc dk] at z;ext SM
      rw[Zd] at A;show(dA,j,Y,M,Zg.mp A);have ev:Z[j]?=CS:=by
        cases q:Z[j]? with
        | none=>ext js q M M
        | some w=>rw[q] at M; exact congrArg some M
      have eN:gU X.N y:=by
        have z:=AQ (λ l=>l[k]?) B.slots;simp only[Zd,Y,K,Qo] at z;exact ZM.inj z
      have L:y∈ys:=Zi K;show(zC,m,U,I.loc)
      show(dA,u,r,l,U j y v eN ev (SB zMP));show(gG,u,r,.inr (jy,B.ysc y L));rcases l with⟨kk,_⟩|⟨_,c,e,o,J,R⟩
      . have z:=zMP
        show(js,show (du,X.env.scope.names.lookup y,.local) from kk,z,z)
      . exact(eY,c,xp9 (B.ysf y L) e,o,k1 c o J,R)
  . show(mG,v,o,J,R,I.cell y c (sub y c h))
    exact(fP,v,o,k1 c o J,R)
  . have Q:p∈KI:=zRz
    show(XA,I.pin p Q);exact⟨45,k1 _ _ a1,a2,ZU (Z3 a1),λ z=>(Zu.mp (I.stkSub _ z)).elim a3 a4,a5⟩
  . have z:=yq B.slots
    simp only[Za] at z;simp[blk0,z]
#check _
section
variable {X:Cx}{pins:List (Addr × Obj)}{Z:St}{H:Hp}{s:Shared}{scope:Scope}{zs:List Str}{ys:List Str}{fr:List Nat}{fp:List Addr}
def Inv.unblkG {C:Addr}{s':Shared}{h2:Heap}{σ':St}{H':Hp}{pl:eJ} (I:dI) (hf:ziX) (hC:s.heap.objs.size<=C) (J:Inv (zpV C fp KI) pl σ' H' s') (sb:zTK) :
    GW znf:=by
  have B:∀ b o,b≠C->(du,s'.heap.get? b,o)->(du,h2.get? b,o):=(AL,nb,(sb.2 b nb).trans g);have x:(vT,rO,b≠C):=λ b o g=>ZU (ZI (Z3 g) hC);have trk:(AO,(du,H' b,u),b≠C):=λ b u m z=>by
    have f:UE C:=J.free;ext nS z f m m
  refine I.call' (s':=znf) J.os (ch:=fp) ⟨λ b o e n m A=>B b o zyZ (J.base.keep b o e n m A),zft m A,λ b o e n A=>J.base.free b o e n A,Tu A,J.base.tups,J.base.frzs,J.base.tbls⟩ (d8 b u m) J.bare (pY m)
  . show(sr,L,J.base.slot b o e n m A)
    show(dO,L,B b _ zyZ q)
  . show(sr,K,J.base.there b o e A)
    show(dO,K,B b K zyZ q)
  . refine (J.hok b u m).stay (hF c v D q) (λ c q=>q) (FZ q)
    rcases D with rfl|D
    . exact B c v (trk c u m) q
    . exact B c v (trk c _ D) q
  . obtain⟨_,a1,_,a3,O,M⟩:46:=hf b m
    exact fQ a3 a1 O M
#check _
noncomputable def GOk (n:Nat) (g:TG):Prop:=∀ v Z H Q,g v Z H Q->g v Z H (λ σ' H'=>VG)
def xas {i n:Nat} (h:jS):GOk n (xcy i):=λ v Z H Q q=>dB q dG zQa
noncomputable def xcj (J:It) (n:Nat) (g:TG) (Z:St) (fr:fT) (tc:TT) (te:TE) (l:Addr) (H1:Hp) (Q:VK):Prop:=∃ W:SH FW,(∃ m,W 0 m [] zvW)/\∀ i m xs H2,W i m xs H2 ->
 (J.stop i H2/\FL)\/(J.go i H2/\∀ v H3,zTA->g v EY H3 λ σ' a=>tc σ' a λ b H4=>if Ue then
  (te σ' H4 λ y c=>c l=some (.lst xs)/\Ix/\(zuD SU (iQ c l SU))) else zuD xs H4)
noncomputable def xm9 (wi:TI) (n:Nat) (g:TG) (fr:fT) (tc:TT) (te:TE):TE:=(qX,wi Z H λ J H1=>∀ l,nJ->xcj J n g Z fr tc te l H1 Q)
section
variable {X:Cx}{scope:Scope}{zs:List Str}{ys:List Str}{fr:List Nat}{elt iter tg:Expr}{g:TG}{ifs:List Expr}{px pos:Pos}{wi:TI}{tc:TT}{te:TE}
def xkd {pins:eJ}{s:Shared}{Z:St}{H:Hp}{Q:VK}{U:hW (Value->Sem Unit)}{R:eR} (hc:nh) (B:Bl) (hi:zbi) (hg:∀ C ex s H pn,(∀ x∈zs,(du,(kI).names.lookup x,.local))->Fz->PG Kj tg g) (gok:zpA)
    (hif:zll) (he:zls) (I:dI) (h:xm9 wi zs.length g fr tc te Z H Q)
    (fin:∀ C l H' s' m,(d9 (N9 C) (zuV C) (Tz C) (zil,eA≠C))->(ft,UE C,s'.heap.Ns C m,(∀ h2,zTK->(GW znf)),zhj,compPost qh X.A X.xe U R kW C (.ok .next) s')) :
    wpAny (model X.prog X.w) X.A (eval iter X.env) (λv s1=>wpAny (model X.prog X.w) X.A (pyIter v) (λ it s2=>wpAny (model X.prog X.w) X.A (newList []) (λ acc s3 =>
      wpAny (model X.prog X.w) X.A (newFunctionEnv scope X.env.globals Ku [] X.env.qual none .none (some X.env)) (λ cenv s4 =>
        codeAny qh X.A (.compStart SR 0 it acc { cenv with scope:=kI }) (zVw acc cenv.locals) s4) X.xe s3) X.xe s2) X.xe s1) X.xe s:=by
  show(o3,PZ pins,zwJ s1 zVP);obtain⟨it,fp,tn,J,⟨O,rfl,I2,T,ab,f2,aj⟩⟩:121:=h2;have hN:O s2.heap.objs.size=none:=I2.hok.fresh (Zl _);obtain⟨W,⟨m0,w0⟩,ac⟩:62:=aj s2.heap.objs.size hN;refine Y3 ?_;generalize ah:MW { s2 with heap:=s2.heap.push (iN,"list",.seq ([]:d4).toArray) }=s3;have k3:vT (du,s2.heap.get? b,o) (du,s3.heap.get? b,o):=λ b o g=>gF ah Gu
  have I3:qN zlZ s3:=by
    show(mL,ah,I2.laid (t':=s2.toks) ztw eV ⟨lW,fP [] 0 .nil j9⟩)
  have z2:∀ b∈fp,b<s2.heap.objs.size:=λ b D=>by
    ext zLL g
  have z3:∀ b∈fp,b<s3.heap.objs.size:=λ b D=>by
    show(zLL,k3 b o g)
  show(dw,f3,zry zlZ,λ b D=>⟨(dH,xg (ZU (z2 b D)),(f2 b D).1),(f2 b D).2⟩,ao,tn 0 s3.heap,(zgx,ab,λ b _ o g=>k3 b o g));refine wpAny_newFunctionEnv B.ncell (by intro y hy; simp at hy) (d8 h1 n1 ap) B.kind;have k4:vT (du,s3.heap.get? b,o) zQd:=λ b o g=>ap.extBut b o (ZU (Z3 g)) Gu;show(yt,I4,I3.blkG (t':=zJQ) B f3 z3 n1 k4,ae,tn 0 h1,(zgx,ao,λ b _ o g=>k4 b o g),af,∀ x∈zs,(du,(kI).names.lookup x,.local),(yr,lookup_relabel_local (B.own x hx)))
  -- the iterator's objects,through the M
  have K:(zNj,FpOk Hk [] H' b):=λ hn b D=>by
    obtain⟨_,a1,a2,a3,a4,a5⟩:46:=f3 b D;exact(jN,hn b D,ZU (z3 b D),λ z=>(Zu.mp (I3.stkSub b z)).elim a1 a2,.inl D,λ y c h=>a4 y c (B.sub I3 h),(lR,a5 p zRz))
  have M:∀ s4:Shared,s4={ s3 with heap:=h1,toks:=zJQ } ->
      codeAny qh X.A (.compLoop SR 0 Cy Xz (zRV s3.heap.objs.size))
        (zVw Xz s3.heap.objs.size) s4:=by
    rintro s4 rfl;refine xjn (λ n s'=>(zGr,s',s'.heap,W i n xs H')) ?_ m0
      (mX,0,[],_,I4,ae,λ b D=>(f3 b D).1,w0)
    rintro n s5 (⟨i,xs,H5,I5,ad,ai,w5⟩:104);rcases ac i n xs H5 w5 with⟨stop,q⟩|⟨go,step⟩
    . show(Eo,T.done Hk rfl rfl rfl hc i [] s5 _ H5 zk I5 (K ai) ad stop,(λ r s6 ⟨1042,hr,I6⟩=>?_))
      subst hr;show(iu,m,hm,I6.loc)
      exact fin _ _ H5 s6 m ⟨I3.sz,(I3.size_lt (Zl _)).2⟩ I6.free hm (λ h2 sb=>I3.unblkG f3 eV I6 sb) q
    . show(Eo,T.item Hk rfl rfl rfl hc i [] s5 _ H5 zk I5 (K ai) ad go,zp r s6 u hr h6)
      subst hr;show(Eo,h6,(λ_ s7 ⟨1085,y,H7,I7,r7,y7,aa,as⟩=>?_));have av:=I7.pinned (K as) (T.obj _ _ aa);show(Eo,hg _ _ _ _ _ af B.ndb _ s7 _ H7 y u _ av r7 (gok _ _ _ _ (step y H7 y7)),(λ_ s8 ⟨1084,σ8,H8,I8,q8,l8,k8⟩=>?_));have P:∀{s9:Shared}{H9:Hp}{Y:dz},Inv Hk ([]++xhm fp s7.heap) σ8 H9 s9->(Su,n,W dW m' Y H9) ->
          (zfe (zGr,s9,s9.heap,W i m xs H')):=λ{s9 H9 Y} I9 ⟨m',lt,w9⟩=>by
        show(gG,m',lt,(mX,dW,Y,H9,I9.unpinned.weak l8.symm (wa j v),(zgx,aa,λ b D o e=>(I9.pin UW (OC D)).1),pY D,w9))
        . by_cases lj:j<zs.length
          . unfold blk0 at e
            rw[ZL (dH W8 lj),Wk] at e;ext SJ e
          . show(lZ,k8 j dk)
        show(dA,o,e,d,T.obj _ _ aa b D);exact eE (I9.pin UW (OC D))
      show(Eo,hif _ _ _ _ _ _ s8 _ H8 _ I8 q8,zp ok s9 H9 I9 q9);cases ok with
      | false =>
        rw[zAc] at q9 ⊢;exact P I9 q9
      | true =>
        rw[gq] at q9 ⊢;show(Eo,he _ _ _ _ _ _ s9 _ H9 _ I9 q9,(λ ev aq ⟨1085,yv,ak,ax,ar,hl,len,am⟩=>?_));refine Jr (xd7 (X:=Hk) _ aq _ ak Xz [yv] Xz [ev] (λ v H'=>H'=(iQ ak s2.heap.objs.size (xs++[yv]))) ax rfl (.cons ar .nil) (mQ,_,xs,yv,li hl len rfl))
          (λ_ ay ⟨1083,_,az,aw,_,au⟩=>?_) (Db z.elim)
        subst au;exact P aw am
  exact codeAny_compStart_list (M _ rfl) (T.self _ 0 _ _ _ ae (M _ rfl))
def xaw (hc:nh) (B:Bl) (hi:zbi) (hg:∀ C ex s H pn,(∀ x∈zs,(du,(kI).names.lookup x,.local))->Fz->PG Kj tg g) (gok:zpA) (hif:zll) (he:zls)
    (hs:zkt:=by ext Mx):PE X SR zHM:=by
  ext jd j;rw[eval_ListComp];refine wpAny_comprehension_free (use:=none) rfl hs zUi B.kind B.names (xkd hc B hi hg gok hif he I h λ C l H' s' m _ _ z y q=>?_);show(eB,m,z,λ A sb=>(uH,kW,H',y A sb,q))
def xbw {j:Nat}{y:Str}{py spos:Pos} (hc:nh) (B:Bl) (hi:zbi) (hg:∀ C ex s H pn,(∀ x∈zs,(du,(kI).names.lookup x,.local))->Fz->PG Kj tg g) (gok:zpA) (hif:zll) (he:zls)
    (hj:gU X.N y) (hy:Loc X.env.scope y) (hf:X.fn y=true\/(du,X.env.scope.names.lookup y,.local):=by first|ext pK|ext sC|ext ii)
    (hsw:(yP,swapsWith SR (some (.Name y py)) spos.line X.env,true):=by rfl)
    (hs:zkt:=by ext Mx):PS X (.Assign [zuv] (.ListComp elt [dY tg iter ifs 0] scope pos) spos) (tAsg zHM (xcy j)):=by
  ext rT K;show(zYj,exec_Assign_Name_used _ _ _ _ hsw,?_);show(qm,do let _ <- comprehension SR scope X.env _ (newList []) false (tZ iter) zLf);refine Ze (Jr (wpAny_comprehension_free (use:=zLf) (Q:=λ_ s'=>SP X K D .next s') rfl hs zUi B.kind B.names
    (xkd hc B hi hg gok hif he I h λ C l H' s' m M U Y T q=>?_)) (λ_ s' z=>Zp (Zp z)) zdO)
  show(oy,assign zuv X.env kW);show(n7,J,K,H',s',T s'.heap (.refl ..));refine wpAny_assign_Name (xmb (v:=V.ref l) J B.nd hj hy rfl (zp P J2 a sb ha) hf);have S:a≠C:=by
    rcases ha with z|z
    . rw[z]; exact Z2 (eE M)
    . exact (fH M).1 _ _ z
  show(Bg,m,dC h2 O)
  . ext Mu o es ep g r Y
    show(zwV,es,(sb.2 C (Z2 S)).trans g)
  . exact(fP,_,H',J2.turned (t':=P.toks) (AL,R,(O.2 b R).trans g) U (eE M) (.inr M.1) (uT M) (fH M).2,q)
#check _
noncomputable def xnz (scope sc0:Scope) (N0:dD) (zs:dD) (ys:dD) (fr:fT):Bool :=
 (zUL,(zUL,scope.kind == .function&&zs.all (λ x=>scope.names.lookup x == some .local),y.2 != .cell),y.2 != .local||scope.names.lookup y.1 == some .local) &&
 (Fp).all (λ n=>sc0.names.lookup n == some .cell)&&(zwE,N0[i]?) == ys.map some&&ys.all (λ y=>zNy == some .free)&&(gM N0.Nodup)&&(gM Fz)
def xv7 {X:Cx}{scope sc0:Scope}{N0:dD}{zs:dD}{ys:dD}{fr:fT} (chk:zFO) (es:zUB) (eN:X.N=N0):Bl:=by
 unfold xnz at chk;simp only[Zy,beq_iff_eq,Wj,decide_eq_true_eq] at chk;obtain⟨⟨⟨⟨⟨⟨⟨⟨a1,a2⟩,a3⟩,D⟩,C⟩,B⟩,j⟩,A⟩,u⟩:=chk;show(fU,i,VO,λ y b=>(EN,a3 y b),⟨a1,a2,i,wm y b,λ n hn=>(dH,es,C n hn),λ n h=>xtr i n h,dH eN B,zxf,λ y b=>xq0 (j y b),dH eN A,u⟩)
 .show(SL,D y b,q);ext SM
 .show(Nc,(y,.free),(R9,Ya (j y b),dG))
def xai {X:Cx}{scope sc0:Scope}{N0:dD}{zs:dD}{ys:dD}{fr:fT} (chk:zFO) (es:zUB) (eN:X.N=N0) (_:zJJ):Bl:=xv7 chk es eN
def xcn {K:Zf}{m n:Nat}{t:TGs} (h:zDz):GOk n (gTup K m t):=λ v Z H Q q=>by
 obtain⟨a,xs,e,hs,b,q⟩:=q;exact(gm,a,xs,e,hs,b,h _ _ _ _ q)
def xb4 {n:Nat}:(zAd,gNil vs Z H Q,gNil vs Z H (λ σ' H'=>VG)):=λ vs Z H Q q=>by
 show(sr,e,xwo q);ext gc;ext yw q iw
def xah {i n:Nat} (hi:jS) {t:TGs} (h:zDz) :
    zAd (zXr Q) (zXr (LR VG)):=λ vs Z H Q q=>by
  show(mG,v,r,rfl,q,xwp q);have z:=h _ _ _ _ q;have p:∀(j:Nat),n<=j->vg[j]?=Z[j]?:=zQa
  have u:vU vg Z.length:=dG
  have f:(LR (zmI,(vg).length,(zPN,vg[j]?)))=(λ σ' (H':Hp)=>zmI Z.length (zPN,Z[j]?)):=by
    funext σ' H';rw[u];refine propext ⟨(zGG,(c j hj).trans (p j hj)),(zGG,(c j hj).trans (p j hj).symm)⟩
  ext eW f z z
def xce {J:It}{n:Nat}{g:TG}{Z:St}{fr:fT}{tc:TT}{te:TE}{l:Addr}{H1:Hp}{Q:VK} (len:Nat) (Pv:zzs) (h0:Pv 0 [] zvW) (hgo:∀ i xs H,MU->Pv i xs H->zxx)
    (step:∀ i xs H2 v H3,MU->Pv i xs H2->zTA->∀ N:FW,(∀ xs' H',zZX->N xs' H')->g v EY H3 λ σ' H3'=>tc σ' H3' λ b H4=>if Ue then
      (te σ' H4 λ y H5=>H5 l=some (.lst xs)/\Ix/\N SU (iQ H5 l SU)) else N xs H4)
    (fin:∀ xs H2,Pv len xs H2->J.stop len H2/\FL):xcj J n g Z fr tc te l H1 Q:=by
  show(iF,λ i m xs H=>(zeq,len,Pv i xs H),zer len);rintro i m xs H2 (⟨rfl,a,p⟩:43);by_cases lt:MU
  . show(ME,hgo i xs H2 lt p,λ v H3 y=>step i xs H2 v H3 lt p y (λ xs' H'=>∃ m',(d9,m'<len-i,m'=len-dW,dW<=len,zZX)) λ xs' H' q=>m6 64 dk rfl lt q)
  . ext ua i len dk;show(iE,fin xs H2 p)
section
variable {X:Cx}{pins:List (Addr × Obj)}{Z:St}{H:Hp}{s:Shared}
def Inv.adopt {p:Addr}{o:HO} (I:dI) (n:uz) (h0:N9 p) (hL:p≠X.env.locals) (hC:Tz p) (hp:∀ q∈KI,wu≠p)
    (new:KM zxs s.heap p o):qN zxs s:=by
  show(fU,A,(AO,pH,b≠p),(gC,xb e n),(zJH,eI b ob e D B,Tk,λ b ob u e=>?_,qaJ,zwX,dC q hq,vx))
  . show(dP,xg (ZU (An h0)),I.base.free b ob e D B)
  . have z:=zPV
    ext rq zyB z
  . have z:=I.base.frzs b ob u e
    ext rq zyB z
  . show(vj,m,z,zPJ,m,gS zyB z)
  . show(AI,hL,I.free)
  . show(rq,hC x c e,zbV)
  . show(jE,a1,a2,a3,I.pin q hq)
    show(eB,a1,(dH,xg (hp q hq),a2),a3)
  . by_cases hb:b=p
    . ext zSo
    . rw[xg hb] at e
      exact (zth).stay zcq (λ c q=>zSt) (FZ zSt)
def Inv.thaw {d:Addr}{o:Obj}{u:HO} (I:dI) (e:wh Sm) (nf:DO):qN (i5 d u) s:=by
 have A:∀ b v,(eO b v)->(∀ o' u',v≠.frz o' u')->b≠d:=λ b v h1 h2 z=>by
  subst z;show(kd,e,h1,h2 _ _ rfl)
 have j:(F2,b≠d):=λ b h1 z=>by
  subst z;ext rJ h1
 refine(zJH,eI b ob q J D,wm b xs,hF b ob v q,wm b ps,wm x c,Cr,wm b v)
 .have z:=I.base.free b ob q J D;show(dP,xg (j b z),z)
 .have z:=I.base.tups b xs q;show(rq,A b _ z znZ,z)
 .have z:=I.base.frzs b ob v q;have B:b≠d:=λ w=>by
   subst w;exact nf _ _ q
  ext rq B z
 .obtain ⟨m,z⟩:=I.base.tbls b ps q;show(dO,m,gS (A b _ z znZ) z)
 .show(sV,j _ I.free,I.free)
 .rw [xg (j _ (I.freeC x c q))];exact I.freeC x c q
 .obtain ⟨a1,a2,a3⟩:43:=Rw;show(eB,a1,gS (j _ a2) a2,a3)
 .have st:∀(a:Addr) (v:HO),xa9 X.prog X.w H s.heap a v->xa9 X.prog X.w (i5 d u) s.heap a v:=λ a v k =>
   k.stay zcq (λ c q=>zNL) (FZ zNL)
  by_cases B:b=d
  .subst B;ext fe xi q q;obtain⟨g,ok⟩:=uL b e;exact st _ _ ok
  .rw [xg B] at q;exact st _ _ (I.hok b v q)
def Inv.nofrz {d:Addr}{kvs:eG} (I:dI) (e:Gi):DO:=λ o' u' z=>by
 ext zGC
theorem KV.get:∀{kvs:eG}{vs:zfG}{i:Nat}{k:Key}{x:V},tS->oB->∃ u,(dX vs (k,u))/\sj
 | _,_,_,_,_,.nil,e=>K3
 | _,(_,_)::_,0,_,_,zvF,e=>by
  ext E0;obtain⟨r1,r2⟩:=r
  dsimp only at r1 r2
  subst r1;exact ja r2
 | _,_,dW,k,x,KQ,e=>by
  show(ue,u,b,a,KV.get (i:=i) (k:=k) (x:=x) t yZ,u,Ow,a)
def xsh {P:Program}{w:World}{k:Key}{u:Value} (h:(xN).is k u=true):zYm:=by
 rcases xb0 (BQ,xg4 k u,h) with⟨i,t,rfl,rfl⟩|⟨x,t,rfl,rfl⟩
 .exact LZ
 .exact LZ
def xjx {d:Addr}{o:Obj}{kvs:eG}{ep:Nat} (I:dI) (e:zml) (hep:zvS):(zij,s.heap.DictAt pA d vs ep):=by
 obtain⟨g,_,_,⟨vs,j,B,x,y,g',v,b,u,n,q⟩⟩:44:=uL d e;ext fe g g' g';obtain⟨es,m⟩:=hep;ext fe m b b;show(eB,vs,j,gW 86 o _ g v m u n q)
#check _
noncomputable def Iti (d:Addr) (o:Obj) (kvs:eG):It :=
 (zIJ,∃ p k x,(zwI,oB,H'=(zii DE)))
def xro {P:Program}{w:World}{K:Zf}{elts:nw}{x1}{tpos:Pos} (d it:Addr) (o:Obj) (kvs:eG) (ep:Nat) (hep:zvS) :
    (HI,DX,Iti d o kvs,∃ ok ov,zaa h i kvs.length) where
  mem:=dG
  obj:=λi h st b C=>by
    show(vP,by simpa using C);ext zsE;exact⟨_,st,λv z=>by
      ext OF z' z⟩
  keep:=zDg
  item:=by
    intro X hP Y hK hc i A s Z H E I hf st hg;ext zeh Y;ext xD lt hg;ext zaK m;ext zDJ;ext zkf
    show(dA,u,hv,ru,m.get hx);rw[S] at st;refine wpAny_pyNext_items_item st da hv λ L h' R Q ht hz aa=>?_;refine(ja,wpAny_letOwnedTupleGo_items Q (d8 D B O));show(dw,kk,XZ (du,D.get? b,o),(AL,C,(O.2 b C).trans (aa b o C g)),I1,zZc A D,tw kk U f1 f3 f4 f5);ext VF;show(fE,M,tH it,Z3 st,J,zMx,Qv M,hp,zFF L,(O.2 _ J).trans ht);refine(iY,85,HK,X1 [DE,x],(zKl,[L,u],.cons (xsh R) (.cons ru .nil),zue),rfl,mX _ k x hx rfl n0 rfl,?_,pY C)
    . rw[<- S] at B
      exact hD _ B
    . show(vP,by simpa using C);ext AI J U
  done:=by
    intro X hP Y hK hc i A s Z H E I hf st hg;ext zeh Y;ext xD le hg;ext zaK m;ext zDJ;show(eW,S,st,wpAny_pyNext_items_end np st da (EN zou) λ h' eb=>(hR,tw (mO,C,eb b o C e) U f1 f3 f4 f5))
  self:=zCb
noncomputable def x0q (X:Cx) (to:TE):TI:=(zkO,H1 d=some (.dK kvs),∀ ob,DO->R Pj (HJ H1))
section
variable {X:Cx}{o:Expr}{to:TE}{elts:List Expr}{x1:_}{tpos apos cpos:Pos}
def xi1 (ho:zF) (hbase:qaW:=by rfl) (hline:Bh:=by rfl) :
    zSP (x0q X to):=by
  ext zu B;ext zkj B M S;obtain⟨z,hd,⟨vs,U,Q⟩⟩:43:=xgv I1.hok e;obtain⟨ob,es,ep,g,ex,P,hk,hp,hn⟩:106:=id Q;refine VJ "dict.items" Qt PySem.F.type_dict_items Q.typeIs
  . ext zaD
  show(zCE,Q.typeIs,meets_dict_items pA d hd,⟨vs,Q⟩);have da:(zEc).DictAt pA d vs ep:=zLP P
  refine wpAny_pyIter_items (s:=znE) Km da ?_;show(n7,I2,B,S,znE,I1.kept (t':=M.toks) qo);generalize Y:MW znE=J at I2;show(dw,g2,(du,J.heap.get? d,ob),gF Y Gu,I3,mY B ziy J,I2.write (t':=J.toks) (x:=d) (e:=d) zI jr zcr (GE g2) ⟨g2,qaT⟩);have I4:mY B ziy zBa :=
    I3.kept (t':=J.toks) qo
  have aa:PIE X B Z DX R (.ref J.heap.objs.size) zBa:=by
    show(Fe,J.heap.objs.size,⟨66,ziy,rfl,I4,xro d _ ob kvs ep ⟨es,P⟩,kB .none .none,Cq,q ob (I1.nofrz e)⟩)
    . show(Oj,hl,U.length)
      show(Dm,IsItemIter _ _ d 0 kvs.length ep .none .none,hl,j9)
    . have eb:b=J.heap.objs.size:=D4
      subst eb;exact I3.fpOk (Zl _) (I3.hok.fresh (Zl _))
  exact aa
def xvr {pins:eJ}{Z:St}{Q:VK}{u:Value}{s:Shared} (h:EP X pins Z (λ v H2=>zBS) u s):RS u s:=by
 obtain⟨v,H2,c,r2,⟨d,ob,u',e,b,q⟩⟩:83:=h;exact(fJ,v,_,c.thaw e b,r2,q)
def xx0 {e:Expr}{t:TE} (h:yK t):yK (qX,t Z H λ v H2=>zBS):=λ a s Z H Q I q =>
 thn (S6 a q) (Db,xvr z)
#check _
#check L2
namespace PySem.F
def xl_plain_dict_loop:plainId "dict.update.loop"=true:=fR
def xl_entry_dict_loop:(du,entryFor table "dict.update.loop",Builtin.«dict.update.loop»):=entryFor_of_tree (by kernel_rfl)
def xl_list_nokeys:qbH "list" "keys" none:=by rw[typeLookup_type,builtinLookup_eq_fast]; kernel_rfl
#check PySem.F
namespace L2
open PySem PySem.Spec PyProof.Rows XL
variable {q0:Bool}
def xte {prog:Program}{w:World}{A:Around}{E:eR}{s:Shared}{a:Addr}{o:Obj}{xs:oC}{k:Nat}{Q:Cu}
    (hx:Ia o) (hc:zej "list") (hdat:o.data=.seq xs k) (hd:ztl) (hA:zbB)
    (h:∀ h' tk,(vT rO Bq)->Q none (DS tk)):jh (getAttr? (.ref a) "keys"):=by
  obtain⟨c,H,J,z⟩:=o;simp only at hc hdat hd;subst hc hdat hd;ext qv C d tk B;have v:∀ j,(MW,eY C g d j B).TypeIs (.ref a) "list":=λ_=>iJ hx
  show(qH,R,sub_AttributeError,P,Wd.lookup,O,Wd.bind (.ref a),M,am_list_getattr_none);unfold getAttr? getAttrBy? getAttrBy
  repeat (any_goals (first|ext ii|exact v _|((with_reducible show(oy,call (YS "list.__getattribute__") _ _)); refine QS Wd (v _) am_entry_list_getattribute (F.args_list_getattribute_2 _ _) (meets_getattribute_miss_list a xs k z "keys" _ F.xl_list_nokeys fR (by size_fits)) (dB,hx,hA,hF h' j e m))|ext ju))
  show(Mn,t',K,L,m.there)
  have D:=m.of.keeps;show(oy,getattributeRaised _ _ _ _ _ _ _);unfold getattributeRaised
  repeat (any_goals (first|ext ii|ext ju))
  exact h _ _ D
section
variable {X:Cx}{pins:List (Addr × Obj)}{Z:St}{H:Hp}{s:Shared}{a:Addr}{y v:V}{u r:Value}{A:Around}{E:Value->Shared->Prop}
def xth {H':Hp}{Q:wY} (hu:zqY) (I:dI) (g:zTY) (ry:j8) (rv:RelV v r) (h:zbK FV) :
    xS (dictSet a u r):=by
  rcases g with⟨kvs,k,e,ey,l,eH⟩|⟨kvs,k,b,e,ey,eb,l,eH⟩
  . ext zEt f;show(zIP,f.length,wpAny_dictSet_pairs (hsz:=hz) Ge D zRm);have K:zrM:=let ⟨q,_,_,x,_⟩:=j; pV x;exact xfi I zI hs K (xoj B C (f.put k rv) j)
  . ext zBW f;show(zWD,Yf f,wpAny_dictSet_heap (hsz:=hz) (show (Hz).room A from hu) Kh D zRm);obtain⟨q,R,ep,x,P,O,M,_,L⟩:106:=j;show(zFQ,⟨B,C,_,(f.put k eb rv).keeps (d8 c ys J),zIY⟩)
def DPut.stay {d b:Addr}{H':Hp}{o:HO} (g:zUg) (e:eO b o) (n1:∀ kvs,o≠FK) (n2:∀ kvs,o≠zhe):zZp:=by
 rcases g with⟨kvs,k,e2,_,_,rfl⟩|⟨kvs,k,b2,e2,_,_,_,rfl⟩
 .show(sV,xem e e2 (n1 _),e)
 .show(sV,xem e e2 (n2 _),e)
def DPut.free {d b:Addr}{H':Hp} (g:zUg) (e:iS):EZ:=by
 rcases g with⟨kvs,k,e2,_,_,rfl⟩|⟨kvs,k,b2,e2,_,_,_,rfl⟩
 .ext zXB
 .ext zXB
#check _
inductive xez (d:Addr):Hp->zzA
 | nil {H:Hp}:xez d H [] H
 | cons {H H1 H2:Hp}{y v:V}{r:zxX}:DPut H d y v H1->xez d H1 r H2->xez d H ((y,v)::r) H2
theorem xis {X:Cx}{pins:eJ}{Z:St}{A:Around}{R:ztp} (hh:A.in1.handled=none) (hu:A.in1.units<cLine) {l it d:Addr} :
    ∀(ps:IQ) (pre:dz) (j:Int) (H H2:Hp) (s:Shared),dI->(qj l (pre++ps.map λ p=>.ref eA))->zrb->xez d H (ps.map (·.2)) H2 ->
      s.heap.IsListIter it l pre.length->(To H it)->(∀ s',(qN H2 s')->(zpl s')) ->
      codeAny qh A (.builtin "dict.update.loop" (uD [qU,Cy,rawInt j,.none])) R s
  | [],pre,j,H,H2,s,I,hl,hp,dp,st,fo,fin=>by
    cases dp;show(D6,J,I.lstM hl);ext zZz;show(zAP,wpAny_pyNext_list_end hh st (Ai e iP) (by simp at J ⊢; lia) (dC h' eb));show(zqy,zHn>>=_);exact Ze (Zp (Zp (fin _ (tw (mO,B,eb b o B e) U S Q P O))))
  | (a,y,v)::ps,pre,j,H,H2,s,I,hl,hp,dp,st,fo,fin=>by
    have ad:=fo;ext zZz;cases dp with
    | @cons _ H1 _ _ _ _ g dp =>
    show(D6,J,I.lstM hl);show(dA,u,aa,ru,r.get (i:=pre.length) (x:=eQ) dG);ext qF a ru;show(zAP,wpAny_pyNext_list_item st (Ai e iP) (x:=eQ) (by simpa using aa) (AY C sb));have I1:yN kJ:=tw (mO,B,(sb.2 b B).trans e) U S Q P O;obtain⟨z2,ts,rt,ot,et,ct,nt,dt⟩:=I1.hok a _ (hp _ Zo);show(hJ,uk,uv,rfl,rk,rv,xr3 rt);show(zqy,holding o4 _>>=_);refine Ze (Jo ?_);refine Ze (wpAny_tryCatch ?_);unfold Builtin.Dict.pairItems;show(zXH,"tuple",dB ot et ct);show(eX,wpAny_seqItems et dt (Zp ?_));show(zqy,(DI [uk,uv] (dictSet d uk uv)));have ob:∀ b∈[it],(zlp Bq):=λ b B=>by
      ext vP zTd;show(eZ,o,e,c,d,id C);ext zPs
    have ae:=I1.pinned (fp:=[it]) (λ b B=>by
      ext vP zTd;exact ad) ob
    refine Jo (xth hu ae g rk rv (dC s' I2));ext zHl;have ac:To H1 it:=(jN,g.free U,S,f2,Q,P,O)
    have Y:s'.heap.IsListIter it l (zWe).length:=by
      rw[Zn];exact C.at λ o e=>(I2.pin (it,o) (OC dG)).1
    refine xis hh hu ps zWe lG H1 H2 s' I2.unpinned ?_ (rC ab) dp Y ac fin
    . have z:=g.stay hl zaU zaU
      rw[z];simp
    . exact g.stay (hp p (Zm _ ab)) zaU zaU
inductive xxt (xs:dz) (H:Hp) (Q:VK):Prop
 | mk (l:Addr) (ps:IQ) (e_:xs=[kW]) (r_:(Bd (zei zcy))/\zrb/\∀ d,Uk->∃ e H2,(e=.dK []\/e=.dT [])/\xez d (i5 d e) (ps.map (·.2)) H2/\(uE d H2))
def xc2 {X:Cx} (hc:nh) (hu:X.A.units+3<cLine):xcw X (om "dict") xxt:=by
 ext rp v;obtain⟨l,ps,rfl,L,hp,q⟩:=h;ext wO rx r;ext qF l rx;refine callType_codes (Q₁:=λ B s₁=>(zXa B)/\s₁=zOQ) F.kt_called_dict (F.kt_typeCall_dict_1 _) F.entry_dict_init (kt_code_dict_new _ vq) ?_;rintro B s₁ ⟨rfl,rfl⟩;show(hJ,e,H2,he,S,q2,q s.heap.objs.size I.fresh);have I1:mY v zKx zOQ:=by
  refine qaq ztw ?_;rcases he with rfl|rfl
  .exact xiz s.heap I.big
  .exact xoe s.heap I.big
 have hT:(Shared.mk zkV s.gens s.drawn s.toks s.os).TypeIs (.ref s.heap.objs.size) "dict":=zAl
 have nl:l≠s.heap.objs.size:=λ z=>by
  show(nS,z,I.fresh,L,L)
 have K:(du,upd H s.heap.objs.size e l,zei zcy):=gS nl L
 obtain⟨z,its,n,rr,aa,P⟩:=I1.lstM K;show(iF,hT,F.args_dict_init_2 _ _);unfold Builtin.«dict.__init__»;ext zEw hT;show(oy,(pure (s.heap.objs.size,[Zw l])));ext Aa;show(oy,Builtin.Dict.updateFrom "dict.__init__" s.heap.objs.size kW [] .none);unfold Builtin.Dict.updateFrom;show(zXH,"list",iJ P);show(eX,xte P rfl rfl rfl np (AY Y hk));have U:=I1.kept (h':=h') (t':=Y) hk;show(Ak,rule _);refine Ze (wpAny_rule ?_);show(eX,(wpAny_pyIter_list (Ai,hk _ _ P,iP) ?_));ext zHl;show(n7,I3,v,zKx,_,U.kept (t':=Y) (h':=h'.push (iN,"list_iterator",.fields #[kW,zgh])) qo);refine xis (A:=X.A.in1) np (zru,X.A.units+1+1) ps [] 0 _ H2 _ I3 (by simpa using K) (rC J) S ?_ ?_ (dC s' I')
 .rw [jY (hp p J) I.fresh];exact hp p J
 .exact Km
 .exact U.fpOk (Zl _) (U.hok.fresh (Zl _))
 .exact (hR,Nd _ H2 I' q2)
def xfw {X:Cx}{e:Expr}{t1 t2:TE} (h1:yK t1) (h2:yK t2):yK (qX,t1 Z H Q\/t2 Z H Q):=(zch,h.elim (h1 a s Z H Q I) (h2 a s Z H Q I))
noncomputable def Itrs (lo d:Int) (n:Nat):It:=(rG,λ i _=>jS,U8 x (Nf,x=.int zvd),λ i _=>n<=i)
def xo8 {P:Program}{w:World}{K:Zf}{tg:Expr} (it:Addr) (lo d:Int) (n:Nat):zNI zsJ (lo+zAb*d) d where
 mem:=dG
 obj:=λi h st b f=>by
  ext vP Id;exact⟨_,st,λv z=>by
   ext OF R z⟩
 keep:=zdz zsn
 item:=by
  intro X B x C A i c s Z H E I q st y;ext zAD d;show(n7,Y,c,H,DS Q,zEy);exact ja (zBc,.int zvd,LZ)
 done:=by
  intro X B x C A i c s Z H E I q st y;ext zAG
 self:=zFe
def xgo (a b:Int):Builtin.Range.rangeSize a b (-1)=(oG,b,a,a-b,0):=by
 unfold Builtin.Range.rangeSize;ext jT dF;simp only[Int.neg_neg,Int.ediv_one];ext kR
def xrm {a b:Int} (ha:-lN<=a) (ha':a<lN) (hb:-lN<=b) (hb':b<lN):Builtin.Range.small a b (-1)=true:=by
 unfold Builtin.Range.small;rw[xgo];simp only[Builtin.Range.rangeFitsLong,Zy,YR,decide_eq_true_eq,beq_iff_eq,(zq,¬ ((eg,-1)>0)),if_false];ext kR
section
variable {X:Cx}{tg:Expr}
def xls {pins:eJ}{Z:St}{H:Hp}{s:Shared}{R:S9}{E:eR}{lo hi d:Int}{n:Nat}{t u v:Tok}{tk:Nat} (I:dI) (sm:Builtin.Range.small lo hi d=true) (sz:Builtin.Range.rangeSize lo hi d=n)
    (q:R zsJ H):zFV (Bk,IA d):=by
  ext zHo sm;have c:yN (Bk,IA d):=I.kept qo;refine⟨121,zpb,[zpb],_,_,⟨66,H,rfl,
    zPO,xo8 _ lo d n,?_,Cq,q⟩⟩
  . show(dw,B,lo+Ay*d=lo,dG,x,(jf n)-Ay=(zLx d),tT sz)
    show IsRangeIter _ _ (lo+Ay*d) ((jf n)-Ay) d;ext fG B x j9
  . ext zEF zpb
noncomputable def x2t (ta:TA):TI:=(Xu,∃ i j d:Int,zFi (E2 iC j d) ((d=1/\R (Itrs i 1 (jX j i)) H1)\/(d=-1/\R (Itrs i (-1) (jX i j)) H1)))
theorem xlo {a b c:Expr}{ta:TA}{p pos:Pos} (hg:zsj) (hm:zsf) (ha:PA X zyr ta) (hs:Pw zyr [AU zcG,AU Po,(AU,tZ c)]:=by rfl) (hs2:Pw [b,c] [AU Po,(AU,tZ c)]:=by rfl) :
    zqa zyr (x2t ta):=by
  show(zRo,f,zRR (Tt (OO f) D J A u));obtain⟨i,j,d,e,⟨u,z,y,x⟩,q⟩:103:=u;ext gc;cases r1 with
  | cons r rr =>
    cases rr with
    | cons r' rr =>
      cases rr with
      | cons r'' rr =>
        ext ztH;ext iL r';ext oD B r'';rcases q with⟨rfl,q⟩|⟨rfl,q⟩
        . show(zJh,small_one u z y x,zlx)
        . show(zJh,xrm u z y x,(by rw[xgo]; ext kR))
#check _
def xh8 {xs:dz}{us:d4} (r:nF) {j:Nat} (h:j<us.toArray.size):∃ x,RV/\RelV x zZi:=by
 show(gL,B,r.length,b,j<xs.length,P7 h)
 show(dA,u,q,f,r.get (x:=U2) (Zb b));show(iF,U2,Zb b);have:zZi=u:=by
  have z:=Zj.mp q;ext Cz v z;simpa using c
 ext dP this f
def xfx {A:Around}{k:Nat} (hr:ET):ztM 3:=jH hr.un
def xbu {A:Around}{k:Nat} (hr:ET):ztM 20:=jH hr.un
def xl6 {X:Cx}:(ztK,∃ a kvs,gf xs o4 L4 (tY kvs.length)):=by
 ext rp c;show(hJ,a,kvs,rfl,e,q,h);ext wO j r;ext qF a j;exact x17 I ziL λ t s' m=>yp vK m LZ
inductive Ents (w:World):gQ zbD eG
 | nil:Ents w [] []
 | cons {k:Key}{x:V}{key val:Value}{h:Int}{es:zbD}{kvs:eG} (hh:h=keyH w k) (hk:RelV (kV k) key) (hv:RelV x val) (r:zYt):Ents w ((dB h key val)::es) (vY::kvs)
noncomputable def xrs (w:World) (K:Zf) (D:Addr) (kvs:eG):Prop:=(ED D)/\∃(es:mr) (ep:Nat),(zMU D ztC)/\Ents w es.toList kvs/\(kvs.map (·.1)).Nodup
theorem Ents.ok {P:Program}{w:World}{es:zbD}{kvs:eG} (h:zYt):∃ vs,tS/\Pairs xN es vs/\∀ e∈es,∃ k,(xN).is k e.key=true/\e.hash=(xN).hash k:=by
 induction h with
 | nil=>show(j5,[],.nil,.nil,λ e z=>nomatch z)
 | @cons k x key val h es kvs hh hk hv _ ih =>
  show(qR,vs,a,b,c,ih,(hB,(k,val)::vs,.cons (hR hv) a,.cons (xd1 hk) rfl b,dC e f));rcases S7 with rfl|z
  .exact (dB,k,xd1 hk,hh)
  .exact c e z
section
variable {X:Cx}{pins:List (Addr × Obj)}{Z:St}{H:Hp}{s:Shared}{D:Addr}{kvs:List (Key × V)}
def xvs (I:dI) (g:zQs):(zij,s.heap.DictOf pA D vs):=by
 obtain⟨_,q,ep,l,u,j⟩:=g;show(eZ,vs,a,b,c,u.ok (P:=X.prog));show(gG,vs,a,⟨GQ,q,ep,I.kIn _ _ l,zrT,rfl,λ e m=>c e Bz,b,?_⟩);show(mL,a.keys,j)
noncomputable def tGIn (kvs:eG) (neg:Bool) (ty:TE):TE:=(zoB,∃ k:Key,zwO/\Q (.bl (zsR zvT)) H1)
def xsb {i:Expr}{ty:TE}{x:Str}{p:Pos} (hi:KR) (hg:vH) (hm:Rz D) (g:zQs) (hd:rM:=by decide):PC X .NotIn i (.Name x p) (tGIn kvs true ty):=by
 ext jd c;show(o3,PZ c,(lI,P,A,y,z,M,B,dY 1062 k J C,thn (xeu (v:=.ref D) hg hm rfl hd c A Z z (λ v H2=>(uU D)/\H2=z) M vq) λ u s2 ⟨1084,x,H2,I2,rx,e1,e2⟩=>?_));subst J e1 e2;ext qF D rx;show(dA,vs,j,L,xvs I2 g);refine wpAny_notIn_of (xd1 B) g.1 L.mapOf ?_;rw[<- (j.val k).isSome_eq];exact(uH,sP,_,I2.tok _,C)
#check _
theorem xiv {ns:eS}{f:Si} (h:∀ j (l:zto),f j=ns[j]):∀ j,(zif j)->preSum f j=(zeW).sum:=by
 intro j
 induction j with
 | zero=>ext Mx
 | succ j ih =>
  intro l;have b:zto:=l;show preSum f j+f j=_;rw[ih (Jw b),h j b,ZC,Zb b,List.sum_append];simp
theorem x0n {ns:eS} (B:Int) (hb:zSa B) (h0:0<=B):-(ns.length*B)<=ns.sum/\ns.sum<=ns.length*B:=by
 induction ns with
 | nil=>simp
 | cons a r ih =>
  have:=ih λ n hn=>hb n (Zm _ hn);have:=hb a Zo;rw[J5,ZF];have e:(jf zdS)*B=r.length*B+B:=by rw[W4,Int.add_mul]; simp
  rw[e]
  lia
inductive x2z (K:Zf) (xs:dz) (H:Hp) (Q:VK):Prop
 | mk (p:Addr) (ns:eS) (e_:xs=[mN]) (r_:SqL K H p zcE/\(ns.length<=1000/\(zSa 1000000))/\(tY ns.sum))
def xe2 {X:Cx} (hc:nh):xcw X (.builtin "sum") (x2z X.K):=by
 ext rp x;obtain⟨p,ns,rfl,hs,⟨C,M⟩,q⟩:=h;ext wO S r;ext qF p S;obtain⟨its,R,⟨o,n,g,c,_,d⟩,_⟩:63:=I.list hs;show(dw,J,IntsAre its ns,xr7 R,B,s.heap.IsList p its.toArray,hB o g c ⟨n,d⟩)
 show(lK,zs,J.allInts.items);have P:ns=zs.toList.map (·.1):=by rw[<- J.numsOf,<- nums_intItems,<- e]
 rw[e] at B;have sz:zs.size=ns.length:=ma P Za Jm
 have v:∀ j (l:zto),numAt zs j=ns[j]:=λ j l=>by
  rw[numAt_eq,<- P];simp[List.getD,l]
 have T:∀ j,(zif j)->InLong (zeW).sum:=λ j l=>by
  have:=x0n 1000000 (ns:=zeW) (λ n hn=>M n (QE hn)) dF;have U:(zeW).length<=1000:=zzn
  unfold InLong
  lia
 refine sum_intList np B (λ j Y=>zhi) (hF h' tk t' hk)
 .rw [v j dk];have:=M ns[j] (JO _);unfold InLong
  lia
 .show(iX,xiv v lG dk,T _ dk)
 .refine (fJ,vK,H,I.kept hk,vD t',?_);rw[sz,xiv v _ eV,Jp];exact q
section
variable {X:Cx}{pins:List (Addr × Obj)}{Z:St}{H:Hp}{s:Shared}{h':Heap}
def Inv.turnedL {t':Nat}{ch:dJ} (I:dI) (k:Ru Gj Bq) (hf:∀ b∈ch,(To H b)):zzM:=by
 have A:AO pH Gj:=λ b u e z=>by
  have:=(hf b z).1;ext GR this
 refine I.step (g':=s.gens) (d':=s.drawn) (ch:=ch) (pY D) (zea j zvn) (zea j ⟨o.slots,zvn⟩) zWl
  (mO j ⟨o,zvn⟩) zdO Ka zLB (dC m C) vx I.bare
 .obtain ⟨R,O,Q,M,K,J⟩:46:=TY;exact fQ M O K J
 .obtain ⟨o,P,ep,B,r⟩:102:=C;show(zwV,P,k _ o (λ z=>(hf _ z).2.1 rfl) B)
 .refine (zth).stay (λ c v j q=>k c v ?_ q) zfC KC;rcases j with z|z
  .show(iX,z,A b u e)
  .exact A c _ z
#check _
def xtx {a b:Nat} (h:GI):(a:Addr)≠(b:Addr):=h
noncomputable def Ite (K:Zf) (a:Addr):It :=
 (zaL,zUy,v,∃ p x,(zwI,zYh,H'=(zii iC)),zJo)
def xt2 {P:Program}{w:World}{K:Zf}{elts:nw}{x1}{tpos:Pos} (e it l:Addr) (hei:e≠it) :
    (zCo,Ite K l,h.IsListIter it l i) where
  mem:=dG
  obj:=λi h st b m=>by
    ext zLO A S;ext HL m;rcases m with rfl|rfl
    . ext zNJ A
    . ext zog S
  keep:=zNG A J ⟨⟨old,k e dG _ A⟩,J.at zPB⟩
  item:=by
    intro X hP hw hK hc i B s Z H E I R st hg;ext zgk;ext mG xs x Q O hg;ext zRL;show(dA,u,hu,ru,U.get O);ext zaf A J;refine wpAny_pyNext_enum_item A J p.isList (x:=u) zRA hei λ h' ho M hT hsz hk=>?_;refine(ja,zKz Sw ho (d8 D ab C));show(dw,ac,tH e,Z3 A,Y,zNo,Qv ac);have kk:(Ru,b∉[e,it],(du,D.get? b,o)):=λb o m g=>by
      ext Xb m;exact (C.2 b m.1).trans (hk b o m.1 m.2 g)
    have I1:zmx B D Sw:=I.turnedL kk R;ext VF;have hp:zFF zYO:=(C.2 _ Y).trans hT;refine⟨85,HK,X1 [iC,x],zpX [zYO,u] iP ru zue,rfl,
      (zuM,x,λ zs hz=>(dH,I.list_inj hz Q,O),n0),?_,pY m⟩
    . show(dO,(iK,by simpa using ab),M.at λ o y=>(C.2 it (Z2 hei)).trans y)
    . obtain⟨o,ho⟩:∃ o,s.heap.get? b=some o:=by
        ext eZ o1 S c1 d1 J;ext HL m;rcases m with rfl|rfl
        . exact iK A
        . exact iK S
      rw[xg (ZU (Z3 ho))];exact (R b m).1
  done:=by
    intro X hP hw hK hc i B s Z H E I R st hg;ext zgk;ext dA xs Q hl hg;ext zRL;have S:=U.length;ext zaf A J;refine wpAny_pyNext_enum_end np A J p.isList qp λ h' O=>zRt (hF b o m g) R
    ext Xb m;exact O b o m.2 g
  self:=zDu
noncomputable def x1z (K:Zf) (ta:TA):TI:=(Xu,∃ a xs,GJ/\O5/\R zgW H1)
section
variable {X:Cx}{elts:List Expr}{x1:_}{tpos:Pos}
def xeg {a:Expr}{ta:TA}{p pos:Pos} (hg:zSV) (hm:zSU) (ha:zdK) (hs:zdE:=by rfl) :
    zNb (x1z X.K ta):=by
  ext zu c;refine Call_ (Ls,PyProof.Rows.Boot.«enumerate»,zjr (Tt ziY x M A Q));ext hJ l xs e Y q Q;ext gc;ext wO P r1;ext qF l P;show(eZ,its,rv,S,U,A.list Y);refine call_enumerate_list S.isList (eI h' D h1 hsz hk);refine QZ (s:=zOP) D ?_;show(n7,I2,c,M,zOP,A.kept (t':=x.toks) hk);show(fV,121,_,[x.heap.objs.size+1,x.heap.objs.size],_,_,(xR,M,I2,xt2 _ _ l (xtx dk),⟨iK D,h1⟩,pY J,q));have y:x.heap.objs.size<=b:=by
    ext HL J;rcases J with rfl|rfl
    . exact Qf _ 1
    . exact Zl _
  exact A.fpOk y (A.hok.fresh y)
#check _
def xg8 {K:Zf}{a:Addr}{xs:dz}{g:TG}{tb:TS}{D:Ends}{Z:St}{H:Hp} (Pv:FN) (h0:Lc) (hl:zLo)
    (hs:∀ i x p Z H,eC B3 uz zY (zyh iC)) (hd:zWP) :
    ∃ W:Nat->Nat->St->Hp->Prop,(∃ m,W 0 m Z H)/\∀ i m Z H,Fh ->
      ((zgW).stop i H/\zW)\/((zgW).go i H/\(Et (Eh,(zgW).yld i H x H',Z,H',σ2,H2,HQ))):=by
  ext zAA v
  . ext zBH c
    show(qG,r,b,z,rfl,j,rfl,y);exact hs i b r Z H (z _ q) j p
  . ext zOk
#check L2
namespace L2
open PySem PySem.Spec PyProof.Rows XL
noncomputable def tMid (t:TS):TS:=(qW,∃ Pv:qK,t zRB Z H/\∀ σ' H',Pv σ' H'->D.nx σ' H')
theorem xe6 {X:Cx}{st:Stmt}{t:TS} (h:zeI):PS X st (tMid t):=by
 intro a s Z H D I q;ext dA Pv c b q;show(o3,h a s Z H zRB I c,uW e i);cases e with
 | next =>
  show(mG,σ',H',f,r,z);exact(fP,σ',H',f,b _ _ r)
 | _=>ext i4
#check L2
namespace XL
open PySem PySem.W
#check XL
namespace L2
open PySem PySem.Spec PyProof.Rows XL
variable {q0:Bool}
#check L2
namespace L2
open PySem PySem.Spec PyProof.Rows XL
#check L2
namespace L2
open PySem PySem.Calls PyProof PyProof.Rows
theorem x2q {x y z:V}{us:d4} (r:AV [x,y,z]):∃ u v w,(nW,us,[u,v,w],sj,zxB,RelV z w):=by
 cases r with
 | cons r1 r2 =>
  cases r2 with
  | cons r3 r4 =>
   cases r4 with
   | cons r5 r6=>cases r6; exact TH _ r1 r3 r5
def xta {X:Cx} (hc:nh):Pq "min" (UK,∃ i j k:Int,xs=[iC,.int j,.int k]/\∀ m:Int,(ft,m<=i,m<=j,m<=k,(sZ,m,i,m,j,m=k),tY m)):=by
 ext rp x;show(Mu,i,j,k,rfl,q,h);obtain⟨u,v,y,rfl,⟨t,rfl⟩,⟨t',rfl⟩,⟨A,rfl⟩⟩:104:=x2q r;refine min_three_ints (I.ok.hd hc) (AY z f);by_cases h1:j<i
 .ext pi h1;by_cases h2:k<j
  .ext zDQ
  .ext lD h2;exact(fJ,.int j,H,zxR,iP,q j dk dk dk (SB rfl))
 .ext lD h1;by_cases h2:k<i
  .ext zDQ
  .ext lD h2;exact(fJ,iC,H,zxR,iP,q i dk dk dk jr)
noncomputable def eU (e:S0) (u:Value):Bool:=match absV u with|some y=>e y|none=>false
def xwn {e:S0}{y:V}{u:Value} (r:j8):eU e u=e y:=by unfold eU; rw[r.abs]
theorem xtw {e:S0}:(zbJ,nF->us.any (eU e)=xs.any e)
 | _,_,.nil=>rfl
 | y::xs,MQ,wW=>by rw[Y7,Y7,xwn r,xtw t]
theorem xqq:(zbJ,nF->∀ u∈us,∃ y∈xs,j8)
 | _,_,.nil=>λ u f=>nomatch f
 | y::xs,MQ,wW=>λ h f=>by
  rcases S7 with rfl|f
  .exact dB y Zo r
  .show(j7,z,q,j,xqq t h f);show(eB,z,Zm _ q,j)
#check L2
namespace PySem.F
#check PySem.F
namespace L2
open PySem PySem.Spec PyProof.Rows XL
variable {q0:Bool}
#check L2
namespace L2
open PySem PySem.Spec PyProof.Rows XL PySem.W
variable {q0:Bool}
def xkn {prog:Program}{w:World}{A:Around}{E:eR}{s:Shared}{a:Addr}{vs:d4}{n:Nat}{P:zXb}
    (h:zFG) (h2:2<=vs.length) (h64:vs.length<64)
    (hk:∀ s':Shared,s'.heap=(((s.heap.update a (Yl zxW)).push (seqObj "tuple" vs.toArray 0)).push (ztF,#[]))->s'={ s with heap:=s'.heap } ->
      (uo zOz (λ κ s''=>s''=s'/\KasT.kasWp (kas_ask prog w A κ vs) (kas_sort vs.length) (λ p s3=>s3=s'/\(zEE zHE)) s'') zk s')) :
    zDE:=by
  ext qv C d K os;ext zsA
  repeat (any_goals (first|ext ii|ext ju))
  have z:¬ vs.toArray.toList.toArray.size>sizeLine:=by
    simp;exact Jw (ZN h64 dF)
  ext jT z;generalize zOz=kk at hk ⊢
  repeat (any_goals (first|ext ii|ext ju))
  have J:=hk (zFk,((zPZ).push (seqObj "tuple" vs.toArray 0)).push (seqObj "list" #[] 0)) rfl rfl;show(Eo,J,uW κ s'');ext sr e z;ext gc;show(Ak,StateT.run (oG,vs.toArray.size,2,pure (),sortRuns') _);ext jT qp;show(eX,(Jr (kat_run (E:=E) (Q:=λ v s'=>∃ p:ia,(dN,p.size=vs.length,arrOf v=QQ (kas_item (vs.toArray.zip vs.toArray)) p,failedOf v=none,s'=_,(zVn (zFk,sortedHeap C a vs zHE)))) rfl h2 h64 (λ p v s' hp' e f B=>eP 65 p hp' e f B.1 B.2) q) (uW r s') Uq));obtain⟨u,st⟩:=r;show(uc,p,H,e,f,rfl,B,z);have al:a<C.objs.size:=Z3 h;have S:(du,(((zPZ).push (seqObj "tuple" vs.toArray 0)).push (seqObj "list" #[] 0)).get? a,zmS):=by
    ext zbu;rw[ztR];have z:((0:Nat) == vs.length)=false:=by
      cases vs with
      | nil=>simp at h2
      | cons=>rfl
    simp[Yl,z]
  have R:(jo (((λ x=>#[]) vs.toArray:oC).size == vs.toArray.size) n iZ)=iZ:=by
    rw[if_neg];simp
    lia
  simp only[R,f];have O:(zwq st)=p.map λ i=>vs.getD i .none:=by
    rw[e,Array.map_map]
    ext me
    funext i;show (kas_item (vs.toArray.zip vs.toArray) i).snd=_;unfold kas_item;by_cases c:i<vs.length
    . simp[AW,c]
    . simp[Jq zou,c]
  simp only[O]
  repeat (any_goals (first|ext ii|ext ju))
  have M:(Yl (λ x=>zJS) zmS).data.pastItsLine=none:=by
    show (if (zJS).size>sizeLine+1 then _ else none)=none;rw[if_neg];rw[Array.size_map,H];have:yg vs.length:=ZN h64 dF
    lia
  rw[M];ext Aa;rw[f];show(oy,MJ (iZ != iZ));ext zgs dG B
def xhg {prog:Program}{w:World}{A:Around}{E:eR}{s:Shared}{it d:Addr}{i ep:Nat}{o:Obj}{es:mr}{en:DictEntry}{Q:Cu}
    (st:s.heap.IsKeyIter it d i es.size ep) (hd:rN) (hx:o.ExactDict) (hdat:nA) (hi:Rt)
    (h:(Mv,h'.IsKeyIter it d dW es.size ep,zUS,Q (some en.key) kJ)):Lx:=by
  ext zAM;have b:=st.typeIs;ext qv M O H L;obtain⟨⟨c,B,C,J⟩,j,q,m⟩:63:=st;ext XY;unfold Builtin.«dict_keyiterator.__next__»
  repeat (any_goals (first|ext ii|(with_reducible refine YH b ?_)|(with_reducible refine Q5 b ?_)|(with_reducible ext tG)|(with_reducible ext tF)|ext ju))
  have v:znQ:=by
    ext fG xJ JS hi
  rw[v]
  repeat (any_goals (first|ext ii|(with_reducible refine YH b ?_)|(with_reducible refine Q5 b ?_)|(with_reducible ext tG)|(with_reducible ext tF)|ext ju))
  ext zCh
def xit {prog:Program}{w:World}{A:Around}{E:eR}{s:Shared}{it d:Addr}{ep:Nat}{o:Obj}{es:mr}{Q:Cu}
    (hA:zbB) (st:s.heap.IsKeyIter it d es.size es.size ep) (hd:rN) (hx:o.ExactDict) (hdat:nA)
    (h:zoV):Lx:=by
  ext zAM;have j:=st.typeIs;ext qv R S M P;obtain⟨⟨c,J,L,O⟩,C,q,m⟩:63:=st;ext XY;unfold Builtin.«dict_keyiterator.__next__»
  repeat (any_goals (first|ext ii|(with_reducible refine YH j ?_)|(with_reducible refine Q5 j ?_)|(with_reducible ext tG)|(with_reducible ext tF)|ext ju))
  have H:(X5 Kg)=none:=by
    rw[xJ,JS];simp
  rw[H]
  repeat (any_goals (first|ext ii|(with_reducible refine YH j ?_)|(with_reducible refine Q5 j ?_)|(with_reducible ext tG)|(with_reducible ext tF)|ext ju))
  ext zjX v
def xnb {prog:Program}{w:World}{A:Around}{E:eR}{s:Shared}{d:Addr}{ep:Nat}{o:Obj}{es:mr}{Q:eR}
    (hs:ziA) (hd:rN) (hx:o.ExactDict) (hdat:nA)
    (h:(zav,X6 "dict_keyiterator" zct)):jh (zem d):=by
  have m:zqP:=dB o hd hx.1
  obtain⟨c,v,B,H⟩:=o;ext jE x1 x2 q hx;simp only at x1 x2 q hdat;subst x1 x2 q hdat;show(zpL,m,F.slot_dict_iter);show(Hj,F.slot_dict_iter,m,F.entry_dict_iter,F.args_dict_iter_1 _);ext qv K L C J;unfold Builtin.«dict.__iter__»
  repeat (any_goals (first|ext ii|(with_reducible refine YT m ?_)|(with_reducible refine ZX hd rfl ?_)|(with_reducible refine Jk hd rfl ?_)|ext ju))
  show(zrk,Yp.lookup)
theorem xpt {prog:Program}{w:World}{d:Addr}{ep:Nat}{o:Obj}{es:mr} (hs:ziA) (hx:o.ExactDict) (hdat:nA) :
    zEm "dict" d en.key yY where
  type:=λ s h=>zYs
  there:=λ h e=>⟨Z3 e,Z3 e⟩
  keep:=λ h h' e k=>k d jr o e
  notList:=dF
  notTuple:=dF
  hint:=λ A E s Q h q=>kdl_hint_dict zYs q
  iter:=λ A s C h=>by
    have J:=Z3 h;show(fV,Ss "dict_keyiterator" zct,λ i h=>h.IsKeyIter s.heap.objs.size d i es.size ep/\yY,λ E Q q=>xnb hs h hx hdat q,?_,zXG,Zk _ h);have dn:d≠s.heap.objs.size:=ZU J;exact {
      sub:=λ b m=>by
        ext zHb
      frame:=(zUf,(Nl).at λ o e=>k _ dG o e)
      item:=λ i s' Q E B st q=>by
        refine xhg Nl He hx hdat (Js B) (zQu,Js B,⟨u,(sb.2 d dn).trans He⟩,zvZ);exact (sb.2 b Bz).trans e
      done:=λ s' Q E st q=>by
        refine xit C Nl He hx hdat λ h' H=>zTG;exact H b o Bz e
      self:=λ i s' Q E st q=>WG st.1 q }
noncomputable def xen:AN Key Key
 | .inl a,.inl b=>gM (a<b)
 | .inr a,.inr b=>gM (a.cps.toList<b.cps.toList)
 | _,_=>false
noncomputable def lexK:AN iB iB
 | [],[]=>false
 | [],eK=>true
 | eK,[]=>false
 | vX,mS=>(jq,x,y,lexK xs ys,xen x y)
noncomputable abbrev shp (k:iB):K0:=k.map Sum.isLeft
def xyo {a b:Str} (h:zJv):oa:=by
 ext zyi;simp at h;rw[h]
theorem xtq (x:Key):(jc,xen x x):=by
 cases x with
 | inl a=>simp[xen]
 | inr a=>exact WH.irrefl a.cps.toList
def xv2 {x y z:Key} (h1:xen x y=true) (h2:xen y z=true):xen x z=true:=by
 cases x<;>cases y<;>cases z<;>simp only[xen,ZJ] at h1 h2
 .show(dy,a,of_decide_eq_true h1,b,of_decide_eq_true h2);show(Pb,Int.lt_trans a b)
 .exact WH.trans _ _ _ h1 h2
theorem xs6 {x y:Key} (hs:x.isLeft=y.isLeft) (ne:x≠y) (h:(jc,xen x y)):xen y x=true:=by
 cases x with
 | inl a =>
  cases y with
  | inl b =>
   show(dw,h',¬ a<b,of_decide_eq_false h,c,GI,λ e=>ne As);show(Pb,(gE,b<a))
  | inr b=>cases hs
 | inr a =>
  cases y with
  | inl b=>cases hs
  | inr b =>
   cases e:xen (.inr b) (.inr a) with
   | true=>rfl
   | false=>show(gz,(jn,xyo (WH.total _ _ h e)),ne)
theorem xor:∀ x:iB,(jc,lexK x x)
 | []=>rfl
 | vX=>by
  unfold lexK;rw[gq];exact xor xs
theorem xp8:∀{x y z:iB},(ft,zUd,shp y=shp z,zVu,lexK y z=true,lexK x z=true)
 | [],[],_,_,_,h,_=>hI
 | [],eK,_,h,_,_,_=>hI
 | eK,[],_,h,_,_,_=>hI
 | eK,eK,[],_,h,_,_=>hI
 | vX,mS,z::zs,h1,h2,h3,h4=>by
  simp only[shp,Zq,Yq.injEq] at h1 h2;unfold lexK at h3 h4 ⊢;by_cases xy:x=y
  .subst xy;rw[gq] at h3;by_cases yz:x=z
   .rw [eD yz] at h4 ⊢;exact xp8 h1.2 h2.2 h3 h4
   .rw [d6 yz] at h4 ⊢;exact h4
  .rw [d6 xy] at h3;by_cases yz:y=z
   .subst yz;ext qV xy h3
   .rw [d6 yz] at h4;have a:=xv2 h3 h4;show(dP,(Cd,e,by ext nS e xtq a a),a)
theorem xnk:∀{x y:iB},(eC,zUd,x≠y,(jc,lexK x y),lexK y x=true)
 | [],[],_,h,_=>qag
 | [],eK,h,_,_=>hI
 | eK,[],h,_,_=>hI
 | vX,mS,h1,h2,h3=>by
  ext znM h1;unfold lexK at h3 ⊢;by_cases xy:x=y
  .subst xy;rw[gq] at h3 ⊢;exact xnk h1.2 (λ e=>h2 As) h3
  .rw [d6 xy] at h3;show(dP,(Cd,e,xy e.symm),xs6 h1.1 xy h3)
theorem xnr {prog:Program}{w:World}{A:Around}{s:Shared}{b:Bool}{Q:B2}:∀(xs ys:iB) (us vs:d4) (i:Nat),(ft,shp xs=shp ys,Vals (xs.map kV) us,Vals (ys.map kV) vs,Q (lexK xs ys) s,KatLex prog w A b false Q (us.zip vs) i s)
 | [],[],_,_,i,_,.nil,.nil,q=>kat_nil q
 | [],eK,_,_,_,h,_,_,_=>hI
 | eK,[],_,_,_,h,_,_,_=>hI
 | vX,mS,_,_,i,h,.cons ru r,.cons rv r',q=>by
  ext znM h;unfold lexK at q;cases x with
  | inl a =>
   cases y with
   | inr c=>cases iA
   | inl c =>
    ext iG ru;ext iL rv;refine kat_cons (wpAny_eqBool_int ?_);ext zSD
    .ext zCB
    .rw [(mD,e (Qu.inj z))] at q;ext jT yZ;cases (b&&i == 0) with
     | true=>exact oneLt_int q
     | false=>exact kat_one _ _ (lt_int q)
  | inr a =>
   cases y with
   | inl c=>cases iA
   | inr c =>
    ext iG ru;ext iL rv;refine kat_cons (wpAny_eqBool_str ?_);ext zSD
    .ext zCB
    .rw [zRp] at q;ext jT yZ;cases (b&&i == 0) with
     | true=>exact oneLt_str q
     | false=>exact kat_one _ _ (lt_str q)
def xmi {prog:Program}{w:World}{A:Around}{E:eR}{s:Shared}{a:Addr}{vs:d4}{n:Nat}{P:zXb}
    (h:zFG) (h2:vs.length<2) (q':zEE vs.toArray) :
    zDE:=by
  ext qv c d B C;rcases vs with _|⟨v,_|⟨q,r⟩⟩
  . ext zsA
    repeat (any_goals (first|ext ii|ext ju))
    show(oy,(pure (QT,SortSt.mk' general' ((zxl).zip #[]) #[] 7 none)));ext Aa;have b:(zwq (SortSt.mk' general' ((zxl).zip #[]) #[] 7 none))=#[]:=by
      show QQ zuz ((zxl).zip #[])=#[];simp
    simp only[b];have j:(du,(((zPY).push (seqObj "tuple" #[] 0)).push (seqObj "list" #[] 0)).get? a,seqObj "list" #[] (n)):=by
      ext zbu;rw[ztR];rfl
    show(Ak,seqEpoch a)
    repeat (any_goals (first|ext ii|ext ju))
  . ext zsA
    repeat (any_goals (first|ext ii|ext ju))
    show(oy,(pure (QT,SortSt.mk' general' ((zyO).zip Hf) #[] 7 none)));ext Aa;have b:(zwq (SortSt.mk' general' ((zyO).zip Hf) #[] 7 none))=Hf:=by
      show QQ zuz ((zyO).zip Hf)=Hf;simp
    simp only[b];have j:(du,(((zPY).push (seqObj "tuple" Hf 0)).push (seqObj "list" #[] 0)).get? a,zmS):=by
      ext zbu;rw[ztR];rfl
    show(Ak,seqEpoch a)
    repeat (any_goals (first|ext ii|ext ju))
  . simp at h2
    lia
theorem xhh {α:Type} (f:α->Addr):∀(es:fc),Vals (es.map zSL) (es.map λ x=>Zw (f x))
 | []=>.nil
 | wc=>.cons rfl (xhh f r)
theorem x0s {H:Hp}{kvs:gJ}{es:qu} (h:KT H kvs es):(∀ x∈es,(eO fj (.tup ((dM).map kV))))/\es.map (·.1)=kvs.map (·.1):=by
 induction h with
 | nil=>show(dO,m9,rfl)
 | @cons p x kvs es hp r ih =>
  ext Ff b i hp;show(gR,dC y f,by rw[Zq,Zq,ih.2,b]);rcases S7 with rfl|z
  .rw [<- b];exact i
  .exact ih.1 y z
theorem xsk {P:Program}{w:World}{H:Hp}{h:Heap} (ok:qO) {b:Bool}{sh:K0}:∀(es:qu),(∀ x∈es,(eO fj (.tup ((dM).map kV))))->(∀ x∈es,shp dM=b::sh) ->
    ∃ fs,KatTups h (es.map λ x=>Zw fj) fs/\fs.length=es.length/\∀ v∈fs,(wn,∃ i t,v=Qr i t,∃ i t,v=We i t)
  | [],_,_=>⟨63,[],KatTups.nil,rfl,m9⟩
  | x::es,h1,h2=>by
    show(eZ,fs,k,l,m,xsk ok es (GT,h1 y (Zm _ hy)) (λ y hy=>h2 y (Zm _ hy)));obtain⟨K,M,A,O,D,J,Q,I⟩:=ok fj _ (h1 x Zo);have f:=h2 x Zo;obtain⟨B,a1,L⟩:=x;cases B with
    | nil=>cases f
    | cons k0 kr =>
      ext znM f;simp only[Zq] at A;cases A with
      | @cons _ u _ us ru rr =>
        refine(hB,u::fs,KatTups.cons D J I dG k,ie l,dC v C);rcases Zu.mp C with rfl|r
        . cases k0 with
          | inl i =>
            ext iG ru;rw[eD (BQ b f.1.symm)];ext oS i t
          | inr i =>
            ext iG ru;show(jT,show ¬ Ue by rw[<- f.1]; simp);ext oS i t
        . exact m v r
def xlv {X:Cx}{pins:eJ}{Z:St}{H:Hp}{s:Shared}{h1:Heap}{tk:Nat}{Q:VK}{sh:K0} (es':qu) (I1:yN zhG)
    (hl:es'.length<64) (km:∀ x∈es',(eO fj (.tup ((dM).map kV)))) (shE:∀ x∈es',shp dM=sh) (hpos:zdi) (hnd:(List.map (λ x=>x.fst) es').Nodup)
    (q:∀(l:Addr) (ts:Ph),mM->zId->(ts.map (·.1)).Pairwise zeB->zky) :
    (zAu,newList (es'.map ztV)):=by
  show(dw,hz,gY es'.length,Jw (ZN hl dF),R,Vals (es'.map zYN) Bn,xhh (λ x=>fj) es');show(zGO,R,lS hz,lS hz);show(dw,fr,zRw,I1.fresh,gl,(du,(zyF).get? h1.objs.size,ztF zuA),j9);show(LK,Jy slot_list_sort (iJ gl) entry_list_sort ?_ zTb);show(dy,J1,I2.lset (l:=h1.objs.size) (its:=Bn) (its':=[]) (ys:=[]) (f:=zfY) (t':=tk) xi gl rfl .nil lW,J2,J1.kept (t':=tk) (h':=(((zyF).update h1.objs.size (Yl zfY)).push (seqObj "tuple" zuA 0)).push (seqObj "list" #[] 0)) (gC zcb));obtain⟨z9,U,n9,r9,ad,e9⟩:=J2.lstM xi;have done:∀(ts:Ph),zId->(ts.map (·.1)).Pairwise zeB ->
      (RS (.ref h1.objs.size) (Bk,sortedHeap zyF h1.objs.size Bn (znw).toArray)):=by
    intro ts pm pw;have tl:ts.length=es'.length:=Ds pm.length_eq
    have J3:=J2.lset (l:=h1.objs.size) (its:=U) (its':=znw) (ys:=ts.map λ t=>V.ref va) (f:=λ_=>(znw).toArray) (t':=tk) xi e9 rfl (xhh (λ t=>va) ts) (kc Za tl hz);rw[xd9,xd9] at J3;exact(Nd,h1.objs.size,_,J3,q _ ts fr pm pw)
  by_cases few:es'.length<2
  . refine xmi gl (lS few) (ja,Zp qJ)
    have:=done (es'.map λ x=>zhE) RP ?_
    . ext eW Zr this this
    . match es',few with
      | [],_=>ext pU
      | [x],_=>exact zIp
      | _::eK,h=>ext gz h dG
  . refine xkn gl xP (lS hl) (d8 s' ac aa)
    obtain⟨b,S,rfl⟩:∃ b S,sh=b::S:=by
      cases sh with
      | nil=>simp at hpos
      | cons b r=>ext oS b r
    rw[ac] at aa;subst aa;have O:∀ x∈es',(C6 (i5 h1.objs.size (.lst (es'.map zYN))) h1.objs.size zha fj (.tup ((dM).map kV))):=λx hx=>by
      rw[zQB,zQB];exact km x hx
    show(eZ,fs,kt,fl,fm,xsk J2.hok es' O shE);have Y:2<=es'.length:=dk
    refine kat_kind (T:=(wn,om "int",om "str")) kt dk (dC v hv) (zuS b) FP
    . have z:=fm v hv
      cases b with
      | true =>
        show(zEL,"int")
      | false =>
        show(zEL,"str")
    rw[Za];have J:∀ i,Kf->(dX es' Ez):=λ i B=>by
      rw[JM,Zb B];rfl
    have eM:∀ i,Kf->Ez∈es':=λ i B=>Zi (J i B);have K:∀ i,Kf->(jQ,(Bn).getD i .none,eE Ez):=λ i B=>by
      rw[JM,Zd,J i B];rfl
    have I:∀ i j,Kf->j<es'.length->shp (Ez).1=shp zQD:=λ i j B C=>(fC,shE _ (eM i B),shE _ (eM j C))
    refine Srt.sort_wp (lt:=λ i j=>lexK (Ez).1 zQD) (dB,λ i B=>xor _,λ i j k B C hk=>xp8 zev (I j k C hk),λ i j B C ne=>xnk zev λ e=>ne ?_) (λ i j B C Q' q'=>?_) Y λ p arr srt=>(uX,rfl,Zp qJ)
    . have e1:(es'.map (·.1))[i]?=(es'.map (·.1))[j]?:=by rw[Zd,Zd,J i B,J j C]; exact congrArg some e
      exact (List.getElem?_inj (lS B) hnd).mp e1
    . show(oy,keyLt' _ ((Bn).getD i .none) ((Bn).getD j .none))
      rw[K i B,K j C];obtain⟨_,ti,ri,oi,ei,_,ni,di⟩:=J2.hok _ _ (O _ (eM i B));obtain⟨_,tj,rj,oj,ej,_,nj,dj⟩:=J2.hok _ _ (O _ (eM j C));have l1:=Vals.length ri;show(dy,l2,Vals.length rj,l3,yq zev);simp only[Za] at l1 l2 l3;refine kat_lt ei di ej dj ?_;show(dP,wH qp,xnr _ _ _ _ 0 zev ri rj q')
    have pl:∀ i∈p.toList,Kf:=λ i B=>by
      show(GD,(Array.Perm.mem_iff arr.pm).mp (Array.mem_toList_iff.mp B))
    have:=done (p.toList.map λ i=>zqc) ?_ ?_
    . rw[Zr] at this
      have e2:(p.map λ i=>(Bn).getD i .none)=(p.toList.map ((λ t:iB × Addr=>Zw va)∘λ i=>zqc)).toArray:=by
        rw[<- Array.toList_inj,Array.toList_map];exact ZT λ i B=>K i (pl i B)
      ext dP e2 this
    . have e3:(es'.map λ x=>zhE)=(Zv es'.length).map λ i=>zqc:=by
        refine Q0 (gO i);by_cases c:Kf
        . rw[Zd,J i c,Zd,ZW c]
          rfl
        . rw[Jq xP,Jq qp]
      rw[e3];refine JU.map _ ?_;show(GD,Array.Perm.toList arr.pm)
    . rw[Zr,Z5,JP]
      intro i j B C ab;have z:=srt i j ab (by rw[<- arr.sz]; simpa using C);show(dw,gi,Srt.g p i=p.toList[i],zJl B,gj,Srt.g p j=p.toList[j],zJl C);ext FA gi gj
inductive xv9 (xs:dz) (H:Hp) (Q:VK):Prop
 | mk (d:Addr) (kvs:gJ) (sh:K0) (e_:xs=[qU]) (r_:LY/\kvs.length<64/\(∀ p∈kvs,shp eA=sh)/\zdi/\∀(l:Addr) (ts:Ph),mM->(∀ t∈ts,(eO va (.tup (t.1.map kV))))->(ts.map (·.1)).Perm (kvs.map (·.1))->(ts.map (·.1)).Pairwise zeB->zky)
def xm7 {X:Cx} (hc:nh):zwv xv9:=by
 ext rp J;obtain⟨d,kvs,sh,rfl,hd,hl,U,O,q⟩:=h;ext zoc;obtain⟨z,M,⟨y,D,dd⟩⟩:43:=xjt I.hok hd;obtain⟨o,es,ep,ho,K,S,P,ab,Y⟩:106:=dd;have ln:=Yf D;have C:es.size=y.length:=by rw[<- Jm,P,Za]
 show(zmu,(kdu_collect (xpt M K S) np ho (by rw[C,<- ln]; ext i4) (eI h1 tk A keep B)));have aa:A.toList=y.map ztV:=by
  ext zwr;obtain⟨i1,i2⟩:=B;by_cases c:j<y.length
  .show(dw,c',j<A.size,kc i1 C c,e,(gU,A,A[j]),Js c');show(dA,en,he,hv,i2 j A[j] e);rw[Jj,e,hv];have R:gU es.toList en:=dH Jj he
   rw[P,Zd,AW] at R;rw[Zd,AW];have:=ZM.inj R;rw[<- this];rfl
  .rw [Jq (by rw[Jm,i1,C]; lia),Jq xP]
 rw[aa];ext n7 I1 J H zhG zdh;obtain⟨km,ke⟩:=x0s D;have T:∀ x∈y,shp dM=sh:=λ x K=>by
  have m:dM∈kvs.map (·.1):=by rw[<- ke]; show(sF,A9 K)
  show(dA,p,hp,e,Zc.mp m);rw[<- e];exact U p hp
 refine xlv y I1 (gF ln hl) km T O Y λ l ts fr pm pw=>q l ts fr zvh ?_ pw
 .show(mU,x,K,Zc.mp (pm.mem_iff.mp ht));exact km x K
 .have:=pm.map (·.1);rw[Zr] at this;ext mL ke this
inductive xix (xs:dz) (H:Hp) (Q:VK):Prop
 | mk (d:Addr) (ts0:Ph) (sh:K0) (e_:xs=[qU]) (r_:(wh (.lst (ts0.map λ t=>.ref va)))/\ts0.length<64/\(∀ t∈ts0,(eO va (.tup (t.1.map kV))))/\(∀ t∈ts0,shp t.1=sh)/\zdi/\(ts0.map (·.1)).Nodup/\∀(l:Addr) (ts:Ph),mM->ts.Perm ts0->(ts.map (·.1)).Pairwise zeB->zky)
theorem xld {α:Type} (f:α->Addr):∀{es:fc}{us:d4},Vals (es.map zSL) us->us=es.map λ x=>Zw (f x)
 | [],_,.nil=>rfl
 | x::es,_,zum=>by
  cases r;rw[xld f rs];rfl
def xhw {X:Cx} (hc:nh):zwv xix:=by
 ext rp B;obtain⟨d,j,sh,rfl,hd,S,km,O,C,P,q⟩:=h;ext zoc;obtain⟨z,its,n,Y,R,el⟩:=I.lstM hd;have v:=xld (λ t:iB × Addr=>va) Y;show(zmu,(zCv (by rw[Z6,v,Za]; exact Jw (ZN S dF))));have I1:zmx B h1 s.toks:=zdh;have e0:its.toArray.toList=(zJW).map ztV:=by
  rw[Zr,v];rfl
 rw[e0];refine xlv zJW I1 (lS S) (sY J) (sY J) C (dH Zr P) λ l U fr D pw=>q l U fr ?_ pw
 .show(mU,t,K,Zc.mp J);exact km t K
 .show(mU,t,K,Zc.mp J);exact O t K
 .rw [Zr] at D;have e1:j.map ((λ x:iB × EB=>zhE)∘λ t=>(t.1,va,JJ))=j:=YF _;ext eW e1 D D
theorem xk0 {κ:Type} [wF]:∀{kvs:je}{k:κ}{v:V},(du tK v)->∃ i:Nat,dX kvs (k,v)
 | [],k,v,h=>hI
 | wb,k,v,h=>by
  ext KL
  .ext j4 GM;cases h;show(dO,0,by simp[<- e])
  .ext j4 AM;show(vj,i,a,xk0 h,dW,zph)
#check L2
namespace L2
open PySem PySem.Spec PyProof.Rows XL PySem.W
inductive DV where
 | non
 | bl (b:Bool)
 | int (i:Int)
 | str (x:Str)
 | tup (xs:xM)
 | lst (xs:xM)
mutual
def dEq:DV->DV->Bool
 | .non,.non=>true
 | .bl a,.bl b=>a == b
 | .bl a,.int b=>(if a then 1 else 0) == b
 | .int a,.bl b=>a == (if b then 1 else 0)
 | .int a,.int b=>a == b
 | .str a,.str b=>a == b
 | .tup xs,.tup ys=>dEqs xs ys
 | .lst xs,.lst ys=>dEqs xs ys
 | _,_=>false
def dEqs:List DV->List DV->Bool
 | [],[]=>true
 | x::xs,y::ys=>dEq x y&&dEqs xs ys
 | _,_=>false
end
mutual
theorem xbv:∀ d,dEq d d=true
 | .non=>rfl
 | .bl _=>by simp[dEq]
 | .int _=>by simp[dEq]
 | .str _=>by simp[dEq]
 | .tup xs=>by simp only[dEq]; exact xe3 xs
 | .lst xs=>by simp only[dEq]; exact xe3 xs
theorem xe3:∀ xs,dEqs xs xs=true
 | []=>rfl
 | x::xs=>by simp only[dEqs,Zy]; exact⟨xbv x,xe3 xs⟩
end
mutual
def DV.pl:DV->Bool
 | .bl _=>false
 | .tup xs=>pls xs
 | .lst xs=>pls xs
 | _=>true
def pls:List DV->Bool
 | []=>true
 | x::xs=>x.pl&&pls xs
end
mutual
theorem xs9:∀{d e:DV},d.pl=true->e.pl=true->dEq d e=true->d=e
 | .non,.non,_,_,_=>rfl
 | .int a,.int b,_,_,h=>by simp only[dEq,beq_iff_eq] at h; rw[h]
 | .str a,.str b,_,_,h=>by simp only[dEq,beq_iff_eq] at h; rw[h]
 | .tup xs,.tup ys,p,q,h=>by
  simp only[dEq] at h;simp only[DV.pl] at p q;rw[xk3 p q h]
 | .lst xs,.lst ys,p,q,h=>by
  simp only[dEq] at h;simp only[DV.pl] at p q;rw[xk3 p q h]
 | .bl _,_,p,_,_=>by simp[DV.pl] at p
 | .non,.bl _,_,q,_=>by simp[DV.pl] at q
 | .int _,.bl _,_,q,_=>by simp[DV.pl] at q
 | .str _,.bl _,_,q,_=>by simp[DV.pl] at q
 | .tup _,.bl _,_,q,_=>by simp[DV.pl] at q
 | .lst _,.bl _,_,q,_=>by simp[DV.pl] at q
 | .non,.int _,_,_,h=>by simp[dEq] at h
 | .non,.str _,_,_,h=>by simp[dEq] at h
 | .non,.tup _,_,_,h=>by simp[dEq] at h
 | .non,.lst _,_,_,h=>by simp[dEq] at h
 | .int _,.non,_,_,h=>by simp[dEq] at h
 | .int _,.str _,_,_,h=>by simp[dEq] at h
 | .int _,.tup _,_,_,h=>by simp[dEq] at h
 | .int _,.lst _,_,_,h=>by simp[dEq] at h
 | .str _,.non,_,_,h=>by simp[dEq] at h
 | .str _,.int _,_,_,h=>by simp[dEq] at h
 | .str _,.tup _,_,_,h=>by simp[dEq] at h
 | .str _,.lst _,_,_,h=>by simp[dEq] at h
 | .tup _,.non,_,_,h=>by simp[dEq] at h
 | .tup _,.int _,_,_,h=>by simp[dEq] at h
 | .tup _,.str _,_,_,h=>by simp[dEq] at h
 | .tup _,.lst _,_,_,h=>by simp[dEq] at h
 | .lst _,.non,_,_,h=>by simp[dEq] at h
 | .lst _,.int _,_,_,h=>by simp[dEq] at h
 | .lst _,.str _,_,_,h=>by simp[dEq] at h
 | .lst _,.tup _,_,_,h=>by simp[dEq] at h
theorem xk3:∀{xs ys:List DV},pls xs=true->pls ys=true->dEqs xs ys=true->xs=ys
 | [],[],_,_,_=>rfl
 | x::xs,y::ys,p,q,h=>by
  simp only[pls,Zy] at p q;simp only[dEqs,Zy] at h;rw[xs9 p.1 q.1 h.1,xk3 p.2 q.2 h.2]
 | [],_::_,_,_,h=>by simp[dEqs] at h
 | _::_,[],_,_,h=>by simp[dEqs] at h
end
theorem xh0 {d e:DV}{α:Type}{x y:α} [Iw] (p:d.pl=true) (q:e.pl=true) (f:d=e↔x=y):sN FI (x=y):=by
 by_cases c:x=y
 .rw [decide_eq_true c,f.mpr c];exact xbv _
 .rw [decide_eq_false c];cases z:FI with
  | false=>rfl
  | true=>exact absurd (f.mp (xs9 p q z)) c
theorem xjg:∀{xs ys:xM}{e:KZ},(zLH,e j=zzt)->((Zv (min xs.length ys.length)).all e&&xs.length == ys.length)=zub
 | [],[],_,_=>rfl
 | [],eK,_,_=>ie dEqs
 | eK,[],_,_=>ie dEqs
 | vX,mS,e,h=>by
  show(dy,f,xjg (xs:=xs) (ys:=ys) (e:=λ j=>e lG) (λ j a b ha hb=>h lG a b (by simpa using ha) D4),i,h 0 x y rfl rfl);rw[ZF,ZF,(gE,min ztr (ys.length+1)=min xs.length ys.length+1),YM,Ql,List.all_map];show _=(zzt&&zub)
  rw[<- f,i];have z:((ztr == ys.length+1):Bool)=(xs.length == ys.length):=by
   ext UQ
  rw[z,Bool.and_assoc];rfl
theorem xm4:∀{xs ys:xM},xs.length≠ys.length->dEqs xs ys=false
 | [],[],h=>qag
 | [],eK,_=>rfl
 | eK,[],_=>rfl
 | vX,mS,h=>by
  show jc (zzt&&zub);rw[xm4 (xs:=xs) (ys:=ys) (λ z=>h (ie z))];exact YB _
inductive Dv (K:Zf) (H:Hp):Nat->(gQ V DV)
 | non {n:Nat}:m4 n .non .non
 | bl {n:Nat}{b:Bool}:m4 n yl yl
 | int {n:Nat}{b:Int}:m4 n ziS ziS
 | str {n:Nat}{b:Str}:m4 n Uu Uu
 | tup {n:Nat}{a:Addr}{xs:dz}{ds:xM} (ha:Pk) (hl:zOD) (h:zDt):m4 iZ eQ (.tup ds)
 | lst {n:Nat}{a:Addr}{xs:dz}{ds:xM} (ha:zn) (hl:zOD) (h:zDt):m4 iZ eQ (.lst ds)
section
variable {X:Cx}{pins:List (Addr × Obj)}{Z:St}{H:Hp}{s:Shared}
def xlj {h:Heap}{a:Addr}{i j:oC} (p:h.IsTuple a i) (q:PlainL h a j):False:=by
 ext vo o e c p;obtain⟨m,n,b,f,_⟩:83:=q;ext fe e b b;rw[c] at f;ext gz f dF
def xt6 {xs ys:xM} (h:zOE) (f:(zLH,x=y)):xs=ys:=by
 ext zwr;by_cases c:j<xs.length
 .rw [AW,U4,f j _ _ AW U4]
 .rw [Jq dk,Jq dk]
theorem xob (I:dI) {n:Nat}{x:V}{d:DV} (h:zVG):∀{m:Nat}{e:DV},(RZ x)->d=e:=by
 induction h with
 | non=>ext zbt
 | bl=>ext zbt
 | int=>ext zbt
 | str=>ext zbt
 | @tup n a xs ds ha hl h ih =>
  intro m e b;cases b with
  | @tup m _ ys es hb kl k =>
   show(AR,I.tuple_inj ha hb);refine congrArg DV.tup (xt6 dk zVC);have lt:j<xs.length:=by
    show(gV,(Zj.mp f).1)
   exact ih j U2 d mV f zXy
  | @lst m _ ys es hb kl k =>
   show(zCA,I.tuple ha,I.list hb)
 | @lst n a xs ds ha hl h ih =>
  intro m e b;cases b with
  | @lst m _ ys es hb kl k =>
   show(AR,I.list_inj ha hb);refine congrArg DV.lst (xt6 dk zVC);have lt:j<xs.length:=by
    show(gV,(Zj.mp f).1)
   exact ih j U2 d mV f zXy
  | @tup m _ ys es hb kl k =>
   show(zCA,I.tuple hb,I.list ha)
noncomputable def at2 (f:AN DV DV) (ds es:xM) (j:Nat):Bool:=match ds[j]?,es[j]? with|some d,some e=>f d e|_,_=>false
def xjo {f:AN DV DV}{ds es:xM}{j:Nat}{d e:DV} (h:gU ds d) (h2:gU es e):at2 f ds es j=f d e:=by
 unfold at2;rw[h,h2]
theorem xrl (I:dI) {n:Nat}{x:V}{d:DV} (h:zVG):∀{m:Nat}{y:V}{e:DV},(RZ y)->∀{A:Around}{u v:Value},A.units+n+m<cLine->sj->zxB ->
    Z8 A s u v FI/\ZS A s u v FI/\ZG A s u v (! FI):=by
  induction h with
  | @non n =>
    ext N3;show(jz,u=JJ,P);cases M with
    | @non  =>
      show(IJ,Z8.same _,ZS.none_none,ZG.none_none)
    | @bl _ b2 =>
      show(HV,Z8.none_bool _,ZS.none_bool _,ZG.none_bool _)
    | @int _ b2 =>
      show(tu,Z8.none_int _ _,ZS.none_int _ _,ZG.none_int _ _)
    | @str _ b2 =>
      show(tu,Z8.none_str _ _,ZS.none_str _ _,ZG.none_str _ _)
    | @tup m b ys es hb kl k =>
      show(Nu,Z8.none_tuple C dk,ZS.none_tuple C dk,ZG.none_tuple C dk)
    | @lst m b ys es hb kl k =>
      show(Nv,Z8.none_list C.isList dk,ZS.none_list C.isList dk,ZG.none_list C.isList dk)
  | @bl n b1 =>
    ext N3;show(jz,u=YI _,P);cases M with
    | @non  =>
      show(IJ,Z8.bool_none _,ZS.bool_none _,ZG.bool_none _)
    | @bl _ b2 =>
      show(HV,Z8.bool_bool _ _,ZS.bool_bool _ _,ZG.bool_bool _ _)
    | @int _ b2 =>
      show(tu,Z8.bool_int _ _ _,ZS.bool_int _ _ _,ZG.bool_int _ _ _)
    | @str _ b2 =>
      show(tu,Z8.bool_str _ _ _,ZS.bool_str _ _ _,ZG.bool_str _ _ _)
    | @tup m b ys es hb kl k =>
      show(Nu,Z8.bool_tuple _ C dk,ZS.bool_tuple _ C dk,ZG.bool_tuple _ C dk)
    | @lst m b ys es hb kl k =>
      show(Nv,Z8.bool_list _ C.isList dk,ZS.bool_list _ C.isList dk,ZG.bool_list _ C.isList dk)
  | @int n b1 =>
    ext zSR;cases M with
    | @non  =>
      show(IJ,Z8.int_none _ _,ZS.int_none _ _,ZG.int_none _ _)
    | @bl _ b2 =>
      show(HV,Z8.int_bool _ _ _,ZS.int_bool _ _ _,ZG.int_bool _ _ _)
    | @int _ b2 =>
      show(tu,Z8.int_int _ _ _ _,ZS.int_int _ _ _ _,ZG.int_int _ _ _ _)
    | @str _ b2 =>
      show(tu,Z8.int_str _ _ _ _,ZS.int_str _ _ _ _,ZG.int_str _ _ _ _)
    | @tup m b ys es hb kl k =>
      show(Nu,Z8.int_tuple _ _ C dk,ZS.int_tuple _ _ C dk,ZG.int_tuple _ _ C dk)
    | @lst m b ys es hb kl k =>
      show(Nv,Z8.int_list _ _ C.isList dk,ZS.int_list _ _ C.isList dk,ZG.int_list _ _ C.isList dk)
  | @str n b1 =>
    ext zSR;cases M with
    | @non  =>
      show(IJ,Z8.str_none _ _,ZS.str_none _ _,ZG.str_none _ _)
    | @bl _ b2 =>
      show(HV,Z8.str_bool _ _ _,ZS.str_bool _ _ _,ZG.str_bool _ _ _)
    | @int _ b2 =>
      show(tu,Z8.str_int _ _ _ _,ZS.str_int _ _ _ _,ZG.str_int _ _ _ _)
    | @str _ b2 =>
      show(tu,Z8.str_str _ _ _ _,ZS.str_str _ _ _ _,ZG.str_str _ _ _ _)
    | @tup m b ys es hb kl k =>
      show(Nu,Z8.str_tuple _ _ C dk,ZS.str_tuple _ _ C dk,ZG.str_tuple _ _ C dk)
    | @lst m b ys es hb kl k =>
      show(Nv,Z8.str_list _ _ C.isList dk,ZS.str_list _ _ C.isList dk,ZG.str_list _ _ C.isList dk)
  | @tup n a xs ds ha hl h ih =>
    ext N3;show(qF,_,P);show(eZ,its,r1,J,R,I.tuple ha);have l1:=r1.length;cases M with
    | @non  =>
      show(IJ,Z8.tuple_none J dk,ZS.tuple_none J dk,ZG.tuple_none J dk)
    | @bl _ b2 =>
      show(HV,Z8.tuple_bool _ J dk,ZS.tuple_bool _ J dk,ZG.tuple_bool _ J dk)
    | @int _ b2 =>
      show(tu,Z8.tuple_int _ _ J dk,ZS.tuple_int _ _ J dk,ZG.tuple_int _ _ J dk)
    | @str _ b2 =>
      show(tu,Z8.tuple_str _ _ J dk,ZS.tuple_str _ _ J dk,ZG.tuple_str _ _ J dk)
    | @tup m b ys es hb kl k =>
      ext zcK;show(eZ,B,r2,C,O,I.tuple hb);have Q:=r2.length;have step:zBh qbe zTv:=λ j h1 M=>by
        ext zAq
      have all:=xjg (xs:=ds) (ys:=es) (e:=at2 dEq ds es) λj x y h1 M=>xjo h1 M;have both:ZS A s (.ref a) (.ref b) (dEqs ds es)/\ZG A s (.ref a) (.ref b) (!dEqs ds es):=by
        show(dy,R,ZS.tuples (A:=A) (e:=IT) (zSF its.toArray J) zEs dk step,O,ZG.tuples (A:=A) (e:=IT) (zSF its.toArray J) zEs dk step);ext zBN
        rw[e1,e2,all] at R O;ext dO R O
      simp only[dEq];refine⟨?_,both⟩;by_cases q:a=b
      . subst q
        have ed:DV.tup ds=DV.tup es:=xob I (Dv.tup ha hl h) (Dv.tup hb kl k);ext zBT
      . ext zVT
    | @lst m b ys es hb kl k =>
      show(Nv,Z8.tuple_list J C.isList dk,ZS.tuple_list J C.isList dk,ZG.tuple_list J C.isList dk)
  | @lst n a xs ds ha hl h ih =>
    ext N3;show(qF,_,P);show(eZ,its,r1,J,R,I.list ha);have l1:=r1.length;cases M with
    | @non  =>
      show(IJ,Z8.list_none J.isList dk,ZS.list_none J.isList dk,ZG.list_none J.isList dk)
    | @bl _ b2 =>
      show(HV,Z8.list_bool _ J.isList dk,ZS.list_bool _ J.isList dk,ZG.list_bool _ J.isList dk)
    | @int _ b2 =>
      show(tu,Z8.list_int _ _ J.isList dk,ZS.list_int _ _ J.isList dk,ZG.list_int _ _ J.isList dk)
    | @str _ b2 =>
      show(tu,Z8.list_str _ _ J.isList dk,ZS.list_str _ _ J.isList dk,ZG.list_str _ _ J.isList dk)
    | @tup m b ys es hb kl k =>
      show(Nu,Z8.list_tuple J.isList C dk,ZS.list_tuple J.isList C dk,ZG.list_tuple J.isList C dk)
    | @lst m b ys es hb kl k =>
      ext zcK;show(eZ,B,r2,C,O,I.list hb);have Q:=r2.length;have step:zBh qbe zTv:=λ j h1 M=>by
        ext zAq
      have all:=xjg (xs:=ds) (ys:=es) (e:=at2 dEq ds es) λj x y h1 M=>xjo h1 M;have both:ZS A s (.ref a) (.ref b) (dEqs ds es)/\ZG A s (.ref a) (.ref b) (!dEqs ds es):=by
        ext zBN
        by_cases c:ds.length=es.length
        . show(dy,R,ZS.lists (A:=A) (e:=IT) J.isList C.isList dk dk step,O,ZG.lists (A:=A) (e:=IT) J.isList C.isList dk dk step);have aa:(Zv ds.length).all IT=zux:=by
            rw[<- all,c,Nat.min_self];simp
          rw[e1,aa] at R O;ext dO R O
        . rw[xm4 c]
          show(dO,ZS.lists_lengths (A:=A) J.isList C.isList zIH dk,ZG.lists_lengths (A:=A) J.isList C.isList zIH dk)
      simp only[dEq];refine⟨?_,both⟩;by_cases q:a=b
      . subst q
        have ed:DV.lst ds=DV.lst es:=xob I (Dv.lst ha hl h) (Dv.lst hb kl k);ext zBT
      . ext zVT
#check _
def Same.seqL {K:Zf}{H H':Hp}{a:Addr}{xs:dz} (s:fZ) (h:zn):zYQ:=by
 rcases h with (h|⟨ob,h⟩)|h
 .ext RE zhS
 .show(KJ,GE zhS)
 .ext hX h
inductive rEqV (K:Zf) (x:V) (y:V) (H:Hp) (Q:VK):Prop
 | mk (n m:Nat) (d e:DV) (e_:zdT) (r_:zlA e FI)
inductive rNeV (K:Zf) (x:V) (y:V) (H:Hp) (Q:VK):Prop
 | mk (n m:Nat) (d e:DV) (e_:zdT) (r_:zlA e (! FI))
inductive rInV (K:Zf) (neg:Bool) (x:V) (y:V) (H:Hp) (Q:VK):Prop
 | mk (n m:Nat) (d:DV) (es:xM) (e_:zdT) (r_:zlA (.lst es) (zsR zMp))
section
variable {X:Cx}
def xjz (hu:XV):OpR X (compareOp .Eq) (rEqV X.K):=by
 intro a s Z H x y u v Q I f c h;obtain⟨n,m,d,e,z,j,B,C,q⟩:=h;exact (xrl I z j (A:=X.A) dk f c).2.1 X.prog X.w X.xe _ zYu
def xdw (hu:XV):OpR X (compareOp .NotEq) (rNeV X.K):=by
 intro a s Z H x y u v Q I z j h;obtain⟨n,m,d,e,C,B,D,J,q⟩:=h;exact PySem.W.cmp_ofNotEq ((xrl I C B (A:=X.A) dk z j).2.2 X.prog X.w X.xe _ zYu)
theorem xts {α β:Type}{f:Fy}{g:β->Bool}:∀{xs:fc}{ys:FR},zOE->(∀(j:Nat) (x:α) (y:β),RV->zfb->f x=g y)->xs.any f=ys.any g
 | [],[],_,_=>rfl
 | [],eK,h,_=>hI
 | eK,[],h,_=>hI
 | vX,mS,h,k=>by
  rw[Y7,Y7,k 0 x y rfl rfl,xts (xs:=xs) (ys:=ys) tE λ j a b u q=>k lG a b (by simpa using u) zaY]
noncomputable def eOf (K:Zf) (H:Hp) (m:Nat) (d:DV) (z:V):Bool:=@dite Bool (∃ e,m4 m z e) (Classical.propDecidable _) (λ h=>dEq h.choose d) zus
def xtz {pins:eJ}{Z:St}{H:Hp}{s:Shared} (I:dI) {m:Nat}{d e:DV}{z:V} (h:RZ z):eOf X.K H m d z=dEq e d:=by
 unfold eOf;rw[dif_pos ⟨e,h⟩];have a:∃ e,RZ z:=⟨e,h⟩
 rw[xob I a.choose_spec h]
theorem xle (hu:XV):wE .NotIn (rInV X.K true):=by
 intro C s Z H x y v u Q I O M h;obtain⟨n,m,d,B,T,S,U,Y,q⟩:=h;cases S with
 | @lst m a xs _ ha hl k =>
  cases M;ext zpm ha;have get:∀ z∈xs,∃(j:Nat) (e:DV),(gU xs z)/\(gU B e)/\(RZ z):=λz hz=>by
   show(Cz,j,List.getElem?_of_mem hz);show(Be,B.length,(gF,hl,(Zj.mp c).1))
   exact(fJ,j,B[j],c,mV,k j z _ c mV)
  refine SeqAt.notIn_listAt (eU zqI) pl.isList (dC w R) (zgv sP ?_)
  .show(j7,z,P,D,xqq r w (by simpa using R));obtain⟨j,e,_,_,J⟩:83:=get z P;show(fG,xwn D,xtz I J,(xrl I J T (A:=X.A.in1) (zru,X.A.units+1+m+n) D O).1)
  .rw [show its.toArray.any (eU zqI)=its.any (eU zqI) by simp,xtw r,xts (g:=λ z=>dEq z d) hl λ j z e g1 g2=>xtz I (k j z e g1 g2)];exact q
#check _
#check L2
namespace L2
open PySem PySem.Spec PyProof.Rows XL PySem.W
noncomputable def Tp (H H':Hp):Prop:=NC
def Same.tp {H H':Hp} (s:fZ):zAn:=zZK
def Tp.trans {H H' H'':Hp} (s:zAn) (r:Tp H' H''):Tp H H'':=(sA,r b xs (s b xs e))
def xjh {H:Hp}{l:Addr}{xs ys:dz} (h:Fn):Tp H zsY:=λ b zs e=>by
 show(lZ,xg (λ z=>by ext nS z h e e))
section
variable {J:It}{n:Nat}{g:TG}{Z:St}{fr:List Nat}{tc:TT}{te:TE}{l:Addr}{H1:Hp}{Q:VK}
def xk2 (len:Nat) (hlen:yg len) (hl:nJ) (x:Nat->V) (hgo:∀ i H,MU->zja->zxx) (hy:∀ i H v H',(eC,MU,zja,J.yld i H v H',(Nf,v=x i))) (hst:∀ H,zja->J.stop len H)
    (p:KZ) (F:FM) (stab:DP)
    (step:∀ i H2,MU->Same H1 H2->∀(N:V->Hp->Prop) (M:Hp->Prop),(∀ y H',Same H2 H'->p i=true->F i y H'->N y H')->zlr ->
      (zwo (x i)))
    (fin:(Ht,((Zv len).filter p).length,(∀(j:Nat) (y:V) (i:Nat),xB ((Zv len).filter p) i zgf))):xcj J n g Z fr tc te l H1 Q:=by
  refine xce len (λ i ys H2=>(d9,mK,LJ,(vE,((Nj).filter p).length),∀(j:Nat) (y:V) (k:Nat),(xB,(Nj).filter p,k,F k y H2))) ?_ ?_ ?_ ?_
  . refine(fQ,vx,xi,rfl,λ j y k e=>K3)
    ext lZ CD
  . ext XI
    exact hgo i H2 lt s
  . rintro i ys H2 v H3 lt (⟨s,I,C,f⟩:44) L N K
    show(oD,rfl,hy i H2 v H3 lt s L);refine step i H3 lt s _ _ (eI y H' s' pt O) (d8 H' s' pf)
    . have B:=s' _ _ I
      have D:yg ys.length:=by
        rw[C];refine J9 Uj ?_;rw[Zx]
        lia
      show(gG,B,D,K _ _ (fQ vx xi ?_ zVB))
      . ext zni
      . rw[JB,JA,Zn,Zn,C,J0 pt]
        rfl
      . rw[JB,JA,J0 pt] at q
        by_cases c:j<ys.length
        . rw[ZL c] at A
          show(eW,ZL dk,q,stab _ _ _ _ ((Same.tp s').trans (xjh B)) (f j z k A q))
        . rw[Jc dk] at A q
          rw[<- C] at q;cases hj:j-ys.length with
          | zero =>
            rw[hj] at A q;simp at A q;subst A q;exact stab _ _ _ _ (xjh B) O
          | succ m =>
            rw[hj] at A;simp at A
    . refine K _ _ (fQ,s.trans s',s' _ _ I,?_,zVB)
      . rw[JB,JA,JI (ie pf)]
        simpa using C
      . rw[JB,JA,JI (ie pf)] at q
        simp only[List.filter_nil,Yn] at q;exact stab _ _ _ _ (Same.tp s') (f j z k A q)
  . ext zas I C
    show(dO,hst _ s,zfc I C)
def xei {K:Zf}{a:Addr}{xs:dz} (hs:O5) (hlen:Ix) (hl:nJ) (p:KZ) (F:FM) (stab:DP)
    (step:∀(i:Nat) (x:V) (H2:Hp),B3->Same H1 H2->∀(N:V->Hp->Prop) (M:Hp->Prop),(∀ y H',Same H2 H'->p i=true->F i y H'->N y H')->zlr ->
      (zwo x))
    (fin:(Ht,((qbh).filter p).length,(∀(j:Nat) (y:V) (i:Nat),xB ((qbh).filter p) i zgf))):xcj Cm n g Z fr tc te l H1 Q:=by
  refine xk2 xs.length hlen hl (λ i=>xs.getD i .non) (λ i H lt s=>(fP,xs,xs[i],zqq,mV)) zLK (λ H s=>zYB) p F stab zIX fin
  . ext xD f y
    have z:=f xs (Same.seqL s hs);ext nY e;simp[z]
  . have e:dX xs (xs.getD i .non):=ie mV
    exact step i _ H2 e s N M h1 h2
def xey {i:Nat}{x:V}{σ0:St}{H2:Hp}{N:vM}{M:LI}{g:TG}{te:TE} (h:SK x σ0 H2 EX):SK x σ0 H2 zDH:=by
 have e:(λ(σ':St) (H3:Hp)=>zDH)=λ σ' H3=>EX:=by
  funext σ' H3;show (jo,true,EX,M H3)=EX;rw[gq]
 ext pZ h
def filter_all (m:Nat):(Zv m).filter RR=Zv m:=dG
def xbd {K:Zf}{a:Addr}{xs:dz} (hs:O5) (hlen:Ix) (hl:nJ) (F:FM) (stab:DP)
    (step:∀(i:Nat) (x:V) (H2:Hp),(zsp,B3,zMJ zua))
    (fin:zfh xs.length):xcj Cm n g Z fr xda te l H1 Q:=by
  refine xei hs hlen hl RR F stab (λ i x H2 hx s N M h1 h2=>LC (step i x H2 hx s N zlj)) zoP;show(zBw,b,(Zj.mp b).1)
def xo6 {lo:Int}{m:Nat} (hlen:ziC) (hl:nJ) (p:KZ) (F:FM) (stab:DP)
    (step:∀(i:Nat) H2,i<m->Same H1 H2->∀(N:V->Hp->Prop) (M:Hp->Prop),(∀ y H',Same H2 H'->p i=true->F i y H'->N y H')->zlr ->
      (zwo PR))
    (fin:(Ht,((Zv m).filter p).length,(∀(j:Nat) (y:V) (i:Nat),xB ((Zv m).filter p) i zgf))):xcj zfx n g Z fr tc te l H1 Q:=by
  exact xk2 m hlen hl (λ i=>PR) (λ i H lt s=>lt) (λ i H v H' lt s y=>y) (λ H s=>eV) p F stab (λ i H2 lt s N M h1 h2=>step i H2 lt s N M h1 h2) fin
def xr0 {lo:Int}{m:Nat} (hlen:ziC) (hl:nJ) (F:FM) (stab:DP)
    (step:zLj zua)
    (fin:zfh m):xcj zfx n g Z fr xda te l H1 Q:=by
  refine xo6 hlen hl RR F stab (λ i H2 hi s N M h1 h2=>LC (step i H2 hi s N zlj)) zoP;show(zBw,a,(Zj.mp a).1)
#check _
theorem xgc {α:Type}{f:MS}:∀{as:fc}{ys:dz},(vE as.length)->(∀(i:Nat) (y:V) (a:α),(dX ys y)->RX->y=f a)->ys=as.map f
 | [],[],_,_=>rfl
 | [],eK,h,_=>hI
 | eK,[],h,_=>hI
 | a::as,mS,h,k=>by
  rw[Zq,k 0 y a rfl rfl,xgc (as:=as) (ys:=ys) tE λ i b q j c=>k dW b q zpg tD]
theorem xqu {α:Type} (q:Fy):∀(as:fc) (p:KZ),zEY->((EH).filter p).filterMap (λ i=>as[i]?)=as.filter q
 | [],_,_=>rfl
 | a::as,p,h=>by
  have j:=xqu q as (λ i=>p dW) λ i b hb=>h dW b D4;rw[ZF,YM];have e:((EH).map Nat.succ).filter p=((EH).filter (λ i=>p dW)).map Nat.succ:=by
   ext qbp
  have v:=h 0 a rfl;by_cases c:q a=true
  .rw [J0 (dH v c),J0 c,e,JQ];simp only[List.getElem?_cons_zero,QU];rw[<- j];rfl
  .rw [JI (dH v c),JI c,e,QU,<- j];rfl
theorem xks {α:Type} (q:Fy) {as:fc}{p:KZ} (h:zEY):((EH).filter p).length=(as.filter q).length/\∀ j i:Nat,(gU ((EH).filter p) i)->as[i]?=(as.filter q)[j]?:=by
 rw[<- xqu q as p h];have all:∀ i∈(EH).filter p,∃ a,RX:=λ i hi=>by
  have:=ZD.mp (Z9.mp hi).1;show(dO,as[i],Zb this)
 generalize (EH).filter p=is at all
 induction is with
 | nil=>show(dO,rfl,UC i)
 | cons i is ih =>
  show(h8,a,b,all i Zo,s,c,ih λ k hk=>all k (Zm _ hk))
  rw[JQ,b];show(gR,ie s,wa j k);cases j with
  | zero =>
   ext E0;exact b
  | succ m=>exact c m k yZ
#check L2
namespace XL
open PySem PySem.MeetsSeq PySem.MeetsSeq2 PySem.MeetsSeq3 PySem.SeqAt
open AutoSeq1 (wpAny_loadPart')
#check XL
namespace L2
open PySem PySem.Spec PyProof.Rows XL PySem.W
noncomputable def xup:Expr->Bool
 | .Starred _ _=>false
 | _=>true
def xq1 {e:Expr}{es:nw}{env:Env} (h:qak):starEach mW env=(false,zdR)::starEach es env:=by
 cases e<;>first|rfl|cases h
def xcd {X:Cx}{e:Expr}{es:nw}{te:TE}{t:TA} (ha:xH) (hr:zeS) (hn:qak):zPv:=xa ha hr (xq1 hn)
noncomputable def Np (H H':Hp):Prop:=zrm (∀ xs,u≠HO.lst xs)
def Np.trans {H H' H'':Hp} (s:Np H H') (r:Np H' H''):Np H H'':=(lP,n,r b u n (s b u n e))
#check L2
namespace XL
open PySem L2
open PyProof.Rows (assign_Tuple)
#check XL
namespace L2
open PySem PySem.Spec PyProof.Rows XL PySem.W
section
variable {J:It}{n:Nat}{g:TG}{Z:St}{fr:List Nat}{tc:TT}{te:TE}{l:Addr}{H1:Hp}{Q:VK}
def xo2 {lo:Int}{m:Nat} (hlen:ziC) (hl:nJ) (F:zzs) (F0:zMQ) (stab:zBM)
    (step:∀(i:Nat) (ys:dz) H2,(zJG,i<m,zME zHX))
    (fin:(Ht,m,F m ys H2)):xcj zfx n g Z fr xda te l H1 Q:=by
  ext zCL m
  . have p:Same H1 (upd H1 l (.lst [])):=λb u e=>by
      ext lZ CD
    exact⟨44,p,xi,rfl,F0 _ p⟩
  . ext XI
    exact lt
  . rintro i ys H2 v H3 lt (⟨s,c,j,f⟩:44) ⟨rfl,rfl⟩ N q
    refine LC (step i ys H3 lt s c f _ (zye x));have a:=s' _ _ c;show(gG,a,dk,q _ _ (fQ,vx,xi,ie j,stab _ _ _ _ _ a KD x))
    . ext zni
    . ext lZ U5
  . ext zas c j
    show(dO,eV,zfc c j)
#check _
#check L2
namespace L2
open PySem PySem.Spec PyProof.Rows XL PySem.W PySem.Builtin PySem.Builtin.Str
def xgu {a b:Str} (h:zJv):oa:=by
 obtain⟨a⟩:=a;obtain⟨b⟩:=b;exact congrArg Str.mk (Array.toList_inj.mp h)
#check L2
namespace L2
open PySem PySem.Spec PyProof.Rows XL
open AutoSeq1 (wpAny_loadPart')
#check L2
namespace L2
open PySem PySem.Spec PyProof.Rows XL
noncomputable def Itkd (d:Addr) (o:Obj) (kvs:eG):It :=
 zIJ (Nf,∃ k x,oB/\v=kV k)
def xuc {P:Program}{w:World}{K:Zf}{tg:Expr} (d it:Addr) (o:Obj) (kvs:eG) (ep:Nat) (hep:zvS) :
    (HI,tg,Itkd d o kvs,h.IsKeyIter it d i kvs.length ep) where
  mem:=dG
  obj:=λi h st b p=>by
    ext zDj
  keep:=λ i h h' ⟨1062,o1,Y,r⟩ k=>(rG,o1,k it dG _ Y,r)
  item:=by
    intro X L D M hc i m s Z H E I C st J;subst L D M;ext xD lt J;ext zaK j;ext zEQ;ext zkf
    show(dA,u,hv,ru,j.get hx);rw[B] at st;refine wpAny_pyNext_dict_item st da hv (eI aa h' z f hs);show(qR,o2,g2,c2,d2,id f,zGk);show(n7,I1,m,H,kJ,tw (AL,p,(hs.2 b p).trans g) U T S R O);rw[<- B] at f;exact(iY,85,DE,H,I1,xsh z,(hR,fP k x hx rfl),f,λ b p=>(C b p).1)
  done:=by
    intro X L D M hc i m s Z H E I C st J;subst L D M;ext xD le J;ext zaK j;ext zEQ;show(eW,B,st,wpAny_pyNext_dict_end np st da (EN zou) (zHU p O))
  self:=zIZ
noncomputable def x1p (to:TE):TI:=(zkO,H1 d=some (.dK kvs),∀ ob,R zZf (HJ H1))
section
variable {X:Cx}{o:Expr}{to:TE}{tg:Expr}
def xyv (ho:zF):PI X tg o (x1p to):=by
 ext zu m;show(o3,PY m,lI v B x P M r1 S ?_);ext zlv S;show(zOv,J,M.hok);obtain⟨ob,Q,ep,g,ex,C,hk,T,U⟩:106:=id dd;have da:B.heap.DictAt pA d vs ep:=gW 86 ob Q g ex C hk T U
 refine wpAny_pyIter_dict hd da ?_;show(n7,L,m,HJ P,B,M.write (t':=B.toks) (x:=d) (e:=d) zI jr zcr (GE g) ⟨g,M.hok d _ e⟩);have I4:mY m (HJ P) { B with heap:=B.heap.push (iN,"dict_keyiterator",.fields (zmQ vs.length)) } :=
  L.kept (t':=B.toks) qo
 show(Fe,B.heap.objs.size,(xR,HJ P,I4,xuc d _ ob kvs ep ⟨Q,C⟩,?_,Cq,q ob))
 .show(Oj,Y,J.length);show Heap.IsKeyIter _ _ d 0 kvs.length ep;rw[Y];show(j5,_,j9,rfl,rfl)
 .have eb:b=B.heap.objs.size:=D4
  subst eb;exact L.fpOk (Zl _) (L.hok.fresh (Zl _))
#check _
#check L2
namespace L2
open PySem PySem.Spec PyProof.Rows XL
open AutoSeq1 (wpAny_loadPart')
#check L2
namespace L2
open PySem PySem.Spec PyProof.Rows XL
#check L2
namespace L2
open PySem PySem.Spec PyProof.Rows XL PySem.W PySem.Builtin PySem.Builtin.Str
section
variable {J:It}{n:Nat}{g:TG}{Z:St}{fr:List Nat}{tc:TT}{te:TE}{l:Addr}{H1:Hp}{Q:VK}
def xg6 {K:Zf}{a:Addr}{xs:dz} (hs:O5) (hlen:Ix) (hl:nJ) (F:zzs) (F0:zMQ) (stab:zBM)
    (step:∀(i:Nat) (x:V) (ys:dz) H2,(zJG,B3,zMJ zHX))
    (fin:(Ht,xs.length,F xs.length ys H2)):xcj Cm n g Z fr xda te l H1 Q:=by
  show(zCL,xs.length)
  . have p:Same H1 (upd H1 l (.lst [])):=λb u e=>by
      ext lZ CD
    exact⟨44,p,xi,rfl,F0 _ p⟩
  . ext XI
    exact⟨82,xs,xs[i],zqq,mV⟩
  . rintro i ys H2 v H3 lt (⟨s,j,m,f⟩:44) ⟨rfl,z⟩ N B
    have A:=z xs (Same.seqL s hs);refine LC (step i v ys H3 A s j f _ (zye C));have c:=s' _ _ j;show(gG,c,dk,B _ _ (fQ,vx,xi,ie m,stab _ _ _ _ _ c KD C))
    . ext zni
    . ext lZ U5
  . ext zas j m
    show(dO,zYB,zfc j m)
#check _
def xfg (a b:Str):(zgz,a++b,a.cps.toList++b.cps.toList):=by
 show (a.cps++b.cps).toList=_;simp
def xii (a:Str):a.length=a.cps.toList.length:=ie WX
theorem xoq (s k:Nat):∀(ws:dD) (a:Nat),zJZ->ws.foldl (λ n w=>n+w.length+s) a<=a+ws.length*(k+s)
 | [],a,_=>dG
 | w::ws,a,h=>by
  show(dy,i,h w Zo,b,xoq s k ws (a+w.length+s) λ v hv=>h v (Zm _ hv));rw[QI,ZF,Nat.succ_mul]
  lia
theorem xqr:∀{ws:dD}{its:d4},Vals (ws.map V.str) its->∃ l:Vq Tok,its=strValues l/\l.map (·.1)=ws
 | [],_,.nil=>kZ [] rfl
 | w::ws,_,zum=>by
  ext iG r;show(dA,l,e,b,xqr rs);show(eB,(w,t)::l,vI,zwC b)
theorem xlf {sep:Str}{k:Nat}:∀{ws:dD},(∀ p∈ws,p.length<=k)->(kS (QR sep ws) zWE)
 | [],_=>by show (QR sep []).length<=(zuT 0); rw[Nat.zero_mul]; exact Nat.le_of_eq rfl
 | ww,h=>by
  have:=h a Zo;show a.length<=(zuT 1)
  lia
 | a::G3,h=>by
  show(dy,j,h a Zo,i,xlf (sep:=sep) (k:=k) (ws:=G3) (lR,h p (Zm _ hp)));have e:(QR sep (a::G3)).length=a.length+sep.length+(QR sep G3).length:=by
   show (a++sep++QR sep G3).length=_;rw[xii,xfg,xfg,Zn,Zn,<- xii,<- xii,<- xii]
  rw[e,ZF,Nat.succ_mul]
  lia
inductive x2y (x:V) (xs:dz) (H:Hp) (Q:VK):Prop
 | mk (sep:Str) (l:Addr) (ws:dD) (k:Nat) (e_:x=.str sep) (r_:(dN,xs=[kW],Bd (.lst (ws.map V.str)),zJZ,gY zWE,Q (.str (QR sep ws)) H))
section
variable {X:Cx}
theorem xpp:MtR X "str.join" x2y:=by
 intro z s Z H x xs v us Q I C rs h;obtain⟨sep,l,ws,k,rfl,rfl,K,B,hz,q⟩:=h;ext iG C;ext wO D rs;ext qF l D;obtain⟨_,its,n,vs,e⟩:=I.hok _ _ K;show(dA,ps,rfl,rfl,xqr vs);have L:=xoq sep.length k (ps.map (·.1)) 0 B;have c:tooLong ((ps.map (·.1)).toArray.foldl (·+·.length+sep.length) 0)=false:=by
  unfold tooLong;rw[List.foldl_toArray];exact decide_eq_false dk
 refine QS F.slot_str_join (zuP sep) F.entry_str_join (F.args_str_join_2 _ _) (meets_str_join_list sep t l ps c) (jy (Ai,e,vD n));have J:=xlf (sep:=sep) B;have b:(glued sep (ps.map (·.1))).length<=sizeLine:=by
  show(dP,W6,ZR J hz)
 rw[<- W6] at q
 match ps,b,q with
 | [],b,q=>show(dO,b,TB nK)
 | [p],b,q =>
  rw[W6] at q;exact(yp,.str eA,I,iP)
 | p::p2::r,b,q=>show(dO,b,TB nK)
#check _
#check L2
namespace L2
open PySem PySem.Spec PyProof.Rows XL PySem.W
#check L2
namespace L2
open PySem PySem.Spec PyProof.Rows XL PySem.W PySem.Builtin PySem.Builtin.Str
noncomputable def ofL (l:fT):Str:=⟨l.toArray⟩
def xbz (l:fT):zgz UV l:=ie ofL
section
variable {prog:Program}{w:World}{K:Type} [DecidableEq K] {A:Around}{E:Value->Shared->Prop}{s:Shared}
noncomputable def xcc (xs more:Fj):Fj:=more.foldl (λ a x=>storedH a dM fj hV) xs
def xn9 (xs more:Fj) (i:Nat) (x:K × EB) (h:dX more x):xcc xs (more.take dW)=storedH zMR dM fj hV:=by
 simp[xcc,ZC,h,Yk]
def xpd (xs:Fj) (k:K) (a:Addr) (v:Value):kS zSi ztr:=by
 unfold storedH;split<;>simp
theorem xgk:∀(more xs:Fj),(kS,xcc xs more,xs.length+more.length)
 | [],xs=>eV
 | wc,xs=>by
  show(dy,a,xgk r X7,b,xpd xs dM fj hV);show (xcc X7 r).length<=xs.length+zdS
  lia
theorem xhd:∀(more xs:Fj),((xs++more).map (·.1)).Nodup->xcc xs more=xs++more
 | [],xs,_=>(Yn _).symm
 | wc,xs,h=>by
  have e:X7=xs++[x]:=by
   refine storedH_new (atKey_none_of_get (d8 j p b)) fj hV;rw[Zt,ZE] at h;exact (i0).2 dM (Sz,Zi b) dM dG rfl
  show xcc X7 r=_;rw[e,xhd r (xs++[x]) (dH JF h),JF];rfl
def xrf {knd:HeapKind prog w K}{d a:Addr}{xs:Fj}{k:K}{v:Value}{Q:wY} (hu:knd.room A) (hkey:knd.is s.heap k a) (hm:s.heap.DictOfH knd d xs)
    (hsz:y0) (hQ:(Mv,h'.DictOfH knd d zSi,OZ,Q () kJ)) :
    jh (zyk eQ (knd.hash k) v):=by
  obtain⟨o,S,ep,B,R,b,P,C,M⟩:106:=hm;unfold dictSetHashed
  try with_reducible refine Jo ?_
  show(eX,wpAny_dictFind_heap hu hkey B b P C M T9 (d8 j p hj))
  . have J:k∉xs.map (·.1):=not_mem_keys_of_get L
    have e:=storedH_new (atKey_none_of_get L) a v;refine Ze (wpAny_rule (wpAny_updateDictKeys (hz:=by have e:=size_of_entries P; lia) B b (hQ _ ⟨GQ,_,ep+1,Jv _ B (WP (QD b _)),R.mapDictKeys _,QD b _,?_,?_,?_⟩ EJ)))
    . rw[e]
      simp[P,entryOfKey]
    . rw[e]
      intro x q;rcases Zz.mp q with q|q
      . exact knd.keeps (C x q) B b EJ
      . show(dP,Zs.mp q,knd.keeps hkey B b EJ)
    . rw[e,Zt,ZE]
      show(gG,M,dG,λ x q y I z=>J ?_);have I:y∈[k]:=I;show(eW,Zs.mp I,z,z▸q)
  . have e:=storedH_old (atKey_of_get M hj) a v
    show(eX,(wpAny_rule (Ze (wpAny_updateDict B b (wpAny_point (hQ _ ⟨GQ,_,ep,Jv _ B (WP zNx),R.mapDict _,zNx,?_,?_,?_⟩ EJ))))))
    . rw[e]
      have:=modify_map_putAt (entryOfKey knd) (λ e:DictEntry=>{ e with val:=v }) k v iw M hj;rw[<- P] at this;obtain⟨l⟩:=S;ext Re
    . rw[e]
      intro x q;ext jD y I q;unfold putAt;split<;>exact knd.keeps (C y I) B b EJ
    . ext fG e keys_map_putAt M
#check _
section
variable {prog:Program}{w:World}{K:Type} [DecidableEq K] {kk:KeyKind prog w K}{A:Around}{E:Value->Shared->Prop}{s:Shared}
theorem xsj {α β:Type} [BEq β] [LawfulBEq β] {f:At}:∀{l:fc}{x:α},Ik->x∈l->(kS (l.filter λ y=>zWn) 1)
 | y::r,x,h,b=>by
  rw[Zq,ZH] at h;rw[Qh];split
  .rename_i e
   have e:f y=f x:=QP e;have z:(r.filter λ y=>zWn)=[]:=by
    rw[Wy];intro u j q;exact h.1 (Zc.mpr (dB,u,j,(QP q).trans e.symm))
   rw[z];exact Zl _
  .rename_i e
   rcases Ad with rfl|b
   .exact absurd (beq_self_eq_true _) e
   .exact xsj i0 b
def x0m {nm:String}{o:Addr}{oo:Obj}{es:mr}{ep:Nat}{more:kT sI EB}{Q:lJ mr} (hoo:wD o oo) (hd:oo.data=ztC)
    (he:es.toList=more.map (entryOfKey (tupleKind kk))) (his:∀ x∈more,(wK).is s.heap dM fj) (hh:(X3,(wK).hash dM)) (h:Q es s) :
    jh (Builtin.Dict.entriesForEmpty nm o):=by
  unfold Builtin.Dict.entriesForEmpty;ext TJ hoo hd;ext ud;rw[<- Zac];refine Q9 _ (λ rest _ s'=>s'=s/\∀ e∈rest,e∈es.toList) _ ?_ ?_ _ _ (hR,λ e z=>z)
  . rintro e rest b s' ⟨rfl,mem⟩
    show(gZ,j,mem e jL,he,j);ext tt v j;show(CK,ox,its,n,C,B,I,H,his x v);have one:¬ (es.filter (·.hash == (entryOfKey (tupleKind kk) x).hash)).size>1:=by
      rw[<- Jm,Array.toList_filter,he];have z:=xsj hh v;rw[List.filter_map,Za];exact Wn.mpr z
    ext ud;show(oy,Builtin.Dict.quietEq (.ref fj));unfold Builtin.Dict.quietEq;show(eX,Wz (T:="tuple") (dB ox C B) F.slot_tuple_eq.lookup (Zp ?_));rw[(zfv,(some (YS "tuple.__eq__"):BU),some (YS "object.__eq__"),dF)];show(Rc,Bool.not_false);show(zgs,one,(hR,λ e z=>mem e ziH))
  . rintro b s' ⟨rfl,_⟩
    exact Zp h
def xzr {nm:String}{d o:Addr}{xs more:kT sI EB}{Q:wY} (hu:(wK).room A) (hdo:d≠o) (hoS:ED o)
    (hd:zFr) (ho:zES) (hh:xs=[]->(X3,(wK).hash dM)) (hsz:zHH)
    (hQ:(zmv,Q () kJ)) :
    jh (Builtin.Dict.mergeDict nm d o):=by
  obtain⟨od,ar,au,hod,ap,J,af,ax,aw⟩:106:=id hd;obtain⟨oo,j,as,C,ay,B,S,aa,ac⟩:106:=id ho;have Y:more.length=j.size:=by rw[<- Jm,S,Za]
  unfold Builtin.Dict.mergeDict;show(jT,(by simpa using hdo));unfold Builtin.Dict.showsAll;show(jT,dH hoS Z4);ext BJ;ext TJ C B;have U:∀ Q':lJ PUnit,(zmv,Q' QT kJ)->wpAny (model prog w) A (forIn (List.range' 0 j.size) QT λ i (_:PUnit)=>(do
          let l' <- dictEntries o
          match l'[i]? with
            | some e=>do
              DI [e.key,e.val] (zyk e.key e.hash e.val)
              let av <- dictEpoch o
              if (av != as)=true then do
                  zSj (toString nm++toString ":source-changed-during-callback")
                  zyQ
                else zyQ
            | _=>do
              zSj "internal:dict-merge"
              zyQ:Sem (ForInStep PUnit))) Q' E s:=by
    intro Q' aq;refine Q9 _ (λ rest _ s'=>∃ h' i,s'=kJ/\(dN,rest=List.range' i (j.size-i),i<=j.size,zNE zMR,zxN o oo,OZ))
      _ ?_ ?_ _ _ (Ar,s.heap,0,dG,lW,hd,C,ZV.refl _ _)
    . rintro x rest b s' (⟨h',i,rfl,hr,hi,T,M,P⟩:86)
      have ai:i<j.size:=by
        rcases Y1 i j.size with h|h
        . exact h
        . show(eW,Nat.sub_eq_zero_of_le h,hr,nomatch hr)
      obtain⟨rfl,Z⟩:x=i/\rest=List.range' dW (j.size-dW):=by
        ext zIK
        rw[e,List.range'_succ] at hr;injection hr with h1 h2
        ext dO h1 h2
      show(dw,ad,x<more.length,dk,ae,lQ more x xE,Zb ad);ext TJ M B;rw[entry_at S x,ae];have ak:=aa xE (JO ad);have aj:(wK).is h' (xE).1 (eE xE):=(wK).keeps ak hod J P;have hz:KF (xcc xs (more.take x)):=by
        show(gZ,e1,xgk (more.take x) xs,Ji,e1)
        lia
      show(Ak,(DI [.ref (eE xE),fH xE] (zyk (.ref (eE xE)) ((wK).hash (xE).1) (fH xE))));show(LK,xrf hu aj T hz (d8 h2 ao ab));have X:(du,h2.get? o,oo):=(ab.2 o (Z2 hdo)).trans M;show(eX,Jk X B ?_);show(zgs,dG,(Ar,h2,x+1,Z,ai,(dH,xn9 xs more x xE ae,ao),X,P.trans ab))
    . rintro b s' (⟨h',i,rfl,hr,hi,T,M,P⟩:86)
      have am:i=j.size:=by
        rcases Y1 i j.size with h|h
        . ext zIK
          rw[e,List.range'_succ] at hr;exact nomatch hr
        . exact Nat.le_antisymm hi h
      rw[am,<- Y,Jp] at T;exact aq h' T P
  ext zwy
  . ext TJ hod J
    split
    . rename_i hemp
      have h0:ar=#[]:=zZu hemp;have hx:xs=[]:=by
        rw[h0] at af;exact WQ.mp af.symm
      subst hx;show(eX,x0m C B S aa (hh rfl) ?_);rw[xhd more [] ac] at hQ;split
      . show(eX,(wpAny_updateDictKeysTo hod J (Zp (hQ _ ⟨GQ,_,au+1,Jv _ hod (WP (QD J _)),ap.mapDictKeys _,QD J _,S,(yr,(wK).keeps (aa x hx) hod J EJ),ac⟩ EJ)) ?_))
        simp only[W2,Nat.zero_add] at hsz
        lia
      . rename_i hne
        show(dw,h1,j=#[],zZu (by simpa using hne),ah,more=[],List.length_eq_zero_iff.mp (jw Y h1));subst ah;exact Zp (hQ _ hd (ZV.refl _ _))
    . ext zAr
  . ext zAr
def xmj (d o:Addr) (hdo:d≠o) (hoS:ED o) :
    MeetsIn prog w (Builtin.«dict.update» (uD,rE qU o)) (λ A R s=>(wK).room A.in1/\∃ xs more,zFr/\zES/\(xs=[]->(X3,(wK).hash dM))/\zHH /\
      (zmv (zpl kJ))) :=
  .of_wp λA R s ⟨1042,z,iY 1085 xs more v b B hsz h⟩=>by
    unfold Builtin.«dict.update»;show(zEw,v.typeIs);show(ztG,(d,[Zw o]));show(qm,Builtin.Dict.updateFrom "dict.update" d (.ref o) [] .none);unfold Builtin.Dict.updateFrom;show(eX,QK b.typeIs ?_);ext jT dF;ext ud;unfold Builtin.Dict.merge;ext ud;unfold Builtin.Dict.readDirectly;show(eX,Q8 b.typeIs isSubtype_dict_dict ?_);ext Ee Wb;show(eX,Wz b.typeIs F.slot_dict_iter.lookup (Zp ?_));ext Rc beq_self_eq_true;ext BJ;refine xzr z hdo hoS v b B hsz (AY q j);ext Ak zHn;exact Ze (Zp (Zp (nU,.none,h h' q j)))
#check _
noncomputable def xdp (kvs more:gJ):gJ:=zuW (λ a x=>zio a)
theorem KT.merge {H:Hp}:∀{more:gJ}{ms:qu},KT H more ms->∀{kvs:gJ}{xs:qu},EV->KT H EE (xcc xs ms):=by
 intro more ms r
 induction r with
 | nil=>intro kvs xs q; exact q
 | cons h _ ih =>
  intro kvs xs q;ext jE a c b h;show(SL,q.put _ c b,a);have y:=ih z;rw[<- a] at y;show KT H (xdp (putK kvs _ _) _) (xcc (storedH xs _ _ _) _);ext mL a y
noncomputable def xig (X:Cx) (k:iB):Int:=(Hz).hash k
inductive rUpd (X:Cx) (x:V) (vs:dz) (H:Hp) (Q:VK):Prop
 | mk (a b:Addr) (kvs more:gJ) (e_:oK) (r_:vs=[qS]/\GI/\(dN,Gf,zKt,kvs=[]->(X3 zfy),(zik more.length)<=1000,Q .non (pL H a EE)))
def xsp {X:Cx} (hu:Bo):MtM X "dict.update" (rUpd X):=by
 intro O s Z H x vs v us Q I U Y h;obtain⟨a,b,kvs,more,rfl,rfl,ab,K,hb,hh,hz,q⟩:=h;cases U;show(sR,u,ru,Y.one)
 show(TK,u=Zw b,ru);obtain⟨za,J,⟨xs,B,S⟩⟩:43:=xjt I.hok K;obtain⟨zb,D,⟨C,j,db⟩⟩:43:=xjt I.hok hb;show(dy,la,Yf B,lb,Yf j);have hl:KF EE:=by
  show(dy,e1,xgk C xs,e2,Yf (j.merge B));exact ZR zrL dF
 refine YJ PySem.F.slot_dict_update S.typeIs PySem.F.entry_dict_update (PySem.F.args_dict_update_2 _ _) (xmj (kk:=pA) a b ab D) ⟨?_,(iY,85,xs,C,S,db,gO e,?_,AY dd' hs)⟩
 .show X.A.in1.units<cLine;exact hu
 .ext gc;have e0:kvs=[]:=List.length_eq_zero_iff.mp la;have z:=hh e0;have em:more.map (λ x=>zfy)=C.map λ x=>(Hz).hash dM:=by
   have L:∀{l:gJ}{m:qu},KT H l m->l.map (λ x=>zfy)=m.map λ x=>(Hz).hash dM:=by
    intro l m r
    induction r with
    | nil=>rfl
    | cons h _ ih=>rw[Zq,Zq,ih,iA]; rfl
   exact L j
  ext mL em z
 .exact ZR zrL dF
 .obtain ⟨M,es,ep,P,h2,h3,h4,_,h5⟩:106:=dd';show(zod,xfi (ob:=.dT (xdp kvs more)) I (dH K JD) hs ⟨M,P⟩ (eY,hl,J,_,(j.merge B).keeps (d8 c ys R),gW 105 M es ep P h2 h3 h4 h5));show(rq,xem R K rP,R)
#check L2
namespace L2
open PySem
noncomputable def th (a b:Int):Int:=zGy [hashInt a,hashInt b]
def xou (X:Cx) (a b:Int):xig X zUj=th a b:=by
 unfold xig th;show (zGy ((zUj).map (keyH X.w)))=_;rw[Zq,Zq,Wr];unfold keyH
 with_reducible rfl
noncomputable def rimH (w:Nat):eS:=((Zv 16).map (iW,r,th 0 ziG))++((Zv 16).map (iW,r,th CV ziG))
def xxn:∀ w,w<31->pX->(rimH w).Nodup:=fR
#check L2
namespace XL
open PySem PySem.Spec PyProof.Rows
noncomputable def xym (acc:dD) (x:Str):dD:=if acc.any (· == x)=true then acc else Sb
#check XL
namespace L2
open PySem PySem.Spec PyProof.Rows XL
noncomputable def x3b (xs:dD):Nat:=zYM xym
#check L2
namespace XS
open PySem PySem.SetTable
noncomputable def Up (xs:ia):Prop:=∀ a b,a<b->b<xs.size->xs.getD a 0<xs.getD b 0
def xpq {xs:ia}{k d e:Nat} (h:k<xs.size):xs.getD k d=xs.getD k e:=by
 simp[Q7,h]
theorem xi4 {xs:ia}{j:Nat} (up:Up xs):∀(fuel lo hi:Nat),hi-lo<=fuel->lo<=hi->hi<=xs.size->(∀ k,k<lo->ztA<j)->(zIr hi) ->
    (zIF zlP)
  | 0,lo,hi,hf,hl,hs,h1,h2=>by
    ext zNX
  | fuel+1,lo,hi,hf,hl,hs,h1,h2=>by
    unfold below.go;by_cases c:lo<hi
    . rw[eD c]
      show(dw,h,BL<hi,dk,m,lo<=BL,dk)
      show (let a:=BL; _)<=_/\_;simp only[];by_cases d:xs.getD BL j<j
      . rw[eD d]
        refine xi4 up fuel _ hi dk dk hs (dC k f) h2;rw[xpq (e:=0) dk] at d;rcases Y1 k BL with z|z
        . exact ZN (up k _ z dk) d
        . have:k=BL:=dk
          ext dP this d
      . ext jT d
        rw[xpq (e:=0) dk] at d;refine xi4 up fuel lo _ dk dk dk h1 (d8 k f b);rcases Y1 BL k with z|z
        . exact Jw (J9 (Wi d) (up _ k z b))
        . have:k=BL:=dk
          rw[this];exact Wi d
    . ext jT c
      ext zNX
def xki {xs:ia} (up:Up xs) (j:Nat):zIF Ri :=
 xi4 up xs.size 0 xs.size dk dk eV (λ k a=>dk) (λ k h1 h2=>dk)
def xwa {xs:ia} (up:Up xs) {j i:Nat} (h:dX xs j):below xs j=i:=by
 show(lK,b,Qc.mp h);have g:xs.getD i 0=j:=by simp[Q7,b,e]
 show(jE,q,n,f,xki up j);rcases Nat.lt_trichotomy Ri i with z|z|z
 .show(vA,f Ri eV dk,up _ i z b)
 .ext i4
 .show(gV,n i z)
def xl5 {t:SetTable} (up:Rp) {j i:Nat}:zmW↔zWB:=by
 ext qbt;constructor
 .intro h
  ext Di
  .rename_i c
   cases h;exact QP c
  .ext SJ h
 .intro h
  rw[xwa up h,zGx h]
def xkh {t:SetTable} (up:Rp) (dm:zbT) {j:Nat} (h:∀ i:Nat,t.place[i]?≠some j):zh j:=by
 ext qbt;rw[(Cd,c,h _ (QP c)),dm,if_neg];unfold has;simp
def xxc {t:SetTable} (up:Rp) (dm:zbT) (j:Nat):(zh j)\/∃ i,zmW:=by
 by_cases c:∃ i:Nat,zWB
 .obtain ⟨i,f⟩:=c;show(ME,i,(xl5 up).mpr f)
 .show(iE,(xkh up dm λ i z=>c ⟨i,z⟩))
structure Ps where
 j:Nat
 more:Nat
 i:Nat
 pt:Nat
noncomputable def adv (mask:Nat) (p:Ps):Ps:=if p.more>0 then { p with j:=p.j+1,more:=p.more-1 } else (dY,zbj,(B5 zbj)-zbj,zbj,(Va p.i p.pt).2)
noncomputable def st0 (mask:Nat) (h:Int):Ps:=(dY,sy,(B5 sy)-sy,sy,Gy)
noncomputable def way (mask:Nat) (h:Int):Nat->Ps
 | 0=>st0 mask h
 | iZ=>zsO
noncomputable def toP (p:Ps):Probe:=eY p.j p.more p.i p.pt none
theorem xtc (t:SetTable) (p:Ps):t.advance (toP p)=toP qae:=by
 unfold advance adv;by_cases c:p.more>0
 .rw [eD (show (GL).more>0 from c),Aw];rfl
 .rw [d6 (show ¬ (GL).more>0 from c),xZ];rfl
noncomputable def rnd (mask:Nat) (h:Int):Nat->Ro
 | 0=>(sy,Gy)
 | r+1=>Va jZ Hd
noncomputable def nAt (mask:Nat) (h:Int):Nat->Nat
 | 0=>0
 | r+1=>mB+Df+1
def xka (mask i:Nat):i<=(B5 i)/\(B5 i)-i<=9:=by
 unfold runEnd;ext kR
theorem xkw {mask:Nat}{h:Int}{r:Nat} (e:zJP) :
    ∀ k,k<=Df->(z0 (mB+k))=(dY,jZ+k,Ts-jZ-k,jZ,Hd)
  | 0,_=>e
  | gu,hk=>by
    show(zXu,z0 (mB+k),xkw e k dk);rw[eD (gE,Ts-jZ-k>0)];show Ps.mk _ _ _ _=_
    ext me
theorem xkv (mask:Nat) (h:Int):∀ r,zJP
 | 0=>rfl
 | r+1=>by
  have e:=qbo;show(zXu,z0 (mB+Df),xkw e _ eV);rw[d6 (gE,¬ Ts-jZ-Df>0)];rfl
theorem xtg (mask:Nat) (h:Int):∀ r,mB<=10*r
 | 0=>eV
 | r+1=>by
  have:=qbn;have:=xka mask jZ;show mB+_+1<=_
  lia
def xss (mask:Nat) (h:Int) (r k:Nat) (hk:k<=Df):(z0 (mB+k)).j=jZ+k:=by
 rw[xkw qbo k hk]
theorem xw0 (mask:Nat) (h:Int):∀ r,Hd=Gy / 32 ^ r
 | 0=>(Nat.div_one _).symm
 | r+1=>by
  show Hd / 32=_;rw[xw0 mask h r,Nat.div_div_eq_div_mul,Nat.pow_succ]
theorem pt_0 (mask:Nat) (h:Int) (r:Nat) (hr:13<=r):Hd=0:=by
 rw[xw0];refine Nat.div_eq_of_lt ?_;have b:Gy<uu:=by
  unfold bits;show(vA,QV h (zq,pT<uu),W5 h (zq,(eg uu)≠0))
 refine ZI b (ZR (zq,uu<=32 ^ 13) (Nat.pow_le_pow_right dF hr))
noncomputable def lcg (mask:Nat):SH Nat
 | 0,i=>i
 | m+1,i=>((FF m)*5+1) % lO
theorem xpy (mask:Nat) (h:Int):∀ m,zYI=lcg mask m (zig 13).1
 | 0=>rfl
 | m+1=>by
  show (Va,zYI,(zig (13+m)).2).1=_;unfold leap;rw[pt_0 mask h (13+m) dk,xpy mask h m];rfl
noncomputable def MkOk (mask:Nat):Prop:=sZ mask 7 mask 31 (sZ,mask,127,mask,511,mask=2047)
noncomputable def met (mask:Nat):eC Nat Nat Nat Ro
 | 0,i,a=>(i,a)
 | m+1,i,a=>met mask m ((i*5+1) % lO) (a ||| (1 <<< i))
theorem xfj (mask:Nat) (a:Nat):∀ b i,(FF (a+b))=lcg mask b (FF a)
 | 0,_=>rfl
 | b+1,i=>by
  show ((FF (a+b))*5+1) % _=_;rw[xfj mask a b i];rfl
theorem xp4 (mask:Nat):∀(n i a s:Nat),(met mask n i a).2.testBit s=true->a.testBit s=true\/∃ m,m<n/\(FF m)=s
 | 0,_,_,_,h=>.inl h
 | iZ,i,a,s,h=>by
  rcases xp4 mask n _ _ s h with z|⟨m,b,e⟩
  .rw [Nat.testBit_or,YR] at z;rcases z with z|z
   .ext iE z
   .rw [Nat.one_shiftLeft,Nat.testBit_two_pow] at z;show(hX,(dB,0,Wq _,of_decide_eq_true z))
  .show(qZ,(kB,1+m,dk));ext lZ xfj
theorem xpw (mask:Nat):∀(n i a:Nat),(met mask n i a).1=(FF n)
 | 0,_,_=>rfl
 | iZ,i,a=>by
  show (met mask n _ _).1=_;rw[xpw,Nat.add_comm n 1,xfj];rfl
def cov {mask:Nat} (h:zFP) (i:Nat) (hi:i<=mask) (s:Nat) (hs:SY):∃ m,m<=mask/\(FF m)=s:=by
 have b:∀ s,SY->∃ m,m<lO/\lcg mask m 0=s:=λs hs=>by
  rcases xp4 mask lO 0 0 s (kc,h,Nat.testBit_two_pow_sub_one,decide_eq_true (Nat.lt_succ_of_le hs)) with z|z
  .rw [Nat.zero_testBit] at z;cases z
  .ext i4
 show(iD,a,q,b i hi);show(iD,c,j,b s hs);show(gZ,e,xpw mask lO 0 0,h,e);by_cases z:a<=c
 .exact (dB,c-a,dk,by rw[<- xfj,(gE,a+(c-a)=c)])
 .refine (kB,lO-a+c,dk);rw[<- xfj,(gE,a+(lO-a+c)=lO+c),xfj,<- e]
theorem x0z (mask:Nat) (h:Int):∀ r,jZ<lO
 | 0=>WY _ (Wq _)
 | r+1=>WY _ (Wq _)
def MkOk.met {mask:Nat} (mk:KW):zFP:=by
 rcases mk with rfl|rfl|rfl|rfl|rfl<;>decide +kernel
def xpx {mask:Nat} (mk:KW) (h:Int) (s:Nat) (hs:SY):∃ r,r+1<Rv/\jZ=s:=by
 show(ue,m,a,e,cov mk.met _ (Nat.le_of_lt_succ (x0z mask h 13)) s hs,13+m,by unfold turns; lia,fC xpy e)
def xxb {mask:Nat} (mk:KW) (h:Int) (s:Nat) (hs:SY):∃ n,n<10*Rv/\DC=s:=by
 show(dA,r,a,e,xpx mk h s hs);have:=qbn;show(eB,mB,dk,dH xkv e)
def xvw {t:SetTable}{hashAt:Si}{h:Int}{f:Nat}{p:Ps} (z:zh p.j):du (OL uZ GL) (.empty p.j none):=by
 unfold probe.go;rw[zgB (zh,(GL).j)];rfl
def xyr {t:SetTable}{hashAt:Si}{h:Int}{f i:Nat}{p:Ps} (z:IW p.j i) (e:zrF):du (OL uZ GL) (.candidate p.j i (toP qae)):=by
 unfold probe.go;ext zUn;rw[zGx e,xtc];rfl
def xyp {t:SetTable}{hashAt:Si}{h:Int}{f i:Nat}{p:Ps} (z:IW p.j i) (e:hashAt i≠h):(OL uZ GL)=(OL f (toP (adv t.mask p))):=by
 conv=>lhs; unfold probe.go
 ext zUn;rw[(Cd,q,e (QP q)),xtc]
theorem xoc {t:SetTable} (up:Rp) (dm:zbT) (hashAt:Si) (h:Int):∀(f n:Nat),(∃ m,n<=m/\m<n+f/\zgV) ->
    ∃ m,n<=m/\(∀ k,n<=k->k<m->∃ i,zRn/\hashAt i≠h) /\
      (((zQL (.empty yV none))/\zgV) \/
        ∃ i,(zQL (.candidate yV i (toP (K1 (m+1)))))/\(IW yV i)/\zrF)
  | 0,n,dY m a b _=>dk
  | uZ,n,dY m a b c=>by
    rcases xxc up dm (K1 n).j with z|⟨i,z⟩
    . show(j5,n,eV,λ k A x=>dk,(CI,xvw z,z))
    . by_cases e:zrF
      . show(j5,n,eV,λ k A x=>dk,.inr (hB,i,xyr z e,z,e))
      . have H:n≠m:=λ q=>by rw[<- q,z] at c; cases c
        show(qR,B,I,D,C,xoc up dm hashAt h f iZ (hB m dk dk c),(hB,B,dk,d8 k A x,?_))
        . rcases Y1 n k with y|y
          . exact D k dk x
          . ext FC k n;ext eB i z e
        . show(dP,xyp z e,C)
noncomputable abbrev Row:=Nat × zsv
structure Tab (t:SetTable) (es:zQ) (L:Sj):Prop where
 pl:t.place.toList=L.map (·.1)
 el:es.toList=L.map (·.2)
 srt:(L.map (·.1)).Pairwise (·<·)
 dm:zbT
 mok:MkOk t.mask
 bd:∀ e∈L,e.1<=t.mask
 rc:∀ e∈L,∃ n,(way t.mask Mh n).j=e.1/\∀ m,m<n->(way t.mask Mh m).j∈L.map (·.1)
variable {t:SetTable}{es:Array (Int × Value)}{L:List Row}
def Tab.size (T:qr):t.place.size=L.length/\es.size=L.length:=by
 constructor
 .rw [<- Jm,T.pl,Za]
 .rw [<- Jm,T.el,Za]
def Tab.at_ (T:qr) (i:Nat):t.place[i]?=(L[i]?).map (·.1):=by
 rw[<- Jj,T.pl,Zd]
def Tab.es_ (T:qr) (i:Nat):es[i]?=(L[i]?).map (·.2):=by
 rw[<- Jj,T.el,Zd]
def xip {xs:ia}{k:Nat}{v:Nat} (h:wp xs v):xs.getD k 0=v:=by
 show(lK,a,Qc.mp h);simp[Q7,a,e]
def Tab.up (T:qr):Rp:=by
 intro a b q f;rw[zfX] at f;have j:a<L.length:=dk
 rw[xip (jw,T.at_,Zb j),xip (jw,T.at_,Zb f)];show(GD,JP.mp T.srt a b (lS j) (lS f) q)
def Tab.live (T:qr) {j i:Nat}:zmW↔∃ e,zxc/\e.1=j:=by
 rw[xl5 T.up,T.at_,Zg]
def Tab.free (T:qr) {j:Nat}:(zh j)↔j∉L.map (·.1):=by
 constructor
 .intro h z
  ext yb e b c z;show(F7,q,x,QF.mp b);show(Ih,T.live.mpr (dB,e,oZ q x,c),h)
 .intro h
  refine xkh T.up T.dm λ i z=>h ?_;rw[T.at_,Zg] at z;ext dA e b c z;show(sF,(dB,e,Zi b,c))
def Tab.some_free (T:qr) (lt:zaT) (h:Int):∃ n,n<zaz/\(zh,(K1 n).j):=by
 refine J8 pR;have all:∀ s,s<=t.mask->s∈L.map (·.1):=λs hs=>by
  refine J8 mI;show(dA,n,i,e,xxb T.mok h s hs);exact c (dB,n,i,by rw[e]; exact T.free.mpr z)
 have:=Yr (n:=t.mask+1) |>.length_le_of_subset (l₂:=L.map (·.1)) (jM,all s (jH,ZD.mp hs))
 rw[Zx,Za] at this
 lia
def Tab.absent (T:qr) {h:Int}{m:Nat} (em:zgV) {P:oh Value} (seen:∀ k,k<m->∀ i e,(eC,zRn,zxc,Mh=h,zYi)):∀ e∈L,Mh=h->zYi:=by
 intro e u C p;show(dA,n,q,B,T.rc e u);rw[C] at q B;have lt:n<m:=by
  rcases Nat.lt_trichotomy n m with z|z|z
  .ext i4
  .rw [z] at q;show(eW,q,em,absurd (Zc.mpr (kZ e u)) (T.free.mp em))
  .exact absurd (B m z) (T.free.mp em)
 show(F7,D,H,QF.mp u);have A:zxc:=oZ D H
 exact seen n lt i e (T.live.mpr (dB e A q.symm)) A C p
def xny {α:Type} (xs:Array α) (p:Nat) (x:α) (hp:p<=xs.size):(insertAt xs p x).toList=xs.toList.take p++x::xs.toList.drop p:=by
 unfold insertAt;simp[Array.toList_extract,List.extract];exact ZA dG
def Tab.add (T:qr) {h:Int}{x:Value}{m:Nat} (em:zgV) (be:∀ k,k<m->(K1 k).j∈L.map (·.1)) (jm:yV<=t.mask) :
    ∃ L',L'.Perm ((yV,h,x)::L)/\Tab qah (insertAt es (t.put yV).2 (h,x)) L'/\(qah).mask=t.mask:=by
  generalize X:yV=j at *;have S:=T.free.mp em;show(jE,Q,b2,Z,xki T.up j);show(dw,Y,(t.put j).2=zpB,rfl,K,(t.put j).1.mask=t.mask,rfl);rw[Y];generalize U:zpB=p at *;have pl:p<=L.length:=by ext eW zfX Q Q
  have R:∀ e∈zxE,e.1<j:=λ e q=>by
    ext zZB Ji;show(Ed,b2 i dk,zFX List.getElem_take)
  have B:∀ e∈zgd,j<e.1:=λ e q=>by
    show(zZB,List.length_drop);show(oz,Z (p+i) dk (sv zfX),zFX List.getElem_drop);refine Nat.lt_of_le_of_ne this λ z=>S ?_;show(K7,z,(kZ,e,List.mem_of_mem_drop q))
  have I:(zlK).Perm ((j,h,x)::L):=by
    show(zef,(Qg (a:=(j,h,x)) (l₁:=zxE) (l₂:=zgd)),Yu)
  refine(hB,zlK,I,eP ?_ ?_ ?_ ?_ T.mok ?_ ?_,K)
  . show (insertAt t.place zpB j).toList=_
    rw[U,xny _ _ _ Q,T.pl,Zt,Zq,QA,QB]
  . rw[xny _ _ _ (dH Cb pl),T.el,Zt,Zq,QA,QB]
  . rw[Zt,Zq,YZ,JT]
    have D:((zxE).map (·.1)).Pairwise (·<·):=zSX QA Ub
    have C:((zgd).map (·.1)).Pairwise (·<·):=zSX QB (List.drop_sublist _ _)
    show(gG,D,⟨pY H,C⟩,hF a ha b H)
    . ext jD e q H
      exact B e q
    . ext jD e q ha
      rcases Zu.mp H with rfl|H
      . exact R e q
      . ext jD O A H
        exact ZN (R e q) (B O A)
  . show (if has t.dummies j then eraseAt t.dummies (below t.dummies j) else t.dummies)=#[]
    rw[T.dm,if_neg];unfold has;simp
  . intro e q
    rcases zLw with rfl|q
    . exact jm
    . exact T.bd e q
  . intro e q
    have more:∀ s,s∈L.map (·.1)->s∈(zlK).map (·.1):=λs hs=>by
      ext jD O A hs;show(Nc,O,I.mem_iff.mpr (Zm _ A))
    rcases zLw with rfl|q
    . show(eB,m,X,λ k J=>more _ (be k J))
    . show(ue,n,a,b,T.rc e q,n,a,λ k J=>more _ (b k J))
#check XS
namespace XS
open PySem PySem.SetTable
noncomputable abbrev Own:=Array (Option Nat)
noncomputable def xck (o:Own) (j:Nat):Bool:=(zoo).isSome
theorem xl7 (mask:Nat) (h:Int) (o:Own):∀(fuel r:Nat),(∃ r',r<=r'/\r'<r+fuel/\(zwk,(zig r').1)) ->
    ∃ n,(d9,mB<=n,du (zvY o fuel jZ Hd) DC,zwk DC,∀ m,mB<=m->m<n->(zfk,(z0 m).j))
  | 0,r,dY r' a b _=>dk
  | fuel+1,r,dY r' a b c=>by
    unfold layClean.free;have J:=xka mask jZ;cases hf:(zbz).find? λ k=>(Py (jZ+k)).isNone with
    | some k =>
      simp only[];obtain⟨C,as,bs,e,B⟩:=List.find?_eq_some_iff_append.mp hf;have v:k∈zbz:=ZY hf;have L:=ZD.mp v;have x:∀ m,m<=k->(z0 (mB+m)).j=jZ+m:=λ m hm=>xss mask h r m dk;show(fV,64,mB+k,dk,(jn,x k eV),?_,d8 m H A)
      . rw[x k eV]
        unfold xck;revert C;cases Py (jZ+k)<;>simp
      . show(zeb,m=mB+d,m-mB)
        rw[x d dk];have y:d∈as:=by
          have al:as.length=k:=by
            have g:lQ zbz as.length k:=CU
            rw[ZW] at g
            . exact ZM.inj g
            . show(zsy,zid Y0)
          have g:lQ zbz d d:=ZW dk;rw[e,ZL dk] at g;exact Zi g
        show(zED,B d y)
    | none =>
      simp only[];have all:=JL.mp hf;have u:∀ d,d<=Df->(zfk (jZ+d)):=λ d hd=>by
        show(zED,all d (ZD.mpr dk))
      have K:r≠r':=λ q=>by
        have:=u 0 lW;rw[Nat.add_zero,q,c] at this;cases this
      show(tX,n,a1,a2,a3,I,xl7 mask h o fuel (r+1) (hB r' dk dk c));have nx:zSA=mB+Df+1:=rfl;show(fV,64,n,dk,a2,a3,d8 m H A);rcases Y1 m zSA with z|z
      . show(zeb,m=mB+d,m-mB)
        show(dP,xss mask h r d dk,u d dk)
      . exact I m z A
structure Lay (mask:Nat) (hs:eS) (k:Nat) (o:Own):Prop where
 sz:o.size=lO
 own:∀ j i:Nat,o[j]?=(qz i)->∃ h,i<k/\(dX hs h)/\∃ n,DC=j/\∀ m,m<n->(zfk,(z0 m).j)
 has:∀ i:Nat,i<k->∃ j:Nat,zWN
 inj:∀ j j' i:Nat,zWN->o[j']?=(qz i)->j=j'
def xdr {o:Own}{j:Nat} (h:j<o.size) (d:hW Nat):gU o (o.getD j d):=by
 rw[Js h];simp[Q7,h]
theorem Lay.room {mask k:Nat}{hs:eS}{o:Own} (Y:zUa) (lt:k<=mask):∃ s,SY/\(zwk s):=by
 refine J8 pR;have all:∀ s:Nat,s<lO->∃ i:Nat,o[s]?=(qz i):=λs hs=>by
  have z:xck o s≠false:=λ z=>c (dB s dk z);have g:=xdr (o:=o) (j:=s) (dH Y.sz hs) (some 0);unfold xck at z;cases e:Py s with
  | none=>rw[e] at z; ext mP z
  | some i=>show(dO,i,fC g e)
 have I:((UZ).map λ s=>(o.getD s none).getD 0).Nodup:=by
  rw[Jx,Z5];show(zxK,λ{a b} A y H e=>H ?_,Yr);show(h8,i,q,all a (ZD.mp A),K,x,all b (ZD.mp y));rw[Hq A] at q;rw[Hq y] at x;show(dy,C,ZM.inj q,B,ZM.inj x);rw[C,B] at e;ext ua i K e;refine Y.inj a b i ?_ ?_
  .rw [Hq A,C]
  .rw [Hq y,B]
 have:=I.length_le_of_subset (l₂:=Zv k) λ i q=>by
  ext jD s v q;show(sr,i,all s (ZD.mp v));obtain⟨_,J,_⟩:62:=Y.own s i q;rw[Hq v] at q;rw[ZM.inj q];exact ZD.mpr J
 ext p8 Zx Zx this
 lia
def Lay.more {mask k:Nat}{hs:eS}{o:Own} (mk:KW) (Y:zUa) (lt:k<=mask) {h:Int} (hk:wp hs h) :
    ∃ j,(Bb zTF)/\Lay mask hs gu Bi:=by
  show(dA,s,O,st,Y.room lt);show(dA,r,U,e,xpx mk h s O);obtain⟨n,_,T,J,S⟩:64:=xl7 mask h o Rv 0 (hB,r,lW,dk,dH e st);generalize R:DC=j at *;have K:j<o.size:=by
    refine J8 pR;unfold xck at J;show(js,(show du zoo 0 by simp[Q7,c]),J,J)
  have P:gU o none:=by
    rw[xdr K (some 0)];unfold xck at J;revert J;cases zoo<;>simp
  show(dw,new,Bi[j]?=(qz k),ie K,v,∀ p:Nat,p≠j->Bi[p]?=o[p]?,λ p C=>Array.getElem?_setIfInBounds_ne (λ z=>C z.symm));have sz:(Bi).size=o.size:=dG
  have M:∀ s,(zfk s)->xck Bi s=true:=λs hs=>by
    by_cases c:s=j
    . subst c
      unfold xck;show(gZ,g,xdr (o:=o.setIfInBounds s (some k)) (j:=s) (dH sz K) (some 0),new,g);rw[<- ZM.inj g];rfl
    . unfold xck at *
      rw[QO,v s c,<- QO];exact hs
  show(gG,j,T,(dY,dH sz Y.sz,d8 p i x,dC i x,eI a b i ha hb))
  . by_cases c:p=j
    . subst c
      ext fe new x x;show(j5,h,Wh _,hk,(dB,n,R,λ m L=>M _ (S m lW L)))
    . rw[v p c] at x
      obtain⟨h',a,b,⟨Q,d,q⟩⟩:63:=Y.own p i x;show(j5,h',dk,b,(dB,Q,d,λ m L=>M _ (q m L)))
  . rcases Y1 i k with z|z
    . obtain⟨p,A⟩:=Y.has i z
      have C:p≠j:=λ q=>by ext nS q P A A
      show(dO,p,(dH,v p C,A))
    . have:i=k:=dk
      ext AK;ext dO j new
  . have H:∀ p i:Nat,p≠j->Bi[p]?=(qz i)->i<k:=λ p i C x=>by
      rw[v p C] at x;show(zXM,Y.own p i x)
    by_cases ca:a=j<;>by_cases cb:b=j
    . rw[ca,cb]
    . rw[ca,new] at ha
      cases ha;show(Cf,H b k cb hb)
    . rw[cb,new] at hb
      cases hb;show(Cf,H a k ca ha)
    . rw[v a ca] at ha
      show(eW,v b cb,hb,Y.inj a b i ha hb)
def Lay.nil {mask:Nat}{hs:eS}:Lay mask hs 0 (Array.replicate lO none):=by
 refine(dY,dG,d8 j i h,λ i h=>absurd h zox,hF a b i h)
 .show(j4,Array.getElem?_replicate);split at h<;>simp at h
 .show(j4,Array.getElem?_replicate);split at h<;>simp at h
def xyj {mask:Nat} (mk:KW) (hs:Array Int) (le:hs.size<=mask):∃ o,(du,layClean mask hs,o)/\(zrY hs.size o):=by
  unfold layClean;rw[<- Array.foldl_toList];have c:∀(n:Nat) (l:eS) (k:Nat) (o:Own),hs.toList.drop k=l->(zrY k o)->k+l.length=hs.size->∃ b,l.foldl (λ acc h=>do
      let (owner,k) <- acc
      let j <- zvY owner Rv sy Gy
      pure (owner.setIfInBounds j (some k),gu)) (some (o,k))=some (b,hs.size)/\(zrY hs.size b):=by
    intro _ l
    induction l with
    | nil =>
      intro k o _ Y e;rw[W2,Nat.add_zero] at e;ext gc;ext yw o Y
    | cons h l ih =>
      intro k o d Y e;rw[ZF] at e;have v:wp hs.toList h:=by
        have:=congrArg (·[0]?) d;ext Re
      show(vz,j,f,y,Y.more mk dk v,b,q,x,ih gu Bi (by rw[<- List.drop_drop,d]; rfl) y dk);ext Bg b x;rw[QI];rw[<- q]
      ext me
      show (do let j <- zTF; pure (Bi,gu))=_;rw[f];rfl
  show(ue,o,q,Y,c 0 hs.toList 0 _ rfl Lay.nil dG,o,ib q,Y)
def xp7 {mask i:Nat} (h:i<=mask):(B5 i)<=mask:=by
 unfold runEnd;ext kR
theorem xpr (mask:Nat) (h:Int):∀ n,DC+(Mp).more<=mask
 | 0=>by
  show sy+((B5 sy)-sy)<=mask;have:sy<lO:=WY (bits h) (Wq mask);show(vA,xka mask sy,xp7 (mask:=mask) (i:=sy) dk)
 | iZ=>by
  have a:=qal;show (zsO).j+(zsO).more<=mask;unfold adv;split
  .show DC+1+((Mp).more-1)<=mask
   lia
  .show NV+((B5 NV)-NV)<=mask;have l:NV<lO:=WY _ (Wq mask);generalize NV=i at *;show(vA,xp7 (mask:=mask) (i:=i) dk,xka mask i)
def xt5 (mask:Nat) (h:Int) (n:Nat):DC<=mask:=by
 ext gV qal
theorem xod {α β:Type}{f:zsZ}{g:At}:(F3,(∀ x∈l,f x=some (g x))->l.filterMap f=l.map g)
 | [],_=>rfl
 | uN,h=>by
  rw[JQ,h x jL,xod λ y b=>zrJ];rfl
def x1r {mask:Nat} (mok:KW) (es:zQ) (le:es.size<=mask) (finger moves:Nat) (led plain:Bool) :
    ∃ t' order L',laid mask finger moves led plain (es.map (·.1))=some (t',order)/\(L'.map (·.2)).Perm es.toList/\Tab t' (order.filterMap (es[·]?)) L'/\t'.mask=mask/\(gf,t'.led,led,t'.moves=moves,t'.plain=plain):=by
  obtain⟨o,eo,Y⟩:62:=xyj mok (es.map (·.1)) (dH Array.size_map le);rw[Array.size_map] at Y;have q:∀ j k,(j,k)∈((UZ).filterMap λ j=>(zbS).map (j,·))↔o[j]?=(qz k):=λ j k=>by
    ext tR Yd
    . ext rV a Q e
      rw[Zg] at e;ext dA T S R e;cases R;rw[Hq Q,S]
    . intro e
      have U:j<lO:=by
        show(mL,Y.sz,(Qc.mp e).1)
      show(iF,j,ZD.mpr U);rw[xdr (dH Y.sz U) none] at e;rw[zfS];rfl
  have srt:(((UZ).filterMap λ j=>(zbS).map (j,·)).map (·.1)).Pairwise (·<·):=by
    rw[List.map_filterMap,List.pairwise_filterMap];refine Wv.imp λ{a b} ab x Z y X=>?_;simp only[Option.map_map,Zg] at Z X;show(zzX,rfl,Z);show(zzX,rfl,X);exact ab
  have H:(((UZ).filterMap λ j=>(zbS).map (j,·)).map (·.2)).Nodup:=by
    rw[Jx,Z5];have p1:=Z5.mp srt;show(zxK,λ{a b} Q hb lt e=>?_,p1);ext h8 j k a K T b;ext ua k T e;have:=Y.inj j K k ((q j k).mp Q) ((q K k).mp hb);ext Be K lt
    lia
  generalize hl:((UZ).filterMap λ j=>(zbS).map (j,·))=live at *;have J:∀ B∈live,B.2<es.size:=λ B h=>by
    show(zXM,Y.own B.1 B.2 ((zqH).mp h))
  refine⟨106,{ mask,place:=(live.map (·.1)).toArray,dummies:=#[],finger,led,moves,plain },(live.map (·.2)).toArray,zEr,?_,?_,?_,rfl,rfl,vq⟩
  . unfold laid
    rw[eo];show (du,some _,_);rw[hl]
  . have pr:(live.map (·.2)).Perm (Zv es.size):=by
      refine (Qb H Yr).mpr (gO k);rw[ZD,Zc];constructor
      . show(rV,B,h,rfl)
        exact J B h
      . intro h
        obtain⟨j,hj⟩:=Y.has k h;show(oS,(j,k),(q j k).mpr hj)
    have S:(zEr).map (·.2)=(live.map (·.2)).map zQT:=by
      rw[Zr,Zr];rfl
    have R:es.toList=(Zv es.size).map zQT:=by
      ext zoC dG h1 h2;have h3:i<es.size:=Ib
      simp[Q7,h3]
    rw[S,R];exact pr.map _
  . show(fW,?_,?_,?_,rfl,mok,dC e O,dC e O)
    . rw[Zr]
      rfl
    . rw[Zr,Array.toList_filterMap,List.toList_toArray,QU]
      have:∀ B∈live,((es[·]?)∘λ x:Ro=>fY) B=some (es.getD B.2 zeZ):=λ B h=>by
        show es[B.2]?=_;rw[Js (J B h)];simp[Q7,J B h]
      rw[xod this];rfl
    . ext dP Zr srt
    . ext jD B h O
      show(oz,(Qc.mp ((zqH).mp h)).1,Y.sz);show B.1<=mask
      lia
    . ext jD B h O
      obtain⟨C,a,b,⟨n,c,d⟩⟩:63:=Y.own B.1 B.2 ((zqH).mp h);have eh:zMT=C:=by
        rw[Jj,Array.getElem?_map,Js a] at b;have:=ZM.inj b;simp[Q7,a];exact this
      show ∃ n,(way mask zMT n).j=B.1/\_;rw[eh];show(gG,n,c,dC m hm);show(dy,I,d m hm,wl,xt5 mask C m);show zaQ∈_;unfold xck at I;have g:=xdr (o:=o) (j:=zaQ) (sv Y.sz) (some 0);cases e:Py zaQ with
      | none=>ext rJ I
      | some k =>
        rw[e] at g;show(K7,Zr,(kZ,(zaQ,k),(q _ _).mpr g))
#check XS
namespace XS
open PySem PySem.Spec PySem.SetTable
section
variable {prog:Program}{w:World}{K:Type} [DecidableEq K] {knd:KeyKind prog w K}{A:Around}{E:Value->Shared->Prop}{s:Shared}
theorem xo5 (n:Nat) {v:Value} (h:zmk):(yP,ofAClassStatement n v,false):=by
 cases v with
 | ref a=>ext zVV
 | _=>first|rfl|simp[ofAClassStatement]|(unfold ofAClassStatement; rfl)
def xlu {ks:sI}{a:Addr}{Q:B2} (hk:zvl) (h:zvG):jh (ofAClassStatement 8 eQ):=by
 have C:=hk.typeIs;ext CK o c n q B z x hk;unfold ofAClassStatement;show(eX,wpAny_typeOf_ref q ?_);rw[B];show(qm,((jo,"tuple" == "tuple",zvI,isSubtype (.type "tuple") (om "tuple"))>>=_));rw[eD dF];ext BJ;ext Ee Wb;show(eX,wpAny_seqItems q z ?_);simp only[];show(zHw,zTw zVi,MR x.byValue)
 .ext zQp v m;rw[xo5 _ (hall v Zo)];ext BJ;ext yX;exact Zp (MR zSx)
 .ext zHO m;subst m;exact Zp h
def xz8 {ks:sI}{a:Addr}{Q:B2}{stored:d4} (hk:zvl) (hs:∀ y∈stored,zlT) (h:zvG):jh (searchCouldBeSeen (.ref a) stored):=by
 unfold searchCouldBeSeen;ext ud;show(zPb,(zTw,∀ y∈rest,zlT),MR hs)
 .ext zQp y j;show(mG,ks',b,rfl,m,hall _ Zo);have nx:∀ u∈rest,∃ ks' b,(jQ u b)/\(zv s'.heap ks' b):=λ u hu=>hall u (Zm _ hu);simp only[];by_cases c:(LT||carriedByValue (.ref a)&&carriedByValue (.ref b))=true
  .ext pi c;exact Zp (MR nx)
  .ext lD c;ext zHm hk;ext zHm m;show(eX,xlu hk ?_);ext yX;show(eX,xlu m ?_);ext yX;exact Zp (MR nx)
 .ext zHO j;subst j;exact Zp h
#check _
section
variable {prog:Program}{w:World}{K:Type} [DecidableEq K] {knd:KeyKind prog w K}{A:Around}{E:Value->Shared->Prop}{s:Shared}
noncomputable def xgy (es:zQ) (i:Nat):Int:=(es[i]?.map (·.1)).getD 0
theorem xn6 {d a:Addr}{o:Obj}{es:zQ}{ep:Nat}{t:SetTable}{L:Sj}{k:sI}{Q:lJ SetFound} (T:qr) (ho:rN) (hd:NT) (hf:zMr)
    (hu:zqY) (hk:w8 k a) (keys:zCJ)
    {n0:Nat} (he:(zh,(zes n0).j)) (hn0:n0<zaz)
    (yes:(∃ e∈L,∃ b,zrh/\(w8 k b))->Q (.there none) s)
    (no:∀ m,(zh zxd)->(∀ i,i<m->(zbg).j∈L.map (·.1))->(∀ e∈L,zKN)->Q (.free zxd false) s) :
    ∀(fuel n:Nat) (stand:hW Probe),n0-n<fuel->n<=n0->stand.getD (t.probeStart qg)=toP zUD->(F8 (zkC zbg)) ->
      (jh (setSearchFrom d eQ qg true fuel stand))
  | 0,n,stand,h,_,_,_=>dk
  | fuel+1,n,stand,hfu,hn,hst,past=>by
    unfold setSearchFrom;ext ztO hf;simp only[];have ab:t.gaveWay=false:=by
      unfold gaveWay;rcases T.mok with e|e|e|e|e<;>rw[e]<;>decide
    rw[ab];ext yX;show(eZ,m,nm,O,ae,xoc T.up T.dm (xgy es) qg zaz n (hB n0 hn dk he));have mn:m<=n0:=by
      refine Wi mI;show(iu,i,e,O n0 hn z);ext GR he
    have B:∀ i,i<m->(zkC zbg):=λ i hi=>by
      rcases Y1 i n with z|z
      . exact past i z
      . show(dA,j,X,e2,O i z hi)
        show(dA,e,e3,e4,T.live.mp X);refine(fJ,j,e,X,e3,λ q=>absurd ?_ e2);unfold xgy;show(fG,T.es_,e3,q)
    have ac:∀ i,i<m->(zbg).j∈L.map (·.1):=λ i hi=>by
      obtain⟨j,e,X,e3,_⟩:83:=B i hi;show(dA,e',e4,e5,T.live.mp X);show(sF,(dB,e',Zi e4,e5))
    rw[hst];have Y:∀ met,(du,probe.go t (xgy es) qg zaz (toP (way t.mask qg n)),met)->(du,t.probe (xgy es) qg (toP zUD),met):=λ_ e=>e;rcases ae with⟨pe,emp⟩|⟨i,pc,liv,hi⟩
    . split
      . ext zEC pe;refine Zp (no m emp ac (eI e U b J C));show(hJ,k',b',h1,I,H,keys e U);have:k'=k:=by
          ext fe J I I;exact H.inj C
        ext AK;exact T.absent emp (P:=λ v=>∃ b,(uU b)/\(w8 k' b)) (λ i hi j X l1 l2 l3 ⟨1062,b1,l4,l5⟩=>by
          show(hJ,j2,e2,x1,x2,x3,B i hi);ext fe l1 x1 x1;show(kd,l2,x2,x3 l3 b1 l4 l5)) e U h1 (dB b J C)
      . ext zOa pe
    . show(dA,e,le,ej,T.live.mp liv)
      show(hJ,k',b,h1,I,H,keys e (Zi le));obtain⟨pp,hv,v⟩:=e;have I:uU b:=I;subst I;have Z:dX es (j3 hv b):=jw T.es_ le
      have sm:(UF,t.sameMemory t.moves t.mask):=by
        unfold sameMemory;rw[if_pos (beq_self_eq_true _)]
      have af:m≠n0:=y9 he liv
      have R:k'≠k->∀ i',i'<m+1->(zkC (zes i')):=λ c i' hi'=>by
        rcases Y1 i' m with z|z
        . exact B i' z
        . ext FC i' m;refine(fJ,i,_,liv,le,λ_ b2 J C=>c ?_);have J:Zw b=Zw b2:=J;cases J;exact H.inj C
      have aa:∀ y∈(List.map (λ x:zsv=>x.snd) (Array.filter (λ x=>x.fst == qg) es).toList),zlT:=λy hy=>by
        ext tt hx hy;rw[Array.toList_filter,T.el] at hx;show(jD,e',ad,(Z9.mp hx).1);obtain⟨k2,b2,_,x2,x3⟩:83:=keys e' ad;exact fP k2 b2 x2 x3
      split
      . ext zEC pc;show(zQC,Ze (xz8 hk aa ?_),?_)
        . ext yX
          ext zBC
          . ext zBy
          . show(zAF,xn6 T ho hd hf hu hk keys he hn0 yes no fuel (m+1) zMs dk dk rfl (R c))
        . skip
          ext zBC
          . ext zBy
          . show(zAF,xn6 T ho hd hf hu hk keys he hn0 yes no fuel (m+1) zMs dk dk rfl (R c))
      . ext zOa pc
#check _
def Tab.plainly {t:SetTable}{es:zQ}{L:Sj} (T:qr) (b:Bool):Tab { t with plain:=b } es L:=eP T.pl T.el T.srt T.dm T.mok T.bd T.rc
def Tab.fits {t:SetTable}{es:zQ}{L:Sj} (T:qr) (le:zaT):zMr:=by
 unfold SetTable.fits fill;rw[zfX,Cb,T.dm];simp;exact le
section
variable {prog:Program}{w:World}{K:Type} [DecidableEq K] {knd:KeyKind prog w K}{A:Around}{E:Value->Shared->Prop}{s:Shared}
theorem xrz (n:Nat) {v:Value} (h:zmk):∃ b,(yP,hashByValue n v,b):=by
 cases v with
 | ref a=>ext zVV
 | _=>cases n<;>exact(iK,by unfold hashByValue; rfl)
theorem xn0 {ks:sI}{a:Addr}{Q:B2} (hk:zvl) (h:∀ b,Q b s):jh (hashByValue 8 eQ):=by
 have z:=hk.typeIs;ext CK o c n m C x q hk;unfold hashByValue;show(eX,Wz z F.slot_tuple_hash.lookup ?_);show(qm,seqItems? (.ref a)>>=_);show(eX,wpAny_seqItems m x ?_);show(zHw,s'=s/\zVi,hR q.byValue)
 .rintro v rest r s' ⟨rfl,hall⟩;show(CA,B,xrz 7 (hall v Zo));rw[B];ext BJ;cases b with
  | true =>
   ext Ee Wb;exact Zp (hR zSx)
  | false =>
   show(Rc,Bool.not_false);exact Zp (Zp (h _))
 .rintro ⟨r1,r2⟩ s' ⟨rfl,_⟩;cases r1 with
  | none=>exact Zp (h _)
  | some b=>exact Zp (h _)
def xlr {h h':Heap}{ks:sI}{a d:Addr}{o:Obj}{es ep t} (x:zv h ks a) (ho:yY) (hd:NT) (hs:ZV d h h'):zv h' ks a:=by
 ext CK q b n f v c u x;have p:a≠d:=by
  rintro rfl;show(jz,q=o,ZM.inj (f.symm.trans ho));show(eW,hd,c,nomatch c)
 exact(mX,q,b,n,(hs.2 a p).trans f,v,c,u)
noncomputable def Cap (m l:Nat):Prop:=(m=7/\l<=4)\/(m=31/\l<=18)\/(m=127/\l<=76)\/(m=511/\l<=306)\/(m=2047/\l<=1228)
noncomputable def xjp (l m:Nat):Prop:=(l=5/\m=31)\/(l=19/\m=127)\/(l=77/\m=511)\/(l=307/\m=2047)
noncomputable def SetT (knd:zSK) (h:Heap) (d:Addr) (xs:BG):Prop:=∃ o es ep t L,yY/\o.ExactSet/\NT/\qr/\(L.map (·.2)).Perm (xs.map λ x=>(j3,zsC dM,fY))/\(∀ x∈xs,(zv h dM fY))/\Cap t.mask L.length
def SetT.nil {h:Heap}{d:Addr}{o:Obj}{ep fg mv:Nat}{led:Bool} (ho:yY) (hex:o.ExactSet) (hd:o.data=.set #[] ep (.fresh fg mv led)):Ac h [] :=
 (oX,o,#[],ep,_,(iY,66,[],ho,hex,hd,eP rfl rfl Jh.nil rfl jr m9 m9,RP,⟨m9,Md lW⟩))
def stored {h:Heap}{d:Addr}{o:Obj}{es:zQ}{ep:Nat}{t:SetTable} (ho:yY) (hd:NT) (es':zQ) (t':SetTable) :
    (du,(h.update d (Wm es' t')).get? d,{ o with data:=.set es' (ep+1) t' }):=by
  show(Ed,Jv (Wm es' t') ho (ib zNS),zNS)
def xsi {d:Addr}{o:Obj}{es:zQ}{ep:Nat}{t:SetTable}{L:Sj}{Q:wY} (T:qr) (le:zaT) {m5:Nat} (l5:xjp L.length m5) (ho:rN) (hd:NT)
    (h:∀ es' t' L',(L'.map (·.2)).Perm (L.map (·.2))->(eC,Tab t' es' L',t'.mask=m5,L'.length=L.length,Q () { s with heap:=s.heap.update d (Wm es' t') })) :
    jh (setRelay d (SetTable.grown L.length)):=by
  unfold setRelay;show(ztO,T.fits le);simp only[];show(dw,y,SetTable.sizeAbove (SetTable.grown L.length)=m5+1,(by rcases l5 with⟨e,rfl⟩|⟨e,rfl⟩|⟨e,rfl⟩|⟨e,rfl⟩<;>rw[e]<;>decide),j,MkOk m5/\L.length<=m5/\m5<=2047,by unfold MkOk; unfold xjp at l5; lia)
  rw[y];have I:¬ (m5+1>sizeLine):=by
    have:gY (2048:Nat):=dF
    lia
  ext jT I;obtain⟨t',c,L',J,B,D,mk,_⟩:105:=x1r (mask:=m5) j.1 es (dH,Cb,eE j) t.finger (t.movedTo m5) t.led t.plain;have H:t.relaid (es.map (·.1)) (SetTable.grown L.length)=some (t',c):=by
    unfold relaid;ext dP y J
  rw[H];have C:L'.length=L.length:=by
    have:=B.length_eq;show(p8,T.el,Za,this);exact this
  have sz:(c.filterMap (es[·]?)).size=es.size:=ma D.size.2 Cb C
  ext ud;show wpAny _ _ (if (c.filterMap (es[·]?)).size != es.size then _ else _) _ _ _;show(jT,tT sz);ext Aa;have x:(L'.map (·.2)).Perm (L.map (·.2)):=by
    show(mL,T.el,B)
  exact wpAny_storeSet_of ho hd (h _ _ L' x D mk C) (kc,sz,Cb,ZR (eE j) (ZR (fH j) dF))
def add {d a:Addr}{k:sI}{xs:BG}{Q:B2} (hu:zqY) (S:Ac s.heap xs) (hk:w8 k a) (small:xs.length<1000)
    (yes:k∈xs.map (·.1)->zvG) (no:k∉xs.map (·.1)->(Mv,OZ,Ac h' ztf,Q true kJ)) :
    jh (setAddHashed d eQ qg):=by
  obtain⟨o,es,ep,t,L,O,ae,R,T,pm,ks,ah⟩:=S;have ll:L.length=xs.length:=by
    have:=pm.length_eq
    rwa [Za,Za] at this
  have H:=ah;unfold Cap at H;show(dw,le,zaT,dk,lt,L.length<t.mask,dk)
  have hf:=T.fits le;unfold setAddHashed setAddHashedIn;refine Jo (Ze (YU O R hf ?_));simp only[];have nb:byScan (.ref a) es=false:=rfl;rw[nb];ext yX;obtain⟨n0,ad,he⟩:=T.some_free le (tupleKeyHash knd k);have keys:zCJ:=λ e D=>by
    have m:=zYv;obtain⟨x,B,ex⟩:=zzi;refine eY dM fY ?_ ?_ ziq
    . rw[<- ex]
    . rw[<- ex]
  have ai:n0<100000:=by
    refine ZI ad ?_;unfold turns;rcases T.mok with e|e|e|e|e<;>rw[e]<;>decide
  show(eX,xn6 T O R hf hu hk keys he ad (gO hy) (hF m em inL nk) 100000 0 none dk lW rfl (λ i hi=>absurd hi zox))
  . simp only[]
    refine Zp (yes ?_);obtain⟨e,D,b,eb,af⟩:=hy;have mm:=zYv;obtain⟨x,B,ex⟩:=Zc.mp mm;have:fY=b:=by
      rw[<- ex] at eb;have eb:Zw fY=Zw b:=eb;injection eb
    ext gZ kx ziq this kx;show(K7,af.inj kx,A9 B)
  . simp only[]
    have ac:k∉xs.map (·.1):=λ z=>by
      obtain⟨x,B,rfl⟩:=zzJ;have mm:=pm.mem_iff.mpr (Zc.mpr (A9 B));obtain⟨e,D,ee⟩:=Zc.mp mm;exact nk e D fY (jn ee) ziq
    show(eX,YU O R hf ?_);simp only[];obtain⟨I,ab,T',J⟩:=T.add (x:=eQ) em inL (xt5 _ _ _);generalize aj:t.put zxd=tp at *;obtain⟨t1,p1⟩:=tp;simp only[] at *;have l1:I.length=L.length+1:=by
      show(zef,ab.length_eq,ZF)
    have aa:(I.map (·.2)).Perm ((ztf).map λ x=>(zsC dM,Zw fY)):=by
      rw[Zt];have q1:(I.map (·.2)).Perm ((qg,Zw a)::L.map (·.2)):=ab.map λ x:Row=>fY;exact q1.trans ((pm.cons _).trans (List.perm_append_singleton _ _).symm)
    have kk:∀ h',OZ->∀ x∈ztf,zXQ:=λ h' sb x B=>by
      rcases Zz.mp B with B|B
      . exact xlr ziq O R sb
      . show(dP,Zs.mp B,xlr hk O R sb)
    generalize ak:insertAt es p1 (qg,Zw a)=C at *;have U:∀ v:SetTable,Tab v C I->v.mask=t.mask->(jh (do storeSet d C v; if (! false&&v.tooFull)=true then do setRelay d (grown (es.size+1)); zvI else zvI)):=λ v T2 m2=>by
      show(eX,(wpAny_storeSet_of O R ?_ (dH,T2.size.2,ZR zrL dF)));show(dy,M,stored O R C v,sb,ZV.update s.heap d (Wm C v));have fl:v.fill=I.length:=by
        unfold fill;rw[T2.size.1,T2.dm];rfl
      by_cases c:v.tooFull=true
      . rw[c]
        simp only[Bool.not_false,Bool.and_self,if_true];have Y:=c;unfold tooFull at Y;rw[fl,m2] at Y;have Y:=of_decide_eq_true Y;obtain⟨m5,l5⟩:∃ m5,xjp I.length m5:=by
          unfold xjp;rcases H with e|e|e|e|e
          . exact Wt 31 dk
          . exact Wt 127 dk
          . exact Wt 511 dk
          . exact Wt 2047 dk
          . exact Wt 0 dk
        have e5:es.size+1=I.length:=sv Cb
        rw[e5];show(eX,xsi T2 dk l5 M rfl λ X t' L2 p2 T3 m3 l3=>?_);have Z:=sb.trans (ZV.update (s.heap.update d (Wm C v)) d (Wm X t'));exact Zp (no ac _ Z ⟨_,X,_,t',L2,stored M rfl X t',ae,rfl,T3,p2.trans aa,kk _ Z,by rw[m3,l3]; unfold Cap; unfold xjp at l5; lia⟩)
      . rw[Ja.mpr c]
        ext Ee YB;refine Zp (no ac _ sb ⟨_,C,_,v,I,M,ae,rfl,T2,aa,kk _ sb,?_⟩);have Y:¬ (v.fill*5>=v.mask*3):=λ z=>c (decide_eq_true z);rw[fl,m2] at Y;rw[m2];unfold Cap
        lia
    show(zQC,Ze (xn0 hk (gO b)),Ze (Zp ?_))
    . cases b with
      | true=>exact U t1 T' J
      | false=>exact U _ (T'.plainly false) J
    . exact U t1 T' J
#check _
#check XS
namespace XS
open PySem PySem.Spec PyProof.Rows
section
variable {K:Type} [DecidableEq K]
noncomputable def oneT (acc:BG) (x:sI × Addr):BG:=if dM∈acc.map (·.1) then acc else Sb
noncomputable def xbp (ky:Lz) (ad:Fl) (i:Nat):BG:=((Nj).map λ j=>(ky j,ad j)).foldl oneT []
def xej (ky:Lz) (ad:Fl) (i:Nat):xbp ky ad dW=oneT zt (ky i,ad i):=by
 unfold xbp;rw[JB,Zt,Yk];rfl
theorem xgl (ky:Lz) (ad:Fl):∀ i,∀ x∈zt,∃ j,j<i/\x=(ky j,ad j)
 | 0,x,h=>nomatch h
 | dW,x,h=>by
  rw[xej] at h;unfold oneT at h;ext Di
  .ext zFw
  .rcases Cv with h|h
   .ext zFw
   .exact dB i dk zzT
theorem xjm (ky:Lz) (ad:Fl):∀ i,(zt).length<=i
 | 0=>eV
 | dW=>by
  have b:=xjm ky ad i;rw[xej];unfold oneT;split
  .lia
  .rw [Zn,ZZ]
   lia
#check _
section
variable {pr:Program}{wd:World}{K:Type} [DecidableEq K] {knd:KeyKind pr wd K}
def SetT.move {h h':Heap}{d:Addr}{xs:BG} (S:Ac h xs) (g:∀ o,yY->(du,h'.get? d,o)) (ks:∀ x∈xs,zXQ):Ac h' xs:=by
 obtain⟨o,j,ep,t,⟨L,f,a,i,T,c,_,b⟩⟩:121:=S;exact oX o j ep t (iY,66,L,g o f,a,i,T,c,⟨ks,b⟩)
def xi9 {h h':Heap}{k:sI}{a:Addr} (x:zv h k a) (g:∀ o,TZ->(zsG o)):zv h' k a:=by
 ext Mu o b n c r x;exact(gm,102,o,b,n,g o c,r)
variable {ar:Around}{R:Result->Shared->Prop}{it:Addr}{fp wr:List Addr}{G:Array GenState->Array GenState->Prop}{n:Nat}{P:Nat->Value->Prop}{St:Nat->Shared->Prop}
theorem xpe (wk:WalksS pr wd ar.in1 it fp wr G n P St) (d:Addr) (nd:d∉fp) (ky:Lz) (ad:Fl) (hv:∀ i v,P i v->v=zsU) (far:(F8,ad i∉d::wr)) (hu:ar.in1.units<cLine) (small:zhI) :
    ∀(k i:Nat) (s:Shared),n-i=k->i<=n->St i s->(Ac s.heap zt)->zGu ->
      (∀ s2,(zyc (d::wr))->(Ac s2.heap (xbp ky ad n))->(zpl s2)) ->
      codeAny (model pr wd) ar (.builtin "set.update.loop" (uD,rE qU it)) R s:=by
  show(dw,Z,d∉wr,λ z=>nd (wk.sub _ z),more,∀ b∈wr,b∈d::wr,Bc ziH);have L:∀{s s2:Shared},(zyc (d::wr))->zGu->qav:=λ c D j hj=>xi9 (D j hj) λ o e=>c.heap _ _ (far j hj) e;have J:∀{s s2:Shared}{i:Nat},(ft,i<=n,zyc wr,qav,Ac s.heap zt,Ac s2.heap zt):=λ hi c D S=>S.move (λ o e=>c.heap d _ Z e) λx hx=>by
    show(iD,j,a,xgl ky ad _ x hx);exact D j dk
  intro k
  induction k with
  | zero =>
    ext zXq;show(jz,i=n,dk)
    show(zBm,wk.done s _ _ st (dC s2 c));exact Zp (A s2 zsS (J eV c zQw O))
  | succ k ih =>
    ext zXq;have lt:jS:=dk
    show(zBm,wk.item i s _ _ lt st (eI v s2 pv H c));show(AR,hv i v pv);show(dy,q,zQw,I,J le c q O);show wpAny _ ar.in1 (holding [Zw (ad i)] (setAdd d zsU)>>=_) _ _ s2;refine Ze (Jo ?_);unfold setAdd;refine Jo (Ze (wpAny_pyHash_tuple hu (q i lt) ?_));have Y:(zt).length<1000:=(jH,xjm ky ad i)
    refine add (s:={ s2 with toks:=s2.toks+((ky i).length+1) }) hu I (q i lt) Y (gO U) (hF nin h2 sb so3)
    . have X:qaG=zt:=by
        rw[xej];exact if_pos U
      refine Zp ⟨zHG,ih dW _ dk lt (zLQ,λ b z o e=>e) (dH X I) q (d8 Q C B)⟩;exact A Q (Moved.trans wk.gtrans ((zsS).then_heap (Qf _ _) (mO z e)) C) B
    . have X:qaG=zt++[(ky i,ad i)]:=by
        rw[xej];exact if_neg nin
      have T:zKk h2:=λ j hj=>xi9 (q j hj) λ o e=>by
        show(lZ,sb.2 _ (λ M:ad j=d=>far j hj (M▸Zo)))
      refine Zp ⟨zHG,ih dW _ dk lt (zLQ,λ b z o e=>?_) (dH X so3) T (d8 Q C B)⟩
      . show(lZ,sb.2 b (λ M:b=d=>nd (M▸z)))
      . refine A Q (Moved.trans wk.gtrans ((zsS).then_heap (Qf _ _) (mO z ?_)) C) B
        show(lZ,sb.2 b (λ M:b=d=>z (M▸Zo)))
#check _
#check XS
namespace XS
open PySem PySem.Spec PyProof.Rows XL
section
variable {pr:Program}{wd:World}{K:Type} [DecidableEq K] {knd:KeyKind pr wd K}{ar:Around}{E:Value->Shared->Prop}{s:Shared}
theorem xju {l:Addr}{its:oC} (ky:Lz) (ad:Fl) {Q:eR} (hd:ar.handled=none) (hu:ar.in1.in1.in1.units<cLine) (hl:s.heap.IsList l its) (hi:∀(i:Nat) (v:Value),(dX its v)->v=zsU) (hk:∀ i,i<its.size->(w8 (ky i) (ad i))) (small:its.size<=1000)
    (h:∀(h2:Heap) (tk:Nat),zCK->zGQ->(zXp (Bk h2))) :
    xC (model pr wd) ar (call (.type "set") [kW]):=by
  show(Mn,c0,aj,ai,Qd.mro)
  show(dy,X,Qd.made,af,Qd.sub);refine WW (codeAny_of_tree ?_);show(oy,callAny (.type "set") _);refine Zp ⟨Code.quiet_builtin _ fR,QH F.entry_type_call ?_⟩;rw[Around.under_plain (weight_type_call_type "set" [kW] []) rfl];show(iR,k1,Qd.notType,k2,Qd.canCreate,k3,F.typeCall_set_1 (.ref l))
  repeat (any_goals (first|ext ii|ext ju))
  refine QL (code_set_new_1 kW (E:=E) (Q₁:=λ ob s1=>∃ x:Bool,(zXa ob)/\s1=zOR) λ x=>A9 rfl) (d8 r s1 hr);cases r with
  | error e=>exact hr
  | ok fl =>
    cases fl with
    | ret ob =>
      show(iD,x,rfl,hr);show(dw,g0,(du,(Iz).get? s.heap.objs.size,zkd),j9,J,Shared.TypeIs zOR HK "set",iJ g0)
      show(dy,ak,Qd.init.lookup,am,Qd.init.bind (.ref s.heap.objs.size))
      repeat (any_goals (first|ext ii|ext ju))
      refine QL (codeAny_call_builtin (R:=wants (λ r s2=>r=.none/\∃ h2 tk,gf s2 (Bk h2) zCK zGQ) E) Qd.init.plain F.entry_set_init (check_set_init_1 J ?_)) (d8 r2 s2 hr2)
      . obtain⟨ol,gl,cl,⟨nl,dl⟩⟩:63:=hl
        obtain⟨ah,B,U,A⟩:=ol;simp only at cl dl;subst cl dl;have ab:(du,(Iz).get? l,(Xj,B,.seq its nl,A)):=Zk _ gl;show(dy,a1,F.sub_list_set,a2,F.sub_list_frozenset);show(dw,a3,(AD,Value.type "list",Value.type "dict"),dF,l1,(Iz).IsList l its,(Ai,ab,vD nl))
        unfold Builtin.«set.__init__» noKeywords Builtin.Frozenset.updateFrom;generalize ac:pyIter=PI
        wp_walk
        subst ac;refine wpAny_pyIter_list l1 (Ze (wpAny_runValue ?_));have ll:tH l:=Z3 gl;have h3:ar.in1.in1.in1.handled=none:=ie hd
        have n1:l≠qbv:=by
          rw[YY];exact ZU (ZI ll (WB _))
        have n2:s.heap.objs.size∉[qbv,l]:=by
          rw[YY];simp only[Zu,Jz,or_false,not_or];show(dO,zvg,Qv ll)
        have kl:∀ i,i<its.size->(tH,ad i):=λ i D=>by
          obtain⟨o',_,_,Z,_⟩:102:=hk i D;exact Z3 Z
        refine xpe (knd:=knd) ((Walks.list h3 _ l n1 its).toS) s.heap.objs.size n2 ky ad hi (dC i D) hu small (its.size-0) 0 _ dk lW ⟨Km,(l1.push _)⟩ ?hS (λ j hj=>xi9 (hk j hj) λ o e=>zcb) ?hE
        . have:=kl i D
          show(zDy,ZU this,this)
        case hS =>
          have g1:(du,((Iz).push (iN,"list_iterator",.fields #[kW,zgh])).get? s.heap.objs.size,zkd):=Zk _ g0;exact SetT.nil g1 zrT rfl
        case hE =>
          intro s3 H O;obtain⟨Y,aa,ae,M,P⟩:=s3;show(jz,aa=s.gens,H.gens);show(jz,ae=s.drawn,H.drawn);show(jz,P=s.os,H.os);refine Zp (Zp (hR,gK Y M O (mO,lb,H.heap b o ?_ zcb)));show(zDy,ZU lb,lb)
      . cases r2 with
        | error e=>exact hr2
        | ok fl2 =>
          cases fl2 with
          | ret r =>
            obtain⟨rfl,h2,tk,rfl,O,kp⟩:=hr2
            repeat (any_goals (first|ext ii|ext ju))
            exact h _ _ O kp
          | _=>exact hr2.elim
    | _=>exact hr.elim
#check _
#check XS
namespace L2
open PySem PySem.Spec PyProof.Rows XL XS
section
variable {K:Type} [DecidableEq K]
noncomputable def oneK (acc:Ew) (x:sI):Ew:=if x∈acc then acc else Sb
noncomputable def xeo (xs:Ew):Nat:=zYM oneK
theorem xmx:∀(xs:BG) (acc:BG),(xs.foldl oneT acc).map (·.1)=(xs.map (·.1)).foldl oneK (acc.map (·.1))
 | [],acc=>rfl
 | wc,acc=>by
  rw[QI,xmx r,Zq,QI]
  ext me
  unfold oneT oneK;split
  .rfl
  .rw [Zt];rfl
def xrx (xs:Ew) (ad:Fl):(zER).length=xeo xs:=by
 unfold xeo;rw[<- Za (f:=(·.1)),show (zER).map (·.1)=xs.foldl oneK [] from ?_];unfold xbp;rw[xmx,Zr]
 ext me
 ext zoC dG c b;simp[Zb b]
theorem xqa:∀(xs acc:Ew),(vU zRg zNp)↔(∀ x∈xs,x∉acc)/\xs.Nodup
 | [],acc=>dG
 | wc,acc=>by
  have le:∀(xs acc:Ew),kS zRg zNp:=by
   intro xs
   induction xs with
   | nil=>intro acc; exact Zl _
   | cons x r j =>
    intro acc;refine ZR (j _) ?_;rw[ZF];unfold oneK;split
    .lia
    .rw [Zn,ZZ]
     lia
  show (vU (r.foldl oneK (oneK acc x)) _)↔_;rw[ZF,ZH];by_cases hx:x∈acc
  .rw [show oneK acc x=acc from eD hx];constructor
   .ext kH
    show(gV,le r acc)
   .ext kH
    exact absurd hx (z.1 x jL)
  .rw [show oneK acc x=Sb from d6 hx];have j:=xqa r Sb;rw[Zn,ZZ] at j;rw[(gE,acc.length+zdS=acc.length+1+r.length),j];constructor
   .rintro ⟨q,s⟩;show(gG,zxf,λ z=>q x z Tg,s);rcases Ad with rfl|b
    .exact hx
    .exact λ z=>q y b (ZO _ z)
   .ext vn q s v;show(gR,uW y b,v);rcases zzK with z|z
    .exact q y T7 z
    .rw [Zs.mp z] at b;exact s b
def xkc {xs:Ew}:xeo xs=xs.length↔xs.Nodup:=by
 have:=xqa xs [];unfold xeo;ext Re
#check _
noncomputable def xvt (K:Zf) (ta:TA):TE:=(qX,ta Z H λ vs H1=>∃(a:Addr) (qs:dJ) (kss:List (List Key)),vs=o4/\(dN,SqL K H1 a rR,UG kss.length,(∀(i:Nat) q ks,BY->(dX kss ks)->(du,H1 q,.tup (ks.map kV))),qs.length<=1000,Q (.int (eg,xeo kss)) H1))
section
variable {X:Cx}
def xjr {a:Expr}{ta:TA}{p p2 pos pos2:Pos} (hu:XV) (hc:nh) (hg:Gl X "len") (hm:Ft "len") (hg2:Gl X "set") (hm2:Ft "set") (ha:zdK)
    (hs:zdE:=by rfl) (hs3:(zet,[VR],tZ VR):=by rfl) :
    PE X (Oi "len" [VR]) (xvt X.K ta):=by
  show(R5,J,(Ls,PyProof.Rows.Boot.«len»,?_));refine PyProof.Rows.callWith_builtin1 ?_ (ib hs3) rfl;show(zCM,tZ VR);refine Call_ (xdd I hg2 hm2 PyProof.Rows.Boot.«set» (zjr (thn (ha pos2 J s Z H _ I h) λ us s1 ⟨vs,H1,I1,r1,q1⟩=>?_)));obtain⟨l,qs,j,e,hq,O,ab,hx,q⟩:106:=q1;ext gc;ext wO ru r1;ext qF l ru;show(eZ,its,rv,pl,hz,I1.list hq);show(gZ,M,rv.length,Za,M);have sz:its.toArray.size=qs.length:=fC Z6 M
  refine xju (knd:=pA) (λ i=>j.getD i []) (λ i=>qs.getD i 0) np ?hu pl.isList (wa i v) (dC i hi) (dH sz hx) (hF h2 tk so kp)
  case hu =>
    show X.A.units+1+1+1<cLine
    lia
  . have e':dX its v:=yZ
    have lt:i<qs.length:=by
      ext M7 e'
    show(dA,v',S,aa,rv.get (i:=i) (x:=V.ref GK) zhF);ext fe e' S S;show(jz,v=Zw GK,aa);simp[mV]
  . rw[sz] at hi
    have U:i<j.length:=dk
    have:=xeh (P:=X.prog) (w:=X.w) I1.hok (ab i GK j[i] (Zb hi) (Zb U));show(dw,e1,j.getD i []=j[i],(ie,Zb U),e2,qs.getD i 0=GK,(ie,Zb hi))
    show IsTupleKey pA s1.heap (j.getD i []) (qs.getD i 0);ext fG e1 e2 this
  refine YW ?_;rw[sz,O] at so;show(n7,I2,J,H1,{ s1 with heap:=h2,toks:=tk },I1.kept (t':=tk) (ye,kp b o (Z3 e) e));obtain⟨o,es,ep,t,⟨L,ho,ac,hd,T,pm,_,Y⟩⟩:121:=so;have ll:es.size=xeo j:=by
    have:=pm.length_eq;ext p8 Za xrx this;rw[Cb,this]
  refine call_len_set ho ac hd (T.fits (by unfold XS.Cap at Y; lia)) ?_ ⟨83,.int (eg,xeo j),H1,I2.tok _,⟨tk+1,jn ll⟩,q⟩;rw[Cb];unfold XS.Cap at Y
  lia
#check _
#check L2
namespace L2
open PySem PySem.Spec PyProof.Rows
#check L2
namespace L2
open PySem PySem.Spec PyProof.Rows XL PySem.W
def xmg {prog:Program}{w:World}{A:Around}{E:eR}{s:Shared}{it d:Addr}{i ep:Nat}{o:Obj}{es:mr}{en:DictEntry}{ok ov:Value}{Q:Cu}
    (st:zaa s.heap i es.size) (hd:rN) (hdat:nA) (hi:Rt)
    (h:∀ h',(ft,IsItemIterOut h' it d dW es.size ep en.key en.val s.heap.objs.size,(du,h'.get? s.heap.objs.size,Iy zaZ),h'.objs.size=m8,XZ Bq,Q (dR s.heap.objs.size) kJ)):Lx:=by
  have hT:BK it "dict_itemiterator":=iJ st
  ext zjF hT Yi;show(Hj,Yi,hT,F.entry_dict_itemiterator_next,F.args_dict_itemiterator_next_1 _);ext qv Z dr tk os;have il:it<Z.objs.size:=Z3 st;refine Ze <| Zp <| Ze <| Ze <| Ze <| YE hT <| Zp <| Ze <| wpAny_fieldsOf st rfl ?_
  show(Rc,show Builtin.Dict_items.ownsTuple "dict_itemiterator"=true from dF);show(oy,MJ (Zw d == JJ));show(jT,AG Z4);refine Ze <| Zp <| Ze <| ZX hd hdat ?_
  ext jT dG;refine Ze <| Zp <| Ze <| Jk hd hdat ?_
  ext jT dG;ext Aa;have e1:znQ:=by
    show(fG,d6 zge,JS,hi)
  simp only[e1];refine Ze <| Ze <| YE hT <| Zp <| Ze <| YL hT ?_
  show(Ak,setField Cy 3 (rawInt (i9+1)));refine Ze <| Qq st dG (d8 J Y C)
  show(vG,C,ZV it Z J,C,T1,Shared.TypeIs (eY J g dr tk os) Cy "dict_itemiterator",iJ Y,Ze <| Jo <| Ze <| YL T1 <| Ze <| YL T1 ?_)
  show(oy,Builtin.Dict_items.pairFromOwner Cy 6 en.key en.val);unfold Builtin.Dict_items.pairFromOwner;refine Ze <| wpAny_newTuple ?_
  have H:=Zk (Iy zaZ) Y;have M:(du,(NH).get? Z.objs.size,Iy zaZ):=by
    show(mL,C.1,j9)
  have L:(NH).objs.size=Z.objs.size+1:=fC YY C.1
  show(dw,X,∀ b ob,b≠it->(du,Z.get? b,ob)->(du,(NH).get? b,ob),λ b ob K e=>Zk _ (C.extBut b ob K e),z1,J.objs.size=Z.objs.size,C.1);show wpAny _ _ (Builtin.Dict_items.ownedTupleIsFree (.ref it)>>=_) _ _ (eY NH g dr tk os);rw[z1];revert H M L X;generalize NH=h2;intro H M L X;clear C T1 Y z1;unfold Builtin.Dict_items.ownedTupleIsFree;refine Ze <| Ze <| QC H rfl (x:=.none) rfl <| Zp ?_
  ext Pc;refine Ze <| QC H rfl (x:=ok) rfl <| Ze <| QC H rfl (x:=ov) rfl ?_
  refine Ze <| Qq H dG (d8 h3 ad U)
  refine Ze <| Qq ad dG (d8 h4 ac S)
  refine Ze <| Qq ac dG (d8 h5 ab R)
  refine Ze <| Qq ab dG (d8 h6 aa P)
  have n1:=Qv il;refine Ze <| wpAny_letGo <| Zp <| Zp (ja,Zp (h h6 aa ?_ ?_ λ b ob K e=>?_))
  . exact P.extBut _ _ n1 (R.extBut _ _ n1 (S.extBut _ _ n1 (U.extBut _ _ n1 M)))
  . exact P.1.trans (R.1.trans (S.1.trans (U.1.trans L)))
  . exact P.extBut b ob K (R.extBut b ob K (S.extBut b ob K (U.extBut b ob K (X b ob K e))))
def xnn {prog:Program}{w:World}{A:Around}{E:eR}{s:Shared}{it d:Addr}{ep:Nat}{o:Obj}{es:mr}{ok ov:Value}{Q:Cu}
    (hA:zbB) (st:zaa s.heap es.size es.size) (hd:rN) (hdat:nA)
    (h:zoV):Lx:=by
  have j:BK it "dict_itemiterator":=iJ st
  ext zjF j Yi;show(Hj,Yi,j,F.entry_dict_itemiterator_next,F.args_dict_itemiterator_next_1 _);ext qv J K D H;have q:=st;unfold IsItemIter at q;unfold Builtin.«dict_itemiterator.__next__»
  repeat (any_goals (first|ext ii|(with_reducible refine YE j ?_)|(with_reducible refine YL j ?_)|(with_reducible ext tG)|(with_reducible ext tF)|ext ju))
  have C:(X5 Kg)=none:=by
    rw[d6 zge,JS];simp
  rw[C]
  repeat (any_goals (first|ext ii|(with_reducible refine YE j ?_)|(with_reducible refine YL j ?_)|(with_reducible ext tG)|(with_reducible ext tF)|ext ju))
  ext zjX v
def xsc {prog:Program}{w:World}{A:Around}{E:eR}{s:Shared}{v d:Addr}{ep:Nat}{o:Obj}{es:mr}{Q:eR}
    (hv:wD v (Ss "dict_items" Dj)) (hd:rN) (hdat:nA)
    (h:(zav,X6 "dict_itemiterator" (zkm es.size))):jh (zem v):=by
  have q:BK v "dict_items":=iJ hv
  show(zpL,q,F.slot_dict_items_iter);show(Hj,F.slot_dict_items_iter,q,F.entry_dict_items_iter,F.args_dict_items_iter_1 _);ext qv C D x B;unfold Builtin.«dict_items.__iter__»
  repeat (any_goals (first|ext ii|(with_reducible ext tG)|(with_reducible ext tF)|ext ju))
  show(zrk,Yi.lookup)
def xn4 {prog:Program}{w:World} (d:Addr) (hd:ziA) :
    MeetsIn prog w (Builtin.«dict.items» (uD [qU])) (λ_ R s=>zqP /\
      (zCV,s.heap.push (iN,"dict_items",.fields Dj))) :=
  .of_wp λA R s ⟨1042,m,h⟩=>by
    unfold Builtin.«dict.items» Builtin.Dict.noArgs Builtin.Dict.showsAll;refine Ze <| Ze <| YT m ?_
    ext ztG d;show(qV,dH hd Z4,Ze <| Zp <| Ze <| Y3 <| Zp (ja h))
theorem xne {H:Hp}:∀{kvs:gJ}{xs:qu}{i:Nat}{k:iB}{x:V},EV->oB->∃ q u,(dX xs (k,q,u))/\HH/\sj
 | _,_,_,_,_,.nil,e=>K3
 | _,(k',q,u)::_,0,k,x,zvF,e=>by
  ext E0;ext jE r1 r2 b r
  dsimp only at r1 r2 b
  subst r1;exact gK q u r2 b
 | _,_,dW,k,x,KQ,e=>by
  show(hJ,q,u,j,h,f,xne (i:=i) (k:=k) (x:=x) t yZ);exact fJ q u zpg h f
section
variable {X:Cx}{pins:List (Addr × Obj)}{Z:St}{H:Hp}{s:Shared}
def xik {d:Addr}{o:Obj}{kvs:gJ}{es:mr}{ep:Nat} (I:dI) (e:Xr) (hdat:nA) :
    (d9,rN,o.ExactDict,es.size=kvs.length,∀(i:Nat) k x,oB->∃ q en,(d9,Rt,jQ en.key q,HH,RelV x en.val)):=by
  obtain⟨g,_,_,⟨xs,j,P,M,O,g',L,b,A,Q⟩⟩:44:=uL d e;ext fe g g' g';ext fe hdat b b;refine(fQ,g,L,?_,hF i k x B)
  . rw[<- Jm,A,Za]
    exact (Yf j).symm
  . show(hJ,q,u,K,J,C,xne j B)
    exact(eP,84,q,_,by rw[<- Jj,A,Zd,K]; rfl,rfl,J,C)
def Inv.nofrzT {d:Addr}{kvs:gJ} (I:dI) (e:LY):DO:=λ o' u' z=>by
 ext zGC
#check _
noncomputable def Itkt (d:Addr) (o:Obj) (kvs:gJ):It :=
 (zaL,Xr/\zcF,v,(Nf,∃ k x q,oB/\(uU q)/\HH),zPw)
noncomputable def Itit (d:Addr) (o:Obj) (kvs:gJ):It :=
 (rG,λ i H=>Xr/\zcF,(U8,v,∃ p k x q,(dN,oB,HH,uU p,uz,H'=(zii sH))),λ i H=>zPw)
def xrw {P:Program}{w:World}{K:Zf}{tg:Expr} (d it:Addr) (o:Obj) (kvs:gJ) (es:mr) (ep:Nat) (hdat:nA) :
    (HI,tg,Itkt d o kvs,h.IsKeyIter it d i es.size ep) where
  mem:=dG
  obj:=λi h st b p=>by
    ext zDj
  keep:=λ i h h' ⟨1062,o1,Y,r⟩ k=>(dB,o1,k it dG _ Y,r)
  item:=by
    intro X J C L hc i j s Z H E I B st D;subst J C L;ext xD lt D;ext zab U;show(su,T,S,f2,R,O,M,B it dG);ext zJA en;refine xhg st g U hdat he (AY m hs);show(qR,o2,g2,c2,d2,id m,zGk);show(n7,I1,j,H,kJ,tw (AL,p,(hs.2 b p).trans g) T S R O M);exact(iY,85,.ref qa,H,I1,ib hk,(hR,eP 103 k x qa hx rfl hq),m,λ b p=>(B b p).1)
  done:=by
    intro X J C L hc i j s Z H E I B st D;subst J C L;ext oD e D;ext zab U;show(su,T,S,f2,R,O,M,B it dG);rw[<- sz] at st;exact xit np st g U hdat λ h' eb=>(hR,tw (mO,p,eb b o p e) T S R O M)
  self:=zIZ
def xpc {P:Program}{w:World}{K:Zf}{elts:nw}{x1}{tpos:Pos} (d it:Addr) (o:Obj) (kvs:gJ) (es:mr) (ep:Nat) (hdat:nA) :
    (HI,DX,Itit d o kvs,∃ ok ov,zaa h i es.size) where
  mem:=dG
  obj:=λi h st b A=>by
    ext vP zTc;ext zsE;exact⟨_,st,λv z=>by
      ext OF z' z⟩
  keep:=zDg
  item:=by
    intro X hP R hK hc i m s Z H E I Y st U;ext zeh R;ext xD lt U;ext zab ex;show(su,O,f1,f2,f3,f4,f5,Y it dG);ext zJA Q;refine xmg st g hdat he (eI h' L ht hz S);refine(ja,wpAny_letOwnedTupleGo_items L (d8 B M J));show(dw,kk,XZ (du,B.get? b,o),(AL,A,(J.2 b A).trans (S b o A g)),I1,zZc m B,tw kk O f1 f3 f4 f5);ext VF;show(fE,D,tH it,Z3 st,C,zMx,Qv D,hp,(du,B.get? s.heap.objs.size,(Iy,#[Q.key,Q.val])),(J.2 _ C).trans ht);refine(iY,85,HK,X1 [.ref qa,x],zpX [Q.key,Q.val] (ib hk) hr ⟨63,_,hp,rfl,iP⟩,rfl,⟨125,_,k,x,qa,hx,hq,rfl,n0,rfl⟩,hD _ M,pY A);ext vP zTc;ext AI C O
  done:=by
    intro X hP R hK hc i m s Z H E I Y st U;ext zeh R;ext oD e U;ext zab ex;show(su,O,f1,f2,f3,f4,f5,Y it dG);rw[<- sz] at st;exact xnn np st g hdat λ h' eb=>(hR,tw (mO,A,eb b o A e) O f1 f3 f4 f5)
  self:=zCb
noncomputable def xz0 (X:Cx) (to:TE):TI:=zCU zbY
noncomputable def xxi (X:Cx) (to:TE):TI:=zCU zbX
section
variable {X:Cx}{o:Expr}{to:TE}{tg:Expr}{elts:List Expr}{x1:_}{tpos apos cpos:Pos}
def xvl (ho:zF):PI X tg o (xz0 X to):=by
 ext zu m;show(o3,PY m,lI v A x J C r1 M ?_);ext zlv M;obtain⟨z,Q,⟨xs,L,ob,K,ep,g,U,B,P,hn⟩⟩:43:=C.hok d _ e;refine xnb Q g U B ?_;show(n7,D,m,DR J,A,C.write (t':=A.toks) (x:=d) (e:=d) zI jr zcr (GE g) ⟨g,(C.hok d _ e).stay zcq (λ c q=>X8) (FZ X8)⟩);have I4:mY m (DR J) { A with heap:=A.heap.push (iN,"dict_keyiterator",.fields (zmQ K.size)) } :=
  D.kept (t':=A.toks) qo
 show(Fe,A.heap.objs.size,⟨66,DR J,rfl,I4,xrw d _ ob kvs K ep B,Km,pY S,q ob (C.nofrzT e)⟩);have Y:b=A.heap.objs.size:=by simpa using S
 subst Y;exact D.fpOk (Zl _) (D.hok.fresh (Zl _))
def xtd (ho:zF) (hbase:qaW:=by rfl) (hline:Bh:=by rfl) :
    zSP (xxi X to):=by
  ext zu B;ext zkj B J M;obtain⟨z,hd,⟨xs,aa,ob,U,ep,g,ex,K,ab,hn⟩⟩:43:=qaU;show(fU,P,J.TypeIs (.ref d) "dict",zVU,VJ "dict.items" Qt PySem.F.type_dict_items P)
  . ext zaD
  show(zCE,P,xn4 d hd,P);refine xsc (s:=zkh) j9 Gu K ?_;show(n7,I2,B,M,zkh,I1.kept (t':=J.toks) qo);generalize Q:MW zkh=D at I2;show(dw,g2,(du,D.heap.get? d,ob),gF Q Gu,Y,mY B (DR M) D,I2.write (t':=D.toks) (x:=d) (e:=d) zI jr zcr (GE g2) ⟨g2,(qaT).stay zcq (λ c q=>X8) (FZ X8)⟩);have I4:mY B (DR M) zBi :=
    Y.kept (t':=D.toks) qo
  have S:PIE X B Z DX R (.ref D.heap.objs.size) zBi:=by
    show(Fe,D.heap.objs.size,(xR,DR M,I4,xpc d _ ob kvs U ep K,dB .none .none j9,Cq,q ob (I1.nofrzT e)));have eb:b=D.heap.objs.size:=D4
    subst eb;exact Y.fpOk (Zl _) (Y.hok.fresh (Zl _))
  exact S
noncomputable def x1n (X:Cx) (t:TS):TS:=(qW,t { D with nx:=(LR,∃ d ob u,(du,H' d,.frz ob u)/\DO/\D.nx σ' (upd H' d u)) } Z H)
theorem xh3 {st:Stmt}{t:TS} (h:zeI):PS X st (x1n X t):=by
 intro b s Z H D I q;show(o3,S6 b q,uW f j);cases f with
 | next =>
  obtain⟨σ',H',i,⟨d,ob,u,e,c,r⟩⟩:82:=z;exact(fP,σ',_,i.thaw e c,r)
 | _=>ext i4
#check _
section
variable {d:Addr}{ob:Obj}{kvs:List (List Key × V)}{g:TG}{tb:TS}{D:Ends}{Z:St}{H:Hp}
def xse (Pv:FN) (h0:Lc) (hl:zKb)
    (hs:∀ i k x q Z H,eC oB HH zY (VX sH H)) (hd:zpG) :
    ∃ W:Nat->Nat->St->Hp->Prop,(∃ m,W 0 m Z H)/\∀ i m Z H,Fh ->
      ((zbY).stop i H/\zW)\/((zbY).go i H/\(Et (Eh,(zbY).yld i H x H',Z,H',σ2,H2,HQ))):=by
  ext zjP A
  . ext zCT j
    obtain⟨rfl,k,b,c,B,rfl,v⟩:=y;exact hs i k b c Z H' B v p
  . ext zEv
def xq7 (Pv:FN) (h0:Lc) (hl:zKb)
    (hs:∀ i k x q p Z H,ft oB HH uz zY (zyh sH)) (hd:zpG) :
    ∃ W:Nat->Nat->St->Hp->Prop,(∃ m,W 0 m Z H)/\∀ i m Z H,Fh ->
      ((zbX).stop i H/\zW)\/((zbX).go i H/\(Et (Eh,(zbX).yld i H x H',Z,H',σ2,H2,HQ))):=by
  ext zjP C
  . ext zCT v
    obtain⟨j,k,b,c,I,A,rfl,B,rfl⟩:125:=y;exact hs i k b c j Z H I A B p
  . ext zEv
#check _
noncomputable def x0g (to:TE):TE:=λ Z H Q=>to Z H λ x H1=>∃ d kvs,zxY/\H1 d=some (.dK kvs)/\∀ l,nJ->Q kW (upd H1 l (.lst (kvs.map (·.2))))
section
variable {X:Cx}{o:Expr}{to:TE}{apos cpos p pos:Pos}
def xo4 (hc:nh) (hg:Gl X "list") (hm:Ft "list") (ho:zF) (hbase:zYT:=by rfl) (hline:Bh:=by rfl)
    (hs3:zQS:=by rfl) :
    PE X (Oi "list" [OA]) (x0g to):=by
  ext zAS K;show(zOv,S,I1.hok);obtain⟨ob,es,ep,g,ex,Y,hk,hp,hn⟩:106:=id dd;refine VJ "dict.values" Qn PySem.F.type_dict_values dd.typeIs
  . ext zaD
  show(zCt,dd.typeIs,meets_dict_values pA d hd,⟨vs,dd⟩);refine YW ?_;show(fE,da,(zkA).DictAt pA d vs ep,zLP Y,vv,(zkA).IsValuesView K.heap.objs.size d,Km,I2,mY J H1 zON,I1.kept (t':=K.toks) qo);generalize U:MW zON=P at I2;show(fE,af,P.heap.DictAt pA d vs ep,gF U da,aa,P.heap.IsValuesView K.heap.objs.size d,gF U vv,hl,zNw,S.length);refine kdl_call (kdl_values (kvs:=vs) (ep:=ep)) np ⟨aa,af⟩ (gF hl z) λ h' tk O c ac ad M=>?_;show(zHc,{ P with heap:=h',toks:=tk },I2.kept ac,P.heap.objs.size);have e1:O.toList.length=(kvs.map (·.2)).length:=by rw[Za,hl]; simpa using M.1
  refine⟨83,.ref P.heap.objs.size,_,I3.adopt n0 I2.sz nL nC nP (show xa9 X.prog X.w _ h' _ (.lst (kvs.map (·.2))) from (zFu,O.toList,by simpa using ad)),rfl,q _ n0⟩;have ae:gU O u:=zRy
  obtain⟨k,hv⟩:=M.2 j u ae;ext zIw;show(dA,u',T,ab,S.get ey);ext kd hv T ab
#check _
def xm6 {prog:Program}{w:World}{A:Around}{E:eR}{s:Shared}{it d:Addr}{i ep:Nat}{o:Obj}{es:mr}{en:DictEntry}{Q:Cu}
    (st:s.heap.IsValIter it d i es.size ep) (hd:rN) (hdat:nA) (hi:Rt)
    (h:(Mv,h'.IsValIter it d dW es.size ep,zUS,Q (some en.val) kJ)):Lx:=by
  ext zAI;have b:=st.typeIs;ext qv L M H K;obtain⟨⟨c,C,D,J⟩,j,q,m⟩:63:=st;ext XY;unfold Builtin.«dict_valueiterator.__next__»
  repeat (any_goals (first|ext ii|(with_reducible refine YG b ?_)|(with_reducible refine Q4 b ?_)|(with_reducible ext tG)|(with_reducible ext tF)|ext ju))
  have B:znQ:=by
    ext fG xJ JS hi
  rw[B]
  repeat (any_goals (first|ext ii|(with_reducible refine YG b ?_)|(with_reducible refine Q4 b ?_)|(with_reducible ext tG)|(with_reducible ext tF)|ext ju))
  ext zCh
def xo9 {prog:Program}{w:World}{A:Around}{E:eR}{s:Shared}{it d:Addr}{ep:Nat}{o:Obj}{es:mr}{Q:Cu}
    (hA:zbB) (st:s.heap.IsValIter it d es.size es.size ep) (hd:rN) (hdat:nA)
    (h:zoV):Lx:=by
  ext zAI;have j:=st.typeIs;ext qv P R L O;obtain⟨⟨c,J,K,M⟩,D,q,m⟩:63:=st;ext XY;unfold Builtin.«dict_valueiterator.__next__»
  repeat (any_goals (first|ext ii|(with_reducible refine YG j ?_)|(with_reducible refine Q4 j ?_)|(with_reducible ext tG)|(with_reducible ext tF)|ext ju))
  have H:(X5 Kg)=none:=by
    rw[xJ,JS];simp
  rw[H]
  repeat (any_goals (first|ext ii|(with_reducible refine YG j ?_)|(with_reducible refine Q4 j ?_)|(with_reducible ext tG)|(with_reducible ext tF)|ext ju))
  ext zjX C
def xu0 {prog:Program}{w:World}{A:Around}{E:eR}{s:Shared}{v d:Addr}{ep:Nat}{o:Obj}{es:mr}{Q:eR}
    (hv:wD v XG) (hd:rN) (hdat:nA)
    (h:(zav,X6 "dict_valueiterator" zct)):jh (zem v):=by
  have m:BK v "dict_values":=iJ hv
  show(zpL,m,F.slot_dict_values_iter);show(Hj,F.slot_dict_values_iter,m,F.entry_dict_values_iter,F.args_dict_values_iter_1 _);ext qv B C q x;unfold Builtin.«dict_values.__iter__»
  repeat (any_goals (first|ext ii|(with_reducible ext tG)|(with_reducible ext tF)|ext ju))
  show(zrk,Ye.lookup)
def xme {prog:Program}{w:World} (d:Addr) (hd:ziA) :
    MeetsIn prog w (Builtin.«dict.values» (uD [qU])) (λ_ R s=>zqP /\
      (zCV,s.heap.push (iN,"dict_values",.fields Dj))) :=
  .of_wp λA R s ⟨1042,m,h⟩=>by
    ext ud;unfold Builtin.Dict.noArgs;refine Ze <| YT m ?_
    ext ztG d;show(qm,Builtin.Dict.showsAll d>>=_);unfold Builtin.Dict.showsAll;show(qV,dH hd Z4,Ze <| Zp <| Ze <| Y3 <| Zp (ja h))
def xv6 {prog:Program}{w:World}{r d:Addr}{ep:Nat}{o:Obj}{es:mr} (hdat:nA) :
    (zEm,"dict_values",r,en.val,(Fd r XG)/\yY) where
  type:=λ s h=>iJ iA
  there:=λ h e=>⟨Z3 e.1,Z3 e.2⟩
  keep:=λ h h' e k=>⟨k r jr _ e.1,k d Ca o e.2⟩
  notList:=dF
  notTuple:=dF
  hint:=λ A E s Q h q=>kdl_hint_values (iJ iA) q
  iter:=λ A s B h=>by
    have D:=Z3 i0;show(fV,Ss "dict_valueiterator" zct,λ i h=>h.IsValIter s.heap.objs.size d i es.size ep/\yY,λ E Q q=>xu0 iA i0 hdat q,?_,zXG,Zk _ i0);have dn:d≠s.heap.objs.size:=ZU D;exact {
      sub:=λ b m=>by
        ext zHb
      frame:=zUf (E3,o1,e1,r1,Nl,k _ dG _ e1,r1)
      item:=λ i s' Q E x st q=>by
        refine xm6 Nl He hdat (Js x) (zQu,Js x,⟨u,(sb.2 d dn).trans He⟩,zvZ);exact (sb.2 b Bz).trans e
      done:=λ s' Q E st q=>by
        refine xo9 B Nl He hdat λ h' C=>zTG;exact C b o Bz e
      self:=λ i s' Q E st q=>wpAny_pyIter_valiter st.1 q }
noncomputable def xxz (to:TE):TE:=λ Z H Q=>to Z H λ x H1=>∃ d kvs,zxY/\H1 d=some (.dT kvs)/\∀ l,nJ->Q kW (upd H1 l (.lst (kvs.map (·.2))))
section
variable {X:Cx}{o:Expr}{to:TE}{apos cpos p pos:Pos}
def xon (hc:nh) (hg:Gl X "list") (hm:Ft "list") (ho:zF) (hbase:zYT:=by rfl) (hline:Bh:=by rfl)
    (hs3:zQS:=by rfl) :
    PE X (Oi "list" [OA]) (xxz to):=by
  ext zAS D;obtain⟨z,hd,⟨xs,P,ob,es,ep,g,ex,Y,U,hn⟩⟩:43:=qaU;show(fU,ti,D.TypeIs (.ref d) "dict",zVU,VJ "dict.values" Qn PySem.F.type_dict_values ti)
  . ext zaD
  show(zCt,ti,xme d hd,ti);refine YW ?_;show(fE,I2,mY J H1 zOO,I1.kept (t':=D.toks) qo,g2,(du,(zkB).get? d,ob),Gu,v2,(du,(zkB).get? D.heap.objs.size,XG),j9);generalize S:MW zOO=O at I2;show(dw,g3,(du,O.heap.get? d,ob),gF S g2,v3,(du,O.heap.get? D.heap.objs.size,XG),gF S v2)
  have ln:=Yf P;have aa:es.size=kvs.length:=by rw[<- Jm,U,Za,ln]
  refine kdl_call (xv6 (r:=D.heap.objs.size) Y) np ⟨v3,g3⟩ (dH aa z) λ h' tk M c ad ae K=>?_;show(zHc,{ O with heap:=h',toks:=tk },I2.kept ad,O.heap.objs.size);have e1:M.toList.length=(kvs.map (·.2)).length:=by rw[Za,<- aa]; simpa using K.1
  refine⟨83,.ref O.heap.objs.size,_,I3.adopt n0 I2.sz nL nC nP (show xa9 X.prog X.w _ h' _ (.lst (kvs.map (·.2))) from (zFu,M.toList,by simpa using ae)),rfl,q _ n0⟩;have af:gU M u:=zRy
  show(dA,en,he,hv,K.2 j u af);ext zIw;obtain⟨qa,u',ac,_,ab⟩:83:=xne P ey;rw[<- Jj,U,Zd,ac] at he;cases he;ext dP hv ab
#check _
section
variable {X:Cx}{o e:Expr}{es:List Expr}{to:TE}{t:TA}{name:Str}{apos cpos:Pos}{T id:String}{r:V->List V->Hp->VK->Prop}
def x0k {K:Zf} (hk:X.K=K) (pa:qbq) (slot:zVF) (hty:zCa) (hm:MtR X id r) (ho:zF) (ha:B0)
    (hbase:HC name:=by rfl)
    (hfew:((L3 mW).all (λ x=>! dM)&&(zeL).all (λ x=>zeY)
      && (VD mW))=true:=by rfl)
    (hline:Bh:=by rfl) (hs:yQ:=by rfl) (hplain:(zsd).any (·.1)=false:=by rfl) :
    zJb K:=by
  subst hk;exact xef pa slot hty hm ho ha hbase hfew hline hs hplain
#check _
section
variable {X:Cx}{pins:List (Addr × Obj)}{Z:St}{H:Hp}{s:Shared}{a b:Addr}{A:Around}
theorem xvd {prog:Program}{w:World}{K:Type} [DecidableEq K] {knd:zSK}{es:zbD}{vs:TD K} (h:Pairs knd es vs):∀{i:Nat}{e:DictEntry},(dX es e)->∃ kv,(dX vs kv)/\knd.is sU e.key=true/\e.val=kv.2:=by
 induction h with
 | nil=>intro i e h; simp at h
 | cons h1 h2 _ ih =>
  intro i e b;cases i with
  | zero =>
   simp at b;subst b;exact yO h1 h2
  | succ i=>exact ih Ow
#check _
theorem xe5:∀{us:d4}{ss:dD},zbR->Vals (ss.map V.str) us
 | _,_,.nil=>.nil
 | _,_,.cons y t h=>.cons LZ (xe5 h)
theorem xji:∀{ss:dD}{us:d4},Vals (ss.map V.str) us->zbR
 | [],_,.nil=>.nil
 | x::ss,_,zum=>by
  ext iG r;exact .cons x t (xji rs)
def xj7 {X:Cx}{pins:eJ}{Z:St}{H:Hp}{s:Shared}{h1:Heap}{tk:Nat}{Q:VK}{us:d4}{ss:dD} (I1:yN zhG) (hS:zbR) (few:us.length<64)
    (q:zAJ) :
    (zAu,newList us):=by
  have sz:gY us.length:=Jw (ZN few dF);show(gZ,B,(xe5 hS).length,Za,B);show(zGO,xe5 hS,kc Za B sz,sz);show(dw,fr,zRw,I1.fresh,C,(du,(zUP).get? h1.objs.size,ztF us.toArray),j9);show(LK,Jy slot_list_sort (iJ C) entry_list_sort (list_sort_treeK strKind_oneLt C hS.keysOf (λ v₁ v₂ r e=>keyKind_strs (gF e hS)) few (d8 st a1 a2)) zTb);show(qR,ss',U,D,T,sorted_out_str hS a1 a2,(ja,Zp qJ));show(dy,Y,I2.lset (l:=h1.objs.size) (its:=us) (its':=[]) (ys:=[]) (f:=zfY) (t':=tk) xi C rfl .nil lW,J,Y.kept (t':=tk) (h':=(((zUP).update h1.objs.size (Yl zfY)).push (seqObj "tuple" us.toArray 0)).push (seqObj "list" #[] 0)) (gC zcb));obtain⟨z9,c,n9,r9,R,S⟩:=J.lstM xi;have K:ss'.length=ss.length:=D.length_eq;have I:=J.lset (l:=h1.objs.size) (its:=c) (its':=((zxD).map (·.2)).toList) (ys:=ss'.map V.str) (f:=λ_=>(zxD).map (·.2)) (t':=tk) xi S (show (zxD).map (·.2)=_ from (Array.toArray_toList ..).symm) (xe5 U) (zjA Za K B sz);rw[xd9,xd9] at I;exact(Nd,h1.objs.size,_,I,q _ ss' fr D T)
theorem xpu:∀{us:d4}{ss:dD},(UH ss.length)->(∀(i:Nat) (v:Value) (x:Str),(dX us v)->(dX ss x)->∃ t,v=We x t)->zbR
 | [],[],_,_=>.nil
 | [],eK,h,_=>hI
 | eK,[],h,_=>hI
 | MQ,x::ss,h,f=>by
  show(iG,f 0 u x rfl rfl);exact .cons x t (xpu tE λ i v y b a=>f dW v y Ow zph)
inductive xvz (xs:dz) (H:Hp) (Q:VK):Prop
 | mk (d:Addr) (ss:dD) (e_:xs=[qU]) (r_:((wh (.lst (ss.map V.str)))\/∃ kvs:eG,Gi/\kvs.map (·.1)=ss.map Jd)/\ss.length<64/\zAJ)
def xhj {X:Cx} (hc:nh):zwv xvz:=by
 ext rp ab;obtain⟨d,ss,rfl,aa,hl,q⟩:=h;ext zoc;rcases aa with e|⟨kvs,e,ek⟩
 .obtain ⟨z,its,n,r1,hL,el⟩:=I.lstM e;show(gZ,C,r1.length,Za,C);ext zBB;refine Ze (Zp (show wpAny _ _ (zTm>>=_) _ _ _ from Ze (zCv (by rw[Z6,<- C]; exact Jw (ZN hl dF)))));exact xj7 (us:=its) zdh (xji r1) dk q
 .obtain ⟨z,D,⟨vs,B,o,es,ep,ho,U,K,hk,hp,hn⟩⟩:43:=xgv I.hok e;show(dy,C,B.length,le,hp.length);have P:es.size=vs.length:=by simpa using le
  show(zmu,(kdu_collect (xpt D U K) np ho (by rw[P,<- C]; ext i4) (eI h1 tk R keep A)));have hs:StrsAre R.toList ss:=by
   refine xpu (by rw[Jm,A.1,P,<- C,<- Za (f:=(·.1)) (as:=kvs),ek,Za]) (eI i v x hv U);have Y:dX R v:=gF Jj hv
   show(dA,en,he,ev,A.2 i v Y);show(vo,kv,h1,h2,xvd hp (i:=i) (e:=en) (dH Jj he));have J:(kvs.map (·.1))[i]?=some (Jd x):=by rw[ek,Zd,U]; rfl
   rw[B.keys,Zd,h1,Qo] at J;have e3:sU=Jd x:=ZM.inj J;rw[e3] at h2;show(vj,t,et,Value.isStrOf_shape (x:=x) (v:=en.key) h2,t,dH ev et)
  exact xj7 zdh hs (kc,(xe5 hs).length.symm,Za,hl) q
#check L2
namespace L2
open PySem PySem.Spec PyProof.Rows XL PySem.W PySem.MeetsSeq3
section
variable {prog:Program}{w:World}{a b:Addr}{us vs:Array Value}{n n2:Nat}{dd dd2:Option Addr}{sl sl2:Array (Option Value)}
structure x3d (prog:Program) (w:World) (A:Around) (s:Shared) (a b:Addr) (us vs:oC) (n n2:Nat) (dd dd2:mF) (sl sl2:Bm):Prop where
 ga:Ia (Xj,dd,.seq us n,sl)
 gb:zZt (Xj,dd2,.seq vs n2,sl2)
 it:∀(j:Nat) (h1:j<us.size) (h2:j<vs.size) (E:eR) (Q:B2),Q true s->(xC pD A.in1 (eqBool us[j] vs[j]))
#check _
#check L2
namespace L2
open PySem PySem.Spec PyProof.Rows XL PySem.W
noncomputable def Ites (x:Str):It :=
 (dB,λ i _=>i<x.cps.toList.length,(U8,v,∃ p c,(zwI,znx,H'=(rD H [iC,MY]))),λ i _=>zLE)
def xo7 {P:Program}{w:World}{K:Zf}{elts:nw}{x1}{tpos:Pos}{x:Str} (t:Tok) (e it:Addr) (hei:e≠it) :
    zCo (Ites x) (zYl "str_ascii_iterator") where
  mem:=dG
  obj:=λi h st b C=>by
    ext zLO J e1;ext HL C;rcases C with rfl|rfl
    . ext zNJ J
    . ext zog e1
  keep:=zNG J R ⟨⟨old,k e dG _ J⟩,xqg R zPB⟩
  item:=by
    intro X hP hw hK hc i D s Z H E I hf st hg;ext zgk;have lt:i<x.cps.toList.length:=hg;ext zaf J R;refine wpAny_pyNext_enum_itemD (Draws.strAscii (A:=X.A.in1) np it x t) J R (by simpa using lt) hei (ie hei) λ y h' tk py Y U hT hsz hk=>?_;show(mG,c,u,hv,rfl,py);show(fU,hx,znx,zoz,ja (zKz,tk+1,Y,d8 Q O M));show(dw,ad,tH e,Z3 J,aa,zNo,Qv ad);have kk:(Ru,b∉[e,it],(du,Q.get? b,o)):=λb o C g=>by
      ext Xb C;exact (M.2 b C.1).trans (hk b o C.1 (EN C.2) g)
    have I1:(zmx,D,Q,tk+1):=I.turnedL kk hf;ext VF;have hp:(du,Q.get? s.heap.objs.size,(Iy,#[.int i tk,.str TU u])):=(M.2 _ aa).trans hT;refine⟨85,HK,X1 [iC,MY],zpX [.int i tk,.str TU u] iP iP zue,rfl,
      zuM c hx n0,?_,pY C⟩
    . show(dO,iK zTf,xqg U λ o y=>(M.2 it (Z2 hei)).trans y)
    . obtain⟨o,Y⟩:∃ o,s.heap.get? b=some o:=by
        ext iu o1 e1 R;ext HL C;rcases C with rfl|rfl
        . exact iK J
        . exact iK e1
      rw[xg (ZU (Z3 Y))];exact (hf b C).1
  done:=by
    intro X hP hw hK hc i D s Z H E I hf st hg;ext zgk;have ge:zLE:=hg;ext zaf J R;have ac:(zIu,(none:BU)=none/\(mY D H kJ)):=λ h' hx=>⟨rfl,I.turnedL (t':=s.toks) (λb o C g=>by
      ext Xb C;exact hx b o C.2 g) hf⟩
    have hT:BK e "enumerate":=iJ J
    unfold pyNext;refine Ze (Y5 (JG (name:=Zh "__next__") hT F.slot_enumerate_next
      (Jy F.slot_enumerate_next hT F.entry_enumerate_next ?_ (F.args_enumerate_next_1 _))))
    show(Ak,field (.ref e) 2);show(eX,QC J rfl (x:=Cy) rfl ?_);show(eX,wpAny_nextOf_ascii_end np R (by simpa using ge) (hF h' x O ab));ext dA o Y hc ab;show(eX,Q8 (T:="StopIteration") (b:=true) (dB o Y hc) WC ?_);exact Zp (ac _ O)
  self:=zDu
noncomputable def xy0 (ta:TA):TI:=λ Z H R=>ta Z H λ vs H1=>∃ x:Str,zza/\x.cps.all (·<128)=true/\R (Ites x) H1
section
variable {X:Cx}{elts:List Expr}{x1:_}{tpos:Pos}
def xtj {a:Expr}{ta:TA}{p pos:Pos} (hg:zSV) (hm:zSU) (ha:zdK) (hs:zdE:=by rfl) :
    zNb (xy0 ta):=by
  ext zu c;refine Call_ (Ls,PyProof.Rows.Boot.«enumerate»,zjr (Tt ziY y M J P));ext eZ x e Q q P;ext gc;show(zmm,xcx r1);refine call_enumerate_str (eI h' K D hsz U);have D:h'.IsStrIter y.heap.objs.size "str_ascii_iterator" x t 0:=by simpa [strIterType,Q] using D
  refine QZ (s:=zOM) K ?_;show(n7,Y,c,M,zOM,J.kept (t':=y.toks) U);show(fV,121,_,[y.heap.objs.size+1,y.heap.objs.size],_,_,(xR,M,Y,xo7 t _ _ (xtx dk),⟨iK K,D⟩,pY L,q));have A:y.heap.objs.size<=b:=by
    ext HL L;rcases L with rfl|rfl
    . exact Qf _ 1
    . exact Zl _
  exact J.fpOk A (J.hok.fresh A)
#check _
def xly {H:Hp}{p:Addr}{o:HO} (hp:uz):hZ zxs:=λb u e=>by
 ext lZ LG
section
variable {n:Nat}{g:TG}{Z:St}{fr:List Nat}{te:TE}{l:Addr}{H1:Hp}{Q:VK}
def xoz {x:Str} (hlen:yg x.cps.toList.length) (hl:nJ) (F:FM) (stab:DP)
    (step:∀(i:Nat) (c:Nat) (p:Addr) (H2:Hp),znx->mK->zty->∀(N:vM),(zpM,Same zpv H',zgi) ->
      (SK mN EY zpv EX))
    (fin:zfh x.cps.toList.length):xcj (Ites x) n g Z fr xda te l H1 Q:=by
  refine xce x.cps.toList.length (λ i ys H2=>(d9,mK,LJ,vE i,∀(j:Nat) (y:V),zfb->F j y H2)) ?_ ?_ ?_ ?_
  . exact(fQ,zWd,xi,rfl,UC y)
  . rintro i ys H2 lt _
    exact lt
  . rintro i ys H2 v H3 lt (⟨s,A,B,f⟩:44) ⟨p,c,J,rfl,C,rfl⟩ N K
    have M:upd H2 p (.tup [iC,MY]) l=some (.lst ys):=by
      ext sL A C
    have D:No zpv:=xly C;refine LC (step i c p H2 J s C _ (zye I));have q:=s' _ _ M;show(gG,q,dk,K _ _ (fQ,vx,xi,jw Zn B,zxe))
    . show(dP,CD,s' _ _ (D _ _ xQ))
    . by_cases k:j<ys.length
      . show(eW,ZL k,e,stab _ _ _ _ (((Same.tp D).trans (Same.tp s')).trans (xjh q)) (f j z e))
      . rw[Jc dk] at e
        cases hj:j-ys.length with
        | zero =>
          rw[hj] at e;ext E0;ext FC j i;exact stab _ _ _ _ (xjh q) I
        | succ m =>
          rw[hj] at e;ext sT
  . ext zas A B
    show(dO,eV,zfc A B)
def xoy {d:Addr}{ob:Obj}{kvs:eG}{tc:TT} (hd:zWc) (hlen:Il) (hl:nJ) (q:Key × V->Bool)
    (step:∀(i:Nat) (k:Key) (x:V) (p:Addr) (H2:Hp),oB->mK->zty->∀(N:vM) (M:LI),(F9,Same zby H',q vY=true,N x H')->(F9,Same zby H',q vY=false,M H') ->
      (SK mN EY zby zDO))
    (fin:∀ H2,mK->H2 l=some (.lst ((kvs.filter q).map (·.2)))->FL):xcj Pj n g Z fr tc te l H1 Q:=by
  refine xce kvs.length (λ i ys H2=>mK/\LJ/\ys=((kvs.take i).filter q).map (·.2)) ?_ ?_ ?_ ?_
  . ext oS zWd xi
  . ext XI
    ext dO zfJ lt
  . rintro i ys H2 v H3 lt (⟨s,j,c⟩:43) ⟨p,k,x,A,rfl,y,rfl⟩ N D
    have H:upd H2 p (.tup [DE,x]) l=some (.lst ys):=by
      ext sL j y
    have C:GZ zby:=(gC,xly y _ _ xQ);have J:ys.length<=i:=by
      rw[c,Za];ext zUF
    refine step i k x p H2 A s y _ _ (d8 H' s' I) (d8 H' s' qf)
    . have B:=s' _ _ H
      show(gG,B,dk,D _ _ (kB vx xi))
      . show(dP,CD,s' _ _ (C _ _ e))
      . rw[c,ZC,A,JA,Zt,zZW,J0 I]
        rfl
    . refine D _ _ (kB,(gC,s' _ _ (C _ _ e)),s' _ _ H)
      rw[c,ZC,A,JA,zZW,JI (BR qf)];rw[List.filter_nil,Yn]
  . rintro ys H2 (⟨s,j,c⟩:43)
    rw[Jp] at c;show(dO,⟨zfJ,eV⟩,fin H2 s (c▸j))
#check _
section
variable {d:Addr}{ob:Obj}{kvs:List (Key × V)}{g:TG}{tb:TS}{D:Ends}{Z:St}{H:Hp}
def xud (Pv:FN) (h0:Lc) (hl:zQg HZ)
    (hs:∀ i k x p Z H,eC oB uz zY (zyh DE)) (hd:zpG) :
    ∃ W:Nat->Nat->St->Hp->Prop,(∃ m,W 0 m Z H)/\∀ i m Z H,Fh ->
      ((Pj).stop i H/\zW)\/((Pj).go i H/\(Et (Eh,(Pj).yld i H x H',Z,H',σ2,H2,HQ))):=by
  ext zjP v
  . show(qZ,(dY,pV hlt,M6,U6 c (z6,kvs.length-dW,dk,hlt,c),d8 x H' y))
    show(CK,b,k,a,A,rfl,j,rfl,y);exact hs i k a b Z H A j p
  . show(zoA,kvs.length,pV eV)
#check _
#check L2
namespace L2
section
variable {D:Ends}{Z:St}{H:Hp}{i:Nat}{v:V}{N:St->Hp->Prop}{wi:TI}{g:TG}{a b u:TS}{c:TT}
def sq2 {t1 t2:TS} (k:BB u2 t2 zba):(tSeq t1 t2) D Z H:=k
def sq3 {t1 t2 t3:TS} (k:zfd (Aj,u3,t3,u2,tSeq t2 u3,zba)):(tSeq t1 (tSeq t2 t3)) D Z H:=k
def sq4 {t1 t2 t3 t4:TS} (k:BB u4 t4 zlN):(tSeq t1 (oI t2 t3 t4)) D Z H:=k
def sq5 {t1 t2 t3 t4 t5:TS} (k:BB u5 t5 (Lu,u4,t4,u5,u3,t3,let u2:=tSeq t2 u3; zba)):(tSeq t1 (tSeq t2 (oI t3 t4 t5))) D Z H:=k
def sq6 {t1 t2 t3 t4 t5 t6:TS} (k:BB u6 t6 zJz):(tSeq t1 (oI t2 t3 (oI t4 t5 t6))) D Z H:=k
def sq7 {t1 t2 t3 t4 t5 t6 t7:TS} (k:BB u7 t7 (Lu,u6,t6,u7,u5,t5,let u4:=tSeq t4 u5; zlN)):(tSeq t1 (tSeq t2 (oI t3 t4 (oI t5 t6 t7)))) D Z H:=k
def sq8 {t1 t2 t3 t4 t5 t6 t7 t8:TS} (k:BB u8 t8 zlG):(tSeq t1 (oI t2 t3 (oI t4 t5 (oI t6 t7 t8)))) D Z H:=k
def sq9 {t1 t2 t3 t4 t5 t6 t7 t8 t9:TS} (k:zfd (Aj,u9,t9,u8,tSeq t8 u9,zlG)):(tSeq t1 (tSeq t2 (oI t3 t4 (oI t5 t6 (oI t7 t8 t9))))) D Z H:=k
def sq11 {t1 t2 t3 t4 t5 t6 t7 t8 t9 t10 t11:TS} (k:zfd (Aj,u11,t11,u10,tSeq t10 u11,Lu u9 t9 u10 u8 t8 zlG)):(tSeq t1 (tSeq t2 (oI t3 t4 (oI t5 t6 (oI t7 t8 (oI t9 t10 t11)))))) D Z H:=k
def gn (k:N vg H):xcy i v Z H N:=k
def nx {n r x y} (k:n Z H):Ends.nx zZD Z H:=k
def gx {n r x y} (k:n vg H):xcy i v Z H (Ends.nx zZD):=k
def fo (k:(BB,b,b,zyo d s)):zyo D Z:=k
def fq (k:(Aj,s,Z,b,b,zyo Od s)):zyd (tFor wi g b):=k
def wo (k:(BB,b,b,xhs c b d s H)):xhs c b D Z H:=k
def wq (k:(Aj,s,Z,b,b,xhs c b Od s H)):zyd (xhs c b):=k
def io (k:(zfd,zML d)):tIfS c a b D Z H:=k
def iq (k:let s:=Z; zML Od):zyd (tIfS c a b):=k
#check _
#check L2
namespace L2
open PySem PySem.Spec PyProof.Rows XL
section
variable {X:Cx}{x:Str}{e:Expr}{te:TE}{pos pos':Pos}
def pS (i:Nat) (hN:X.N.Nodup) (he:xH) (hi:wS:=by rfl) (hx:D2:=by ext zjo) (hs:zHB:=by rfl) (hf:DN:=by first|ext pK|ext sC) :
    zJq:=xcf hN hi hx he hs hf
def pN (i:Nat) (hN:X.N.Nodup) (hi:wS:=by rfl) (hx:D2:=by ext zjo) (hf:DN:=by first|ext pK|ext sC):zTC:=xfl hN hi hx hf
#check _
section
variable {X:Cx}{x:Str}{pos:Pos}{scope:Scope}{zs ys:List Str}
def pO (i:Nat) {C:Addr}{ex:dJ}{s:Shared}{H:Hp}{pn:eJ} (nd:Fz) (ow:∀ x∈zs,(du,(kI).names.lookup x,.local)) (hi:dX Ux x:=by rfl) (hz:x∈zs:=by simp):zRM:=xfl nd hi (Yw (ow _ hz)) (Y4 (ow _ hz))
def pM (i:Nat) (hi:dX Ux x:=by rfl) (hz:x∈zs:=by simp):∀(C:Addr) (ex:dJ) (s:Shared) (H:Hp) (pn:eJ),(∀ x∈zs,(du,(kI).names.lookup x,.local))->Fz->zRM:=(zxV,f,pO i h f hi hz)
#check _
section
variable {X:Cx}{k k':Nat}{f C:Addr}{fd:FuncData}{ps:List Str}{sp:Sp}{x m:Str}{p pos apos:Pos}{e o:Expr}{es:List Expr}{ta:TE}{t:TA}{q0:Bool}
def pC (F:FnOk q0 X.prog X.w X.K X.mg X.base zWZ k f fd ps sp) (hr:Room q0 k' X.A) (hm:Rz f) (hk:zLg) (hb:xca X.K fd ps []) (ha:B0) (hl:k<=k':=by decide) (hg:vH:=by rfl)
    (hdb:rM:=by decide) (he:yQ:=by rfl) (hpl:(ES).any (·.1)=false:=by rfl) :
    NI mW (xml sp [] Oz t):=xzd F (hr.mono hl) hg hm hk hb .nil xq ha hdb he hpl
#check _
#check L2
namespace L2
open PySem PySem.Spec PyProof.Rows XL
variable {q0:Bool}
structure BlkC (X:Cx) (scope:Scope) (x:Str) (ys:dD) (fr:fT):Prop where
 kind:znb
 own:(du,(kI).names.lookup x,.cell)
 cf:∀ n acc,cellsFrom n scope.names acc=(x,n)::acc
 pc:∀ h:Heap,pushCells h scope.names=h.push (iN,"cell",.cell none)
 names:zko
 xnf:x∉Fp
 free:zkn
 has:∀ n,((du,(kI).names.lookup n,.cell)\/(du,(kI).names.lookup n,.free))->n=x\/Gg
 slots:zlB
 ysf:znu
 ysc:∀ y∈ys,(du,(kI).names.lookup y,.cell)\/(du,(kI).names.lookup y,.free)
 nd:X.N.Nodup
 ndb:zYf
#check L2
namespace L2
open PySem PySem.Spec PyProof.Rows XL PySem.W
#check L2
namespace Geo
noncomputable def dn (y r:Int):Int:=(oG,y,r,1,-1)
noncomputable def upN (y r:Int):Nat:=(oG,y,r,jX r y,jX y r)
noncomputable def wayI (b:Bool):Int:=(wL,-1,1)
noncomputable def lvN (w x:Int) (b:Bool):Nat:=(wL,Mj x,jX jR x)
noncomputable def upL (x y r:Int):mz:=(Zv (upN y r)).map (iW i (x,y+i9*dn y r))
noncomputable def lvL (w x:Int) (b:Bool) (r:Int):mz:=(Zv (lvN w x b)).map (iW i (x+i9*wayI b,r))
noncomputable def cells (w x y:Int) (b:Bool) (r:Int):mz:=upL x y r++lvL w x b r
def mem_up {x y r u v:Int}:(SO,upL x y r,u=x/\zoH):=by
 unfold upL upN dn;ext tR Zc
 .ext zJy b
  subst e1;show(nY,rfl);split at b
  .rename_i h
   rw[zfW] at e2;left; lia
  .rename_i h
   rw[zfV] at e2;right; lia
 .rintro ⟨rfl,h|h⟩
  .refine (kB,jX v y,?_)
   .rw [ZD,Tl]; lia
   .ext pi dk;show(V8,v,y,v-y)
  .refine (kB,jX y v,?_)
   .rw [ZD,xJ]; lia
   .ext lD dk;show(V8,y,v,y-v)
theorem x1d {w x r u v:Int}{b:Bool} (h1:we) (h2:Dy):(SO,lvL w x b r,zEu):=by
 unfold lvL lvN wayI;rw[Zc];cases b with
 | true =>
  ext Pc;constructor
  .ext zLa
  .rintro ⟨rfl,h⟩;show(iF,jX x u,zzm);show(V8,x,u,x-u)
 | false =>
  ext yX;constructor
  .ext zLa
  .rintro ⟨rfl,h⟩;show(iF,jX u x,zzm);show(V8,u,x,u-x)
def mem_cells {w x y r u v:Int}{b:Bool} (h1:we) (h2:Dy):(SO,zZF,(u=x/\zoH)\/zEu):=by
 unfold cells;rw[Zz,mem_up,x1d h1 h2]
noncomputable def btw (v a b:Int):Prop:=min a b<=v/\v<=max a b
instance (v a b:Int):Decidable (btw v a b):=inferInstanceAs (Decidable (_/\_))
noncomputable def meet (l m:mz):zzW:=zQQ
theorem xfo {l m:mz}{p:Prop} [Decidable p] {d:j6} (h:∀ c,c∈l/\c∈m↔p/\c=d):meet l m=(C5 p d):=by
 unfold meet;by_cases hp:p
 .ext pi hp;obtain⟨u,s⟩:=(h d).mpr (vD hp);cases e:zQQ with
  | none =>
   show(eW,JL,e,absurd (decide_eq_true s) (e d u))
  | some c =>
   show(dy,a,W3 e,b,ZY e);rw[((h c).mp ⟨b,zOL⟩).2]
 .rw [d6 hp,JL];intro c q j;exact hp ((h c).mp (pV,of_decide_eq_true j)).1
noncomputable def mir (w:Int) (c:j6):j6:=(f8-fK,ir)
def xdu (w:Int) (c:j6):(zwh c)=c:=by
 unfold mir;rw[(gE,f8-(f8-fK)=fK)]
def xgd (w x y:Int) (b:Bool) (r:Int):(sW Dw y (! b) r)=(zZF).map (mir w):=by
 unfold cells upL lvL;rw[Zt,Zr,Zr]
 ext me
 have e:lvN w Dw (! b)=lvN w x b:=by
  cases b
  .exact congrArg Int.toNat (gE,Dw+1=jR-x)
  .exact congrArg Int.toNat (gE,jR-Dw=x+1)
 rw[e];refine ZT λ i _=>?_;cases b
 .exact congrArg (·,r) (gE,(zjI Dw)=f8-(x+i9*1))
 .exact congrArg (·,r) (gE,Dw+i9*1=f8-(zjI x))
def xky {w:Int}{l:mz}{c:j6}:c∈zZe↔zyN∈l:=by
 rw[Zc];show(dO,(fun⟨1062,d,h,e⟩=>by rw[<- e,xdu]; exact h),λ h=>(hD,h,xdu w c))
def xop {w xn yn rn xf yf rf:Int} (n1:1<=xn) (n2:xn<=w) (f1:1<=xf) (f2:xf<=w) (hr:SQ) (hx:xn<xf) (c:j6) :
    zOh (sW xn yn true rn) (sW xf yf true rf):=by
  ext zcI;rw[mem_cells n1 n2,mem_cells f1 f2,JE.injEq];unfold btw;ext Pc;constructor
  . rintro ⟨h|h,h'|h'⟩<;>lia
  . show(vn,h,rfl,rfl)
    show(gR,?_,F6 dk);by_cases e:v=rn
    . show(hX,Vn e)
    . show(iE,hR dk)
theorem xok {w xn yn rn xf yf rf:Int}{b:Bool} (n1:1<=xn) (n2:xn<=w) (f1:1<=xf) (f2:xf<=w) (hr:SQ) (hx:zoS) (c:j6) :
    zOh zpu zpt:=by
  cases b with
  | true=>exact xop n1 n2 f1 f2 hr hx c
  | false =>
    have hx:xf<xn:=hx;have z:=xop (w:=w) (yn:=yn) (yf:=yf) (xn:=f8-xn) (xf:=f8-xf) dk dk dk dk hr dk zyN;rw[zmz xn yn rn,zmz xf yf rf,xky,xky,xdu] at z;rw[z];refine and_congr_right λ_=>⟨gO e,λ e=>vI⟩
    show(gZ,e,congrArg (mir w) e,xdu,e);exact e.trans (xdu w zhD)
def xso {w xn yn rn xf yf rf:Int}{b:Bool} (n1:1<=xn) (n2:xn<=w) (f1:1<=xf) (f2:xf<=w) (hr:SQ) (hx:zoS) :
    meet zpu zpt=(C5 zcB zhD):=xfo (xok n1 n2 f1 f2 hr hx)
def xuv {w xn yn rn xf yf rf:Int}{b:Bool} (n1:1<=xn) (n2:xn<=w) (f1:1<=xf) (f2:xf<=w) (hr:SQ) (hx:zoS) :
    meet zpt zpu=(C5 zcB zhD):=xfo λ c=>(dH,and_comm,xok n1 n2 f1 f2 hr hx c)
def xk6 {w x1 y1 r1 x2 y2 r2:Int} (a1:1<=x1) (a2:x1<=w) (b1:1<=x2) (b2:x2<=w) (hx:zyv) :
    meet zal N4=(oG x2 x1 (Pd,zl,zgM,C5 BI zgN) none):=by
  have b:∀ u v,(SO,N4,(u=x2/\(ztx,y2,r2,r2<v))\/(gf,v,r2,x2<=u,u<=f8)):=λ u v=>by
    rw[mem_cells b1 b2]; simp
  have x:∀ u v,(SO,zal,(u=x1/\(ztx,y1,r1,r1<v))\/(gf,v,r1,0<=u,u<=x1)):=λ u v=>by
    rw[mem_cells a1 a2]; simp
  by_cases hlt:UT
  . rw[eD hlt]
    by_cases e:r1=r2
    . ext gc
      rw[eD (by unfold btw; lia)];unfold meet;show (zck++zaO).find? _=_;rw[List.find?_append];have A:(zck).find? (λ c=>gM (c∈(sW x2 y2 false r1)))=none:=by
        rw[JL];rintro ⟨u,v⟩ D C;show(dy,I,mem_up.mp D,H,(b u v).mp (of_decide_eq_true C))
        lia
      rw[A];have B:zaO=(x1,r1)::(zaO).tail:=by
        unfold lvL lvN;show(zjH,n,A,∃ n,(Mj x1)=iZ,x1.toNat)
        simp only[if_true,A,YM,Zq,List.tail_cons];simp
      rw[B,YN (by show(Pb,(b x1 r1).mpr (.inr zdL)))];rfl
    . by_cases hb:zl
      . have y:∀ c,c∈zck/\c∈N4↔True/\c=zgM:=by
          ext zUE mem_up;unfold btw at hb;constructor
          . rintro ⟨h,h'|h'⟩<;>refine jy trivial<;>lia
          . rintro (⟨_,rfl,rfl⟩:43)
            show(dO,hR dk,.inr zdL)
        have z:=xfo y;rw[eD hb];unfold meet at z ⊢;show (zck++zaO).find? _=_;rw[List.find?_append,z];rfl
      . ext jT hb
        refine xfo (p:=BI) (d:=zgN) ?_;ext zUE x;unfold btw at hb ⊢;constructor
        . rintro ⟨h|h,h'|h'⟩<;>lia
        . show(vn,h,rfl,rfl)
          show(gR,.inr zdL,Md dk)
  . ext jT hlt
    have:=xfo (l:=zal) (m:=N4) (p:=False) (d:=(0,0)) (by
      rintro ⟨u,v⟩;rw[x,b];constructor
      . rintro ⟨h|h,h'|h'⟩<;>lia
      . rintro ⟨h,_⟩; exact h.elim)
    simpa using this
def xu9 (w:Int) (l m:mz):meet zZe zZd=(meet l m).map (mir w):=by
 unfold meet;rw[List.find?_map];refine congrArg zuy (congrArg (List.find? · l) (funext λ c=>?_));show decide (zyN∈zZd)=_;rw[decide_eq_decide,xky,xdu]
def xrj {w x1 y1 r1 x2 y2 r2:Int} (a1:1<=x1) (a2:x1<=w) (b1:1<=x2) (b2:x2<=w) (hx:zyv) :
    meet N4 zal=(oG x2 x1 (Pd,BI,zgN,C5 zl zgM) none):=by
  have z:=xk6 (w:=w) (x1:=f8-x2) (y1:=y2) (r1:=r2) (x2:=f8-x1) (y2:=y1) (r2:=r1) dk dk dk dk dk;rw[zmz x2 y2 r2,(jK,sW (f8-x1) y1 false r1,_,xgd w x1 y1 true r1),xu9] at z;have z:=AQ zuy z;rw[Option.map_map,(jK,mir w∘mir w,id,funext (xdu w)),Option.map_id_apply,zrN,zrN,zrN] at z;rw[z];by_cases h:UT
  . rw[Tl,zfW]
    show (Pd,BI,zwh zgN,C5 zl (zwh zgM))=_;rw[xdu,xdu]
  . rw[xJ,zfV]
    rfl
def meet_at {l m:mz}{i:Nat}{c:j6} (hc:dX l c) (no:∀ d∈zxS,d∉m) (hm:c∈m):(du,meet l m,c):=by
 ext KK h j hc;have e:zMS=l:=by
  ext zSr j
 have b:(zxS).find? (λ c=>zsr)=none:=by
  ext zGI q
 have z:(du,(zMS).find? (λ c=>zsr),c):=by
  rw[List.find?_append,b,YN (by ext Pb hm)];rfl
 ext eW e z z
def meet_no {l m:mz} (no:∀ d∈l,d∉m):meet l m=none:=by
 unfold meet;ext zGI a
def erase_ok {ls:eS}{k:Nat}{y:Int} (nd:ls.Nodup) (h:wp ls y):(d9,(zra).Nodup,y∉zra,(∀ z∈zra,z∈ls),y∈ls):=by
 obtain⟨H,v⟩:=zhx;have e:ls.take k++y::ls.drop gu=ls:=by
  ext zSr v
 have A:ls.eraseIdx k=ls.take k++ls.drop gu:=List.eraseIdx_eq_take_drop_succ ls k;have i:=nd;rw[<- e,ZE,ZH] at i;obtain⟨D,⟨C,B⟩,j⟩:43:=i;refine(fQ,?_,?_,(re,List.mem_of_mem_eraseIdx hz),v▸JO H)
 .rw [A,ZE];show(eB,D,B,λ a K b J=>j a K b (Zm _ J))
 .rw [A,Zz];rintro (z|z)
  .exact j _ z _ Zo rfl
  .exact C z
noncomputable def absI (a:Int):Int:=(oG,a,0,-a,a)
noncomputable def acr (w x:Int) (b:Bool):Int:=wL x Dw
def tri {a b c:Int}:(jP a c)<=(jP a b)+(jP b c):=by
 unfold absI;ext znj
def xgr {v a b:Int} (h:btw v a b):absI (a-b)=(jP a v)+(jP v b):=by
 unfold btw at h;unfold absI;ext znj
def xp0 {cn cf yn rn yf rf:Int} (hc:cn<cf) (hr:SQ) (h:zcB) :
    zMd<zMe\/(zMd=zMe/\(zTx rn rf)<(zTx rf rn)):=by
  show(dy,e,xgr h,j,tri (a:=yf) (b:=rf) (c:=rn));by_cases c:absI (yf-rn)=(jP yf rf)+(jP rf rn)
  . show(qZ,jy dk)
    rw[c,e,QX,QX];have p:0<(jP rf rn):=by
      unfold absI;ext kR
    show(gV,Int.mul_lt_mul_of_pos_right hc p)
  . ext iE dk
def xwd (a b:Int):(jP a b)=absI (b-a):=by
 unfold absI;ext O4
def ex_pair {w x1 y1 r1 x2 y2 r2:Int}{b1 b2:Bool} (a1:1<=x1) (a2:x1<=w) (c1:1<=x2) (c2:x2<=w) (hx:zyv) (hs:(b1,r1)≠(b2,r2)) (hm:(yH,meet (sW x1 y1 b1 r1) (sW x2 y2 b2 r2))) :
    zDC<zDD \/
    (b1=b2/\zDC=zDD /\
      zdp*(jP y1 r1)+acr w x2 b2*(jP y2 r2)<acr w x1 b2*(jP y1 r2)+zdo*(jP y2 r1)):=by
  by_cases hb:b1=b2
  . subst hb
    have j:r1≠r2:=λ e=>hs As;by_cases hn:if b1 then x1<x2 else UT
    . rw[xso a1 a2 c1 c2 j hn] at hm
      have h:zl:=by
        by_cases z:zl
        . ext i4
        . ext HU z
      have p:zdp<zdo:=by
        ext zKH hn
      rcases xp0 (yf:=y2) p j h with z|⟨z,f⟩
      . ext iE dk
      . show(hX,Dk dk f)
    . have q:if b1 then UT else x1<x2:=by
        cases b1<;>simp at hn ⊢<;>lia
      rw[xuv c1 c2 a1 a2 (Z2 j) q] at hm;have h:BI:=by
        by_cases z:BI
        . ext i4
        . ext HU z
      have p:zdo<zdp:=by
        ext zKH q
      rcases xp0 (yf:=y1) p (Z2 j) h with z|⟨z,f⟩
      . ext iE dk
      . ext hX zdL
  . refine .inl ?_
    show(iR,v,tri (a:=y2) (b:=r2) (c:=r1),s,tri (a:=y1) (b:=r1) (c:=r2),x,xwd r2 r1);cases b1 with
    | true =>
      cases b2 with
      | true=>ext mP hb
      | false =>
        rw[xk6 a1 a2 c1 c2 hx] at hm;by_cases z:UT
        . rw[if_pos z] at hm
          have m:btw r2 y1 r1\/btw r1 y2 r2:=by
            by_cases z1:zl
            . ext iE z1
            . ext zNf
              . ext hX f
              . ext HU f
          unfold acr;simp only[if_true,ZJ,if_false];rcases m with u|u
          . ext zhV
          . ext zhV
        . ext HU z
    | false =>
      cases b2 with
      | false=>ext mP hb
      | true =>
        rw[xrj c1 c2 a1 a2 (Z2 hx)] at hm;by_cases z:x1<x2
        . rw[if_pos z] at hm
          have m:btw r2 y1 r1\/btw r1 y2 r2:=by
            by_cases z1:zl
            . ext iE z1
            . ext zNf
              . ext hX f
              . ext HU f
          unfold acr;simp only[if_true,ZJ,if_false];rcases m with u|u
          . ext zhV
          . ext zhV
        . ext HU z
#check Geo
namespace Drw
variable {S:Type}
noncomputable abbrev Cl:=j6
noncomputable def set1 (m:jU) (c:Cl) (s:S):jU:=λ z=>(jq,z,c,Ua,m z)
noncomputable def sets (m:jU) (L:jF):jU:=L.foldl (λ m x=>qbP) m
noncomputable def mark1 (hs:S) (m:jU) (c:Cl) (s:S):jU:=set1 m c (if (m c).isSome then hs else s)
noncomputable def marks (hs:S) (m:jU) (L:jF):jU:=L.foldl (λ m x=>zSM) m
theorem sets_no:∀{L:jF}{m:jU}{c:Cl},c∉L.map (·.1)->LW=m c
 | [],_,_,_=>rfl
 | pW,m,c,h=>by
  rw[Zq,Zu,not_or] at h;show zgX=m c;rw[Dp i0];exact if_neg iA
theorem xl2:∀{L:jF}{m m':jU}{c:Cl},m c=m' c->LW=(Vp m')
 | [],_,_,_,h=>h
 | pW,m,m',c,h=>by
  refine xl2 (L:=L) ?_;show set1 m dM fY c=set1 m' dM fY c;unfold set1;split
  .rfl
  .exact h
theorem xia:∀{L:jF}{c:Cl} (m m':jU),c∈L.map (·.1)->LW=(Vp m')
 | pW,c,m,m',h=>by
  show zgX=(Vp (set1 m' dM fY));rcases Ae with e|h
  .refine xl2 ?_;unfold set1;rw[xY,xY]
  .exact xia _ _ h
theorem xhr:∀{L:jF}{m:jU}{c:Cl},c∈L.map (·.1)->(LW).isSome
 | pW,m,c,h=>by
  show (zgX).isSome;by_cases z:c∈L.map (·.1)
  .exact xhr z
  .rw [sets_no z];rcases Ae with e|h
   .unfold set1;rw[xY];rfl
   .ext gz h z
theorem sets_one:∀{L:jF}{m:jU}{c:Cl}{s:S},(L.map (·.1)).Nodup->(c,s)∈L->(du LW s)
 | pW,m,c,s,nd,h=>by
  ext wQ;show du zgX s;rcases Ae with e|h
  .ext gc;rw[sets_no nd.1];exact if_pos rfl
  .exact sets_one n6 h
def xtm {L L':jF} (p:L.Perm L') (nd:(L.map (·.1)).Nodup) (m:jU) (c:Cl):LW=sets m L' c:=by
 by_cases h:c∈L.map (·.1)
 .obtain ⟨⟨q,s⟩,j,rfl⟩:62:=Ah;rw[sets_one nd j,sets_one ((p.map _).nodup_iff.mp nd) (p.mem_iff.mp j)]
 .rw [sets_no h,sets_no (λ z=>h ((p.map _).mem_iff.mpr z))]
noncomputable def mkc (hs:S) (o:hW S) (l:Gx):hW S:=l.foldl (λ o s=>some (if o.isSome then hs else s)) o
noncomputable def at_ (c:Cl) (L:jF):Gx:=(L.filter λ x=>gk dM c).map (·.2)
theorem marks_at (hs:S):∀(L:jF) (m:jU) (c:Cl),marks hs m L c=mkc hs (m c) (at_ c L)
 | [],_,_=>rfl
 | pW,m,c=>by
  show marks hs zSM L c=_;rw[marks_at hs L];unfold at_ mark1 set1;rw[Qh];by_cases e:dM=c
  .ext gc;simp only[if_true,decide_true];rfl
  .have f:¬ c=dM:=λ z=>e z.symm;simp only[e,f,if_false,decide_false];rfl
theorem xi2 (hs:S):∀(l:Gx) (a:S),(du,mkc hs ziR l,jq l [] a hs)
 | [],a=>rfl
 | uN,a=>by
  show mkc hs (some hs) l=_;rw[xi2 hs l];simp
theorem mkc_perm (hs:S) {l l':Gx} (p:l.Perm l'):mkc hs none l=mkc hs none l':=by
 match l,p with
 | [],p=>rw[List.nil_perm.mp p]
 | ww,p=>rw[List.singleton_perm.mp p]
 | a::G3,p =>
  match l',p with
  | [],p=>show(gz,p.length_eq,dG)
  | [x],p=>show(gz,p.length_eq,dG)
  | x::y::r',p =>
   show mkc hs ziR G3=mkc hs (some x) (y::r');rw[xi2,xi2];simp
def xt3 (c:Cl) (L M:jF):at_ c (L++M)=at_ c L++at_ c M:=by
 unfold at_;rw[JA,Zt]
theorem at_flat {α:Type} (c:Cl) (f:α->jF):(Vi,at_ c (l.flatMap f)=l.flatMap λ a=>at_ c (f a))
 | []=>rfl
 | Dx=>by
  rw[Qz,Qz,xt3,at_flat c f l]
def at_no {c:Cl}{L:jF} (h:c∉L.map (·.1)):at_ c L=[]:=by
 unfold at_;rw[WQ,Wy];intro x b e;exact h (Zc.mpr (dB x b N5))
theorem xos:∀{L:jF}{c:Cl}{s:S},(L.map (·.1)).Nodup->(c,s)∈L->at_ c L=[s]
 | pW,c,s,nd,h=>by
  ext wQ;rw[(jK,pW,[x]++L,rfl),xt3];rcases Ae with e|h
  .ext gc;rw[at_no nd.1];simp[at_]
  .have f:¬ dM=c:=λ e=>nd.1 (e▸(Sz h));rw[xos n6 h];simp[at_,f]
def xyf {L M:jF} (c:Cl) (n1:(L.map (·.1)).Nodup) (n2:(M.map (·.1)).Nodup) (h:∀ s,(c,s)∈L↔(c,s)∈M):at_ c L=at_ c M:=by
 by_cases e:c∈L.map (·.1)
 .obtain ⟨⟨j,s⟩,f,rfl⟩:62:=zzB;rw[xos n1 f,xos n2 ((h s).mp f)]
 .rw [at_no e,at_no];ext kH;show(Rb,j,s,f,rfl,zzJ);exact e (Zc.mpr (rG,_,(h s).mpr f,rfl))
noncomputable def no:jU:=jG
noncomputable def drawP (hs:S) (PM dots names pts:jF):jU:=sets (λ z=>(sets zcv names z).or (marks hs no PM z)) pts
noncomputable def drawL (hs:S) (LM dots names pts:jF):jU:=sets qaQ names
def draw_same (hs:S) {w:Int}{PM LM dots names names' pts:jF} (hp:∀ x∈pts,(AS,(dM).1,(dM).1,w)) (hd:∀ x∈dots,zKu) (hn:∀ x∈names,zKu)
    (pn:names.Perm names') (nn:(names.map (·.1)).Nodup) (c:Cl) (hm:c∉pts.map (·.1)->c∉names.map (·.1)->(at_ c PM).Perm (at_ c LM)):drawP hs PM dots names pts c=drawL hs LM dots names' pts c:=by
  unfold drawP drawL;rw[<- xtm pn nn];by_cases cp:c∈pts.map (·.1)
  . have h:zZP:=by
      ext tt b cp;exact hp x b
    have f:c∉dots.map (·.1):=λ z=>by
      ext tt b z;show(gV,hd x b)
    have nn:c∉names.map (·.1):=λ z=>by
      ext tt b z;show(gV,hn x b)
    show(fG,Dp nn,sets_no f,xia _ _ cp)
  . rw[Dp cp]
    by_cases cn:c∈names.map (·.1)
    . have z:=xhr (m:=zcv) cn
      rw[xia qaQ zcv cn];revert z;generalize sets zcv names c=o;ext kH;cases o with
      | none=>cases z
      | some s=>rfl
    . rw[Dp cn,Dp cn]
      by_cases cd:c∈dots.map (·.1)
      . have z:=xhr (m:=(no:jU)) cd
        rw[xia zJx no cd];revert z;generalize sets no dots c=o;ext kH;cases o with
        | none=>cases z
        | some s=>rfl
      . rw[Dp cd,Dp cd,Dp cp]
        show (none:hW S).or (marks hs no PM c)=_;rw[Option.none_or,marks_at,marks_at];exact mkc_perm hs (hm cp cn)
noncomputable def rim (w:Int) (b:Bool):Int:=wL 0 f8
noncomputable def ls (sp sb sm:S) (x r:Int) (c:Cl):S:=(jq,c,yk,sp,jq fK x sb sm)
noncomputable def ledP (sp sb sm:S) (w x y:Int) (b:Bool) (r:Int):jF:=(LX).map λ c=>(c,ls sp sb sm x r c)
noncomputable def rg (lo hi:Int):eS:=(zXY).map (iW,i,lo+(eg i))
noncomputable def ledL (sp sb sm:S) (w x y:Int) (b:Bool) (r:Int):jF:=((zIy).map λ a=>((x,a),sb))++(zWm [(yk,sp)])++((rg znr zpF).map λ a=>((a,r),sm))
def mem_rg {lo hi a:Int}:a∈rg lo hi↔lo<=a/\a<hi:=by
 unfold rg;ext tR Zc
 .show(rV,i,b,rfl);rw[ZD] at b
  lia
 .rintro ⟨e,c⟩;show(eB,jX a lo,zzm,dk)
def nd_map {α β:Type}{f:At} (inj:zHD) {l:fc} (h:l.Nodup):Ik:=by
 rw[Jx,Z5];exact h.imp zNd
def xwh (lo hi:Int):(rg lo hi).Nodup:=zhY dk Yr
def nd_cells {w x y:Int}{b:Bool}{r:Int}:(LX).Nodup:=by
 unfold Geo.cells;rw[ZE];show(iF,?_,?_)
 .unfold Geo.upL Geo.dn;ext zEn
 .unfold Geo.lvL Geo.wayI;ext zEn
 .rintro ⟨u,v⟩ z ⟨C,B⟩ h e;rw[Geo.mem_up] at z;unfold Geo.lvL at h;ext zC i A Ah;rw[JE.injEq] at e A
  lia
def ledL_keys (sp sb sm:S) (w x y:Int) (b:Bool) (r:Int):(zmi).map (·.1)=((zIy).map λ a=>(x,a))++(zWm [yk])++((rg znr zpF).map λ a=>(a,r)):=by
 unfold ledL;rw[Zt,Zt,Zr,Zr]
 congr 2
 split<;>rfl
def led_at (sp sb sm:S) {w x y:Int}{b:Bool}{r:Int} (h1:we) (h2:Dy) {c:Cl} (n1:c≠(x,y)) (n2:c≠(zyC,r)):at_ c zKE=at_ c zmi:=by
 ext zcI;refine xyf _ ?_ ?_ ?_
 .unfold ledP;show(dP,Zr,zhY e nd_cells)
 .rw [ledL_keys];rw[ZE,ZE];show(iF,(kB,(zhY,(zRc).2,xwh _ _),by split<;>simp),(zhY,(zRc).1,xwh _ _))
  .ext zKQ;ext yb i P C A;rw[mem_rg] at P;split at B
   .have B:=Zs.mp B;rw[JE.injEq] at C B e
    lia
   .exact nomatch B
  .ext zKQ;ext yb j Q T B;rw[mem_rg] at Q;rw[JE.injEq] at T e;have R:a=x:=by
    rcases Zz.mp A with A|A
    .show(j7,i,P,C,Zc.mp A);show(eW,JE.injEq,C,C.1.symm)
    .split at A
     .have A:=Zs.mp A;show(eW,JE.injEq,A,A.1)
     .exact nomatch A
   lia
 .intro s
  have L:((u,v),s)∈zKE↔(u,v)∈LX/\s=ls sp sb sm x r (u,v):=by
   unfold ledP;ext tR Zc
   .ext rV c I e;ext zuU;show(oD,rfl,e);show(dO,I,rfl)
   .rintro ⟨I,rfl⟩;exact iJ I
  have K:((u,v),s)∈zmi↔(gf,u,x,min y r+1<=v/\v<max y r,s=sb)\/(d9,r≠y,u=x,v=r,s=sp)\/(gf,v,r,znr<=u/\u<zpF,s=sm):=by
   unfold ledL;rw[Zz,Zz,Zc,Zc,or_assoc];refine or_congr zhi (or_congr zhi zhi)
   .ext zAN
   .show(vn,rfl,A,rfl);ext oS v qbc
   .intro h
    ext Di
    .rename_i D
     have h:=zzT;simp only[JE.injEq] at h;exact(fQ,D,(iA).1,(iA).2,i0)
    .ext RF
   .rintro (⟨D,rfl,rfl,rfl⟩:44);rw[eD D];exact Zs.mpr rfl
   .ext zAN
   .show(vn,rfl,A,rfl);ext oS u qbc
  rw[L,K,Geo.mem_cells h1 h2];clear L K;show(dw,O,¬ (u=x/\v=y),λ z=>n1 (fC iM rH),M,¬ (u=zyC/\v=r),λ z=>n2 (fC iM rH));unfold ls;by_cases ux:u=x
  .subst ux;by_cases vr:v=r
   .subst vr;ext tR gq
    .rintro ⟨_,e⟩;exact .inr (.inl (fQ,λ z=>O T8,rfl,rfl,e))
    .rintro (⟨_,z,_⟩|⟨_,_,_,e⟩|⟨_,z,_⟩)
     .lia
     .show(DB,(F6,by ext zym b),e)
     .lia
   .rw [(mD,vr (zxJ).2),gq];constructor
    .rintro ⟨z|z,e⟩
     .show(iE,Dk dk e)
     .ext gz iM vr
    .rintro (⟨_,z,e⟩|⟨_,_,z,_⟩|⟨z,_⟩)
     .show(DB,Md dk,e)
     .ext gz z vr
     .ext gz z vr
  .rw [(mD,ux (zxJ).1),d6 ux];constructor
   .rintro ⟨z|z,e⟩
    .ext gz iM ux
    .refine .inr (.inr (dB iM ?_ e));show(gL,J,rH,H,¬ u=zyC,λ y=>M ⟨y,iM⟩);clear O M z n1 n2;unfold rim at H ⊢;cases b
     .simp at J H ⊢
      lia
     .simp at J H ⊢
      lia
   .rintro (⟨z,_⟩|⟨_,z,_⟩|⟨z,y,e⟩)
    .ext gz z ux
    .ext gz z ux
    .refine ⟨.inr (jy z),e⟩;unfold rim at y;cases b
     .simp at y ⊢
      lia
     .simp at y ⊢
      lia
#check Drw
namespace Kp
noncomputable def pc (n:Nat):Nat:=if h:n=0 then 0 else n % 2+pc (n / 2)
termination_by n
decreasing_by lia
section
variable {N S:Type} [DecidableEq N] [DecidableEq S]
structure Mt (room:vV) (so:qy) (ho:rZ):Prop where
 iff:∀ n s,zPS
 rm:zLD
def Mt.inj {room:vV}{so:qy}{ho:rZ} (m:zbZ) {a b:N}{s:S} (ha:zqQ) (hb:(du,so b,s)):oa:=by
 have x:=(m.iff a s).mp ha;show(eW,(m.iff b s).mp hb,x,(ZM.inj x).symm)
theorem xfr {so:qy}:∀{T:CT},T.Nodup->(∀ a∈T,∀ b∈T,∀ s,zqQ->(du,so b,s)->oa)->(T.filterMap so).Nodup
 | [],_,_=>Yh
 | a::T,nd,inj=>by
  rw[ZH] at nd;have c:=xfr n6 λ x hx y hy=>inj x (Zm _ hx) y (Zm _ hy);rw[JQ];cases e:so a with
  | none=>exact c
  | some s =>
   refine ZH.mpr ⟨mI,c⟩;show(dA,b,h,j,Yd.mp z);rw[inj a jL b (Zm _ h) s e j] at nd;exact nd.1 h
theorem xd2 {so:qy}:∀{T:CT},zJw->(zWo).length=T.length
 | [],_=>rfl
 | a::T,h=>by
  rw[JQ];cases e:so a with
  | none =>
   ext zrl ziu
  | some s =>
   show (s::zWo).length=_;rw[ZF,ZF,xd2 znn]
noncomputable def tog (room:vV) (T:CT) (s:S):Bool:=T.any λ n=>gM (s∈room n)
def hall {room:vV}{so:qy}{ho:rZ} (m:zbZ) {ss:Gx} (hr:Xy) {T:CT} (nd:T.Nodup) (h:zJw):T.length<=ss.countP (tog room T):=by
 rw[List.countP_eq_length_filter,<- xd2 h];show(zov,xfr nd λ a _ b _ s y x=>m.inj y x,zE);show(dA,n,v,e,Yd.mp hs);ext zCj v
structure Crowd (room:vV) (so:qy) (name:N) (hs:CT):Prop where
 nd:(Fx).Nodup
 has:∀ h∈hs,(so h).isSome
 all:∀ c∈Fx,∀ s∈room c,∃ h∈hs,(du,so h,s)
def Crowd.count {room:vV}{so:qy}{ho:rZ} (m:zbZ) {name:N}{hs:CT} (c:Crowd room so name hs) {ss:Gx} (nd:ss.Nodup) (hr:Xy):ss.countP (tog room Fx)=hs.length:=by
 rw[List.countP_eq_length_filter];have x:=zWJ;refine Nat.le_antisymm ?_ ?_
 .rw [<- xd2 c.has];show(zov,Jh.filter _ nd,zxu);show(dA,n,z,e,Yb.mp (Z9.mp v).2);show(dA,h,A,D,c.all n z s N5);exact Yd.mpr (dB h A D)
 .rw [<- xd2 c.has];show(zov,xfr x λ a _ b _ s C B=>m.inj C B,zxu);show(dA,n,z,e,Yd.mp v);ext zCj ziH
noncomputable def upd1 {α β:Type} [Iw] (f:zsZ) (a:α) (b:β):zsZ:=λ z=>(jq,z,a,some b,f z)
structure Hand (room:vV) (dom:zze) (so:qy) (ho:rZ) (wait:S):Prop where
 iff:(Dl,s≠wait,zPS)
 rm:zLD
 no:∀ n,G4≠some wait
 dm:∀ n,(G4).isSome=dom n
def Mt.hand {room:vV}{so:qy}{ho:rZ} (m:zbZ) {s:S} (h:EW):zro (λ n=>(G4).isSome) :=
 (dY,λ n s _=>m.iff n s,m.rm,λ n e=>(US,(m.iff n s).mp e,h),qD)
def Hand.step {room:vV}{dom:zze}{so:qy}{ho:rZ}{s s1:S}{a:N} (g:zro dom) (ra:Gq) (e:zWO):Hand room dom (upd1 so a s) (upd1 ho s a) s1:=by
 show(fU,q,s1≠s,λ z=>g.no a (z▸e),(dY,d8 n x h,d8 n x h,dC n h,gO n))
 .ext zSC
  .ext zNr
   .rw [eD h2,h2];simp
   .ext lD h2;constructor
    .ext Xm h2
    .ext kH
     show(oz,(zZO).mpr z,e);show(gz,(ZM.inj this).symm,h)
  .ext zUJ
   .subst h2;ext tR gq
    .ext zNN
    .ext Xm h1
   .ext zPt
 .ext qap
  .ext zWh zfU
  .exact g.rm n x h
 .ext qap
  .exact q (zfU).symm
  .rename_i h1
   show(gZ,x1,(g.iff n s1 q).mp h,(g.iff a s1 q).mp e,x1);exact h1 (ZM.inj x1).symm
 .unfold upd1;split
  .rename_i h1
   rw[h1,<- g.dm a,e];rfl
  .exact g.dm n
def Hand.last {room:vV}{dom:zze}{so:qy}{ho:rZ}{s:S}{a:N} (g:zro dom) (ra:Gq) (e:Ga a):Mt room (upd1 so a s) (upd1 ho s a)/\∀ n,(upd1 so a s n).isSome=((gk n a)||dom n):=by
 show(gR,⟨zxv,d8 n x hx⟩,gO n)
 .ext zSC
  .ext zNr
   .rw [eD h2,h2];simp
   .ext lD h2;constructor
    .ext Xm h2
    .ext kH
     show(zrl,(zZO).mpr z)
  .ext zUJ
   .subst h2;ext tR gq
    .ext zNN
    .ext Xm h1
   .ext zPt
 .unfold upd1 at hx;split at hx
  .ext zWh zvq
  .exact g.rm n x hx
 .unfold upd1;split
  .rename_i h1
   simp[h1]
  .rename_i h1
   rw[<- g.dm n];simp[h1]
#check _
inductive Rch {α:Type} (f:zta):zdJ
 | refl (a:α):Rch f a a
 | step {a b c:α}:zuZ->(du,f b,c)->Rch f a c
theorem Rch.trans {α:Type}{f:zta}{a b c:α} (h:zuZ) (g:Rch f b c):Rch f a c:=by
 induction g with
 | refl=>exact h
 | step _ e ih=>exact .step ih e
theorem Rch.head {α:Type}{f:zta}{a b:α} (h:zuZ):a=b\/∃ d,(du,f a,d)/\Rch f d b:=by
 induction h with
 | refl=>ext pK
 | step g e ih =>
  rcases ih with rfl|⟨d,m,j⟩
  .show(hX,hD e vw)
  .show(hX,(dB,d,m,.step j e))
inductive KS (N S:Type) where
 | ask (crowd:CT) (asked:rZ) (i j:Nat)
 | hand (so:qy) (ho:rZ) (asked:rZ) (s:S)
 | out (crowd:CT)
 | fin (so:qy) (ho:rZ)
section
variable {N S:Type} [DecidableEq N] [DecidableEq S]
noncomputable def kstep (room:vV) (so:qy) (ho:rZ):KS N S->(hW (KS N S))
 | Fw=>match crowd[i]? with
  | none=>zQV
  | ziR=>match C3[j]? with
   | none=>some (Pu dW 0)
   | Ua=>match mJ with
    | some _=>some (Pu i lG)
    | none=>match DA with
     | none=>some zSH
     | some h=>some zTB
 | zcC=>match mJ with
  | none=>none
  | ziR=>match so1 a with
   | none=>some (.fin zsm zso)
   | some l=>some zNQ
 | .out _=>none
 | .fin _ _=>none
variable {room:N->List S}{so so1:N->Option S}{ho ho1 asked:S->Option N}{crowd:List N}{i j:Nat}{a h:N}{s l:S}
def k_end (e:crowd[i]?=none):kstep room so ho Fw=zQV:=by
 simp only[kstep,e]
def k_next (e:BH) (e2:C3[j]?=none):HM Fw (Pu dW 0):=by
 ext zqw
def k_old (e:BH) (e2:zvo) (e3:(du,asked s,h)):HM Fw (Pu i lG):=by
 simp only[kstep,e,e2,e3]
def k_free (e:BH) (e2:zvo) (e3:OT) (e4:EW):HM Fw zSH:=by
 simp only[kstep,e,e2,e3,e4]
def k_grow (e:BH) (e2:zvo) (e3:OT) (e4:IR):HM Fw zTB:=by
 simp only[kstep,e,e2,e3,e4]
def k_hand (e:vh) (e2:(du,so1 a,l)):HM zcC zNQ:=by
 ext zqw
def k_fin (e:vh) (e2:so1 a=none):HM zcC (.fin zsm zso):=by
 ext zqw
#check _
#check Kp
namespace Geo
noncomputable def vr (v y r:Int):Prop:=zoH
noncomputable def hz (b:Bool) (u x:Int):Prop:=(wn,u<=x,x<=u)
structure x3e (ns:eS) (n:Nat) (dbl:Bool):Prop where
 len:ns.length=iZ
 z:lQ ns 0 0
 st:∀(i:Nat) (a b:Int),(dX ns a)->(lQ ns dW b)->(b=a+1\/b=a+2)/\(dbl=true->b=a+2)
#check Geo
namespace S94
open PySem L2 XL
def hmm {j k A}(r:L2.Room true k A)(h:j<=k:=by decide):L2.Room true j A:=r.mono h
noncomputable def top (i:Nat):Stmt:=PySem.Challenge.pw_rimnotes_k94_whole_least_and_apart.main.body.getD i (.Pass zrA)
noncomputable abbrev s_a4:Stmt:=kg 19 0
noncomputable abbrev s_ao:Stmt:=kg 20 1
noncomputable abbrev s_at:Stmt:=kg 20 2
noncomputable abbrev s_ab:Stmt:=kg 20 3
noncomputable abbrev s_ae:Stmt:=kg 21 1
noncomputable abbrev s_ap:Stmt:=kg 21 2
noncomputable abbrev s_w:Stmt:=kg 21 3
noncomputable abbrev s_ac:Stmt:=top 22
noncomputable abbrev s_ax:Stmt:=top 24
noncomputable abbrev xf1:Stmt:=top 26
noncomputable abbrev xh6:Stmt:=top 27
noncomputable abbrev xgh:Stmt:=top 29
noncomputable abbrev s_az:Stmt:=top 30
noncomputable abbrev xex:Stmt:=top 31
noncomputable abbrev s_am:Stmt:=top 32
noncomputable abbrev xdy:Stmt:=top 33
noncomputable abbrev xgm:Stmt:=top 34
noncomputable abbrev s_aq:Stmt:=kg 36 0
noncomputable abbrev s_s:Stmt:=kg 36 1
noncomputable abbrev s_h:Stmt:=kg 36 2
noncomputable abbrev xg0:Stmt:=top 37
noncomputable abbrev xnm:Stmt:=top 38
noncomputable abbrev s_bb:Stmt:=top 39
noncomputable abbrev xhk:Stmt:=top 40
noncomputable abbrev s_a0:Stmt:=kg 42 0
noncomputable abbrev s_aj:Stmt:=kg 42 1
noncomputable abbrev s_af:Stmt:=kg 42 2
noncomputable abbrev s_y:Stmt:=kg 42 3
noncomputable abbrev s_m:Stmt:=kg 42 4
noncomputable abbrev xih:Stmt:=top 43
noncomputable abbrev xjb:Stmt:=top 45
noncomputable abbrev s_ak:Stmt:=top 47
noncomputable abbrev s_aw:Stmt:=top 48
noncomputable abbrev s_ar:Stmt:=sQ 0
noncomputable abbrev s_b:Stmt:=sQ 1
noncomputable abbrev s_t:Stmt:=sQ 4
noncomputable abbrev s_c:Stmt:=sQ 6
noncomputable abbrev s_f:Stmt:=sQ 7
noncomputable abbrev s_k:Stmt:=sQ 8
noncomputable abbrev s_ai:Stmt:=sQ 9
noncomputable abbrev s_u:Stmt:=sQ 10
noncomputable abbrev s_q:Stmt:=sQ 11
noncomputable abbrev s_i:Stmt:=sQ 15
noncomputable abbrev s_v:Stmt:=sQ 16
noncomputable abbrev s_l:Stmt:=sQ 17
noncomputable abbrev s_j:Stmt:=sQ 18
noncomputable abbrev s_ad:Stmt:=top 55
noncomputable abbrev xil:Stmt:=top 57
noncomputable abbrev s_bf:Stmt:=top 58
noncomputable abbrev s_ag:Stmt:=top 59
noncomputable abbrev s_a3:Stmt:=top 60
noncomputable abbrev s_a5:Stmt:=top 61
noncomputable abbrev s_av:Stmt:=kg 62 0
noncomputable abbrev s_z:Stmt:=kg 62 1
noncomputable abbrev s_aa:Stmt:=kg 62 2
noncomputable abbrev s_ah:Stmt:=kg 62 3
noncomputable abbrev s_ay:Stmt:=kg 62 4
noncomputable abbrev xkj:Stmt:=top 63
noncomputable abbrev s_a1:Stmt:=top 64
noncomputable abbrev s_a2:Stmt:=top 65
noncomputable abbrev s_bc:Stmt:=top 66
noncomputable abbrev s_as:Stmt:=top 67
noncomputable abbrev s_an:Stmt:=top 68
noncomputable abbrev s_r:Stmt:=top 70
noncomputable abbrev s_bd:Stmt:=top 71
noncomputable abbrev s_a9:Stmt:=top 72
noncomputable abbrev s_a7:Stmt:=top 73
noncomputable abbrev s_au:Stmt:=top 74
noncomputable abbrev s_bg:Stmt:=top 75
noncomputable abbrev s_x:Stmt:=top 76
noncomputable abbrev s_ba:Stmt:=top 77
noncomputable abbrev s_al:Stmt:=top 78
noncomputable abbrev s_a8:Stmt:=top 79
noncomputable abbrev xe0:Stmt:=top 80
set_option genInjectivity false in
set_option genSizeOf false in
set_option genInjectivity false in
set_option genSizeOf false in
structure Adr where
 f_a4:Addr
 d_a4:FuncData
 f_ao:Addr
 d_ao:FuncData
 f_at:Addr
 d_at:FuncData
 f_ab:Addr
 d_ab:FuncData
 f_ae:Addr
 d_ae:FuncData
 f_ap:Addr
 d_ap:FuncData
 f_w:Addr
 d_w:FuncData
 f_ac:Addr
 d_ac:FuncData
 f_ax:Addr
 d_ax:FuncData
 f_meeting:Addr
 d_meeting:FuncData
 f_total:Addr
 d_total:FuncData
 f_upright:Addr
 d_upright:FuncData
 f_az:Addr
 d_az:FuncData
 f_exchangeable:Addr
 d_exchangeable:FuncData
 f_am:Addr
 d_am:FuncData
 f_exchanged:Addr
 d_exchanged:FuncData
 f_uncrossed:Addr
 d_uncrossed:FuncData
 f_aq:Addr
 d_aq:FuncData
 f_s:Addr
 d_s:FuncData
 f_h:Addr
 d_h:FuncData
 f_crowds:Addr
 d_crowds:FuncData
 f_fits:Addr
 d_fits:FuncData
 f_bb:Addr
 d_bb:FuncData
 f_kept:Addr
 d_kept:FuncData
 f_a0:Addr
 d_a0:FuncData
 f_aj:Addr
 d_aj:FuncData
 f_af:Addr
 d_af:FuncData
 f_y:Addr
 d_y:FuncData
 f_m:Addr
 d_m:FuncData
 f_least:Addr
 d_least:FuncData
 f_answer:Addr
 d_answer:FuncData
 f_ak:Addr
 d_ak:FuncData
 f_aw:Addr
 d_aw:FuncData
 f_ar:Addr
 d_ar:FuncData
 f_b:Addr
 d_b:FuncData
 T_b:Addr
 f_t:Addr
 d_t:FuncData
 f_c:Addr
 d_c:FuncData
 f_f:Addr
 d_f:FuncData
 f_k:Addr
 d_k:FuncData
 f_ai:Addr
 d_ai:FuncData
 f_u:Addr
 d_u:FuncData
 f_q:Addr
 d_q:FuncData
 f_i:Addr
 d_i:FuncData
 f_v:Addr
 d_v:FuncData
 f_l:Addr
 d_l:FuncData
 f_j:Addr
 d_j:FuncData
 f_ad:Addr
 d_ad:FuncData
 f_drawn:Addr
 d_drawn:FuncData
 f_bf:Addr
 d_bf:FuncData
 f_ag:Addr
 d_ag:FuncData
 f_a3:Addr
 d_a3:FuncData
 f_a5:Addr
 d_a5:FuncData
 f_av:Addr
 d_av:FuncData
 f_z:Addr
 d_z:FuncData
 f_aa:Addr
 d_aa:FuncData
 f_ah:Addr
 d_ah:FuncData
 f_ay:Addr
 d_ay:FuncData
 f_seen:Addr
 d_seen:FuncData
 f_a1:Addr
 d_a1:FuncData
 f_a2:Addr
 d_a2:FuncData
 f_bc:Addr
 d_bc:FuncData
 f_as:Addr
 d_as:FuncData
 f_an:Addr
 d_an:FuncData
 f_r:Addr
 d_r:FuncData
 f_bd:Addr
 d_bd:FuncData
 f_a9:Addr
 d_a9:FuncData
 f_a7:Addr
 d_a7:FuncData
 f_au:Addr
 d_au:FuncData
 f_bg:Addr
 d_bg:FuncData
 f_x:Addr
 d_x:FuncData
 f_ba:Addr
 d_ba:FuncData
 f_al:Addr
 d_al:FuncData
 f_a8:Addr
 d_a8:FuncData
 f_law:Addr
 d_law:FuncData
 C_bz:Addr
 C_o:Addr
 C_e:Addr
 C_n:Addr
 C_d:Addr
 C_a:Addr
 C_g:Addr
 D_p:Addr
structure GB (K:Zf) (mg:iO) (g x q:Str) (st:Stmt) (ps:dD) (f:Addr) (fd:FuncData):Prop where
 g:vF g f
 F:Bu
 b:zgS
structure MB (K:Zf) (C:Addr) (m x q:Str) (st:Stmt) (ps:dD) (f:Addr) (fd:FuncData):Prop where
 F:Bu
 b:zgS
 m:Meth K C m f
structure Txt (w:World) (K:Zf) (mg:iO) (t:Adr):Prop where
 g_o:vF "LeftSide" t.C_o
 g_e:vF "RightSide" t.C_e
 g_n:vF "Seating" t.C_n
 g_d:vF "Prices" t.C_d
 g_a:vF "Picture" t.C_a
 g_g:vF "Letters" t.C_g
 a4:MB K t.C_bz "__init__" "__init__" "Side.__init__" s_a4 zcA t.f_a4 t.d_a4
 ao:MB K t.C_o "rim" "rim" "LeftSide.rim" s_ao nD t.f_ao t.d_ao
 B_at:MB K t.C_o "way" "way" "LeftSide.way" s_at nD t.f_at t.d_at
 ab:MB K t.C_o "across" "across" "LeftSide.across" s_ab B9 t.f_ab t.d_ab
 ae:MB K t.C_e "rim" "rim" "RightSide.rim" s_ae nD t.f_ae t.d_ae
 ap:MB K t.C_e "way" "way" "RightSide.way" s_ap nD t.f_ap t.d_ap
 B_w:MB K t.C_e "across" "across" "RightSide.across" s_w B9 t.f_w t.d_w
 ac:gg "side_of" "side_of" "side_of" s_ac zay t.f_ac t.d_ac
 ax:gg "cells_of" "cells_of" "cells_of" s_ax zkS t.f_ax t.d_ax
 B_meeting:gg "meeting" "meeting" "meeting" xf1 Hv t.f_meeting t.d_meeting
 B_total:gg "total" "total" "total" xh6 jp t.f_total t.d_total
 B_upright:gg "upright" "upright" "upright" xgh jp t.f_upright t.d_upright
 az:gg "upright_of" "upright_of" "upright_of" s_az ztm t.f_az t.d_az
 B_exchangeable:gg "exchangeable" "exchangeable" "exchangeable" xex jp t.f_exchangeable t.d_exchangeable
 am:gg "may_exchange" "may_exchange" "may_exchange" s_am Hv t.f_am t.d_am
 B_exchanged:gg "exchanged" "exchanged" "exchanged" xdy zlC t.f_exchanged t.d_exchanged
 B_uncrossed:gg "uncrossed" "uncrossed" "uncrossed" xgm jp t.f_uncrossed t.d_uncrossed
 aq:MB K t.C_n "__init__" "__init__" "Seating.__init__" s_aq nD t.f_aq t.d_aq
 s:MB K t.C_n "hand_on" "hand_on" "Seating.hand_on" s_s zlw t.f_s t.d_s
 h:MB K t.C_n "crowd_with" "crowd_with" "Seating.crowd_with" s_h znq t.f_h t.d_h
 B_crowds:gg "crowds" "crowds" "crowds" xg0 tI t.f_crowds t.d_crowds
 B_fits:gg "fits" "fits" "fits" xnm tI t.f_fits t.d_fits
 bb:gg "left_out" "left_out" "left_out" s_bb vk t.f_bb t.d_bb
 B_kept:gg "kept" "kept" "kept" xhk vk t.f_kept t.d_kept
 a0:MB K t.C_d "__init__" "__init__" "Prices.__init__" s_a0 OW t.f_a0 t.d_a0
 aj:MB K t.C_d "let_in" "let_in" "Prices.let_in" s_aj oA t.f_aj t.d_aj
 af:MB K t.C_d "ask_on" "ask_on" "Prices.ask_on" s_af HG t.f_af t.d_af
 B_y:MB K t.C_d "nearest" "nearest" "Prices.nearest" s_y HG t.f_y t.d_y
 m:MB K t.C_d "shift_prices" "shift_prices" "Prices.shift_prices" s_m zlf t.f_m t.d_m
 B_least:gg "least" "least" "least" xih tI t.f_least t.d_least
 B_answer:gg "answer" "answer" "answer" xjb vk t.f_answer t.d_answer
 ak:gg "is_whole" "is_whole" "is_whole" s_ak zlS t.f_ak t.d_ak
 aw:gg "is_name" "is_name" "is_name" s_aw RQ t.f_aw t.d_aw
 ar:uC "__init__" "Picture.__init__" s_ar XF t.f_ar t.d_ar
 F_b:FunD K "put" "Picture.put" s_b t.T_b t.f_b t.d_b
 b_by:∃ ds,Vals [zdl,.int 1,.non] ds/\xca K t.d_b VB ds
 b_b:xca K t.d_b VB []
 B_t:uC "open_seat" "Picture.open_seat" s_t Bt t.f_t t.d_t
 c:uC "points" "Picture.points" s_c nD t.f_c t.d_c
 f:uC "seats" "Picture.seats" s_f nD t.f_f t.d_f
 k:uC "place_of" "Picture.place_of" s_k oA t.f_k t.d_k
 ai:uC "may" "Picture.may" s_ai HF t.f_ai t.d_ai
 u:uC "length" "Picture.length" s_u HF t.f_u t.d_u
 q:uC "seats_for" "Picture.seats_for" s_q oA t.f_q t.d_q
 i:uC "check_name" "Picture.check_name" s_i oA t.f_i t.d_i
 v:uC "check_cell" "Picture.check_cell" s_v zco t.f_v t.d_v
 l:uC "check_lines" "Picture.check_lines" s_l znp t.f_l t.d_l
 j:uC "check_seat" "Picture.check_seat" s_j Bt t.f_j t.d_j
 ad:gg "picture_with" "picture_with" "picture_with" s_ad zkI t.f_ad t.d_ad
 B_drawn:gg "drawn" "drawn" "drawn" xil jp t.f_drawn t.d_drawn
 bf:gg "row_text" "row_text" "row_text" s_bf NL t.f_bf t.d_bf
 ag:gg "leader_signs" "leader_signs" "leader_signs" s_ag jp t.f_ag t.d_ag
 a3:gg "leader_sign" "leader_sign" "leader_sign" s_a3 XU t.f_a3 t.d_a3
 a5:gg "rim_signs" "rim_signs" "rim_signs" s_a5 jp t.f_a5 t.d_a5
 av:MB K t.C_g "__init__" "__init__" "Letters.__init__" s_av zao t.f_av t.d_av
 z:MB K t.C_g "is_rim" "is_rim" "Letters.is_rim" s_z zca t.f_z t.d_z
 aa:MB K t.C_g "may_stand" "may_stand" "Letters.may_stand" s_aa ER t.f_aa t.d_aa
 ah:MB K t.C_g "may_lie" "may_lie" "Letters.may_lie" s_ah ztg t.f_ah t.d_ah
 ay:MB K t.C_g "read" "read" "Letters.read" s_ay ER t.f_ay t.d_ay
 B_seen:gg "seen" "seen" "seen" xkj zR t.f_seen t.d_seen
 a1:gg "check_texts" "check_texts" "check_texts" s_a1 zR t.f_a1 t.d_a1
 a2:gg "signs_in" "signs_in" "signs_in" s_a2 zR t.f_a2 t.d_a2
 bc:gg "seat_at" "seat_at" "seat_at" s_bc zvU t.f_bc t.d_bc
 B_as:gg "picture_seen" "picture_seen" "picture_seen" s_as znA t.f_as t.d_as
 an:gg "check_drawing" "check_drawing" "check_drawing" s_an znz t.f_an t.d_an
 r:gg "_law_cell" "_law_cell" "_law_cell" s_r Xh t.f_r t.d_r
 bd:gg "_law_mix" "_law_mix" "_law_mix" s_bd zlu t.f_bd t.d_bd
 a9:gg "_law_whole" "_law_whole" "_law_whole" s_a9 zbE t.f_a9 t.d_a9
 a7:gg "_law_names" "_law_names" "_law_names" s_a7 zlb t.f_a7 t.d_a7
 au:gg "_law_places" "_law_places" "_law_places" s_au zkp t.f_au t.d_au
 bg:gg "_law_size" "_law_size" "_law_size" s_bg zaq t.f_bg t.d_bg
 B_x:gg "_law_picture" "_law_picture" "_law_picture" s_x Eg t.f_x t.d_x
 ba:gg "_law_due" "_law_due" "_law_due" s_ba zkk t.f_ba t.d_ba
 al:gg "_law_signs" "_law_signs" "_law_signs" s_al zkq t.f_al t.d_al
 a8:gg "_law_read" "_law_read" "_law_read" s_a8 zkc t.f_a8 t.d_a8
 g_law:vF "law" t.f_law
 F_law:Fun K "law" "law" xe0 t.f_law t.d_law
 c_o:Cls K t.C_o
 k_o:Mk K t.C_o t.f_a4
 c_e:Cls K t.C_e
 k_e:Mk K t.C_e t.f_a4
 c_n:Cls K t.C_n
 k_n:Mk K t.C_n t.f_aq
 c_d:Cls K t.C_d
 k_d:Mk K t.C_d t.f_a0
 c_a:Cls K t.C_a
 k_a:Mk K t.C_a t.f_ar
 m_b:Meth K t.C_a "put" t.f_b
 c_g:Cls K t.C_g
 k_g:Mk K t.C_g t.f_av
 cg:zkz
 ct:zki
 n_bp:sE t.C_e "width"
 n_bh:zhZ "placed"
 n_be:zhZ "height"
 n_a6:zhZ "width"
 n_bl:zhZ "opened"
 n_bi:sE t.C_n "holder_of"
 n_bk:sE t.C_n "seat_of"
 n_bq:Tw "lengths"
 n_bt:Tw "own"
 n_bu:Tw "rent"
 n_bo:Tw "seating"
 n_br:Tw "picture"
 n_bm:sE t.C_g "last_column"
 n_bj:sE t.C_g "inner"
 n_bn:sE t.C_g "outer"
 n_bw:sE t.C_o "width"
 n_abs:qL "abs"
 n_bool:qL "bool"
 n_dict:qL "dict"
 n_enumerate:qL "enumerate"
 n_int:qL "int"
 n_isinstance:qL "isinstance"
 n_len:qL "len"
 n_list:qL "list"
 n_min:qL "min"
 n_range:qL "range"
 n_set:qL "set"
 n_sorted:qL "sorted"
 n_str:qL "str"
 n_sum:qL "sum"
 v_bx:zmV "MOST_ROWS" 16
 v_bs:zmV "MOST_COLUMNS" 30
 v_bv:zmV "MOST_POINTS" 12
 g_p:vF "MIRRORED_SIDES" t.D_p
 D_p:xrs w K t.D_p [(.inr "left",.str "right"),(.inr "right",.str "left"),(.inr "both",zdl)]
@[elab_as_elim] theorem x2d {α:Type}{P:S5}:(us:fc)->us.length=1->(∀ a0,P [a0])->P us
 | [a0],_,h=>h a0
@[elab_as_elim] theorem x2o {α:Type}{P:S5}:X2 2 (∀ a0 a1,P zhQ)
 | zhQ,_,h=>h a0 a1
@[elab_as_elim] theorem x2k {α:Type}{P:S5}:X2 3 (∀ a0 a1 a2,P zdW)
 | zdW,_,h=>h a0 a1 a2
@[elab_as_elim] theorem xwr {α:Type}{P:S5}:X2 4 (∀ a0 a1 a2 a3,P zcg)
 | zcg,_,h=>h a0 a1 a2 a3
@[elab_as_elim] theorem x16 {α:Type}{P:S5}:X2 7 (∀ a0 a1 a2 a3 a4 a5 a6,P zKP)
 | zKP,_,h=>h a0 a1 a2 a3 a4 a5 a6
noncomputable def gI (K:Zf) (n:Str) (a:Addr):Prop:=(du,Wp K mainGlobals n,hU)
noncomputable def gN (K:Zf) (n:Str):Prop:=(du,Wp K mainGlobals n,none)
noncomputable def fN (K:Zf) (C:Addr) (n:Str):Prop:=sE C n
noncomputable def fI (K:Zf) (C:Addr) (n:Str) (a:Addr):Prop:=IH C n hU
noncomputable def fB (K:Zf) (C:Addr) (n:Str) (b:String):Prop:=IH C n (zi b)
def bi_1 {K:Zf}{x q:Str}{st:Stmt}{f:Addr}{fd:FuncData}{p0:Str} (F:Bu) (h:zjW (Jg x q kU kq jA .none kV doc pm an cdv ct):=by ext sM):SF [p0]:=(Xd,x2d us j (h a b c d e f))
def bi_2 {K:Zf}{x q:Str}{st:Stmt}{f:Addr}{fd:FuncData}{p0 p1:Str} (F:Bu) (h:zjY (Jg x q kU kq jA .none kV doc pm an cdv ct):=by ext sM):SF zhM:=(Xd,x2o us j (h a b c d e f))
def bi_3 {K:Zf}{x q:Str}{st:Stmt}{f:Addr}{fd:FuncData}{p0 p1 p2:Str} (F:Bu) (h:zjV (Jg x q kU kq jA .none kV doc pm an cdv ct):=by ext sM):SF zdU:=(Xd,x2k us j (h a b c d e f))
def bi_4 {K:Zf}{x q:Str}{st:Stmt}{f:Addr}{fd:FuncData}{p0 p1 p2 p3:Str} (F:Bu) (h:zjU (Jg x q kU kq jA .none kV doc pm an cdv ct):=by ext sM):SF zce:=(Xd,xwr us j (h a b c d e f))
structure GH (K:Zf) (g x q:Str) (st:Stmt) (f:Addr) (fd:FuncData):Prop where
 a:gI K g f
 F:Bu
structure MH (K:Zf) (C:Addr) (m x q:Str) (st:Stmt) (f:Addr) (fd:FuncData):Prop where
 a:fI K C m f
 F:Bu
 i:NZ
def gb_1 {K:Zf}{h:Heap}{mg:iO}{g x q:Str}{st:Stmt}{f:Addr}{fd:FuncData}{p0:Str} (X:Ma) (G:DW) (H:zaj) (hb:zjW (Jg x q kU kq jA .none kV doc pm an cdv ct):=by ext sM):zbv [p0]:=(zbH,bi_1 H.F hb)
def mb_1 {K:Zf}{C:Addr}{m x q:Str}{st:Stmt}{f:Addr}{fd:FuncData}{p0:Str} (H:XQ) (hb:zjW (Jg x q kU kq jA .none kV doc pm an cdv ct):=by ext sM):zaF [p0]:=(eY,H.F,bi_1 H.F hb,H.a,H.i,H.F.kp)
def gb_2 {K:Zf}{h:Heap}{mg:iO}{g x q:Str}{st:Stmt}{f:Addr}{fd:FuncData}{p0 p1:Str} (X:Ma) (G:DW) (H:zaj) (hb:zjY (Jg x q kU kq jA .none kV doc pm an cdv ct):=by ext sM):zbv zhM:=(zbH,bi_2 H.F hb)
def mb_2 {K:Zf}{C:Addr}{m x q:Str}{st:Stmt}{f:Addr}{fd:FuncData}{p0 p1:Str} (H:XQ) (hb:zjY (Jg x q kU kq jA .none kV doc pm an cdv ct):=by ext sM):zaF zhM:=(eY,H.F,bi_2 H.F hb,H.a,H.i,H.F.kp)
def gb_3 {K:Zf}{h:Heap}{mg:iO}{g x q:Str}{st:Stmt}{f:Addr}{fd:FuncData}{p0 p1 p2:Str} (X:Ma) (G:DW) (H:zaj) (hb:zjV (Jg x q kU kq jA .none kV doc pm an cdv ct):=by ext sM):zbv zdU:=(zbH,bi_3 H.F hb)
def mb_3 {K:Zf}{C:Addr}{m x q:Str}{st:Stmt}{f:Addr}{fd:FuncData}{p0 p1 p2:Str} (H:XQ) (hb:zjV (Jg x q kU kq jA .none kV doc pm an cdv ct):=by ext sM):zaF zdU:=(eY,H.F,bi_3 H.F hb,H.a,H.i,H.F.kp)
def gb_4 {K:Zf}{h:Heap}{mg:iO}{g x q:Str}{st:Stmt}{f:Addr}{fd:FuncData}{p0 p1 p2 p3:Str} (X:Ma) (G:DW) (H:zaj) (hb:zjU (Jg x q kU kq jA .none kV doc pm an cdv ct):=by ext sM):zbv zce:=(zbH,bi_4 H.F hb)
def mb_4 {K:Zf}{C:Addr}{m x q:Str}{st:Stmt}{f:Addr}{fd:FuncData}{p0 p1 p2 p3:Str} (H:XQ) (hb:zjU (Jg x q kU kq jA .none kV doc pm an cdv ct):=by ext sM):zaF zce:=(eY,H.F,bi_4 H.F hb,H.a,H.i,H.F.kp)
def txt_mk {w:World}{K:Zf}{h:Heap}{mg:iO} (X:Ma) (G:DW) {C_bz C_o C_e C_n C_d C_a C_g f_a4 f_ao f_at f_ab f_ae f_ap f_w f_ac f_ax f_meeting f_total f_upright f_az f_exchangeable f_am f_exchanged f_uncrossed f_aq f_s f_h f_crowds f_fits f_bb f_kept f_a0 f_aj f_af f_y f_m f_least f_answer f_ak f_aw f_ar f_b T_b f_t f_c f_f f_k f_ai f_u f_q f_i f_v f_l f_j f_ad f_drawn f_bf f_ag f_a3 f_a5 f_av f_z f_aa f_ah f_ay f_seen f_a1 f_a2 f_bc f_as f_an f_r f_bd f_a9 f_a7 f_au f_bg f_x f_ba f_al f_a8 f_law:Addr}{d_a4 d_ao d_at d_ab d_ae d_ap d_w d_ac d_ax d_meeting d_total d_upright d_az d_exchangeable d_am d_exchanged d_uncrossed d_aq d_s d_h d_crowds d_fits d_bb d_kept d_a0 d_aj d_af d_y d_m d_least d_answer d_ak d_aw d_ar d_t d_c d_f d_k d_ai d_u d_q d_i d_v d_l d_j d_ad d_drawn d_bf d_ag d_a3 d_a5 d_av d_z d_aa d_ah d_ay d_seen d_a1 d_a2 d_bc d_as d_an d_r d_bd d_a9 d_a7 d_au d_bg d_x d_ba d_al d_a8 d_law:FuncData}{oc_b kv_b dc_b pm_b cd_b ct_b:Value}{od_b an_b:mF}{sl_b:Bm}{tk0_b:Tok}{tk1_b:Tok}{toc_b:Value}{tod_b:mF}{tn_b:Nat}{tsl_b:Bm}{tkc_bx:Tok}{tkc_bs:Tok}{tkc_bv:Tok}{D_p:Addr}{ta0_p tb0_p:Tok}{ta1_p tb1_p:Tok}{ta2_p tb2_p:Tok}{ep_p:Nat}
 (g_bz:gI K "Side" C_bz)
 (g_o:gI K "LeftSide" C_o)
 (g_e:gI K "RightSide" C_e)
 (g_n:gI K "Seating" C_n)
 (g_d:gI K "Prices" C_d)
 (g_a:gI K "Picture" C_a)
 (g_g:gI K "Letters" C_g)
 (B_a4:MH K C_bz "__init__" "__init__" "Side.__init__" s_a4 f_a4 d_a4)
 (B_ao:MH K C_o "rim" "rim" "LeftSide.rim" s_ao f_ao d_ao)
 (B_at:MH K C_o "way" "way" "LeftSide.way" s_at f_at d_at)
 (B_ab:MH K C_o "across" "across" "LeftSide.across" s_ab f_ab d_ab)
 (B_ae:MH K C_e "rim" "rim" "RightSide.rim" s_ae f_ae d_ae)
 (B_ap:MH K C_e "way" "way" "RightSide.way" s_ap f_ap d_ap)
 (B_w:MH K C_e "across" "across" "RightSide.across" s_w f_w d_w)
 (B_ac:GH K "side_of" "side_of" "side_of" s_ac f_ac d_ac)
 (B_ax:GH K "cells_of" "cells_of" "cells_of" s_ax f_ax d_ax)
 (B_meeting:GH K "meeting" "meeting" "meeting" xf1 f_meeting d_meeting)
 (B_total:GH K "total" "total" "total" xh6 f_total d_total)
 (B_upright:GH K "upright" "upright" "upright" xgh f_upright d_upright)
 (B_az:GH K "upright_of" "upright_of" "upright_of" s_az f_az d_az)
 (B_exchangeable:GH K "exchangeable" "exchangeable" "exchangeable" xex f_exchangeable d_exchangeable)
 (B_am:GH K "may_exchange" "may_exchange" "may_exchange" s_am f_am d_am)
 (B_exchanged:GH K "exchanged" "exchanged" "exchanged" xdy f_exchanged d_exchanged)
 (B_uncrossed:GH K "uncrossed" "uncrossed" "uncrossed" xgm f_uncrossed d_uncrossed)
 (B_aq:MH K C_n "__init__" "__init__" "Seating.__init__" s_aq f_aq d_aq)
 (B_s:MH K C_n "hand_on" "hand_on" "Seating.hand_on" s_s f_s d_s)
 (B_h:MH K C_n "crowd_with" "crowd_with" "Seating.crowd_with" s_h f_h d_h)
 (B_crowds:GH K "crowds" "crowds" "crowds" xg0 f_crowds d_crowds)
 (B_fits:GH K "fits" "fits" "fits" xnm f_fits d_fits)
 (B_bb:GH K "left_out" "left_out" "left_out" s_bb f_bb d_bb)
 (B_kept:GH K "kept" "kept" "kept" xhk f_kept d_kept)
 (B_a0:MH K C_d "__init__" "__init__" "Prices.__init__" s_a0 f_a0 d_a0)
 (B_aj:MH K C_d "let_in" "let_in" "Prices.let_in" s_aj f_aj d_aj)
 (B_af:MH K C_d "ask_on" "ask_on" "Prices.ask_on" s_af f_af d_af)
 (B_y:MH K C_d "nearest" "nearest" "Prices.nearest" s_y f_y d_y)
 (B_m:MH K C_d "shift_prices" "shift_prices" "Prices.shift_prices" s_m f_m d_m)
 (B_least:GH K "least" "least" "least" xih f_least d_least)
 (B_answer:GH K "answer" "answer" "answer" xjb f_answer d_answer)
 (B_ak:GH K "is_whole" "is_whole" "is_whole" s_ak f_ak d_ak)
 (B_aw:GH K "is_name" "is_name" "is_name" s_aw f_aw d_aw)
 (B_ar:uM "__init__" "Picture.__init__" s_ar f_ar d_ar)
 (a_b:fI K C_a "put" f_b)
 (l_b:EL f_b (dY,oc_b,od_b,.func (Jg "put" "Picture.put" (xbl s_b) (xbb s_b) (xk s_b) (.ref T_b) kv_b dc_b pm_b an_b cd_b ct_b),sl_b))
 (c_b:Qx K cd_b "Picture.put"=true)
 (k_b:wC f_b)
 (i_b:QM K (.ref f_b)=true)
 (t_b:EL T_b (dY,toc_b,tod_b,.seq #[.str "both" tk0_b,.int 1 tk1_b,.none] tn_b,tsl_b))
 (B_t:uM "open_seat" "Picture.open_seat" s_t f_t d_t)
 (B_c:uM "points" "Picture.points" s_c f_c d_c)
 (B_f:uM "seats" "Picture.seats" s_f f_f d_f)
 (B_k:uM "place_of" "Picture.place_of" s_k f_k d_k)
 (B_ai:uM "may" "Picture.may" s_ai f_ai d_ai)
 (B_u:uM "length" "Picture.length" s_u f_u d_u)
 (B_q:uM "seats_for" "Picture.seats_for" s_q f_q d_q)
 (B_i:uM "check_name" "Picture.check_name" s_i f_i d_i)
 (B_v:uM "check_cell" "Picture.check_cell" s_v f_v d_v)
 (B_l:uM "check_lines" "Picture.check_lines" s_l f_l d_l)
 (B_j:uM "check_seat" "Picture.check_seat" s_j f_j d_j)
 (B_ad:GH K "picture_with" "picture_with" "picture_with" s_ad f_ad d_ad)
 (B_drawn:GH K "drawn" "drawn" "drawn" xil f_drawn d_drawn)
 (B_bf:GH K "row_text" "row_text" "row_text" s_bf f_bf d_bf)
 (B_ag:GH K "leader_signs" "leader_signs" "leader_signs" s_ag f_ag d_ag)
 (B_a3:GH K "leader_sign" "leader_sign" "leader_sign" s_a3 f_a3 d_a3)
 (B_a5:GH K "rim_signs" "rim_signs" "rim_signs" s_a5 f_a5 d_a5)
 (B_av:MH K C_g "__init__" "__init__" "Letters.__init__" s_av f_av d_av)
 (B_z:MH K C_g "is_rim" "is_rim" "Letters.is_rim" s_z f_z d_z)
 (B_aa:MH K C_g "may_stand" "may_stand" "Letters.may_stand" s_aa f_aa d_aa)
 (B_ah:MH K C_g "may_lie" "may_lie" "Letters.may_lie" s_ah f_ah d_ah)
 (B_ay:MH K C_g "read" "read" "Letters.read" s_ay f_ay d_ay)
 (B_seen:GH K "seen" "seen" "seen" xkj f_seen d_seen)
 (B_a1:GH K "check_texts" "check_texts" "check_texts" s_a1 f_a1 d_a1)
 (B_a2:GH K "signs_in" "signs_in" "signs_in" s_a2 f_a2 d_a2)
 (B_bc:GH K "seat_at" "seat_at" "seat_at" s_bc f_bc d_bc)
 (B_as:GH K "picture_seen" "picture_seen" "picture_seen" s_as f_as d_as)
 (B_an:GH K "check_drawing" "check_drawing" "check_drawing" s_an f_an d_an)
 (B_r:GH K "_law_cell" "_law_cell" "_law_cell" s_r f_r d_r)
 (B_bd:GH K "_law_mix" "_law_mix" "_law_mix" s_bd f_bd d_bd)
 (B_a9:GH K "_law_whole" "_law_whole" "_law_whole" s_a9 f_a9 d_a9)
 (B_a7:GH K "_law_names" "_law_names" "_law_names" s_a7 f_a7 d_a7)
 (B_au:GH K "_law_places" "_law_places" "_law_places" s_au f_au d_au)
 (B_bg:GH K "_law_size" "_law_size" "_law_size" s_bg f_bg d_bg)
 (B_x:GH K "_law_picture" "_law_picture" "_law_picture" s_x f_x d_x)
 (B_ba:GH K "_law_due" "_law_due" "_law_due" s_ba f_ba d_ba)
 (B_al:GH K "_law_signs" "_law_signs" "_law_signs" s_al f_al d_al)
 (B_a8:GH K "_law_read" "_law_read" "_law_read" s_a8 f_a8 d_a8)
 (a_law:gI K "law" f_law)
 (F_law:Fun K "law" "law" xe0 f_law d_law)
 (kc_o:wC C_o)
 (pg_o:EM C_o)
 (hd_o:Lh C_o)
 (po_o:Lg C_o)
 (sa_o:Hm C_o)
 (mk_o:Lf C_o)
 (a_LeftSide_init:zXR C_o)
 (kc_e:wC C_e)
 (pg_e:EM C_e)
 (hd_e:Lh C_e)
 (po_e:Lg C_e)
 (sa_e:Hm C_e)
 (mk_e:Lf C_e)
 (a_RightSide_init:zXR C_e)
 (kc_n:wC C_n)
 (pg_n:EM C_n)
 (hd_n:Lh C_n)
 (po_n:Lg C_n)
 (sa_n:Hm C_n)
 (mk_n:Lf C_n)
 (kc_d:wC C_d)
 (pg_d:EM C_d)
 (hd_d:Lh C_d)
 (po_d:Lg C_d)
 (sa_d:Hm C_d)
 (mk_d:Lf C_d)
 (kc_a:wC C_a)
 (pg_a:EM C_a)
 (hd_a:Lh C_a)
 (po_a:Lg C_a)
 (sa_a:Hm C_a)
 (mk_a:Lf C_a)
 (kc_g:wC C_g)
 (pg_g:EM C_g)
 (hd_g:Lh C_g)
 (po_g:Lg C_g)
 (sa_g:Hm C_g)
 (mk_g:Lf C_g)
 (cg:zkz)
 (ct:zki)
 (n_bp:fN K C_e "width")
 (n_bh:fN K C_a "placed")
 (n_be:fN K C_a "height")
 (n_a6:fN K C_a "width")
 (n_bl:fN K C_a "opened")
 (n_bi:fN K C_n "holder_of")
 (n_bk:fN K C_n "seat_of")
 (n_bq:Vh "lengths")
 (n_bt:Vh "own")
 (n_bu:Vh "rent")
 (n_bo:Vh "seating")
 (n_br:Vh "picture")
 (n_bm:fN K C_g "last_column")
 (n_bj:fN K C_g "inner")
 (n_bn:fN K C_g "outer")
 (n_bw:fN K C_o "width")
 (n_abs:gN K "abs")
 (n_bool:gN K "bool")
 (n_dict:gN K "dict")
 (n_enumerate:gN K "enumerate")
 (n_int:gN K "int")
 (n_isinstance:gN K "isinstance")
 (n_len:gN K "len")
 (n_list:gN K "list")
 (n_min:gN K "min")
 (n_range:gN K "range")
 (n_set:gN K "set")
 (n_sorted:gN K "sorted")
 (n_str:gN K "str")
 (n_sum:gN K "sum")
 (v_bx:zmn "MOST_ROWS" 16 tkc_bx)
 (v_bs:zmn "MOST_COLUMNS" 30 tkc_bs)
 (v_bv:zmn "MOST_POINTS" 12 tkc_bv)
 (g_p:gI K "MIRRORED_SIDES" D_p)
 (l_p:(zMU,D_p,.dict #[(dB,hashStr w "left",.str "left" ta0_p,.str "right" tb0_p),(dB,hashStr w "right",.str "right" ta1_p,.str "left" tb1_p),(dB,hashStr w "both",.str "both" ta2_p,.str "both" tb2_p)] ep_p))
 (ns_p:ED D_p):∃ t,dZ :=
  ⟨⟨f_a4,_,f_ao,_,f_at,_,f_ab,_,f_ae,_,f_ap,_,f_w,_,f_ac,_,f_ax,_,f_meeting,_,f_total,_,f_upright,_,f_az,_,f_exchangeable,_,f_am,_,f_exchanged,_,f_uncrossed,_,f_aq,_,f_s,_,f_h,_,f_crowds,_,f_fits,_,f_bb,_,f_kept,_,f_a0,_,f_aj,_,f_af,_,f_y,_,f_m,_,f_least,_,f_answer,_,f_ak,_,f_aw,_,f_ar,_,f_b,_,T_b,f_t,_,f_c,_,f_f,_,f_k,_,f_ai,_,f_u,_,f_q,_,f_i,_,f_v,_,f_l,_,f_j,_,f_ad,_,f_drawn,_,f_bf,_,f_ag,_,f_a3,_,f_a5,_,f_av,_,f_z,_,f_aa,_,f_ah,_,f_ay,_,f_seen,_,f_a1,_,f_a2,_,f_bc,_,f_as,_,f_an,_,f_r,_,f_bd,_,f_a9,_,f_a7,_,f_au,_,f_bg,_,f_x,_,f_ba,_,f_al,_,f_a8,_,f_law,_,C_bz,C_o,C_e,C_n,C_d,C_a,C_g,D_p⟩,⟨uV g_o,uV g_e,uV g_n,uV g_d,uV g_a,uV g_g,mb_2 B_a4,mb_1 B_ao,mb_1 B_at,mb_2 B_ab,mb_1 B_ae,mb_1 B_ap,mb_2 B_w,nT B_ac,gb_4 X G B_ax,C9 B_meeting,nT B_total,nT B_upright,nT B_az,nT B_exchangeable,C9 B_am,C9 B_exchanged,nT B_uncrossed,mb_1 B_aq,mb_3 B_s,mb_3 B_h,nT B_crowds,nT B_fits,vR B_bb,vR B_kept,mb_2 B_a0,mb_2 B_aj,mb_3 B_af,mb_3 B_y,mb_4 B_m,nT B_least,vR B_answer,C9 B_ak,vR B_aw,mb_3 B_ar,zlI,(hD,.cons iP (.cons iP (.cons (rfl) (.nil))),(zlI).binds t_b rfl 4 rfl (qao,xwr us j λ_ _ _ _=>Sl)),(zlI).binds t_b rfl 7 rfl (qao,x16 us j λ_ _ _ _ _ _ _=>Sl),mb_3 B_t,mb_1 B_c,mb_1 B_f,mb_2 B_k,mb_4 B_ai,mb_4 B_u,mb_2 B_q,mb_2 B_i,mb_3 B_v,mb_4 B_l,mb_3 B_j,gb_4 X G B_ad,nT B_drawn,C9 B_bf,nT B_ag,C9 B_a3,nT B_a5,mb_2 B_av,mb_2 B_z,mb_4 B_aa,mb_4 B_ah,mb_4 B_ay,vR B_seen,vR B_a1,vR B_a2,vR B_bc,nT B_as,nT B_an,nT B_r,nT B_bd,vR B_a9,nT B_a7,C9 B_au,vR B_bg,vR B_x,gb_4 X G B_ba,C9 B_al,gb_4 X G B_a8,uV a_law,F_law,dY pg_o hd_o po_o sa_o,dY mk_o a_LeftSide_init B_a4.i kc_o,dY pg_e hd_e po_e sa_e,dY mk_e a_RightSide_init B_a4.i kc_e,dY pg_n hd_n po_n sa_n,dY mk_n B_aq.a B_aq.i kc_n,dY pg_d hd_d po_d sa_d,dY mk_d B_a0.a B_a0.i kc_d,dY pg_a hd_a po_a sa_a,dY mk_a B_ar.a B_ar.i kc_a,dB a_b i_b k_b,dY pg_g hd_g po_g sa_g,dY mk_g B_av.a B_av.i kc_g,cg,ct,n_bp,n_bh,n_be,n_a6,n_bl,n_bi,n_bk,n_bq,n_bt,n_bu,n_bo,n_br,n_bm,n_bj,n_bn,n_bw,rA n_abs,rA n_bool,rA n_dict,rA n_enumerate,rA n_int,rA n_isinstance,rA n_len,rA n_list,rA n_min,rA n_range,rA n_set,rA n_sorted,rA n_str,rA n_sum,(iK,uV v_bx),(iK,uV v_bs),(iK,uV v_bv),uV g_p,(m6,ns_p,_,l_p,ztE (ztE (ztE (.nil))),dF)⟩⟩
def mkS {N P:dD}{sc:Scope} (a:zRq:=by rfl) (b:zOK:=by rfl) (c:zOJ:=by rfl) (d:N.Nodup:=by ext tP) (e:zNZ:=by rfl) (f:zQf:=by ext tP) (g:zGe:=by ext tP):xr N P sc:=eP a b c d e f g
def sc_a4:eF zcA zcA s_a4:=mkS
def sc_ao:FG s_ao:=mkS
def sc_at:FG s_at:=mkS
def sc_ab:eF B9 B9 s_ab:=mkS
def sc_ae:FG s_ae:=mkS
def sc_ap:FG s_ap:=mkS
def sc_w:eF B9 B9 s_w:=mkS
def sc_ac:eF zay zay s_ac:=mkS
def sc_ax:eF zjS zkS s_ax:=mkS
def xcl:eF zBr Hv xf1:=mkS
def xv8:eF jp jp xh6:=mkS
def xq6:eF jp jp xgh:=mkS
def sc_az:eF (zfs "pair" "name" "side" "row" "x" "y") ztm s_az:=mkS
def xcu:eF ["picture", "pairs", "number", "one", "other", "cell"] jp xex:=mkS
def sc_am:eF ["picture", "one", "other", "name", "side", "row", "other_name", "other_side", "other_row"] Hv s_am:=mkS
def xfy:eF ["pairs", "name", "other", "seats", "giver"] zlC xdy:=mkS
def xb2:eF ["picture", "pairs", "now", "steps", "found", "name", "other", "cell"] jp xgm:=mkS
def sc_aq:FG s_aq:=mkS
def sc_s:zfr "asked_by" "free_seat" "seat" "name" "left_behind" zlw s_s:=mkS
def sc_h:eF ["self", "name", "rooms", "crowd", "asked_by", "number", "asker", "seat"] znq s_h:=mkS
def xed:eF (zfs "names" "rooms" "seating" "found" "name" "crowd") tI xg0:=mkS
def xpl:eF ["picture", "names", "found"] tI xnm:=mkS
def sc_bb:eF tI vk s_bb:=mkS
def xqk:eF zuo vk xhk:=mkS
def sc_a0:eF OW OW s_a0:=mkS
def sc_aj:eF ["self", "name", "askers", "asked_by", "seat"] oA s_aj:=mkS
def sc_af:zEW HG s_af:=mkS
def sc_y:eF ["self", "askers", "asked_by", "found", "asker", "seat", "length", "gap"] HG s_y:=mkS
def sc_m:zEW zlf s_m:=mkS
def xg7:eF ["picture", "names", "crowd", "prices", "name", "pairs"] tI xih:=mkS
def xd6:eF ["picture", "pairs", "own", "rent", "apart", "steps"] vk xjb:=mkS
def sc_ak:eF ["thing", "low", "high"] zlS s_ak:=mkS
def sc_aw:eF RQ RQ s_aw:=mkS
def sc_ar:eF XF XF s_ar:=mkS
def sc_b:eF ["self", "name", "x", "y", "sides", "low", "high", "highest"] VB s_b:=mkS
def sc_t:eF Bt Bt s_t:=mkS
def sc_c:FG s_c:=mkS
def sc_f:FG s_f:=mkS
def sc_k:eF oA oA s_k:=mkS
def sc_ai:eF ["self", "name", "side", "row", "x", "y", "sides", "low", "high"] HF s_ai:=mkS
def sc_u:zfr "name" "side" "row" "x" "y" HF s_u:=mkS
def sc_q:eF oA oA s_q:=mkS
def sc_i:eF oA oA s_i:=mkS
def sc_v:eF zco zco s_v:=mkS
def sc_l:zfr "name" "x" "y" "others" "other" znp s_l:=mkS
def sc_j:eF Bt Bt s_j:=mkS
def sc_ad:eF ["width", "height", "points", "seats", "picture", "name", "x", "y", "sides", "low", "high", "side", "row"] zkI s_ad:=mkS
def xdn:eF (zkX "x" "y" "sides" "low" "high") jp xil:=mkS
def sc_bf:eF NL NL s_bf:=mkS
def sc_ag:eF (zkX "side" "row" "x" "y" "cell") jp s_ag:=mkS
def sc_a3:eF XU XU s_a3:=mkS
def sc_a5:eF zCN jp s_a5:=mkS
def sc_av:eF zao zao s_av:=mkS
def sc_z:eF zca zca s_z:=mkS
def sc_aa:eF ER ER s_aa:=mkS
def sc_ah:zSg "name" "places" ztg s_ah:=mkS
def sc_ay:zSg "sign" "letters" ER s_ay:=mkS
def xea:eF zAU zR xkj:=mkS
def sc_a1:eF ["rows", "row", "text"] zR s_a1:=mkS
def sc_a2:eF zFW zR s_a2:=mkS
def sc_bc:eF ["place", "row", "column"] zvU s_bc:=mkS
def sc_as:eF ["rows", "letters", "height", "points", "seats"] znA s_as:=mkS
def sc_an:eF ["rows", "drawing", "row", "column", "sign"] znz s_an:=mkS
def sc_r:eF Xh Xh s_r:=mkS
def sc_bd:eF ["_law_cell_here", "_law_k", "_law_number"] zlu s_bd:=mkS
def sc_a9:eF zbE zbE s_a9:=mkS
def sc_a7:eF zBQ zlb s_a7:=mkS
def sc_au:eF ["_law_cell_here", "_law_size_here", "_law_many", "_law_left", "_law_found", "_law_k"] zkp s_au:=mkS
def sc_bg:eF zaq zaq s_bg:=mkS
def sc_x:eF ["_law_script", "_law_width", "_law_height", "_law_most", "_law_many", "_law_names_here", "_law_xs", "_law_ys", "_law_picture_here", "_law_k", "_law_bar", "_law_row", "_law_side", "_law_place", "_law_is_open"] Eg s_x:=mkS
def sc_ba:eF zjQ zkk s_ba:=mkS
def sc_al:eF ["_law_picture_here", "_law_ways", "_law_pairs", "_law_width", "_law_signs_here", "_law_k", "_law_way", "_law_x", "_law_y", "_law_name", "_law_sides", "_law_low", "_law_high", "_law_side", "_law_row"] zkq s_al:=mkS
def sc_a8:eF zjO zkc s_a8:=mkS
def xdi:eF ["_law_script", "_law_picture_here", "_law_names_here", "_law_where", "_law_pairs", "_law_steps", "_law_seats", "_law_ways", "_law_prices", "_law_due_here", "_law_cells", "_law_way", "_law_rows"] Eg xe0:=mkS
#check S94
namespace S94
open PySem L2 XL PyProof.Rows
def xc0 {K:Zf}{v:Value}:(du,WE K v v,true):=eD dG
def xt {H H':Hp}{p:Addr}{o:HO} (s:fZ) (hp:UE p):hZ (L2.upd H' p o):=λ b u z=>by
 have a:=s b u z;ext sL a hp
def su_e {H H':Hp}{p:Addr}{o:HO} (hp:uz) (e:zQt):fZ:=e▸zzr
def ug_e {H H':Hp}{p:Addr}{o:HO} (e:zQt):nH p o:=e▸xi
def xf5 {n:Nat} (h:zhI):gY n:=ZR h dF
def xba {n:Nat} (h:zhI):yg n:=J9 h dF
def ne_f {H:Hp}{a b:Addr}{o u:HO} (h:Sc) (h':pH) (d:o≠u:=by exact rP):GI:=xem h h' d
def leS0:gY 0:=dF
def leS1:1<=sizeLine:=dF
def leS2:gY 2:=dF
def leS3:gY 3:=dF
def leS5:gY 5:=dF
def leS6:gY 6:=dF
def xwe {H:Hp}{x dx:Addr}{a b c:HO} (hx:fw x) (hd:fw dx):hZ (upd (upd (i5 dx a) x b) x c):=λ y o e=>by
 rw[zhJ,zhJ,lB hd];exact e
noncomputable def xa3 (b:Bool):Str:=wL "left" "right"
noncomputable def xfu (t:Adr) (H:Hp) (p:Addr) (b:Bool) (w:Int):Prop:=∃ dx,eO p (ro (wL t.C_o t.C_e) (zsF w))
inductive x1g (K:Zf) (vs:dz) (H:Hp) (Q:VK) (_:XK):Prop
 | mk (p C dx:Addr) (n:Int) (e_:vs=(tf mN n)) (r_:(d9,eO p zvE,SZ,xfz K C "width",Q .non (i5 p (ro C (zsF n)))))
inductive sp1 (v:V) (vs:dz) (H:Hp) (Q:VK) (_:XK):Prop
 | mk (p:V) (e_:vs=[p]) (r_:Q v H)
inductive x1s (vs:dz) (H:Hp) (Q:VK) (_:XK):Prop
 | mk (p:V) (x:V) (e_:vs=[p,x]) (r_:Q x H)
inductive xwu (t:Adr) (vs:dz) (H:Hp) (Q:VK) (_:XK):Prop
 | mk (p:Addr) (n:Int) (e_:vs=[mN]) (r_:zPp iZ)
inductive x29 (t:Adr) (vs:dz) (H:Hp) (Q:VK) (_:XK):Prop
 | mk (p:Addr) (n x:Int) (e_:vs=(tf mN x)) (r_:zPp (iZ-x))
inductive xi7 (t:Adr) (vs:dz) (H:Hp) (Q:VK) (_:XK):Prop
 | mk (b:Bool) (n:Int) (e_:vs=(tf vL n)) (r_:∀ p H',(eC,uz,xfu t H' p b n,fZ,GX p))
section
variable {P:Program}{w:World}{K:Zf}{mg:Str->Option Value}{base:Heap}{t:Adr}
def ok_a4 (T:dZ):FnOk true P w K mg base dS 1 t.f_a4 t.d_a4 zcA (x1g K):=by
 refine T.a4.F.okn (k:=0) sc_a4 (d7 H Q E h) (λ cdv A outer s H vs Q E hr h=>?_)
 .obtain ⟨p,C,e,n,rfl,_⟩:=h;rfl
 .obtain ⟨p,C,e,n,rfl,h⟩:=h;refine(nX,xm (Cj im));ext A6 m c j;exact⟨126,p,C,e,[],rfl,m,c,j,(OH 0),q⟩
def ok_ao (T:dZ):FnOk true P w K mg base dS 1 t.f_ao t.d_ao nD (sp1 (.int 0)):=by
 refine T.ao.F.okn (k:=0) sc_ao (d7 H Q E h) (λ cdv A outer s H vs Q E hr h=>?_)
 .ext DY p
 .ext zQF
def ok_at (T:dZ):FnOk true P w K mg base dS 1 t.f_at t.d_at nD (sp1 (.int (-1))):=by
 refine T.B_at.F.okn (k:=0) sc_at (d7 H Q E h) (λ cdv A outer s H vs Q E hr h=>?_)
 .ext DY p
 .ext IG p;ext Fs ztT;show(yw,1,h)
def ok_ab (T:dZ):FnOk true P w K mg base dS 1 t.f_ab t.d_ab B9 (x1s):=by
 refine T.ab.F.okn (k:=0) sc_ab (d7 H Q E h) (λ cdv A outer s H vs Q E hr h=>?_)
 .ext Bp p x
 .ext BC p x;refine(nX,tM 1);exact h
def ok_ap (T:dZ):FnOk true P w K mg base dS 1 t.f_ap t.d_ap nD (sp1 (.int 1)):=by
 refine T.ap.F.okn (k:=0) sc_ap (d7 H Q E h) (λ cdv A outer s H vs Q E hr h=>?_)
 .ext DY p
 .ext zQF
def ok_ae (T:dZ):FnOk true P w K mg base dS 1 t.f_ae t.d_ae nD (xwu t):=by
 refine T.ae.F.okn (k:=0) sc_ae (d7 H Q E h) (λ cdv A outer s H vs Q E hr h=>?_)
 .ext Bp p n
 .ext BC p n;show(zPm,qM gB);exact⟨p,t.C_e,m,_,_,rfl,zpy j q⟩
def ok_w (T:dZ):FnOk true P w K mg base dS 1 t.f_w t.d_w B9 (x29 t):=by
 refine T.B_w.F.okn (k:=0) sc_w (d7 H Q E h) (λ cdv A outer s H vs Q E hr h=>?_)
 .ext yW p n x
 .ext y8 p n x;show(zPm,yF xb8 (qM gB) 1);exact(eP,p,t.C_e,m,_,_,rfl,zpy j q)
theorem ok_ac (T:dZ):FnOk true P w K mg base dS 3 t.f_ac t.d_ac zay (xi7 t):=by
 refine T.ac.F.okn (k:=2) sc_ac (d7 H Q E h) (λ cdv A outer s H vs Q E hr h=>?_)
 .ext Bp b n
 .ext BC b n;refine⟨_,xj (xau (xbs zIs) (xj (zCu T.k_o T.g_o)
   (xm (zCu T.k_e T.g_e))) (xad))
   Mo,?_⟩
  refine sq2 ?_; intros; ext IK; cases b with
  | true =>
   refine Lr nK FS;refine sq2 ?_; intros; ext IK; ext XJ;exact (λ x q m j u=>(gm,x,t.C_o,q,n,rfl,gT xi T.c_o T.n_bw rfl zJd))
  | false =>
   show(jb,Lr nK FS,uX rfl ?_);refine ifN fR ?_;ext XJ;exact (λ x q m j u=>(gm,x,t.C_e,q,n,rfl,zpy xi zJd))
noncomputable def isNm (x:Str):Bool:=zHA x.length x.cps.toList
inductive x1x (vs:dz) (H:Hp) (Q:VK) (_:XK):Prop
 | mk (i lo hi:Int) (e_:E2 iC lo hi) (r_:lo<=i/\i<=hi/\zvC)
inductive x2r (vs:dz) (H:Hp) (Q:VK) (_:XK):Prop
 | mk (x:Str) (e_:zza) (r_:(qC x)/\zvC)
def xq9:zgz (iH "a") [97]:=fR
def xwk:zgz (iH "z") [122]:=fR
def ok_ak (T:dZ):FnOk true P w K mg base dS 1 t.f_ak t.d_ak zlS (x1x):=by
 refine T.ak.F.okn (k:=0) sc_ak (d7 H Q E h) (λ cdv A outer s H vs Q E hr h=>?_)
 .ext yW i m j
 .ext y8 i m j;show(zhX,xcp zHY (xcp (xti zGN) (xc4 (xg3 xga xga im fA kC))));ext uF u p;refine(uX,_,zlg iC FS);show(jb,(uX,_,.inl ⟨104,_,_,false,iC,rfl,C4,mQ false rfl true FS⟩),zy)
  .refine ?_;show(Dm,Q (R0 (i<=j)) H,decide_eq_true p,q)
  .ext NX u c
def ok_aw (T:dZ):FnOk true P w K mg base dS 1 t.f_aw t.d_aw RQ (x2r):=by
 show(zIj,λ cdv A outer s H vs Q E hr h=>?_)
 .ext DY x
 .ext IG x;ext Fs zBO;ext uY j;unfold isNm at j;ext zPW decide_eq_true_eq YX j;ext jE m u p j;show(zIb,BR m)
  .refine (ku,rfl,Kx d)
   .refine ku rfl ?_;ext fG xwk zRu q
   .rw [xq9,decide_eq_false u] at d;ext mP d
  .show(NX,ib m,c)
structure Pt where
 nm:Str
 x:Int
 y:Int
 sd:Str
 lo:Int
 hi:Int
noncomputable def ptV (p:Pt):dz:=[zxU,zxT,.str p.sd,.int p.lo,.int p.hi]
inductive Pl (H:Hp):gQ dL eG
 | nil:Pl H [] []
 | cons {p:Pt}{q:Addr}{ps:dL}{kvs:eG} (h:zbf p) (r:BO):Pl H MP ((j3 zvR q)::kvs)
inductive PtsL (H:Hp):GS dL
 | nil:PtsL H [] []
 | cons {p:Pt}{q:Addr}{ps:dL}{qs:dJ} (h:zhh) (r:IZ):PtsL H MP vW
def xwv {Z:L2.St}{H:Hp}{A B:LI} (h:A H):xda Z H (λ b H4=>(wn,A H4,B H4)):=by
 show(Dm,(jo,true,A H,B H),gq,h)
def xmn {i:Nat}{v:V}{Z:L2.St}{H:Hp}{A B:uJ L2.St} (h:A vg H):xcy i v Z H (LR,xda σ' H' λ b H4=>(wn,A σ' H4,B σ' H4)):=by
 show(Dm,(jo,true,A vg H,B vg H),gq,h)
noncomputable def Tups (H H':Hp):Prop:=NC
theorem Pl.keep {H H':Hp} (s:nu) {ps:dL}{kvs:eG} (h:BO):Pl H' ps kvs:=by
 induction h with
 | nil=>ext pU
 | cons h _ ih=>ext Kk
theorem PtsL.keep {H H':Hp} (s:nu) {ps:dL}{qs:dJ} (h:IZ):zXZ:=by
 induction h with
 | nil=>ext pU
 | cons h _ ih=>ext Kk
theorem Pl.len {H:Hp}{ps:dL}{kvs:eG} (h:BO):zNv:=by
 induction h with
 | nil=>rfl
 | cons _ _ ih=>ext wj
theorem PtsL.len {H:Hp}{ps:dL}{qs:dJ} (h:IZ):zWT:=by
 induction h with
 | nil=>rfl
 | cons _ _ ih=>ext wj
theorem Pl.find {H:Hp}{ps:dL}{kvs:eG} (h:BO) {nm:Str}{pt:Pt} (e:Rm):∃ q,FU=C0/\(zbf pt):=by
 induction h with
 | nil=>ext sT
 | @cons p q ps kvs h _ ih =>
  by_cases c:zAk
  .show(rF,YN tD);cases e;show(eB,q,xbg (jn c),h)
  .show(rF,Wx tD);show(dA,a,s,b,ih e);show(eB,a,(dH,xa8 (λ z=>c (Jd.inj z)),s),b)
theorem Pl.no {H:Hp}{ps:dL}{kvs:eG} (h:BO) {nm:Str} (e:∀ p∈ps,RL):FU=none:=by
 induction h with
 | nil=>rfl
 | @cons p q ps kvs h _ ih =>
  rw[xa8 (λ z=>e p Zo (Jd.inj z))];exact ih (uS,e a T7)
theorem Pl.get {H:Hp}{ps:dL}{kvs:eG} (h:BO) {i:Nat}{k:Key}{x:V} (e:oB):∃ p q,(d9,dX ps p,k=.inr p.nm,jQ x q,zbf p):=by
 induction h generalizing i with
 | nil=>ext sT
 | @cons p q ps kvs h _ ih =>
  cases i with
  | zero =>
   ext zEM p
  | succ j=>ext Aq
theorem PtsL.get {H:Hp}{ps:dL}{qs:dJ} (h:IZ) {i:Nat}{q:Addr} (e:BY):zcj zhh:=by
 induction h generalizing i with
 | nil=>ext sT
 | @cons p q' ps qs h _ ih =>
  cases i with
  | zero =>
   ext R6 p
  | succ j=>ext Aq
theorem Pl.snoc {H:Hp}{ps:dL}{kvs:eG} (h:BO) {p:Pt}{q:Addr} (e:zbf p):Pl H zyH (kvs++[j3 zvR q]):=by
 induction h with
 | nil=>ext zcJ
 | cons h _ ih=>ext Kw
theorem PtsL.snoc {H:Hp}{ps:dL}{qs:dJ} (h:IZ) {p:Pt}{q:Addr} (e:zhh):PtsL H zyH (qs++[q]):=by
 induction h with
 | nil=>ext zcJ
 | cons h _ ih=>ext Kw
noncomputable abbrev picF (w h:Int) (dp do_:Addr):oE:=[("width",.int w),("height",.int h),j3 "placed" dp,j3 "opened" do_]
structure Pic (t:Adr) (H:Hp) (a dp do_:Addr) (w h:Int) (ps:dL):Prop where
 ins:∃ dx,eO a (ro t.C_a Ii)
 pl:∃ kvs,(Bs dp)/\BO
 w1:pX
 w2:mR
 h1:1<=h
 h2:sO
 len:zZl
def Same.tups {H H':Hp} (s:fZ):nu:=zZK
def Pic.same {t:Adr}{H H':Hp}{a dp do_:Addr}{w h:Int}{ps:dL} (s:fZ) (p:zYJ):zqf :=
 zCx e zgT kvs (dB,kvs,xQ,q.keep (Same.tups s))
def xam {w h:Int}{dp do_:Addr}{m:Str} (e:((["width", "height", "placed", "opened"]:dD).all λ k=>zeG)=true):(Ii).lookup m=none:=by
 ext V0;obtain⟨q,j,c,b,_⟩:45:=e;unfold picF;ext zbN q zlE;ext zbN j zyw;show(zsx,[XX])
def lkW {w h:Int}{dp do_:Addr}:(Ii).lookup (iH "width")=some (.int w):=by
 unfold picF;show(zbx,"width","width")
def lkH {w h:Int}{dp do_:Addr}:(Ii).lookup (iH "height")=some (.int h):=by
 unfold picF;show(HD,"height","width",zlE)
def lkP {w h:Int}{dp do_:Addr}:(Ii).lookup (iH "placed")=(dR dp):=by
 show(zGc,"placed");show(HD,"placed","height",zyw)
inductive xzb (t:Adr) (vs:dz) (H:Hp) (Q:VK) (_:XK):Prop
 | mk (p dx:Addr) (w h:Int) (e_:E2 mN w h) (r_:(eO p zqT)/\(dN,pX,mR,1<=h,sO,∀ H' dp do_,zhs->(ft,fw do_,D0 p,Pic t H' p dp do_ w h [],H' do_=some (.dT []),se)))
inductive spCN (t:Adr) (vs:dz) (H:Hp) (Q:VK) (_:XK):Prop
 | mk (a dp do_:Addr) (pw ph:Int) (ps:dL) (nm:Str) (pt:Pt) (e_:vs=[eQ,FT]) (r_:(d9,kK,S4,Rm,Q .non H))
inductive spCC (t:Adr) (vs:dz) (H:Hp) (Q:VK) (_:XK):Prop
 | mk (a dp do_:Addr) (pw ph:Int) (ps:dL) (x y:Int) (e_:E2 eQ x y) (r_:kK/\(dN,we,x<=pw,1<=y,y<=ph,Q .non H))
inductive x14 (t:Adr) (vs:dz) (H:Hp) (Q:VK) (_:XK):Prop
 | mk (a dp do_:Addr) (pw ph:Int) (ps:dL) (e_:GJ) (r_:kK/\(qan zXZ zhj))
inductive spCL (t:Adr) (vs:dz) (H:Hp) (Q:VK) (_:XK):Prop
 | mk (a dp do_:Addr) (pw ph:Int) (ps:dL) (nm:Str) (x y:Int) (e_:vs=[eQ,FT,.int x,.int y]) (r_:kK/\(∀ p∈ps,RL->p.x≠x/\p.y≠y)/\zhd)
inductive spCS (t:Adr) (vs:dz) (H:Hp) (Q:VK) (_:XK):Prop
 | mk (a dp do_:Addr) (pw ph:Int) (ps:dL) (b:Bool) (r:Int) (e_:zQv) (r_:d9 kK Ha UU zhd)
inductive x1l (t:Adr) (vs:dz) (H:Hp) (Q:VK) (_:XK):Prop
 | mk (a dp do_:Addr) (pw ph:Int) (ps:dL) (nm:Str) (x y:Int) (sd:Str) (lo hi:Int) (hv:V) (e_:vs=[eQ,FT,.int x,.int y,.str sd,.int lo,hv]) (r_:kK/\(dN,(hv=.non/\hi=ph)\/hv=.int hi,S4,we,x<=pw,(oU,1<=y,y<=ph,zTQ sd,1<=lo,lo<=hi,hi<=ph,(∀ p∈ps,RL/\p.x≠x/\p.y≠y),ps.length<12,F9 (D0 dp) (wP H' pw ph (ps++[gm nm x y sd lo hi])) se)))
inductive x2n (t:Adr) (vs:dz) (H:Hp) (Q:VK) (_:XK):Prop
 | mk (a dp do_:Addr) (pw ph:Int) (ps:dL) (nm:Str) (pt:Pt) (e_:vs=[eQ,FT]) (r_:(d9,kK,S4,Rm,∀ H' q,fZ->(Ej q (jJ pt.x pt.y))->(GX q)))
noncomputable def lenI (w x y:Int) (b:Bool) (r:Int):Int:=(wL x Dw)+(oG,y-r,0,-(y-r),y-r)
inductive x2f (t:Adr) (vs:dz) (H:Hp) (Q:VK) (_:XK):Prop
 | mk (a dp do_:Addr) (pw ph:Int) (ps:dL) (nm:Str) (pt:Pt) (b:Bool) (r:Int) (e_:zMZ) (r_:kK/\(dN S4 Rm Ha UU (ON (lenI pw pt.x pt.y b r))))
def ok_ar (T:dZ):FnOk true P w K mg base dS 2 t.f_ar t.d_ar XF (xzb t):=by
 refine T.ar.F.okn (k:=1) sc_ar (d7 H Q E h) (λ cdv A outer s H vs Q E hr h=>?_)
 .obtain ⟨p,C,S,U,rfl,_⟩:=h;rfl
 .obtain ⟨p,C,S,U,rfl,h⟩:=h;refine⟨_,xj (EK (Gz (Nx 1 (uI (Ox 30 T.v_bs.choose_spec))) (Nx 2 (uI (Ox 16 T.v_bx.choose_spec)))) Mo)
   (xj zyY
   (xj (Cj kC)
   (xj Le
   (xm (Cj (xfv)))))),?_⟩
  refine sq5 ?_; intros; ext uR hp R O Z Y;refine(IL,S,30,R,O,iteF (IL U 16 Z Y CH));show(jb,vb p C hp T.c_a T.n_a6 0,vb p C xi T.c_a T.n_be 1);rw[xd9];ext DD M y;show(fU,I,p≠M,xb xi y,⟨126,p,_,C,_,rfl,(gS I xi),T.c_a,T.n_bh,(OH 2),dC m j⟩);show(dw,L,p≠m,xb xi j,X,M≠m,xb (GU ziF) j);refine vb p C (gS L xi) T.c_a T.n_bl 3;rw[ziF] at y;have J:fw m:=by
   have z:=j;rw[ziE,rh X,ziE] at z;ext i4
  refine q _ M m y J (lP D ?_) (eP ⟨C,xi⟩ zpz R O Z Y lW) ?_
  .have c1:b≠M:=xb e y;have c2:b≠m:=λ z=>by
    subst z;rw[xg D,xg c1,xg D] at j;ext rJ j
   rw[xg D,xg c2,xg D,xg c1,xg D];exact e
  .rw [ziF,xg X,ziF];exact xi
  .ext Lo L
def ok_i (T:dZ):FnOk true P w K mg base dS 2 t.f_i t.d_i oA (spCN t):=by
 refine T.i.F.okn (k:=1) sc_i (d7 H Q E h) (λ cdv A outer s H vs Q E hr h=>?_)
 .obtain ⟨a,u,m,v,x,ps,nm,pt,rfl,_⟩:=h;rfl
 .obtain ⟨a,u,m,v,x,ps,nm,pt,rfl,h⟩:=h;refine(nX,xm (zad zDG (xc5 (xds (xdm jx im gB)))));ext A6 j z D;ext HP I y kvs C pl j;show(iu,q0,e,pl.find D);exact(gm,nm,rfl,z,true,rfl,iteF (IM I y T.n_bh lkP ⟨u,dR q0,rfl,(gF,e,My nm C),false,rfl,iteF q⟩))
def ok_v (T:dZ):FnOk true P w K mg base dS 2 t.f_v t.d_v zco (spCC t):=by
 refine T.v.F.okn (k:=1) sc_v (d7 H Q E h) (λ cdv A outer s H vs Q E hr h=>?_)
 .obtain ⟨a,D,m,r,u,ps,x,y,rfl,_⟩:=h;rfl
 .obtain ⟨a,D,m,r,u,ps,x,y,rfl,h⟩:=h;refine(nX,xm (zUH 1 zWG));ext uR j x1 x2 y1 y2;ext Br C z j;exact zep C z (IL,x,r,x1,x2,iteF (IM C z T.n_be lkH (IL,y,u,y1,y2,iteF q)))
def ok_c (T:dZ):FnOk true P w K mg base dS 1 t.f_c t.d_c nD (x14 t):=by
 refine T.c.F.okn (k:=0) sc_c (d7 H Q E h) (λ cdv A outer s H vs Q E hr h=>?_)
 .ext zyq a M ab pw ph ps
 .obtain ⟨a,M,ab,pw,ph,ps,rfl,h⟩:=h;refine(nX,xm (xw (xx0 (mh,(qb ["name", "rest"] [] [] nD s_c),xi1 gB,DM,Gb,i7,Xt im))));ext uY O;ext zwK dx O;show(mf,dx,hp,T.n_bh,lkP,gK M kvs hk zTD);have Z:l≠M:=λ z=>by
   ext nS z xi hl hl
  have U:mM:=zwS Z hl
  show(znP,kvs.length,j,∃ qs:dJ,xs=qs.map V.ref/\(dN,qbM,(du,j M,HZ),(kL M pH (du,j b,u)),j l=some (.lst xs),PtsL j RO qs))
  .refine (xR,[],eV,?_,KD,xi,by simpa using PtsL.nil)
   .ext Lo Z
   .rw [lB U,U5];exact e
  .rintro i xs j lt (⟨qs,_,_,J,_⟩:64);ext dO J lt
  .rintro i xs j v H3 lt (⟨qs,rfl,ql,J,Y,C,D⟩:66) ⟨p,k,x,hx,rfl,I,rfl⟩ N hN;show(qG,pt,q0,aa,rfl,rfl,S,pl.get hx);have e0:(du,j q0,.tup (ptV pt)):=Y _ _ (ne_f S hk) S;ext zjn;refine xwv ?_;have n0:q0≠p:=xb e0 I;show(gR,AG leS1,λ R h1=>(gm,R,q0,_,ptV pt,rfl,(kE,rfl,zzE,fX ?_,dG,(OG,1+5),rP,zXN)))
   .rw [jY (gS n0 e0) h1,xg n0];exact e0
   have up:AO (du,j b,u) (du,(upd (jI zve R Kc) p2 (.tup (Kc++ptV pt))) b,u):=λb u e=>by
    show(dw,c1,b≠p,xb e I,X,yo j p (.tup zrd),gS c1 e)
    show(dw,c2,b≠R,xb X h1,L,yo zve R (.tup Kc),gS c2 X)
    ext sL L h2
   have c3:l≠p2:=xb (show Mw zve R Kc l m7 from by
    show(dw,c1,l≠p,xb C I,X,Mw j p zrd l m7,gS c1 C)
    ext sL X h1) h2
   have tk:ps.take dW=RO++[pt]:=by
    rw[ZC,aa];rfl
   have ll:yg qs.length:=ZN (by show(vA,pl.len,O.len):qs.length<13) dF;show(gG,up _ _ C,lS ll,hN _ _ (iY,66,qs++[p2],dG,qp,?_,KD,xi,?_))
   .show(iX,rh Z,up _ _ J)
   .have L:=up _ _ (Y b u nb e);show(dP,lB U,L)
   .rw [tk];refine PtsL.snoc (PtsL.keep Tk D) ?_
    .have L:=up _ _ e;show(dP,sD L (up _ _ C),L)
    .ext Lo c3
  .rintro xs j (⟨qs,rfl,_,J,Y,C,D⟩:66);show(gR,⟨J,eV⟩,(eP,103,M,ob,_,J,nf,q _ l qs vx ?_ (PtsL.keep Tk (by rw[pl.len,Jp] at D; exact D))))
   .by_cases c:b=M
    .subst c;ext kd hk e xi
    .show(sV,c,Y b u c e)
   .ext sV Z C
   .show(iX,sD e J,e)
def ok_l (T:dZ):FnOk true P w K mg base dS 2 t.f_l t.d_l znp (spCL t):=by
 refine T.l.F.okn (k:=1) sc_l (d7 H Q E h) (λ cdv A outer s H vs Q E hr h=>?_)
 .obtain ⟨a,dp,ab,pw,ph,ps,nm,x,y,rfl,_⟩:=h;rfl
 .obtain ⟨a,dp,ab,pw,ph,ps,nm,x,y,rfl,h⟩:=h;refine⟨_,xj (xbw rfl (lF "other" ["name"] [1] ["self", "name", "x", "y", "others", "other"] s_l) ST lu kX (λ_ _ _ _ _=>xfh (xae xmp xO im oW)) (λ_ _ _ _ _=>fA) (j:=4) rfl oO)
   (xj (zHV kC)
   (xm (zHV jj))),?_⟩
  refine sq3 ?_; intros; ext uF S no;ext zwK dx S;refine⟨tO dx hp,dp,ab,pw,ph,ps,rfl,S,λ H1 l1 qs s1 L Y=>zVE⟩;show(znP,qs.length,O,∃ D:dJ,(dN,xs=D.map V.ref,D.length<=i,GZ O,O l=some (.lst xs),∀ o∈D,∃ p∈ps,RL/\H1 o=some (.tup ztz)))
  .exact (eP,65,[],rfl,eV,zAa,xi,λ o z=>nomatch z)
  .ext zFs O D I zqb
  .rintro i xs O v H3 lt (⟨D,rfl,ol,I,C,J⟩:65) ⟨rfl,U⟩ N hN;show(gZ,aa,U _ zqb,Zd,aa);ext rW o X aa;show(dA,p,ac,ep,Y.get X);show(ij,o,_,0,_,(uG,fX (I _ _ ep),rfl,rfl,zy))
   .have cn:p.nm≠nm:=λ z=>by
     rw[z] at c;simp at c
    show(gG,C,(lS,ZN (by show(vA,Y.len,S.len):D.length<13) dF),hN _ _ (zVk,D++[o]))
    .intro b u e
     by_cases cb:b=l
     .subst cb;ext rJ hl
     .show(sV,cb,I b u e)
    .intro o' ad
     rcases Zz.mp ad with z|z
     .exact J o' z
     .show(M8,Zs.mp z);show(j5,p,Zi ac,cn,ep)
   .exact hN _ _ (eP 65 D rfl dk I C J)
  .rintro xs O (⟨D,rfl,ol,I,C,J⟩:65);show(nY,hD zqb dG);ext qd; have M:∀(o:Addr),o∈D->∃ p∈ps,RL/\O o=some (.tup ztz):=λ o X=>by
    show(eZ,p,h1,h2,h3,J o X);show(j5,p,h1,h2,I _ _ h3)
   refine M9 l C zAC
   .ext zIv;ext zDn;show(zTH,1,(XB,λ z=>(no p m1 m2).1 (V.int.inj z),Sl))
   .ext zMN;ext zMy; refine M9 l C zAC
    .ext zIv;ext zDn;show(zTH,2,(XB,λ z=>(no p m1 m2).2 (V.int.inj z),Sl))
    .ext zMN;exact q _ (Vl I)
def ok_j (T:dZ):FnOk true P w K mg base dS 4 t.f_j t.d_j Bt (spCS t):=by
 refine T.j.F.okn (k:=3) sc_j (d7 H Q E h) (λ cdv A outer s H vs Q E hr h=>?_)
 .obtain ⟨a,J,u,x,y,ps,b,r,rfl,_⟩:=h;rfl
 .obtain ⟨a,J,u,x,y,ps,b,r,rfl,h⟩:=h;refine⟨_,xj (xaz (Nw 1))
   (xm (Dt zWG)),?_⟩
  refine sq2 ?_; intros; ext A6 m r1 r2;ext Br C z m;show(mf,C,z,T.n_a6,lkW,Am b x L I D v);exact⟨a,_,C,_,_,rfl,gT (v _ _ z) T.c_a T.n_be lkH (IL,r,y,r1,r2,iteF (q L v))⟩
def ok_b (T:dZ):FnOk true P w K mg base dS 3 t.f_b t.d_b VB (x1l t):=by
 refine T.F_b.okn (k:=2) sc_b (d7 H Q E h) (λ cdv A outer s H vs Q E hr h=>?_)
 .obtain ⟨a,M,U,pw,O,ps,nm,x,y,sd,Y,hi,hv,rfl,_⟩:=h;rfl
 .obtain ⟨a,M,U,pw,O,ps,nm,x,y,sd,Y,hi,hv,rfl,h⟩:=h;refine⟨_,xj (pS 7 sc_b.nd (xd5 (oJ xs3 6 (xdz)) gB (pv 6)))
   (xj (Dt (UL zDG))
   (xj (xaz (iI fA T.c_a T.v.m (ok_v T) fF T.v.b Lk))
   (xj (zad (zkN (AA 4 zDx)) (xc5 (xds (xsb lm rfl T.g_p T.D_p))))
   (xj (zUH 5 (Nx 7 (AA 5 gB)))
   (xj (qaA im)
   (xj (Dt (xae x2x zSv zIN oW))
   (xj (xaz (iI fA T.c_a T.l.m (ok_l T) fF T.l.b Rf))
   (xm (uf gB im (xab (ji 2 (ji 3 (vQ 4 5 7))))))))))))),?_⟩
  refine sq9 ?_; intros; obtain⟨I,ac,hn,x1,x2,y1,⟨y2,ab,l1,l2,l3,no,len,q⟩⟩:47:=h;ext HP L j kvs X pl I;have aa:kN (valV ([(lT,Jd "left","right"),(lT,Jd "right","left"),(lT,Jd "both","both")]:eG) (Jd sd)):=by
   rcases ab with rfl|rfl|rfl<;>decide +kernel
  rcases ac with⟨rfl,e⟩|rfl
  .show(AR,e.symm);show(Ci,ifP C4 (qbB ?_));ext zAz;ext zBJ O;ext zFj;ext zDp;refine zBp s1;ext zgy q1 J;show(dw,R,Mw H1 q1 (VU O) a zHu,zGt,Z,zGK (VU O),zQK)
   ext zBq;rw[xcq (.ref q1) zkT];have nq:q1≠M:=λ z=>by
    subst z;ext js Sq J J
   refine q _ KD (eP,jy L,zDW O ?_,I.w1,I.w2,I.h1,I.h2,dH Zn len)
   .ext zTM
   .show(iX,sD R Z,R)
   .ext zFS
   .ext sV nq xi
  .ext Lp zvD;ext zAz;ext zBJ hi;ext zFj;ext zDp;refine zBp s1;ext zgy q1 J;show(dw,R,Mw H1 q1 (VU hi) a zHu,zGt,Z,zGK (VU hi),zQK)
   ext zBq;rw[xcq (.ref q1) zkT];have nq:q1≠M:=λ z=>by
    subst z;ext js Sq J J
   refine q _ KD (eP,jy L,zDW hi ?_,I.w1,I.w2,I.h1,I.h2,dH Zn len)
   .ext zTM
   .show(iX,sD R Z,R)
   .ext zFS
   .ext sV nq xi
def ok_k (T:dZ):FnOk true P w K mg base dS 3 t.f_k t.d_k oA (x2n t):=by
 refine T.k.F.okn (k:=2) sc_k (d7 H Q E h) (λ cdv A outer s H vs Q E hr h=>?_)
 .obtain ⟨a,y,u,C,D,ps,nm,pt,rfl,_⟩:=h;rfl
 .obtain ⟨a,y,u,C,D,ps,nm,pt,rfl,h⟩:=h;refine⟨_,xj zku
   (iz (xgw x06 (KU im) xib (xim (xp)))),?_⟩
  refine sq2 ?_; intros; ext A6 j M J;ext HP L I kvs O pl j;show(dA,q0,e,v,pl.find J);refine⟨a,L,_,rfl,I,i8,a,y,u,C,D,ps,nm,pt,rfl,j,M,J,?_⟩;exact IM L I T.n_bh lkP ⟨y,LB,rfl,(gF,e,My nm O),2,rfl,q0,ptV pt,rfl,fX v,(λ z=>absurd rH (by show ¬ ((2:Nat)=5); decide)),λ p x=>q _ p (h9 x) xi⟩
theorem ok_u (T:dZ):FnOk true P w K mg base dS 5 t.f_u t.d_u HF (x2f t):=by
 refine T.u.F.okn (k:=4) sc_u (d7 H Q E h) (λ cdv A outer s H vs Q E hr h=>?_)
 .obtain ⟨a,U,y,C,M,ps,nm,pt,b,r,rfl,_⟩:=h;rfl
 .obtain ⟨a,U,y,C,M,ps,nm,pt,b,r,rfl,h⟩:=h;refine⟨_,xj (zgm (VP nN) sc_u.nd)
   (xj (zkL Lk)
   (iz (xu xa2 (xfw (iI (Nw 2) T.c_o T.ab.m (ok_ab T) fF T.ab.b L9) (zFz 2 L9)) (zlq yA 3)))),?_⟩
  refine sq3 ?_; intros; ext uR x Z hf r1 r2;ext Br J I x;show(jb,⟨a,J,_,rfl,I,i8,a,U,y,C,M,ps,nm,pt,rfl,x,Z,hf,λ H1 Y z O=>EC Y O⟩,⟨a,J,_,rfl,z _ _ I,i8,a,U,y,C,M,ps,b,r,rfl,Pic.same z x,r1,r2,dC H2 D⟩);cases b with
  | true =>
   show(Dn,(zTJ,Am true C X R v L));ext FD S v;exact⟨p,S,_,rfl,hs,V4,_,_,rfl,_,rfl,q X ((z.trans D).trans L)⟩
  | false =>
   show(qZ,(zTJ,Am false C X R v L));show(FD,S,id v);exact⟨p,S,_,rfl,hs,V4,p,C,_,rfl,v,_,rfl,q X ((z.trans D).trans L)⟩
inductive xal (H:Hp):GS mz
 | nil:xal H [] []
 | cons {c:j6}{q:Addr}{cs:mz}{qs:dJ} (h:Rh) (r:EU):xal H (c::cs) vW
theorem xal.keep {H H':Hp} (s:nu) {cs:mz}{qs:dJ} (h:EU):xal H' cs qs:=by
 induction h with
 | nil=>ext pU
 | cons h _ ih=>ext Kk
theorem xal.len {H:Hp}{cs:mz}{qs:dJ} (h:EU):zqj:=by
 induction h with
 | nil=>rfl
 | cons _ _ ih=>ext wj
theorem xal.get {H:Hp}{cs:mz}{qs:dJ} (h:EU) {i:Nat}{q:Addr} (e:BY):zyu cs Rh:=by
 induction h generalizing i with
 | nil=>ext sT
 | @cons c q' cs qs h _ ih =>
  cases i with
  | zero =>
   ext R6 c
  | succ j=>ext Aq
theorem xal.append {H:Hp}{cs ds:mz}{qs rs:dJ} (h:EU) (h':xal H ds rs):xal H (cs++ds) (qs++rs):=by
 induction h with
 | nil=>exact h'
 | cons h _ ih=>ext Kw
def xal.snoc {H:Hp}{cs:mz}{qs:dJ} (h:EU) {c:j6}{q:Addr} (e:Rh):xal H (cs++[c]) (qs++[q]):=h.append (.cons e .nil)
def xcv {Z:L2.St}{fr:fT}{te:TE}{l:Addr}{H1:Hp}{Q:VK}{lo d:Int}{n:Nat} (f:Nat->j6) (hl:nJ) (hn:TW)
    (hte:(zBI,te ((zdj).set 0 (hO zvd)) H2 R))
    (fin:(zGq,xal H2 ((AZ).map f) qs,FL)):xcj zsJ 1 (xcy 0) Z fr xda te l H1 Q:=by
  show(zBo,xal H2 ((Nj).map f) qs)
  . ext zKR
  . ext zQE
  . rintro i xs H2 v C lt (⟨qs,rfl,z,q,j,y⟩:65) ⟨rfl,rfl⟩ N B
    ext zBL
    . ext sL j x
    . show(dP,Za,J9 z zoG)
    . ext zBP
    . ext zFE
      . ext zVM
      . show(AI,xb j x,xi)
  . ext zCg
inductive xyd (t:Adr) (vs:dz) (H:Hp) (Q:VK) (_:XK):Prop
 | mk (a dp do_:Addr) (pw ph:Int) (ps:dL) (nm:Str) (pt:Pt) (b:Bool) (r:Int) (e_:zMZ) (r_:kK/\S4/\(dN Rm Ha UU (zEO pw) (qan,xal H' (Geo.cells pw pt.x pt.y b r) qs,qs.length<100->zhj)))
def lno {m:Str}{v:V} (h:AD m (iH "width")):([("width",v)]:oE).lookup m=none:=by
 rw[Z1,h];rfl
def ok_ax (T:dZ):FnOk true P w K mg base dS 6 t.f_ax t.d_ax zkS (xyd t):=by
 refine T.ax.F.okn (k:=5) sc_ax (d7 H Q E h) (λ cdv A outer s H vs Q E hr h=>?_)
 .obtain ⟨a,dp,U,z,ph,ps,nm,pt,b,r,rfl,_⟩:=h;rfl
 .obtain ⟨a,dp,U,z,ph,ps,nm,pt,b,r,rfl,h⟩:=h;refine⟨_,xj (xaz (iI fA T.c_a T.u.m (ok_u T) fF T.u.b Rf))
   (xj (RW (VP nN) (Ce (zaI 4 sc_ax.nd) (pN 5 sc_ax.nd)))
   (xj (pS 6 sc_ax.nd (Nw 2))
   (xj (pS 7 sc_ax.nd (xd5 (oJ xgf 5 jj) (xp) ztT))
   (xj (xbw rfl (lF "at" ["x"] [4] zjS s_ax) (xlo rfl T.n_range (vQ 5 3 7)) lu kX i7 (O8 (lM 1 0)) (j:=8) rfl oO)
   (xj (xbw rfl (lF "at" ["row"] [3] zjS s_ax) (xlo rfl T.n_range (ji 4 (pI (xu xa2 (xfw (qI A4 T.c_o T.ao.m (ok_ao T) fF T.ao.b) (qI A4 T.c_e T.ae.m (ok_ae T) fF T.ae.b)) zAO) zAO))) lu kX i7 (O8 Mf) (j:=9) rfl oO)
   (iz (yF xnt DF 9))))))),?_⟩
  refine sq7 ?_; intros; obtain⟨S,hn,hf,r1,r2,⟨x1,x2,y1,y2⟩,q⟩:47:=h;ext zIc S;by_cases hd:pt.y<r<;>cases b
  .-- down right
   show(jb,VA false r1 r2,Vw q2 Y);show(mf,dx,zax,T.n_a6,lkW,Am false z H3 ae X s3);refine XN hd ?_;show(fW,103,pt.y,r,1,rfl,Ie,Md zdI);refine xcv (λ i=>zan) aa dk (λ i H R _ k=>Fb) (eI H4 qs1 s4 hu4 cu4);ext zgj;show(dw,D,(du,H4 p,zee t.C_e),zgY,ab,zff false,zeJ)
   show(qZ,zVN z ab zDV);refine xcv (λi=>zbk) Z (by lia) (λi H R _ k=>⟨(by exact leS2),k⟩) λH5 qs2 s5 hu5 cu5=>?_;have c1:xal H5 (Geo.upL pt.x pt.y r) qs1:=by
    have e:HN=(zWb).map (A8 zan):=VW zhu
    ext pZ Bj
   have c2:xal H5 (Geo.lvL z pt.x false r) qs2:=by
    have e:(Pa false)=(zLq).map (A8 zbk):=by
     ext zBb
    ext pZ cu5
   show(Vu,false)
   ext VM;refine q _ p6 tV (xt (((zdG).trans s3).trans (s4.trans s5)) J) Co ((zcs).keep (Same.tups (h9 J))) xI
  .-- down left
   show(jb,VA true r1 r2,Vw q2 Y);show(mf,dx,zax,T.n_a6,lkW,Am true z H3 ae X s3);refine XN hd ?_;show(fW,103,pt.y,r,1,rfl,Ie,Md zdI);refine xcv (λ i=>zan) aa dk (λ i H R _ k=>Fb) (eI H4 qs1 s4 hu4 cu4);ext zgj;show(dw,D,(du,H4 p,zee t.C_o),zgY,ab,zff true,zeJ)
   show(Dn,(zwp ⟨p,M,_,rfl,D,Uz,_,rfl,.inl zLm⟩));refine xcv (λi=>zbQ) Z (by lia) (λi H R _ k=>⟨(by exact leS2),k⟩) λH5 qs2 s5 hu5 cu5=>?_;have c1:xal H5 (Geo.upL pt.x pt.y r) qs1:=by
    have e:HN=(zWb).map (A8 zan):=VW zhu
    ext pZ Bj
   have c2:xal H5 (Geo.lvL z pt.x true r) qs2:=by
    have e:(Pa true)=(zMm).map (A8 zbQ):=by
     ext zBx
    ext pZ cu5
   show(Vu,true)
   ext VM;refine q _ p6 tV (xt (((zdG).trans s3).trans (s4.trans s5)) J) Co ((zcs).keep (Same.tups (h9 J))) xI
  .-- up right
   show(jb,VA false r1 r2,Vw q2 Y);show(mf,dx,zax,T.n_a6,lkW,Am false z H3 ae X s3);refine zQP;show(fW,103,pt.y,r,-1,rfl,Ie,F6 zdI);refine xcv (λ i=>zaV) aa dk (λ i H R _ k=>Fb) (eI H4 qs1 s4 hu4 cu4);ext zgj;show(dw,D,(du,H4 p,zee t.C_e),zgY,ab,zff false,zeJ)
   show(qZ,zVN z ab zDV);refine xcv (λi=>zbk) Z (by lia) (λi H R _ k=>⟨(by exact leS2),k⟩) λH5 qs2 s5 hu5 cu5=>?_;have c1:xal H5 (Geo.upL pt.x pt.y r) qs1:=by
    have e:HN=(zWa).map (A8 zaV):=VW zhw
    ext pZ Bj
   have c2:xal H5 (Geo.lvL z pt.x false r) qs2:=by
    have e:(Pa false)=(zLq).map (A8 zbk):=by
     ext zBb
    ext pZ cu5
   show(Vu,false)
   ext VM;refine q _ p6 tV (xt (((zdG).trans s3).trans (s4.trans s5)) J) Co ((zcs).keep (Same.tups (h9 J))) xI
  .-- up left
   show(jb,VA true r1 r2,Vw q2 Y);show(mf,dx,zax,T.n_a6,lkW,Am true z H3 ae X s3);refine zQP;show(fW,103,pt.y,r,-1,rfl,Ie,F6 zdI);refine xcv (λ i=>zaV) aa dk (λ i H R _ k=>Fb) (eI H4 qs1 s4 hu4 cu4);ext zgj;show(dw,D,(du,H4 p,zee t.C_o),zgY,ab,zff true,zeJ)
   show(Dn,zwp (zwp zLm));refine xcv (λi=>zbQ) Z (by lia) (λi H R _ k=>⟨(by exact leS2),k⟩) λH5 qs2 s5 hu5 cu5=>?_;have c1:xal H5 (Geo.upL pt.x pt.y r) qs1:=by
    have e:HN=(zWa).map (A8 zaV):=VW zhw
    ext pZ Bj
   have c2:xal H5 (Geo.lvL z pt.x true r) qs2:=by
    have e:(Pa true)=(zMm).map (A8 zbQ):=by
     ext zBx
    ext pZ cu5
   show(Vu,true)
   ext VM;refine q _ p6 tV (xt (((zdG).trans s3).trans (s4.trans s5)) J) Co ((zcs).keep (Same.tups (h9 J))) xI
def xty {K:Zf}{Z:L2.St}{fr:fT}{te:TE}{l l1:Addr}{H1:Hp}{Q:VK}{qs:dJ} (hl1:(du,H1 l1,m7)) (hl:nJ) (hn:qs.length<1000)
    (hte:∀(q:Addr) (H2:Hp) (R:VK),(zVo (rD H2 [sH,zxp]))->te ((zdj).set 0 C0) H2 R)
    (fin:∀(H2:Hp) (ws:IQ),mK->(du,H2 l,.lst (ws.map zcy))->ws.map (·.2)=zFH->(∀ p∈ws,zHe)->FL) :
    xcj (Itl K l1) 1 (xcy 0) Z fr xda te l H1 Q:=by
  refine xce qs.length (λ i xs H2=>∃ ws:IQ,xs=ws.map zXF/\ws.length<=i/\mK/\(zpq xs)/\ws.map (·.2)=(qs.take i).map (λ q=>(V.ref q,V.bl true))/\∀ p∈ws,zHe) ?_ ?_ ?_ ?_
  . exact⟨66,[],rfl,eV,zAa,xi,dG,λ p z=>nomatch z⟩
  . ext zFs H2 ws j zoY
  . rintro i xs H2 v M lt (⟨ws,rfl,D,j,c,A,B⟩:66) ⟨rfl,I⟩ N L
    show(gZ,x,I _ zoY,Zd,x);ext rW q J x;refine xmn ?_;refine hte q _ _ λ p y=>(dB,?_,?_,L _ _ (iY,66,ws++[(p,sH,zxp)],dG,qp,?_,xi,?_,?_))
    . ext sL c y
    . show(dP,Za,J9 D zoG)
    . intro b u e
      show(fG,CD,jY zhp y,zhp)
    . rw[ZC,J,Zt,A]
      simp
    . intro H C
      rcases Zz.mp C with z|z
      . have e:=B H z
        show(fG,sD e c,lB y,e)
      . show(M8,Zs.mp z);show(AI,xb c y,xi)
  . rintro xs H2 (⟨ws,rfl,_,j,c,A,B⟩:66)
    rw[Jp] at A;show(dO,hD zoY dG,fin H2 ws j c A B)
noncomputable abbrev ck (c:j6):iB:=[.inl fK,.inl ir]
def xmw {c d:j6} (h:AX=ck d):c=d:=by
 ext h8 a b c f e d;simp only[ck,Yq.injEq,Qu.injEq,and_true] at h;rw[iA,i0]
theorem xpb {d:Addr}{H:Hp}{cs:mz}{qs:dJ} (cl:EU) (hd:Uk):∀(kvs0:gJ),kvs0.length+cs.length<1000 ->
    ∃ kvs,xez d (Ve kvs0) zFH (Ve kvs)/\∀ c:j6,(kN zUt)↔c∈cs\/(kN (valV kvs0 (ck c))):=by
  induction cl with
  | nil=>exact λ kvs0 _=>(dB,kvs0,.nil,λ c=>dG)
  | @cons c q cs qs h _ ih =>
    intro kvs0 y;have B:(du,upd H d (.dT kvs0) q,.tup ((AX).map kV)):=by
      ext sL h hd
    show(gZ,x,DPut.t (k:=AX) (v:=zxp) (zXf,.dT kvs0) B (ZN (P7 y:kvs0.length<1000) dF),xd9,x);have D:=xbo kvs0 AX (.bl true);show(dA,kvs,C,mem,ih (putK kvs0 AX (.bl true)) (P7 y));show(gG,kvs,.cons x C,gO j);rw[mem j,xco];by_cases e:ck j=ck c
    . show(M8,xmw e);simp
    . have A:j≠c:=λ z=>e (jn z)
      ext jT e;simp[A]
noncomputable def xwg (H:Hp) (o:zzW) (v:V):Prop:=(o=none/\T0)\/∃ c q,(du o c)/\(uU q)/\Rh
inductive xz2 (t:Adr) (vs:dz) (H:Hp) (Q:VK) (_:XK):Prop
 | mk (a dp do_:Addr) (pw ph:Int) (ps:dL) (o1 o2:Addr) (n1 n2:Str) (p1 p2:Pt) (b1 b2:Bool) (r1 r2:Int) (e_:zSh) (r_:kK/\(dN (pq o1 (zwz n1 b1 r1)) (pq o2 (zwz n2 b2 r2)) (d9,qC n1,zaN n1 p1,1<=r1,(dN,r1<=ph,1<=p1.x,p1.x<=pw,1<=p1.y,p1.y<=ph)) (d9,qC n2,zaN n2 p2,1<=r2,(dN,r2<=ph,1<=p2.x,p2.x<=pw,1<=p2.y,p2.y<=ph)) (zwb,xwg H' (Geo.meet (Geo.cells pw p1.x p1.y b1 r1) (Geo.cells pw p2.x p2.y b2 r2)) v,Gt)))
def xrb (T:dZ):FnOk true P w K mg base dS 7 t.f_meeting t.d_meeting Hv (xz2 t):=by
 refine T.B_meeting.F.okn (k:=6) xcl (d7 H Q E h) (λ cdv A outer s H vs Q E hr h=>?_)
 .obtain ⟨a,dp,j,C,ph,ps,o1,o2,n1,n2,Y,D,b1,b2,r1,r2,rfl,_⟩:=h;rfl
 .obtain ⟨a,dp,j,C,ph,ps,o1,o2,n1,n2,Y,D,b1,b2,r1,r2,rfl,h⟩:=h;refine⟨_,xj (yi 2 (rX 3 xcl.nd 4 5))
   (xj (pS 6 xcl.nd (Ng (DU,"cell",zBr,xf1,x8 zkg,xab (AA 0 (xf0)))))
   (xj (yi 1 (rX 3 xcl.nd 4 5))
   (xj (Dg (x8 zkg) 7 xcl.nd (RT (xgq jx yB (pv 6)) (tM 7)))
   (iz (xdz))))),?_⟩
  refine sq5 ?_; intros; obtain⟨I,ad,ac,⟨m1,f1,u1,v1,g1⟩,⟨m2,f2,u2,v2,g2⟩,q⟩:46:=h;show(jb,⟨o2,_,rfl,fX ac,rfl,?_⟩,⟨a,dp,j,C,ph,ps,n2,D,b2,r2,rfl,(kE,I,m2,f2,u2,v2,g2,λ H1 l1 qs s1 L U ai=>zVE)⟩);refine xty L hl dk (λ q H2 R k=>Fb) λ H2 ws s2 hl2 he hw=>?_;show(fV,l,ws,rfl,hl2,hw,dC d hd);show(dA,kvs,af,mem,xpb (zbw s2) hd [] (by have:=U.len; simp; lia));refine fJ L0 _ Ca (dH he af) ?_;have X:hZ (pL H2 d kvs):=xt (s1.trans s2) hd;show(jC,o1,X _ _ ad);ext Hx; refine⟨a,dp,j,C,ph,ps,n1,Y,b1,r1,rfl,(kE,Pic.same X I,m1,f1,u1,v1,g1,λ H4 l4 aa s4 J S ah=>Hh l4 J)⟩;have ae:H4 d=some (.dT kvs):=yJ xi;refine xa5 (xs:=aa.map V.ref) (Pv:=λ i Z H5=>∃ v7:f7,Z=[hU,dR o1,dR o2,zN n1,some (FH b1),hO r1,vJ,v7]/\H4=H5 /\
   ∀ c∈(Geo.cells C Y.x Y.y b1 r1).take i,c∉zJe) (yO rfl dG) (λ_ _ _ _ ⟨_,_,z,_⟩=>qbI J) ?_ ?_
  .rintro i v Z _ hv (⟨v7,rfl,rfl,no⟩:63);ext zlO; ext SV hv q7 ab;show(dA,c,hc,M,S.get ab);have mm:=mem c;show(zfo,d,LL AX ae M,ite2 mI mI)
   .have hm:c∈zJe:=by
     rcases mm.mp z with y|y
     .exact y
     .simp [valV] at y
    exact (q _ _ (X.trans s4) (.inr (uH,c,q7,Geo.meet_at hc no hm,M)))
   .refine (yO,rfl,dC c' O);rw[ZC,hc] at O;rcases Zz.mp O with y|y
    .exact no c' y
    .have:c'=c:=zpi
     ext AK;exact λ y=>z (mm.mpr (.inl y))
  .rintro Z _ (⟨v7,rfl,rfl,no⟩:63);show(p8,S.len,Jp,no);exact q _ _ (X.trans s4) (CI,Geo.meet_no no,rfl)
def lkO {w h:Int}{dp do_:Addr}:(Ii).lookup (iH "opened")=(dR do_):=by
 show(zGc,"opened");rw[Z1,Sv "opened" "height"];show Je (iH "opened") zyw=_;show(HD,"opened","placed",[XX])
noncomputable abbrev Seat:=Bool × Int
noncomputable def xz (s:Seat):iB:=[zic gH,.inl og]
noncomputable def xa4 (s:Seat):dz:=zpx
def xhp {a b:Bool} (h:zUr):oa:=by
 cases a<;>cases b<;>first|rfl|ext gz h fR
def xht {s t:Seat} (h:kD=xz t):s=t:=by
 simp only[xz,Yq.injEq,Jd.injEq,Qu.injEq] at h;exact W9 (xhp iA) (eE h)
noncomputable def Sts (H:Hp) (do_:Addr) (ss:dE):Prop:=∃ kvs:gJ,(Oo do_)/\kvs.map (·.1)=zeN/\ss.Nodup/\ss.length<=32
def Sts.same {H H':Hp}{do_:Addr}{ss:dE} (s:fZ) (h:wJ):zYp:=let ⟨k,e,r⟩:=h; dB k xQ r
theorem xt8 {kvs:gJ}{ss:dE} (e:kvs.map (·.1)=zeN) {s:Seat} (h:s∉ss):TR=none:=by
 cases z:TR with
 | none=>rfl
 | some v =>
  show(Cz,i,xk0 z);have m:kD∈kvs.map (·.1):=(Sz,Zi c);rw[e] at m;ext yb t b f m;show(gz,b,(dH,xht f,h))
theorem xy7 {kvs:gJ}{ss:dE} (e:kvs.map (·.1)=zeN) {s:Seat} (h:AC):∃ v,du TR v:=by
 cases z:TR with
 | some v=>show(dO,v,rfl)
 | none =>
  have m:kD∈kvs.map (·.1):=by rw[e]; exact Zc.mpr (kZ s h)
  show(dA,p,b,ep,Zc.mp m);show(gZ,a,xd3 (xz s) kvs,z,a);have:(zuR,λ kv=>gM (sU=xz s)):=(zjE,p,b,by simpa using ep);ext js this a a
inductive xbm (H:Hp):GS dE
 | nil:xbm H [] []
 | cons {s:Seat}{q:Addr}{ss:dE}{qs:dJ} (h:Gc) (r:PJ):xbm H ML vW
theorem xbm.keep {H H':Hp} (k:nu) {ss:dE}{qs:dJ} (h:PJ):xbm H' ss qs:=by
 induction h with
 | nil=>ext pU
 | cons h _ ih=>exact .cons (k _ _ h) ih
theorem xbm.len {H:Hp}{ss:dE}{qs:dJ} (h:PJ):UG ss.length:=by
 induction h with
 | nil=>rfl
 | cons _ _ ih=>ext wj
noncomputable def xby (s t:Seat):Prop:=(gH=true/\(jc t.1))\/(gH=t.1/\og<va)
theorem xv3 {s t:Seat} (h:lexK (xz s) (xz t)=true):xby s t:=by
 ext h8 a i s b j t;unfold xz at h;ext zwx;by_cases e:zUr
 .show(j4,eD As);ext zwx;by_cases e2:i=j
  .show(j4,UD e2);ext zwx;cases h
  .show(j4,(mD,e2 (Qu.inj z)));show(hX,⟨xhp e,of_decide_eq_true h⟩)
 .ext j4 zRp;cases a<;>cases b
  .ext mP e
  .show(gz,h,(by show ¬ xen (zic false) (zic true)=true; ext tP))
  .ext iE vq
  .ext mP e
noncomputable def unK:iB->Seat
 | [.inr s,.inl r]=>ztN s
 | _=>B7
def xm1 (s:Seat):unK (xz s)=s:=by
 ext CA r s;cases b
 .show (ztN (iH "right"))=_;rw[decide_eq_false fR]
 .show (ztN (iH "left"))=_;rw[Oh]
inductive x0b (t:Adr) (vs:dz) (H:Hp) (Q:VK) (_:XK):Prop
 | mk (a dp do_:Addr) (pw ph:Int) (ps:dL) (ss:dE) (b:Bool) (r:Int) (e_:zQv) (r_:kK/\wJ/\(dN,Ha,UU,mT∉ss,ss.length<32,∀ H',(eC,zWH,wP H' pw ph ps,Sts H' do_ (ss++[mT]),se)))
inductive xxp (t:Adr) (vs:dz) (H:Hp) (Q:VK) (_:XK):Prop
 | mk (a dp do_:Addr) (pw ph:Int) (ps:dL) (ss:dE) (e_:GJ) (r_:kK/\wJ/\∀(l:Addr) (ss':dE) (qs:dJ),(ft,mM,xbm H ss' qs,ss'.Perm ss,ss'.Pairwise xby,yM (i5 l m7)))
def Pic.but {t:Adr}{H H':Hp}{a dp do_:Addr}{w h:Int}{ps:dL}{kvs:gJ} (e:Oo do_) (s:zWH) (p:zYJ):zqf :=
 (zCx,x,Vk znR,k,(dB,k,znR,q.keep λ b xs x=>znR))
def ok_t (T:dZ):FnOk true P w K mg base dS 5 t.f_t t.d_t Bt (x0b t):=by
 refine T.B_t.F.okn (k:=4) sc_t (d7 H Q E h) (λ cdv A outer s H vs Q E hr h=>?_)
 .obtain ⟨a,dp,v,X,Y,ps,ss,b,r,rfl,_⟩:=h;rfl
 .obtain ⟨a,dp,v,X,Y,ps,ss,b,r,rfl,h⟩:=h;refine⟨_,xj (zkL zT)
   (xj (qaA ziD)
   (xm (uf gB ziD (xf0)))),?_⟩
  refine sq3 ?_; intros; obtain⟨z,st,r1,r2,no,len,q⟩:47:=h;obtain⟨⟨S,hp⟩,_,_⟩:=id z;show(tX,kvs,hk,R,nd,aa,id st);refine⟨a,S,_,rfl,hp,i8,a,dp,v,X,Y,ps,b,r,rfl,z,r1,r2,dC H1 L⟩;ext lU q1 O;generalize I:jI H1 q1 (tf vL r)=H2;ext rY J O I g2;show(dy,D,J _ _ (L _ _ hk),C,J _ _ (L _ _ hp));have Z:(zwF mT)=none:=xt8 R no;show(mf,S,C,T.n_bl,lkO,znG v Z (LL,xz mT,D,g2) CH);show(Ra,S,(jN,C,T.c_a,T.n_bl,lkO,jV,dC q3 M));generalize I:jI H2 q3 (tf vL r)=H3;ext rY U M I g3;have kl:kvs.length=ss.length:=by
   show(GD,yq R)
  refine ur v (UM,xz mT,U _ _ D,g3,LO kvs.length 33);have bt:oq v zX (ym H3 v (.dT (putK kvs (xz mT) (.bl true)))):=λc u nc e=>by
   show(rq,nc,U _ _ (J _ _ (L _ _ e)))
  refine q _ bt (Pic.but hk bt z) (m6 64 xi ?_ ?_ ?_)
  .rw [xcq _ Z,Zt,Zt,R];rfl
  .rw [ZE];show(eB,nd,dG,λ x hx y hy=>(dH,Zs.mp hy,λ e=>no (e▸hx)))
  .rw [Zn];show ss.length+1<=32
   lia
def ok_f (T:dZ):FnOk true P w K mg base dS 1 t.f_f t.d_f nD (xxp t):=by
 refine T.f.F.okn (k:=0) sc_f (d7 H Q E h) (λ cdv A outer s H vs Q E hr h=>?_)
 .obtain ⟨a,dp,C,O,S,ps,ss,rfl,_⟩:=h;rfl
 .obtain ⟨a,dp,C,O,S,ps,ss,rfl,h⟩:=h;show(Fs,(UO,xm7 rfl,T.n_sorted,PyProof.Rows.Boot.«sorted»,gB));ext uF D st;ext Br dx Y D;show(tX,kvs,Z,L,nd,U,id st);have kl:kvs.length=ss.length:=by
   show(GD,yq L)
  show(mf,dx,Y,T.n_bl,lkO,(gW,C,kvs,[false,true],rfl,Z,dk,rC J,dF,λ l ts fr tm pm pw'=>?_))
  .have m:eA∈kvs.map (·.1):=zgF J;rw[L] at m;ext zC s e zzi;rw[<- e];rfl
  rw[L] at pm;have j:∀ t∈ts,xz (unK t.1)=t.1:=λ t ht=>by
   show(zC,s,e,Zc.mp (zVp (kZ t ht)));rw[<- e,xm1]
  have z:=q l ((ts.map (·.1)).map unK) (ts.map (·.2)) fr ?_ ?_ ?_
  .rw [Zr] at z;ext i4
  .clear pm pw'
   induction ts with
   | nil=>ext pU
   | cons t ts ih =>
    refine .cons ?_ (ih (λ x u=>tm x (Zm _ u)) λ x u=>j x (Zm _ u));have e:=tm t Zo;rw[<- j t Zo] at e;exact e
  .have M:=pm.map unK;have e2:(zeN).map unK=ss:=by
    rw[Zr,(jK,unK∘xz,id,funext xm1)];exact YF _
   ext eW e2 M M
  .rw [Z5] at pw';rw[Zr,Z5];refine pw'.imp_of_mem λ{x y} u X I=>xv3 ?_;show lexK (xz (unK dM)) (xz (unK y.1))=true;show(fG,j x u,j y X,I)
noncomputable def SsOk (h:Int) (ss:dE):Prop:=ss.Nodup/\IS/\∀ s∈ss,(Ty h)
theorem xbm.get {H:Hp}{ss:dE}{qs:dJ} (h:PJ) {i:Nat}{q:Addr} (e:BY):∃ s,(dX ss s)/\Gc:=by
 induction h generalizing i with
 | nil=>ext sT
 | @cons s q' ss qs h _ ih =>
  cases i with
  | zero =>
   ext R6 s
  | succ j=>ext Aq
def nd_map {α β:Type}{f:At} (inj:zHD) {l:fc} (h:l.Nodup):Ik:=by
 rw[QW,Z5];exact h.imp zNd
theorem xbk {α:Type}{R:zdJ} (as:∀ a b,R a b->¬ R b a):∀{l l':fc},(eC,l.Perm l',zsc,l'.Pairwise R,l=l')
 | [],l',p,_,_=>(JU.nil_eq p)
 | a::t,[],p,_,_=>absurd p.symm (by ext kH; exact absurd (JU.nil_eq z) dG)
 | a::t,b::t',p,h,h'=>by
  show(dy,A,JT.mp h,j,JT.mp h');by_cases e:oa
  .ext gc;rw[xbk as ((List.perm_cons a).mp p) A.2 j.2]
  .have C:a∈t':=by
    have:=p.mem_iff.mp (Zo (a:=a) (l:=t));rcases Zu.mp this with z|z
    .ext gz z e
    .ext i4
   have B:b∈t:=by
    have:=p.mem_iff.mpr (Zo (a:=b) (l:=t'));rcases Zu.mp this with z|z
    .show(gz,z.symm,e)
    .ext i4
   show(gz,j.1 a C,as _ _ (A.1 b B))
def xb9 (a b:Seat) (h:zzP):¬ xby b a:=by
 rintro (⟨x,y⟩|⟨x,y⟩)<;>rcases h with⟨z,w⟩|⟨z,w⟩
 .ext AE x w
 .rw [x,y] at z; cases z
 .rw [z,w] at x; cases x
 .lia
noncomputable def xff (s:Seat):DV:=.tup zpx
def xsf {s t:Seat}:xff s=xff t↔s=t:=by
 constructor
 .intro h
  unfold xff at h;simp only[DV.tup.injEq,Yq.injEq,DV.str.injEq,DV.int.injEq,and_true] at h;exact W9 (xhp iA) i0
 .intro h
  rw[h]
def xve (s t:Seat):(sN,dEq (xff s) (xff t),s=t):=xh0 rfl rfl xsf
def xuu (ss:dE) (s:Seat):(sN,(ss.map xff).any (λ z=>dEq z (xff s)),AC):=by
 ext zHh
 .ext rV z hz e;ext jD t b hz;rw[xve,decide_eq_true_iff] at e;exact e▸b
 .intro h
  exact(hD,S1 s h,xbv _)
theorem xqe {K:Zf}{H:Hp}{q:Addr}{s:Seat} (h:Gc):m4 1 sH (xff s):=by
 ext zPq a b
 match j,a,b with
 | 0,a,b=>ext zyi; exact .str
 | 1,a,b=>ext zyi; exact .int
 | j+2,a,b=>simp[xa4] at a
def xbm.dv {K:Zf}{H:Hp}{ss:dE}{qs:dJ} (h:PJ) {l:Addr} (e:uj):zjq (.lst (ss.map xff)):=by
 ext zHt;ext zJB;exact xqe z
theorem xbm.pick {H:Hp}:(zSB,dE,(∀(j:Nat) (y:V) (s:Seat),(xB,ss,s,∃ q,pG/\Gc)),xbm H ss rs)
 | [],[],_,_=>zrS
 | [],eK,h,_=>hI
 | eK,[],h,_=>hI
 | ML,mS,h,k=>by
  show(zCl,xbm.pick (ss:=ss) (ys:=ys) tE zlk)
theorem xkl {α:Type} [Iw]:∀{l m:fc},l.Nodup->(∀ x∈l,x∈m)->l.length<=m.length
 | [],m,_,_=>lW
 | Dx,m,nd,sub=>by
  obtain⟨i,c⟩:=ZH.mp nd;show(dy,b,sub a Zo,z,xkl (l:=l) (m:=m.erase a) c (yr,(WI (λ e:x=a=>i (e▸hx))).mpr (sub x (Zm _ hx))));rw[List.length_erase_of_mem b] at z;have:=List.length_pos_of_mem b;rw[ZF]
  lia
theorem x0j {K:Zf}{H:Hp}{q:Addr}{a b:Int} (h:MC a b):m4 1 sH (UX a b):=by
 ext zPq c m
 match j,c,m with
 | 0,c,m=>ext zUk
 | 1,c,m=>ext zUk
 | j+2,c,m=>simp at c
structure PtOk (w h:Int) (p:Pt):Prop where
 nm:qC p.nm
 x1:1<=p.x
 x2:p.x<=w
 y1:1<=p.y
 y2:p.y<=h
 sd:zTQ p.sd
 l1:1<=p.lo
 l2:p.lo<=p.hi
 l3:p.hi<=h
structure xc3 (w h:Int) (ps:dL):Prop where
 ok:∀ p∈ps,PtOk w h p
 nn:(ps.map (·.nm)).Nodup
 nx:(ps.map (·.x)).Nodup
 ny:(ps.map (·.y)).Nodup
 le:zZl
def xer {α β:Type} (f:At) {ps:fc} (nd:(ps.map f).Nodup) {i:Nat} (hi:i<ps.length):∀ p∈RO,f p≠f ps[i]:=λ p b e=>by
 have z:=nd;rw[<- Yu i ps,Yx hi,Zt,Zq,ZE] at z;exact (rH).2 _ Uf _ Zo e
def xzi {α β γ:Type}{f:At}{g:α->γ}{k:β->γ} (e:∀ a,g a=k (f a)) (inj:V7) {l:fc} (h:Ik):(zzf).Nodup:=by
 show(zwL,nd_map inj h,(jK,g,k∘f,funext e))
theorem PtsL.pick {H:Hp}:∀{ps:dL}{ys:dz},(zoF,ps.length,(∀(j:Nat) (y:V) (p:Pt),(xB,ps,p,∃ q,pG/\zhh)),PtsL H ps rs)
 | [],[],_,_=>zrS
 | [],eK,h,_=>hI
 | eK,[],h,_=>hI
 | ML,mS,h,k=>by
  show(zCl,PtsL.pick (ps:=ss) (ys:=ys) tE zlk)
theorem xev {ps:dL} (nd:(ps.map (·.nm)).Nodup) {p:Pt} (hp:ut):zdC (λ q=>gk q.nm p.nm) p:=by
 induction ps with
 | nil=>simp at hp
 | cons a ps ih =>
  ext wQ;rcases Zu.mp hp with z|z
  .subst z;rw[YN dG]
  .have c:¬ a.nm=p.nm:=λ y=>nd.1 (y▸(zgF z));show(dP,Wx tD,ih n6 z)
noncomputable def xb7 (p:Pt) (s:Seat):Bool:=((gk p.sd "both")||(gM (p.sd=xa3 gH)))&&((gM (p.lo<=og))&&(gM (og<=p.hi)))
def xsw (sd w:Str):inV (.str sd) [zdl,.str w]=((gk sd "both")||(gk sd w)):=by
 have e:∀ a b:Str,sN LT (b=a):=λa b=>by
  rw[Jf,beq_iff_eq,decide_eq_true_iff];exact eq_comm
 show (((iH "both") == sd)||((w == sd)||false))=_;rw[WU,e,e]
noncomputable def xhl (s2:dE) (p:Pt) (i:Nat):Bool:=match s2[i]? with|Ua=>zgK|none=>false
def xhq {s2:dE}{p:Pt}{s:Seat}{i:Nat} (h:dX s2 s):xhl s2 p i=zgK:=by
 unfold xhl;rw[h]
inductive x04 (t:Adr) (vs:dz) (H:Hp) (Q:VK) (_:XK):Prop
 | mk (a dp do_:Addr) (pw ph:Int) (ps:dL) (ss:dE) (pt:Pt) (b:Bool) (i:Int) (e_:vs=[eQ,zup,vL,iC]) (r_:kK/\wJ/\(dN,qC pt.nm,zYR,1<=i,i<=ph,(O0 ((gM ((b,i)∈ss))&&xb7 pt (b,i)))))
inductive xzw (t:Adr) (vs:dz) (H:Hp) (Q:VK) (_:XK):Prop
 | mk (a dp do_:Addr) (pw ph:Int) (ps:dL) (ss:dE) (pt:Pt) (e_:vs=[eQ,zup]) (r_:kK/\(dN,wJ,SsOk ph ss,qC pt.nm,zYR,∀(H':Hp) (l:Addr) (srt:dE) (rs:dJ),fZ->mM->(FB,Ko,Ov,nH l znC,xbm H' zny rs)))
def ok_ai (T:dZ):FnOk true P w K mg base dS 5 t.f_ai t.d_ai HF (x04 t):=by
 refine T.ai.F.okn (k:=4) sc_ai (d7 H Q E h) (λ cdv A outer s H vs Q E hr h=>?_)
 .obtain ⟨a,R,x,S,U,ps,ss,pt,b,i,rfl,_⟩:=h;rfl
 .obtain ⟨a,R,x,S,U,ps,ss,pt,b,i,rfl,h⟩:=h;refine⟨_,xj zku
   (xj (zkL Lk)
   (xj (xbi (KU im) (Sx (pN 4 sc_ai.nd) (zVA sc_ai.nd)))
   (zTR (xgq jx (xab Lk) gB) (zds 6 (Nb (xar) CW)) (xg3 xga xga yB jj DF)))),?_⟩
  refine sq4 ?_; intros; obtain⟨D,st,hn,hf,i1,i2,q⟩:47:=h;ext zwK M D;show(jb,⟨zQm,ps,pt.nm,pt,rfl,D,hn,hf,?_⟩,⟨zQm,ps,b,i,rfl,D,i1,i2,dC H1 O⟩);show(dA,q0,e0,Z,pl.find hf);show(dy,J,O _ _ hp,ab,O _ _ hk);show(Ra,_,⟨45,J,T.c_a,T.n_bh,lkP,⟨R,LB,rfl,(gF,e0,tU zA ab),q0,_,rfl,fX (O _ _ Z),rfl,?_⟩⟩);ext lU q1 Y;generalize L:jI H1 q1 (tf vL i)=H2;ext rY s2 Y L g2;show(dy,I,Ba J,C,O.trans s2);show(tX,ko,aa,ek,nd,ac,id st);show(dy,y,C _ _ aa,qq,q);by_cases cin:(b,i)∈ss
  .obtain ⟨v,hv⟩:=xy7 ek cin;show(mf,_,I,T.n_bl,lkO,⟨x,Au,rfl,(gF hv zPA),true,rfl,FS⟩);ext lU q3 X;generalize L:jI H2 q3 [zdl,vL]=H3;show(iR,s3,su_e X L,g3,ug_e L,z,qq H3 (C.trans s3));rw[pE cin,J6] at z;unfold xb7 at z;ext zme q3 g3 zy
   .ext zLU
    rw[c,J6] at z;refine Kx c2
    .rw [c2,J6] at z;ext i4
    .rw [Ja.mpr c2,JK] at z;ext i4
   .ext zLU
    ext FA zfT JK
  .have n0:valV ko (xz (b,i))=none:=xt8 ek cin;have z:=qq H2 C;rw[wH cin,JK] at z;exact IM _ I T.n_bl lkO (znG,x,n0,zPA,iteF z)
theorem ok_q (T:dZ):FnOk true P w K mg base dS 6 t.f_q t.d_q oA (xzw t):=by
 refine T.q.F.okn (k:=5) sc_q (d7 H Q E h) (λ cdv A outer s H vs Q E hr h=>?_)
 .obtain ⟨a,dp,I,pw,ph,ps,ss,pt,rfl,_⟩:=h;rfl
 .obtain ⟨a,dp,I,pw,ph,ps,ss,pt,rfl,h⟩:=h;refine⟨_,xj zku
   (iz (mh,(qb ["side", "row"] ["name", "self"] [1,0] oA s_q),zkW fA,DM,Gb,λ_ _ _ _ _=>xfh (xbs (iI jj T.c_a T.ai.m (ok_ai T) fF T.ai.b zvk)),xab Mf)),?_⟩
  refine sq2 ?_; intros; ext uR C st U hn hf;ext Br R hp C;show(jb,⟨a,R,_,rfl,hp,i8,a,dp,I,pw,ph,ps,pt.nm,pt,rfl,C,hn,hf,?_⟩,⟨a,R,_,rfl,hp,i8,a,dp,I,pw,ph,ps,ss,rfl,C,st,λ l1 srt Z ah Y L ae=>?_⟩);show(NS,i5 l1 (.lst (Z.map V.ref)),ah);show(dy,X,Y.keep (Same.tups s1),ql,Y.len);show(fU,ai,OU,(dH,L.length_eq,eE U),GP l1 g1 l2 aa);refine xei (ef g1) (lS,LO Z.length 33) aa (xhl srt pt) (GC,∃ s q,(dX srt s)/\pG/\Gc) (λ i y H H' tp ⟨s,q,e1,e2,e3⟩=>(fJ,s,q,e1,e2,o8 e3)) (zdq i H4 hx s4) (sS H4 s4 el4 ly f4)
  .ext zmt;show(dA,z,D,ep,X.get ho);have J:=s1.trans s4;have O:z∈ss:=L.mem_iff.mp (Zi D);obtain⟨ac,ab⟩:=U.2.2 z O;show(jC,o,yJ ep);refine⟨a,R,_,rfl,J _ _ hp,i8,a,dp,I,pw,ph,ps,ss,pt,iM,rH,rfl,qY J C,st.same J,hn,hf,ac,ab,dC H5 s5⟩
   .refine zy
    .ext zFA;ext lU q6 af;exact hN _ _ (s5.trans (h9 af)) (dH,xhq D,c) (uH z q6 D xi)
    .ext zFA;exact hM _ s5 (by rw[xhq D]; exact Ja.mpr c)
  .have fi:=xks (xb7 pt) (as:=srt) (p:=xhl srt pt) (λ i s hs=>xhq hs);rw[Za,ql] at ly f4;obtain⟨ad,e4,S⟩:62:=xbm.pick (H:=H4) (ss:=zny) (ys:=ys) (fC ly fi.1) (λj y s hy hs=>by
    have hj:j<((Zv srt.length).filter (xhl srt pt)).length:=by
     ext mL ly zzh
    show(hJ,s',q',h1,h2,h3,f4 j y _ hy (Zb hj));rw[fi.2 j _ (Zb hj),hs] at h1;ext Dc h1 q' h2 h3)
   subst e4;exact q H4 l2 srt ad (s1.trans s4) (s1.free aa) L ae el4 S
noncomputable def scD:V->DV
 | iC=>iC
 | yl=>yl
 | .str s=>.str s
 | _=>.non
noncomputable def scV:S0
 | vK=>true
 | sP=>true
 | nK=>true
 | .non=>true
 | _=>false
theorem x2u {K:Zf}{H:Hp}{v:V} (h:scV v=true):m4 0 v (scD v):=by
 cases v with
 | int i=>exact .int
 | bl b=>exact .bl
 | str s=>exact .str
 | non=>exact .non
 | _=>cases h
def xdj {K:Zf}{H:Hp}{xs:dz} (f:xs.all scV=true) (j:Nat) (x:V) (d:DV) (h1:RV) (h2:gU (xs.map scD) d):m4 0 x d:=by
 ext rK h1 h2;cases h2;exact x2u (Wj.mp f x (Zi h1))
structure Dr (t:Adr) (H:Hp) (a dp do_:Addr) (w h:Nat) (ps:dL) (ss srt:dE):Prop where
 pic:wP H oQ vN ps
 sts:wJ
 ok:zdH
 pm:Ko
 lt:Ov
 nm:N1
def Dr.same {t:Adr}{H H':Hp}{a dp do_:Addr}{w h:Nat}{ps:dL}{ss srt:dE} (d:Dr t H a dp do_ w h ps ss srt) (s:fZ):Dr t H' a dp do_ w h ps ss srt:=(gm,Pic.same s d.pic,d.sts.same s,d.ok,d.pm,d.lt,d.nm)
inductive x0e (t:Adr) (vs:dz) (H:Hp) (Q:VK) (_:XK):Prop
 | mk (w h:Int) (l m:Addr) (ps:dL) (qs:dJ) (ss:dE) (rs:dJ) (e_:vs=[.int w,.int h,kW,.ref m]) (r_:d9 (d9,pX,mR,1<=h,sO) uj IZ (dN,xc3 w h ps,zOC m,xbm H ss rs,SsOk h ss,∀ H' a dp do_,fZ->Us->(yj zhs (fw do_) zqf zYp a)))
def ok_ad (T:dZ):FnOk true P w K mg base dS 6 t.f_ad t.d_ad zkI (x0e t):=by
 refine T.ad.F.okn (k:=5) sc_ad (d7 H Q E h) (λ cdv A outer s H vs Q E hr h=>?_)
 .obtain ⟨w,U,l,m,ps,qs,ss,rs,rfl,_⟩:=h;rfl
 .obtain ⟨w,U,l,m,ps,qs,ss,rs,rfl,h⟩:=h;refine⟨_,xj (pS 4 sc_ad.nd (zDU Mf))
   (xj (C8 (yx 2) (GY (xo (pN 5 sc_ad.nd) (xo (pN 6 sc_ad.nd) (xo (pN 7 sc_ad.nd) (xo (pN 8 sc_ad.nd) (zw 9 sc_ad.nd 10 sc_ad.nd)))))) (iI lm T.c_a T.m_b (ok_b T) fF T.b_b (zcS yA A4 (zcS yB DF (zcS Nk (pv 10) (xh))))))
   (xj (C8 (yx 3) (AH 11 sc_ad.nd 12) (iI lm T.c_a T.B_t.m (ok_t T) fF T.B_t.b (lM 11 12)))
   (tM 4))),?_⟩
  refine sq4 ?_; intros; obtain⟨⟨w1,w2,h1,h2⟩,hl,ae,M,hm,ac,⟨⟨am,av,ad⟩,q⟩⟩:47:=h;refine (λ a dx hx ah ne=>gm a dx w U rfl (jN,xi,w1,w2,h1,h2,λ H5 dp do_ hdp5 hdo5 s6 pic5 hdt=>FP));ext qd; have k5:FQ:=(zJI,lB ah);have up:D7 (Fc H a) a zqT iS:=λb z=>by
   cases e:wt with
   | none=>rfl
   | some u=>rw[zhJ,lB ah,e] at z; cases z
  show(qH,ai,up _ hdp5,aj,up _ hdo5,pl,ae.len,sl,ac.len);show(uq,l,k5 _ _ hl)
  show(zLs,zQe (nW,Z,[Gp,hO U,nM,dR m,hU,v5,v6,v7,Y,X,L,J,I],Ta,wP H2 w U RO,H2 do_=some (.dT [])))
  show(zoi,rR,(zjv,k5,by simpa using pic5,hdt),(λ_ _ _ _ ⟨_,_,_,_,_,_,_,_,_,z,_⟩=>zUI))
  .rintro i v Z H2 hv (⟨v5,v6,v7,Y,⟨X,L,J,I,rfl,s2,D,R⟩⟩:121);ext SV hv z hz;show(dA,p,hp,ez,ae.get hz);ext KK hi ep hp;have ok:=M.ok p (Zi hp);obtain⟨⟨au,aq⟩,⟨kvs,ar,_⟩,_⟩:=id D;have aw:=M.le;show(jC,z,Ba ez);show(fW,a,au,_,rfl,aq,i8,?_);refine⟨a,dp,do_,w,U,RO,p.nm,p.x,p.y,p.sd,p.lo,p.hi,.int p.hi,rfl,kE D Ca ok.nm ok.x1 ok.x2 ok.y1 (Do,ok.y2,ok.sd,ok.l1,ok.l2,ok.l3,dC p' ab,?_,d8 H3 k3 j)⟩
   .have e:=ep.symm;ext gc;show(eB,zuJ M.nn,zuJ M.nx,zuJ M.ny)
   .rw [Ji]
    lia
   .refine (zjv,(gC,k3 b u (xb e ai) (s2 b u e)),?_,k3 _ _ (ne_f R ar) R);ext fG ZC hp j
  .rintro Z H2 (⟨v5,v6,v7,Y,⟨X,L,J,I,rfl,s2,D,R⟩⟩:121);ext Hx; ext p8 pl Jp D;show(uq,m,Ba hm)
   show(zLt,zQe (nW,Z,[Gp,hO U,nM,dR m,hU,v5,v6,v7,Y,X,L,J,I],zzG,wP H3 w U ps,Sts H3 do_ (ss.take i)))
   show(zoi,qbg,(zjv,s2,D,z6 [] R Yh dG),(λ_ _ _ _ ⟨_,_,_,_,_,_,_,_,_,z,_⟩=>ef (z _ _ hm)))
   .rintro i v Z H3 hv (⟨v5,v6,v7,Y,⟨X,L,J,I,rfl,s3,j,O⟩⟩:121);ext SV hv z hz;show(dA,s0,aa,ez,ac.get hz);ext KK hi es aa;show(h8,b,r,s0,r1,r2,ad _ (Zi aa));ext Br as ap j;have ao:mT∉ss.take i:=λ hmem=>by
     have:=xer id (by simpa using am) hi _ hmem;exact this (jn es)
    show(jC,z,s3 _ _ ez);show(fW,a,as,_,rfl,ap,i8,?_);refine⟨a,dp,do_,w,U,ps,ss.take i,b,r,rfl,(kE,j,O,r1,r2,ao,?_,hF H4 k4 af ak)⟩
    .rw [Ji]
     lia
    .refine zjv (sJ,k4 c u (xb e aj) (s3 c u e)) af ?_;ext fG ZC aa ak
   .rintro Z H3 (⟨v5,v6,v7,Y,⟨X,L,J,I,rfl,s3,j,O⟩⟩:121);ext p8 sl Jp O;exact (q H3 a dp do_ s3 hx ai aj j O)
def xsq {x d:Int} (h:0<d) (h2:d<=4294967296):-uu<x % d/\x % d<uu:=by
 show(dy,a,W5 x (gE,d≠0),b,QV x h);ext dO dk dk
def xb3 (x:Int) {d:Int} (h:0<d):0<=x % d/\x % d<d:=⟨W5 _ dk,QV _ h⟩
inductive xz4 (K:Zf) (vs:dz) (H:Hp) (Q:VK) (_:XK):Prop
 | mk (a:Addr) (ns:eS) (k:Int) (e_:vs=(tf eQ k)) (r_:(d9,zcu,0<=k,k<lN,∀ c:Int,tY c))
inductive x10 (vs:dz) (H:Hp) (Q:VK) (_:XK):Prop
 | mk (c k:Int) (e_:vs=(jJ c k)) (r_:∀ m:Int,0<=m->m<2147483587->(tY m))
inductive xxd (vs:dz) (H:Hp) (Q:VK) (_:XK):Prop
 | mk (i:Int) (e_:vs=[iC]) (r_:zvC)
noncomputable def abc:Str:="abcdefghijklmnopqrstuvwxyz"
def xx5:abc.cps.toList=(Zv 26).map (97+·):=fR
noncomputable def ltr (i:Int):Str:=Vm Kz
def xzc {i:Int} (h0:Ni) (h1:i<26):(du,atI abc.cps.toList i,Kz):=by
 show(oD,j,J4 h0);show(Be,26,dk)
 refine xb6 ?_;rw[xx5,Zd,ZW lt];rfl
def xyh {i j:Int} (hi:Ni) (hj:0<=j) (h:ltr i=ltr j):i=j:=by
 unfold ltr at h;ext zsy zFo
def xu7 {i:Int} (h0:Ni) (h1:i<26):isNm (ltr i)=true:=by
 unfold isNm ltr;show(dw,h,¬ ([Kz]<[97]),(by ext zXj; rintro (z|⟨_,z⟩); lia; cases z),b,¬ ([122]<[Kz]),by ext zXj; rintro (z|⟨_,z⟩); lia; cases z)
 show (zHA 1 [Kz])=true;rw[zow,decide_eq_false b];rfl
noncomputable def xfb:eS:=[1,3,5,7,9,11,15,17,19,21,23,25]
def xx4 (m:Int):∃ s:Int,atI (xfb.map V.int) (m % 12)=(hO s)/\zzy:=by
 show(h8,f,c,xb3 m (zq,pT<12),j,b,J4 f);rw[b] at c ⊢;show(Be,xfb.length,by show j<12; lia)
 show(eB,xfb[j],xb6 zhF,JO lt)
inductive xyy (vs:dz) (H:Hp) (Q:VK) (_:XK):Prop
 | mk (c:Int) (n:Nat) (e_:vs=(jJ c n)) (r_:n<=26/\∀(s:Int) (H':Hp) (l:Addr),eC zzy fZ (nH l (.lst ((AZ).map zLV))) zhj)
inductive xu8 (vs:dz) (H:Hp) (Q:VK) (_:XK):Prop
 | mk (c sz:Int) (n:Nat) (e_:(E2,.int c,sz,n)) (r_:nO<=sz/\sz<=30/\∀(zs:eS) (H':Hp) (l:Addr),zs.length=n->(FB zs.Nodup zLG fZ (nH l (.lst (zs.map V.int)))))
inductive x0r (vs:dz) (H:Hp) (Q:VK) (_:XK):Prop
 | mk (c:Int) (e_:vs=[.int c]) (r_:∀(w h:Int) (H':Hp) (p:Addr),pX->mR->(yj,1<=h,sO,fZ,Ej p (jJ w h),p))
def ok_r (T:dZ):FnOk true P w K mg base dS 1 t.f_r t.d_r Xh (xz4 K):=by
 refine T.r.F.okn (k:=0) sc_r (d7 H Q E h) (λ cdv A outer s H vs Q E hr h=>?_)
 .ext yW a ns k
 .ext y8 a ns k;refine⟨_,xj (yy (oJ xgf 1 zyR) (iz (xaj xbf fA im iw)))
   (iz (qM (GO (xp) 1))),?_⟩
  refine sq2 ?_; intros; ext IK; ext A6 hs m p;refine(gK,a,_,.inl hs,qJ);ext yu pR
  .have u:k<(eg ns.length):=tD
   show(oD,j,J4 m);show(Be,ns.length,dk)
   exact m6 a _ _ rfl (li,hs,xb6 zhF,q _)
  .show(DB,Rr,q _)
def ok_bd (T:dZ):FnOk true P w K mg base dS 1 t.f_bd t.d_bd zlu (x10):=by
 refine T.bd.F.okn (k:=0) sc_bd (d7 H Q E h) (λ cdv A outer s H vs Q E hr h=>?_)
 .ext Bp c k
 .ext BC c k;refine⟨_,xj (pS 2 sc_bd.nd (CL (xu xdv (xu xa2 fA (GO (xp) 1)) (xp))))
   (xj (pS 2 sc_bd.nd (CL (GO kC 2)))
   (iz (CL (yF xa2 (xu xa2 (GO kC 2) (GO (xp) 2)) 1)))),?_⟩
  refine sq3 ?_; intros; refine(fQ,Rr,.inr BM,qi 2147483647,?_);show(iF,zRU,qi 2147483629);refine fQ zRU Rr (qi 2147483587) ?_;exact h _ (B6).1 (B6).2
def ok_a9 (T:dZ):FnOk true P w K mg base dS 1 t.f_a9 t.d_a9 zbE (xxd):=by
 refine T.a9.F.okn (k:=0) sc_a9 (d7 H Q E h) (λ cdv A outer s H vs Q E hr h=>?_)
 .ext DY i
 .ext IG i;show(jb,(xV,iz (xcp zHY (xc4 (xti zGN)))),Lr iC FS);exact(uX,_,.inl (mX,_,_,false,iC,rfl,C4,nU false h))
def ok_a7 (T:dZ):FnOk true P w K mg base dS 1 t.f_a7 t.d_a7 zlb (xyy):=by
 refine T.a7.F.okn (k:=0) sc_a7 (d7 H Q E h) (λ cdv A outer s H vs Q E hr h=>?_)
 .ext Bp c n
 .ext BC c n;refine⟨_,xj (qe 2 sc_a7.nd (xar))
   (by
   with_reducible refine' xj ?a ?b
   case a =>
    with_reducible refine' xcf (i:=3) ?n ?i ?x ?e ?s ?f
    case n=>exact sc_a7.nd
    case i=>rfl
    case x=>exact Y4 rfl
    case f=>ext zjo
    case e =>
     with_reducible refine' xaj (r:=rIxL K) ?r ?l ?j ?p
     case r=>exact xbf
     case j=>exact zPe
     case p=>exact iw
     case l =>
      with_reducible refine' xci ?pa
      case pa =>
       with_reducible show(tJ,?q1)
       case q1 =>
        with_reducible show(tJ,?q2)
        case q2 =>
         with_reducible show(tJ,?q3)
         case q3 =>
          with_reducible show(tJ,?q4)
          case q4 =>
           with_reducible show(tJ,?q5)
           case q5 =>
            with_reducible show(tJ,?q6)
            case q6 =>
             with_reducible show(tJ,?q7)
             case q7 =>
              with_reducible show(tJ,?q8)
              case q8 =>
               with_reducible show(tJ,?q9)
               case q9 =>
                with_reducible show(tJ,?q10)
                case q10 =>
                 with_reducible show(tJ,?q11)
                 case q11 =>
                  with_reducible show(tJ,?q12)
                  case q12 =>
                   exact xh
    case s=>rfl
   case b =>
    exact (iz (mh,(lF "_law_k" ["_law_letters", "_law_cell_here", "_law_step"] [2,0,3] zBQ s_a7),Iu nN,lu,kX,i7,xaj xt1 (pv 1) (CL zNU) iw))),?_⟩
  refine sq3 ?_; intros; ext uY S;show(dA,s,R,L,xx4 (c / 26));show(gR,OG 12,λ q0 I=>⟨BM,(qi 12),q0,_,_,.int s,rfl,rfl,ef xi,R,?_⟩);show(fV,64,nO,rfl,dk,dk,dC l M);have J:hZ (i5 q0 (.lst (xfb.map V.int))):=h9 I;show(znP,n,C,xs=(Nj).map zLV/\(hZ C)/\C l=some (.lst xs))
  .exact (Dk,xt J M,xi)
  .rintro i xs C lt _;show i<(jf n).toNat;simpa using lt
  .rintro i xs C v U lt (⟨rfl,D,y⟩:43) ⟨rfl,rfl⟩ N O;refine xmn ?_;refine⟨.inl ?_,(qi 26),abc,_,_,rfl,rfl,fR,xzc (B6).1 (B6).2,y,?_,?_⟩
   .have hs:∀ z∈xfb,(AS z z 25):=dF
    have:=hs s L;constructor<;>lia
   .rw [Za,Zx];exact ZN (dk:i<27) dF
   .refine O _ _ zXI
    .rw [JB,Zt];simp[ltr]
    .show(iX,jY (J _ _ e) M,D b u e)
  .rintro xs C (⟨rfl,D,y⟩:43);show(dO,ie Itr,q s C l L D zpi)
def ok_au (T:dZ):FnOk true P w K mg base dS 2 t.f_au t.d_au zkp (xu8):=by
 refine T.au.F.okn (k:=1) sc_au (d7 H Q E h) (λ cdv A outer s H vs Q E hr h=>?_)
 .ext yW c sz n
 .ext y8 c sz n;refine⟨_,xj (pS 3 sc_au.nd (xbt (xmf rfl) rfl T.n_list boot_list (i3 (xbt xpa rfl T.n_range boot_range (uI (qM im))))))
   (xj (SS 4 sc_au.nd)
   (xj (C8 (Iu CW) (pN 5 sc_au.nd) (Pe lm (i3 (xef JH PySem.F.slot_list_pop PySem.F.type_list_pop xu4 jj (i3 (xu xcg (pC (ok_bd T) hr T.bd.g T.bd.F.kp T.bd.b (pd 5)) (GG Ut)))))))
   (tM 4))),?_⟩
  refine sq4 ?_; intros; ext uF n1 n2;refine(fP,1,sz+1,rfl,lR (gW,105,p,1,sz+1,rfl,xi,Ea,dk,dC lf hlf));ext vS zJs J C;ext qd; have aa:rngL 1 (sz+1)=((Zv sz.toNat).map (iW,i,uA+(eg i))).map V.int:=by
   unfold rngL;rw[Zr,jK (nG,sz+1) sz.toNat dk];rfl
  rw[aa] at C ⊢;have D:J≠lf:=oY xi C;show(fV,64,nO,rfl,dk,dk,?_);refine xhx (Pv:=λ i Z L=>∃(zs ls:eS) (U:f7),Z=[hO c,hO sz,hO n,dR lf,dR J,U]/\(du,L lf,.lst (ls.map V.int))/\(du,L J,.lst (zs.map V.int)) /\
   zs.length=i/\(gf,ls.length+i,sz.toNat,zs.Nodup,(dN ls.Nodup (∀ z∈zs,z∉ls) zLG (∀ z∈ls,(AS z z sz)) (hZ L)))) ?_ ?_ ?_
  .refine ⟨106,[],(Zv sz.toNat).map (iW,i,uA+(eg i)),_,rfl,?_,xi,rfl,dG,(jN,Yh,?_,zSw,zSw,tQ,xt (xt zzr hlf) C)⟩
   .ext Lo D
   .refine Jh.map _ (d8 a b h) Yr;ext kH;apply h
    lia
   .show(mU,i,hi,Zc.mp hz);rw[ZD] at hi
    lia
  .rintro i Z L hi (⟨zs,ls,U,rfl,S,R,e1,e2,⟨d1,d2,d3,b1,b2,X⟩⟩:106);show(dw,ab,jS,zRx,lp,0<ls.length,dk)
   show(ij,Eu R,Eu S,c,_,d8 m m0 m1);have O:pT<(SC zsg):=xP
   show(h8,k0,k1,xb3 m O,j,hj,J4 k0);have jl:j<ls.length:=by
    have z:=k1;rw[hj,Za] at z
    lia
   have gy:zsg[j]?=some (V.int ls[j]):=(Du,Zb jl)
   show(fW,84,lf,_,rfl,vm S,O,(oX,lf,_,_,j,xR _ rfl S dk ?_ ⟨?_,gy,J,zs.map V.int,_,rfl,rfl,?_,?_,?_⟩))
   .rw [Za] at k1;have:(eg ls.length)<xX:=dk
    lia
   .rw [seqIndex_of k0 k1,hj];rfl
   .ext sV D R
   .rw [Za];exact ZN (dk:zs.length<31) dF
   .obtain ⟨a1,a2,a3,a4⟩:44:=Geo.erase_ok d2 (Zb jl);have em:(zsg).eraseIdx j=(zZq).map V.int:=by simp[List.eraseIdx_eq_take_drop_succ,QA,QB]
    have el:=List.length_eraseIdx_of_lt jl;refine⟨106,zs++[ls[j]],zZq,_,rfl,?_,?_,?_,?_,jN ?_ a1 ?_ ?_ (re,b2 z (a3 z hz)) ?_⟩
    .rw [rh D,xi,em]
    .rw [xi,Zt];rfl
    .rw [Zn,e1];rfl
    .lia
    .rw [ZE];exact⟨d1,dG,λ a ha b hb=>by
      show(M8,Zs.mp hb);ext kH;exact d3 a ha (z▸a4)⟩
    .intro z hz
     rcases Se with y|y
     .exact λ k=>d3 z y (a3 z k)
     .ext M8 zzj;exact a2
    .intro z hz
     rcases Se with y|y
     .exact b1 z y
     .ext M8 zzj;exact b2 _ a4
    .intro b u e
     have M:b≠lf:=λ z=>by
      subst z;rw[LG] at hlf;ext rJ hlf
     have Y:b≠J:=λ z=>by
      subst z;rw[xg M,LG] at C;ext rJ C
     show(fG,xg Y,xg M,X b u e)
  .rintro Z L (⟨zs,ls,U,rfl,S,R,e1,e2,⟨d1,d2,d3,b1,b2,X⟩⟩:106);exact (q zs L J zoy d1 b1 X R)
def ok_bg (T:dZ):FnOk true P w K mg base dS 1 t.f_bg t.d_bg zaq (x0r):=by
 refine T.bg.F.okn (k:=0) sc_bg (d7 H Q E h) (λ cdv A outer s H vs Q E hr h=>?_)
 .ext DY c
 .ext IG c;refine⟨_,xj (yy (FX (CL fA) (xp)) zTW)
   zTW,?_⟩
  refine sq2 ?_; intros; ext IK; refine(mQ,qi 8,rfl,_,zed d)
  .refine (jN,BM,qi 30,BM,qi 16,jV,λ p j=>h _ _ _ p ?_ ?_ ?_ ?_ (h9 j) xi)
   .show(zbG,c / 8,30)
   .show(zbI,c / 8,30)
   .show(zbG,c / 240,16)
   .show(zbI,c / 240,16)
  .refine ⟨46,BM,(qi 9),BM,(qi 7),jV,λ p j=>h _ _ _ p ?_ ?_ ?_ ?_ (h9 j) xi⟩
   .show(zbG,c / 8,9)
   .show(zbI,c / 8,9)
   .show(zbG,c / 72,7)
   .show(zbI,c / 72,7)
noncomputable abbrev Pr:=Pt × Bool × Int
noncomputable def prV (p:Pr):dz:=zXA
inductive PrsL (H:Hp):GS d0
 | nil:PrsL H [] []
 | cons {p:Pr}{q:Addr}{ps:d0}{qs:dJ} (h:D8 p) (r:Kd):PrsL H MP vW
theorem PrsL.keep {H H':Hp} (s:nu) {ps:d0}{qs:dJ} (h:Kd):PrsL H' ps qs:=by
 induction h with
 | nil=>ext pU
 | cons h _ ih=>ext Kk
theorem PrsL.len {H:Hp}{ps:d0}{qs:dJ} (h:Kd):zWT:=by
 induction h with
 | nil=>rfl
 | cons _ _ ih=>ext wj
theorem PrsL.get {H:Hp}{ps:d0}{qs:dJ} (h:Kd) {i:Nat}{q:Addr} (e:BY):zcj (D8 p):=by
 induction h generalizing i with
 | nil=>ext sT
 | @cons p q' ps qs h _ ih =>
  cases i with
  | zero =>
   ext R6 p
  | succ j=>ext Aq
structure PrOk (ps:dL) (w h:Int) (p:Pr):Prop where
 nm:qC ff
 fd:zdC (λ z=>gk z.nm ff) eA
 r1:1<=iT
 r2:iT<=h
 xy:(d9,1<=uP,uP<=w,1<=yD,yD<=h)
def xzo (qs:dJ) (k:Nat):cutV (qs.map V.ref) (some (lX k)) none=(qs.drop gu).map V.ref:=by
 unfold cutV;rw[(gE,(lX k)=zzl),HT.sIx_nat,HT.sIx_none,Za,<- QB,<- QA]
 ext me
 by_cases c:gu<=qs.length
 .rw [Nat.min_eq_left c,ZA dG]
 .rw [zOI,List.drop_length,List.drop_of_length_le dk];simp
theorem PrsL.drop {H:Hp}{ps:d0}{qs:dJ} (h:Kd) (k:Nat):PrsL H (ps.drop k) (qs.drop k):=by
 induction h generalizing k with
 | nil=>simpa using PrsL.nil
 | cons h r ih =>
  cases k with
  | zero=>exact .cons h r
  | succ k=>exact ih k
noncomputable def cel (w:Int) (p:Pr):mz:=Xs
noncomputable abbrev Tr:=Str × Str × j6
noncomputable def xbe (w:Int) (p:Pr):Int:=lenI w uP yD nR iT
def xvb {ps:dL}{w h:Int}{p:Pr} (o:Ex) (hw:mR) (hh:sO):zUc S3:=by
 ext Hw o;ext zpR
inductive xy6 (t:Adr) (vs:dz) (H:Hp) (Q:VK) (_:XK):Prop
 | mk (a dp do_ l:Addr) (pw ph:Int) (ps:dL) (prs:d0) (qs:dJ) (e_:EF) (r_:zmc (ON,(prs.map (xbe pw)).sum))
def xn8 (T:dZ):FnOk true P w K mg base dS 6 t.f_total t.d_total jp (xy6 t):=by
 refine T.B_total.F.okn (k:=5) xv8 (d7 H Q E h) (λ cdv A outer s H vs Q E hr h=>?_)
 .obtain ⟨a,dp,L,l,O,ph,ps,prs,qs,rfl,_⟩:=h;rfl
 .obtain ⟨a,dp,L,l,O,ph,ps,prs,qs,rfl,h⟩:=h;show(zhX,(Ny (mh,(qb ["name", "side", "row"] vk [0] jp xh6),Ax,(Xe,U,X,Sx (pO 0 X U) (Ce (pO 1 X U) (pO 2 X U)),3),Ij,i7,iI jj T.c_a T.u.m (ok_u T) fF T.u.b (vQ 0 1 2))));ext uR C S pr ok len;ext zIc C;ext si l S l1 J;refine xce qs.length (λ i zs M=>zs=(((wT).map (xbe O)).map V.int)/\(hZ M)/\M l1=some (.lst zs)) ?_ ?_ ?_ ?_
  .exact (dB,dG,h9 J,xi)
  .rintro i zs M lt (⟨_,j,_⟩:43);exact(fP,_,.ref GK,zqi,ie lt)
  .rintro i zs M v H3 lt (⟨rfl,j,z⟩:43) ⟨rfl,hv⟩ N hN;show(gZ,D,hv _ zqi,Zd,D);ext rW o ho D;show(dA,p,I,ep,pr.get ho);have y:=ok p (Zi I);show(jC,o,j _ _ ep);refine xwv ?_;refine⟨a,dx,_,rfl,j _ _ hp,i8,a,dp,L,O,ph,ps,ff,eA,nR,iT,rfl,Pic.same j C,y.nm,y.fd,y.r1,y.r2,dC H4 Z⟩;show(Bg,Z _ _ z,hN _ _ zXI)
   .rw [Za,Za,Ji];exact ZN (dk:min i prs.length<13) dF
   .rw [ZC,I,Zt,Zt];rfl
   .show(iX,lB J,Z _ _ (j b u e))
  .rintro zs M (⟨rfl,j,z⟩:43);rw[pr.len,Jp] at z;show(fW,hD zqi dG,l1,prs.map (xbe O),rfl,ef z,zob,q _ j);ext jD p Y hn;exact xvb (ok p Y) w2 h2
noncomputable def acrI (w:Int) (p:Pr):Int:=if nR then uP else f8-uP
noncomputable def uprI (w:Int) (p:Pr):Int:=zfL*V9
def x05 {a b:Int} (a0:0<=a) (a1:a<=1000) (b0:0<=b) (b1:b<=1000):(oR,a*b,1000000):=by
 show(nY,Int.mul_nonneg a0 b0);show(gL,j,Int.mul_le_mul_of_nonneg_right a1 b0,c,1000*b<=1000*1000,Int.mul_le_mul_of_nonneg_left b1 dF);exact Int.le_trans j c
def xyi {ps:dL}{w h:Int}{p:Pr} (o:Ex) (hw:mR) (hh:sO):zUc zfK:=by
 ext Hw o;have z:=x05 (a:=zfL) (b:=V9) XH XH RU RU;unfold uprI
 lia
inductive xxk (t:Adr) (vs:dz) (H:Hp) (Q:VK) (_:XK):Prop
 | mk (a dp do_ q0:Addr) (pw ph:Int) (ps:dL) (p:Pr) (e_:vs=(rE eQ q0)) (r_:d9 kK (ztn q0 p) zUl (ON (uprI pw p)))
inductive x2p (t:Adr) (vs:dz) (H:Hp) (Q:VK) (_:XK):Prop
 | mk (a dp do_ l:Addr) (pw ph:Int) (ps:dL) (prs:d0) (qs:dJ) (e_:EF) (r_:zmc (ON,(prs.map (uprI pw)).sum))
noncomputable def mayB (ss:dE) (p:Pt) (s:Seat):Bool:=(gM AC)&&zgK
noncomputable def excB (ss:dE) (p p':Pr):Bool:=mayB ss eA p'.2&&mayB ss p'.1 fM
inductive xyc (t:Adr) (vs:dz) (H:Hp) (Q:VK) (_:XK):Prop
 | mk (a dp do_ o1 o2:Addr) (pw ph:Int) (ps:dL) (ss:dE) (p p':Pr) (e_:zSh) (r_:kK/\wJ/\(dN,ztn o1 p,ztn o2 p',zUl,PrOk ps pw ph p',O0 zcl))
noncomputable def canO (w:Int) (ss:dE) (p p':Pr):zzW:=if zcl then Geo.meet (cel w p) (cel w p') else none
noncomputable def canF (w:Int) (ss:dE) (p:Pr) (r:d0):List Tr:=r.filterMap λ b=>(canO w ss p b).map λ c=>(ff,lC b,c)
noncomputable def cans (w:Int) (ss:dE):d0->List Tr
 | []=>[]
 | wb=>zqM++(Mg r)
def xsd {w:Int}{ss:dE}{p p':Pr}{r:d0}:canF w ss p (p'::r)=(match zbA with|some c=>[(ff,lC p',c)]|none=>[])++zqM:=by
 unfold canF;rw[JQ];cases zbA<;>rfl
noncomputable def TrV (H:Hp) (o:hW Tr) (v:V):Prop:=(o=none/\T0)\/∃ c q qc,d9 (du o c) (uU q) (yL [.str fK,.str (eE c),.ref qc]) (AF,qc,uT c,(fH c).2)
inductive xzs (t:Adr) (vs:dz) (H:Hp) (Q:VK) (_:XK):Prop
 | mk (a dp do_ l:Addr) (pw ph:Int) (ps:dL) (ss:dE) (prs:d0) (qs:dJ) (e_:EF) (r_:kK/\(dN wJ uj zg (zag pw ph) (zwb,TrV H' (cans pw ss prs).head? v,Gt)))
theorem ok_az (T:dZ):FnOk true P w K mg base dS 6 t.f_az t.d_az ztm (xxk t):=by
 refine T.az.F.okn (k:=5) sc_az (d7 H Q E h) (λ cdv A outer s H vs Q E hr h=>?_)
 .obtain ⟨a,dp,D,q0,v,Y,ps,p,rfl,_⟩:=h;rfl
 .obtain ⟨a,dp,D,q0,v,Y,ps,p,rfl,h⟩:=h;refine⟨_,xj (yi 1 (rX 2 sc_az.nd 3 4))
   (xj (RW (VP CW) (zw 5 sc_az.nd 6 sc_az.nd))
   (iz (xu xdv (xfw (iI (Nw 3) T.c_o T.ab.m (ok_ab T) fF T.ab.b ziO) (zFz 3 ziO)) (zlq A4 4)))),?_⟩
  refine sq3 ?_; intros; ext A6 u O ok;ext Br S Z u;ext jC q0 O;refine⟨a,S,_,rfl,Z,i8,a,dp,D,v,Y,ps,ff,eA,rfl,u,ok.nm,ok.fd,λ H1 q1 L M=>EC q1 M⟩;have C:=L _ _ Z;show(Hw,id ok);show(dy,w2,u.w2,h2,u.h2);have x:-uu<acrI v p/\acrI v p<uu:=XH
  have y:=q;unfold uprI acrI at y;unfold acrI at x;cases hb:nR with
  | true =>
   rw[hb] at y x;show(Dn,zKo true);ext FD U j;exact⟨I,U,_,rfl,hs,V4,_,_,rfl,_,rfl,.inl x,zTL⟩
  | false =>
   rw[hb] at y x;show(qZ,zKo false);show(FD,U,id j);exact⟨I,U,_,rfl,hs,V4,I,v,_,rfl,j,_,rfl,.inl x,zTL⟩
def xrc (T:dZ):FnOk true P w K mg base dS 7 t.f_upright t.d_upright jp (x2p t):=by
 refine T.B_upright.F.okn (k:=6) xq6 (d7 H Q E h) (λ cdv A outer s H vs Q E hr h=>?_)
 .obtain ⟨a,Z,I,l,j,U,ps,prs,qs,rfl,_⟩:=h;rfl
 .obtain ⟨a,Z,I,l,j,U,ps,prs,qs,rfl,h⟩:=h;show(zhX,(Ny (zZJ,"pair",jp,xgh,pC (ok_az T) hr T.az.g T.az.F.kp T.az.b (lM 1 0))));ext uR C X S ok len;obtain⟨⟨dx,hp⟩,_,w1,w2,Y,O,_⟩:=id C;ext si l X l1 M;have ql:=S.len;refine xbd (ef X) (lS,LO qs.length 13) M (GC,∃ p,(dX prs p)/\(Da (uprI j p))) (λ i y H H' tp h=>h) zbh (sS H2 s2 el ly f)
  .ext zmt;show(dA,p,D,ep,S.get ho);have J:=ok p (Zi D);exact⟨a,Z,I,o,j,U,ps,p,rfl,(fQ,qY s2 C,Ba ep,J,λ H4 s4=>lY s4 (rB D))⟩
  .have ey:ys=(zSs).map V.int:=by
    ext DK ql;refine Q0 (gO i);by_cases c:i<ys.length
    .show(j7,p,Y,O,f i _ AW);rw[AW,Zd,Zd,Y,O];rfl
    .rw [Jq dk,Jq qp]
   subst ey;show(fV,l1,zSs,rfl,ef el,zob,q _ s2);ext jD p L hn;exact xyi (ok p L) w2 O
def ok_am (T:dZ):FnOk true P w K mg base dS 6 t.f_am t.d_am Hv (xyc t):=by
 refine T.am.F.okn (k:=5) sc_am (d7 H Q E h) (λ cdv A outer s H vs Q E hr h=>?_)
 .obtain ⟨a,M,u,R,O,J,L,ps,ss,p,x,rfl,_⟩:=h;rfl
 .obtain ⟨a,M,u,R,O,J,L,ps,ss,p,x,rfl,h⟩:=h;refine⟨_,xj (yi 1 (rX 3 sc_am.nd 4 5))
   (xj (yi 2 (rX 6 sc_am.nd 7 8))
   (iz (xcp (zFD (vQ 3 7 8)) (xc4 (zFD (vQ 6 4 5)))))),?_⟩
  refine sq3 ?_; intros; obtain⟨j,st,Y,X,I,D,q⟩:47:=h;ext Br C S j;ext jC R Y;ext jC O X;show(jb,⟨a,C,_,rfl,S,i8,a,M,u,J,L,ps,ss,eA,fj,hV,rfl,j,st,I.nm,I.fd,D.r1,D.r2,dC H1 y⟩,zy)
  .refine ⟨a,C,_,rfl,y _ _ S,i8,a,M,u,J,L,ps,ss,dM,nR,iT,rfl,Pic.same y j,st.same y,D.nm,D.fd,I.r1,I.r2,dC Z U⟩;have z:=q Z (y.trans U);unfold excB at z;show(FA,BQ zYq c,J6)
  .have z:=q H1 y;unfold excB at z;show(FA,show jc zYq from zfT,JK)
def xf4 (T:dZ):FnOk true P w K mg base dS 8 t.f_exchangeable t.d_exchangeable jp (xzs t):=by
 refine T.B_exchangeable.F.okn (k:=7) xcu (d7 H Q E h) (λ cdv A outer s H vs Q E hr h=>?_)
 .obtain ⟨a,dp,ad,l,O,ph,ps,ss,prs,qs,rfl,_⟩:=h;rfl
 .obtain ⟨a,dp,ad,l,O,ph,ps,ss,prs,qs,rfl,h⟩:=h;refine⟨_,xj (xa1 Z7 rfl (zat nN) (AH 2 xcu.nd 3) (xm (xa1 Z7 rfl (x8 (xgw xkt (pv 1) (xim (qM kC)) xib)) (pN 4 xcu.nd) (xm (xau (xbs (pC (ok_am T) hr T.am.g T.am.F.kp T.am.b (ji 0 zwQ))) (xj (pS 5 xcu.nd (pC (xrb T) hr T.B_meeting.g T.B_meeting.F.kp T.B_meeting.b (ji 0 zwQ)))
   (xm (yy (zfl 5) (E4 (xa (Im 3) (xa (Im 4) ziO)))))) (xad))))))
   (iz (xdz)),?_⟩
  refine sq2 ?_; intros; refine fq ?_; intros; ext uR af st hl pr ok;refine(ur,l,ef hl)
  show(zLs,∃(v2 v3 X U:f7),(gf,Z,[hU,nM,v2,v3,X,U],Ta,cans O ss (prs.drop i)=cans O ss prs))
  refine xg8 (xs:=rR) (Pv:=Pv) (Ic lH rfl) (λ_ _ _ _ ⟨_,_,_,_,_,z,_⟩=>zUI) ?_ ?_
  .rintro i x p Z H2 hx hp (⟨v2,v3,X,U,rfl,s2,ea⟩:123);rw[Zd] at hx;ext rW o ho hx;show(dA,J,ai,ac,pr.get ho);show(gL,I,ok J (Zi ai),sp,No zQJ,zzr);ext zjn;refine fo ?_; intros; show(gG,i9+1,rfl,(gK,l,_,ef (sp _ _ (s2 _ _ hl)),dC p4 am));rw[xzo];have s4:No (upd zQJ p4 (.lst ((zun).map V.ref))):=sp.trans (h9 am);have ae:=pr.drop dW;have ed:prs.drop i=J::PP:=by
    ext KK h1 h2 ai
    rw[Yx h1,h2]
   rw[ed] at ea;ext uq p4 xi
   let Pv (j:Nat) (Z:L2.St) (H5:Hp):Prop:=∃(X U:f7),(nW,Z,[hU,nM,hO i,dR o,X,U],FQ,(du,H5 p4,.lst ((zun).map V.ref)),canF O ss J ((PP).drop j)++cans O ss (prs.drop dW)=cans O ss prs)
   refine xa5 (xs:=(zun).map V.ref) (Pv:=Pv)
    (zeg,s2.trans s4,xi,ea) (λ_ _ _ _ ⟨_,_,_,_,z,_⟩=>ef z) ?_ ?_
   .rintro j x Z H5 hx (⟨X,U,rfl,R,aa,C⟩:84);ext zlO; ext SV hx o2 ao;show(dA,M,ah,ab,ae.get ao);have D:=ok M (List.mem_of_mem_drop (Zi ah));have ap:(PP).drop j=M::(PP).drop lG:=by
     ext KK h1 h2 ah;rw[Yx h1,h2]
    rw[ap,xsd] at C;show(jb,⟨a,dp,ad,o,o2,O,ph,ps,ss,J,M,rfl,(kE,qY R af,st.same R,R _ _ ac,R _ _ ab,I,D,dC H6 s6)⟩,Kx cx)
    .ext OQ; have L:=R.trans s6;refine⟨a,dp,ad,O,ph,ps,o,o2,lC J,lC M,J.1,M.1,eE J,eE M,fH J,fH M,rfl,(jN,qY L af,L _ _ ac,L _ _ ab,gT I.nm I.fd I.r1 I.r2 I.xy,gT D.nm D.fd D.r1 D.r2 D.xy,hF H7 v s7 mv)⟩;ext zMB; have aj:xwg H7 (canO O ss J M) v:=by
      unfold canO;ext fG cx gq mv
     rcases aj with⟨em,rfl⟩|⟨c,q6,em,rfl,hq6⟩
     .rw [em] at C;ext Ci zvD;exact(zeg,L.trans s7,IY aa,C)
     .rw [em] at C;ext Ci zvf;have Y:=L.trans s7;show(ij,o,_,0,_,(li,fX (Y _ _ ac),rfl,⟨o2,_,0,_,rfl,rfl,fX (Y _ _ ab),rfl,Fo,dC p7 ak⟩));have s8:Same H7 (jI H7 p7 [CN J,CN M,.ref q6]):=h9 ak;refine q _ _ (Y.trans s8) (.inr (mX,(lC J,lC M,c),p7,q6,?_,rfl,xi,s8 _ _ hq6));rw[<- C];rfl
    .have em:canO O ss J M=none:=by
      unfold canO;rw[d6 cx]
     rw[em] at C;exact(zeg,R.trans s6,sX aa,C)
   .rintro Z H5 (⟨X,U,rfl,R,aa,C⟩:84);refine Ic R ?_;show(lE,List.drop_of_length_le (l:=PP) (by rw[ae.len]; exact Zl _),C);exact C
  .rintro Z H2 (⟨v2,v3,X,U,rfl,s2,ea⟩:123);show(p8,pr.len,List.drop_length,ea);exact q _ _ s2 (CI,zwC ea,rfl)
noncomputable def exP (p1 p2 p:Pr):Pr:=(eA,(jq,ff,CF,p2.2,jq ff CG p1.2 fM))
theorem xq2 {p1 p2:Pr}{A:d0} (h:∀ p∈A,ff≠CF/\ff≠CG):A.map zey=A:=by
 induction A with
 | nil=>rfl
 | cons p A ih =>
  rw[Zq,ih λ c e=>h c (Zm _ e)]
  ext me
  show(UN,a,h p Zo);unfold exP;rw[if_neg a,d6 b]
def xsu {prs A B C:d0}{p1 p2:Pr} (nd:(prs.map (·.1.nm)).Nodup) (e:prs=zmy):prs.map zey=zEe/\CF≠CG:=by
 ext gc;rw[Zt,ZE] at nd;obtain⟨_,q,j⟩:43:=nd;rw[Zq,ZH,Zt,Zq,ZE] at q;obtain⟨c,_,s,v⟩:44:=q;rw[ZH] at s;have h:CF≠CG:=λ z=>c (tT z);show(gR,?_,h);rw[Zt,Zq,Zt,Zq];rw[xq2 (A:=A),xq2 (A:=B),xq2 (A:=C)]
 .unfold exP;rw[gq,if_neg (Z2 h),gq]
 .intro p b
  show(gR,λ z=>c ?_,λ z=>s.1 ?_)
  .rw [<- z];exact ZB _ (Zm _ Uf)
  .rw [<- z];show(sF,rB b)
 .intro p b
  show(gR,λ z=>c ?_,λ z=>v _ Uf _ Zo z);show(mL,z,ZO _ Uf)
 .intro p b
  ext gR zPj zPj
theorem xko {w:Int}{ss:dE}{tr:Tr}:∀{prs:d0},tr∈(Mg prs)->∃ A p1 B p2 C c,(gf,prs,zmy,zJK,tr=zvV)
 | [],h=>hI
 | wb,h=>by
  rcases Cv with z|z
  .show(j7,q,j,e,Yd.mp z);show(dA,c,u,H,Zg.mp e);show(Mn,B,C,D,List.append_of_mem j);exact oX [] p B q (fJ,C,c,ib D,u,H.symm)
  .obtain ⟨A,p1,B,p2,⟨C,c,e,x,v⟩⟩:121:=xko z;exact(oX,p::A,p1,B,p2,fJ C c vI x v)
inductive Sd (H:Hp):gQ d0 eG
 | nil:Sd H [] []
 | cons {p:Pr}{t:Addr}{ps:d0}{kvs:eG} (h:zeA) (r:Ks):Sd H MP ((j3 zzL t)::kvs)
theorem Sd.keep {H H':Hp} (s:nu) {ps:d0}{kvs:eG} (h:Ks):Sd H' ps kvs:=by
 induction h with
 | nil=>ext pU
 | cons h _ ih=>ext Kk
theorem Sd.len {H:Hp}{ps:d0}{kvs:eG} (h:Ks):zNv:=by
 induction h with
 | nil=>rfl
 | cons _ _ ih=>ext wj
theorem Sd.keys {H:Hp}{ps:d0}{kvs:eG} (h:Ks):kvs.map (·.1)=ps.map (λ p=>Jd ff):=by
 induction h with
 | nil=>rfl
 | cons _ _ ih=>ext wj
theorem Sd.get {H:Hp}{ps:d0}{kvs:eG} (h:Ks) {i:Nat}{k:Key}{x:V} (e:oB):(zcj,k=.inr ff):=by
 induction h generalizing i with
 | nil=>ext sT
 | @cons p q ps kvs h _ ih =>
  cases i with
  | zero =>
   simp at e;show(yw,p,e.1.symm)
  | succ j=>ext Aq
theorem Sd.find {H:Hp}{ps:d0}{kvs:eG} (h:Ks) (nd:(ps.map (·.1.nm)).Nodup) {p:Pr} (m:ut):∃ t,(zcW ff)=(dR t)/\zeA:=by
 induction h with
 | nil=>cases m
 | @cons p' t ps kvs h _ ih =>
  ext wQ;rcases Zu.mp m with rfl|z
  .exact dB t zhn h
  .show(j7,t',v,q,ih n6 z);ext Bg t' q;show(dP,(zhW,nd.1 (Zc.mpr (dB,p,z,(zxF).symm))),v)
theorem xnc {k:Key}:∀{kvs:eG},k∉kvs.map (·.1)->Ol
 | [],_=>rfl
 | kv::r,h=>by
  ext UN a kv;rw[(zhW,h (gF e Zo))];exact xnc λ z=>h ziH
theorem xlm {d:Addr}{H:Hp}:∀{kvs kv0:eG},((zwR).map (·.1)).Nodup->(zwR).length<1000->xez d (kh H d kv0) zJg (kh H d zwR)
 | [],kv0,_,_=>by
  show(dP,Yn,.nil)
 | kv::kvs,kv0,nd,hl=>by
  have fr:valV kv0 sU=none:=xnc λ z=>by
   rw[Zt,ZE] at nd;exact (n6).2 _ z _ Zo rfl
  have f:=DPut.k (k:=sU) (v:=kv.2) (zXf,.dK kv0) (ZN (by rw[Zn] at hl; lia:kv0.length<1000) dF);rw[xd9,xcq _ fr] at f;show(gZ,b,xlm (d:=d) (H:=H) (kvs:=kvs) (kv0:=kv0++[kv]) (dH JF nd) (dH JF hl),JF,b);exact .cons f b
theorem xw7 {H:Hp}:∀{prs:d0}{ys:dz},(vE prs.length)->(∀(i:Nat) (y:V) (p:Pr),(dX ys y)->(dX prs p)->∃ q t,pG/\zVZ/\zeA) ->
    ∃(ws:IQ) (kvs:eG),ys=ws.map zXF/\(∀ p∈ws,zVr)/\ws.map (·.2)=zJg/\Sd H prs kvs
  | [],[],_,_=>(eP,84,[],[],rfl,λ p h=>(nomatch h),rfl,.nil)
  | [],eK,h,_=>hI
  | eK,[],h,_=>hI
  | p::prs,mS,hl,h=>by
    show(hJ,q,t,B,A,x,zwu p);show(qG,ws,kvs,a1,a2,a3,C,xw7 (prs:=prs) (ys:=ys) zUR λ i y' v hy hp=>h dW y' v hy hp)
    refine⟨84,(q,.str ff,.ref t)::ws,(j3 zzL t)::kvs,jw B a1,dC v b,by rw[Zq,Zq,a3]; rfl,.cons x C⟩;rcases Ad with rfl|z
    . exact A
    . exact a2 _ z
theorem PrsL.pick {H:Hp}:(zSB,d0,(∀(j:Nat) (y:V) (s:Pr),(xB,ss,s,∃ q,pG/\(D8 s))),PrsL H ss rs)
 | [],[],_,_=>zrS
 | [],eK,h,_=>hI
 | eK,[],h,_=>hI
 | ML,mS,hl,h=>by
  show(dA,q,z,x,zwu s);show(ue,rs,v,b,PrsL.pick (ss:=ss) (ys:=ys) zUR λ j y' s' hy hs=>h lG y' s' hy hs,q::rs,jw z v,.cons x b)
noncomputable def xmr (kvs:eG) (i:Nat):V:=match kvs[i]? with|some kv=>zwd|none=>.non
def xtl {Z:L2.St}{fr:fT}{te:TE}{l d:Addr}{H1:Hp}{Q:VK}{ob:Obj}{kvs:eG} (hd:zWc) (hl:nJ) (hn:Il) (F:FM) (stab:DP)
    (step:∀(i:Nat) (k:Key) (x:V) (H2:Hp),(zsp,oB,zua->te ((zdj).set 0 (some (kV k))) H2 N))
    (fin:zfh kvs.length):xcj zZf 1 (xcy 0) Z fr xda te l H1 Q:=by
  refine xk2 kvs.length hn hl (xmr kvs) (λ i H lt s=>⟨zfJ,lt⟩) zLK (λ H s=>⟨zfJ,eV⟩) RR F stab zIX zoP
  . obtain⟨e,k,x,b,j⟩:=y
    ext nY e;unfold xmr;rw[b,j]
  . obtain⟨⟨k,x⟩,b⟩:∃ y,dX kvs y:=iK mV
    have q:xmr kvs i=kV k:=by
      unfold xmr;rw[b]
    show(dP,q,LC (step i k x H2 b s N zlj))
  . rw[L2.filter_all,Zx] at ly
    refine fin ys H2 s e ly λ i y c=>f i y i c ?_;rw[L2.filter_all,ZW (jH,(Zj.mp c).1)]
inductive x15 (K:Zf) (vs:dz) (H:Hp) (Q:VK) (_:XK):Prop
 | mk (l:Addr) (prs:d0) (qs:dJ) (p1 p2:Pr) (e_:vs=[kW,CN p1,CN p2]) (r_:uj/\zg/\(prs.map (·.1.nm)).Nodup/\(dN,Em,p1∈prs,p2∈prs,CF≠CG,∀ H' l' qs',(yj,fZ,fw l',zNn l',PrsL H' zno qs',l')))
theorem xno (T:dZ):FnOk true P w K mg base dS 1 t.f_exchanged t.d_exchanged zlC (x15 K):=by
 refine T.B_exchanged.F.okn (k:=0) xfy (d7 H Q E h) (λ cdv A outer s H vs Q E Z h=>?_)
 .obtain ⟨l,prs,qs,C,v,rfl,_⟩:=h;rfl
 .obtain ⟨l,prs,qs,C,v,rfl,h⟩:=h;refine⟨_,xj (qe 3 xfy.nd (zEK Z (mh,(qb ["each", "side", "row"] [] [] zDo xdy),yx 0,(Xe,ow,R,Sx (pO 0 R ow) (Ce (pO 1 R ow) (pO 2 R ow)),3),Ij,i7,xab (ji 0 (zgr zT)))))
   (xj (qe 4 xfy.nd (xys (xmv im kC (xmv kC im (xx9))) rfl rfl dG dF))
   (iz (mh,(lF "each" ["seats", "giver"] [3,4] zDo xdy),xyv (pv 3),lu,kX,i7,Xt (xb5 (xaq Z) (pv 1) (xoh (xaq Z) kC fA fA ⟨rfl,rfl,rfl,rfl⟩) iw)))),?_⟩
  refine sq3 ?_; intros; obtain⟨hl,pr,R,len,m1,m2,⟨ne,q⟩⟩:47:=h;have ql:=pr.len;ext si l hl l1 ao;refine xbd (ef hl) (lS,LO qs.length 13) ao (GC,∃ p q t,d9 (dX prs p) pG zVZ zeA) (λ i y H H' tp ⟨p,q,t,a1,a2,a3,a4⟩=>(mX,p,q,t,a1,a2,o8 a3,o8 a4)) zbh (sS H1 s1 el1 ly f1)
  .ext zmt;show(dA,p,I,ep,(qbm s2).get ho);ext jC o ep;show(gR,jV,λ q1 M=>⟨jV,dC q2 hq2⟩);show(dy,sa,PF (tf,FH nR,iT) M,sb,PF (xW ff q1) hq2);exact lY (sa.trans sb) (mX,p,q2,q1,I,rfl,xi,sb _ _ xi)
  ext DK ql;obtain⟨ws,kvs,rfl,w2,w3,L⟩:84:=xw7 (H:=H1) (prs:=prs) (ys:=ys) ly λ i y p hy hp=>by
   show(CK,p',q',t',a1,a2,a3,a4,f1 i y hy);ext fe hp a1 a1;exact fJ q' t' a2 a3 a4
  have kl:=L.len;have knd:(kvs.map (·.1)).Nodup:=by
   show(dP,L.keys,xzi (f:=λ p:Pr=>ff) (k:=Jd) qD (λ_ _ e=>zxF) R)
  show(fV,l1,ws,rfl,el1,w2,dC d hd);refine fJ Gh _ jr (dH,w3,xlm (kv0:=[]) knd qp) ?_;rw[W1];generalize eu:kh H1 d kvs=H2;show(iR,s2,su_e hd eu,g2,zyy,ae,L.keep (Same.tups s2));refine λ gd O=>⟨xi,vZ zkP (by show 2<=15; decide) ?_⟩
  rw[xd9];generalize eu:kh H2 gd (xfs [] zkP)=S;ext kQ s3 O g3;show(dy,ac,s3 _ _ g2,U,ae.keep (Same.tups s3));show(fU,aj,gd≠d,y9 g2 O,(gK,d,kvs,ac,d8 ob l4 J));show(dw,ai,l4≠d,y9 xi J,aa,S l4=none,zwS ai J)
  show(dw,k4,kL d (du,S b,u) (yo S d HZ),zaB,t4,Tups S ziy,(sA,k4 _ _ (mZ ac) e));refine xtl xi J (LO kvs.length 13) (GC,∃ p q,(dX prs p)/\pG/\(D8 RG)) (λ i y H H' tp ⟨p,q,a1,a2,a3⟩=>(fJ,p,q,a1,a2,o8 a3)) (λ i k x H5 hk s5 N hN=>?_) zMb
  .show(mU,p,I,U.get hk);show(qH,mp,Zi I,ad,(U.keep t4).keep (Same.tups s5),ab,lA (k4 _ _ aj g3),d5,lA (xi (H:=S) (a:=d) (o:=HZ)));ext R4 q1 M;have X:=PF [.str ff] M;obtain⟨r,Z,ev,es⟩:∃ r∈prs,(valV (xfs [] zkP) (Jd ff)).getD (.str ff)=V.str (lC r)/\(RG).2=r.2:=by
    show ∃ r∈prs,(valV (putK (putK [] (Jd zjf) (V.str zjg)) (Jd zjg) (V.str zjf)) (Jd ff)).getD (.str ff)=V.str (lC r)/\(RG).2=r.2;rw[xco,xco];unfold exP;by_cases c1:ff=zjf
    .refine hB v m2 ?_ zht;rw[(mD,ne (c1.symm.trans (Jd.inj z))),UD c1];rfl
    .by_cases c2:ff=zjg
     .refine (hB,C,m1,?_,fC Tb zzR);rw[UD c2];rfl
     .refine hB p mp ?_ (fC,Tb,d6 c2);rw[(mD,c2 (Jd.inj z)),(mD,c1 (Jd.inj z))];rfl
   show(dA,t,am,ak,(ad.keep (Same.tups X)).find R Z);refine(vZ,gd,.inl (iK,.inl (X _ _ ab)),⟨_,My ff (X _ _ ab),d,.ref t,rfl,?_,q1,t,_,_,rfl,rfl,zzE,fX ak,dG,Fo,λ z=>(by simp[xa4] at z),λ_ q2 hq2=>?_⟩)
   .rw [show kV (Jd ff)=V.str ff from rfl,ev];show(iE,(uH,kvs,.inr (lC r),.inr (GE,X _ _ d5),am.symm))
   .refine lY (X.trans (h9 hq2)) (uH p q2 I ?_);rw[xi];unfold prV;rw[(jK,(RG).1,eA,rfl),(jK,(RG).2,r.2,es)];rfl
  .obtain ⟨af,rfl,ah⟩:62:=PrsL.pick (H:=H5) (ss:=prs.map (exP C v)) (ys:=ys) (ma ly5 kl Za) λj y s hy hs=>by
    show(hJ,p,q',a1,a2,a3,f5 j y hy);ext rK a1 hs;ext Dc hs q' a2 a3
   have Y:=(SW).trans s3;refine q H5 l4 af (gC,lA (k4 _ _ (xb zV hd) (Y _ _ e))) (Y.free aa) el5 ah
noncomputable def totI (w:Int) (prs:d0):Int:=(prs.map (xbe w)).sum
noncomputable def upI (w:Int) (prs:d0):Int:=(prs.map (uprI w)).sum
noncomputable def nmF (n:Str) (p:Pr):Bool:=gk ff n
noncomputable def nxtP (w:Int) (ss:dE) (prs:d0):d0:=match zqh with
 | some tr=>match Px tr.1,Px (eE tr) with
  | some p1,some p2=>zno
  | _,_=>prs
 | none=>prs
noncomputable def itP (w:Int) (ss:dE) (prs:d0):Nat->d0
 | 0=>prs
 | gu=>EG
noncomputable def trP (w:Int) (ss:dE) (prs:d0):Tr:=(zqh).getD ("", "",0,0)
noncomputable def stP (w:Int) (ss:dE) (prs:d0) (k:Nat):zwT:=(trP w ss wG,totI w zUZ,upI w zUZ)
structure GPr (ps:dL) (w h:Int) (prs:d0):Prop where
 ok:zqp
 nn:(prs.map (·.1.nm)).Nodup
 ns:(prs.map (·.2)).Nodup
 le:Em
theorem xh9 {prs:d0} (nd:(prs.map (·.1.nm)).Nodup) {p:Pr} (h:S2):du (Px ff) p:=by
 induction prs with
 | nil=>cases h
 | cons q ps ih =>
  ext wQ;rcases Ae with rfl|z
  .exact YN (ie nmF)
  .rw [Wx]
   .exact ih n6 z
   .intro e
    exact nd.1 (Zc.mpr (dB,p,z,(N5).symm))
theorem x_ne {ps:dL} (nx:(ps.map (·.x)).Nodup):∀{p q:Pt},(eC,ut,q∈ps,p.nm≠q.nm,p.x≠q.x):=by
 induction ps with
 | nil=>intro p q h; cases h
 | cons r ps ih =>
  intro p q j f i e;rw[Zq,ZH] at nx;rcases zzx with rfl|z
  .rcases S7 with rfl|b
   .exact i rfl
   .exact nx.1 (Zc.mpr (dB q b e.symm))
  .rcases S7 with rfl|b
   .exact nx.1 (Zc.mpr (Vd z))
   .exact ih nx.2 z b i e
def xxu {ps:dL}{w h:Int}{p:Pr} (o:Ex) (hw:mR) (hh:sO):oR S3 45:=by
 ext Hw o;ext zpR
def xz7 {ps:dL}{w h:Int}{p:Pr} (o:Ex) (hw:mR) (hh:sO):oR zfK 450:=by
 ext Hw o;show(dw,c,oR zfL 30,XH,b,oR V9 15,RU)
 unfold uprI;show(nY,Int.mul_nonneg fK pk);show(dy,q,Int.mul_le_mul_of_nonneg_right ir pk,j,Int.mul_le_mul_of_nonneg_left b.2 (zq,pT<=30));exact Int.le_trans q j
theorem xr2 {f:Pr->Int}{c:Int} (c0:0<=c):∀{prs:d0},(∀ p∈prs,(oR,f p,c))->(oR,zUN,c*(eg prs.length))
 | [],_=>dG
 | wb,h=>by
  show(dy,i,h p Zo,b,xr2 c0 (prs:=r) λ q hq=>h q (Zm _ hq));rw[Zq,J5,ZF];rw[(gE,(jf zdS)=(lX r.length)),QX,Int.mul_one]
  lia
def GPr.tot {ps:dL}{w h:Int}{prs:d0} (g:Lb) (hw:mR) (hh:sO):oR wR 540:=by
 show(dy,z,xr2 (f:=xbe w) (c:=45) dF (lR,xxu (g.ok p hp) hw hh),l,g.le);unfold totI
 lia
def GPr.up {ps:dL}{w h:Int}{prs:d0} (g:Lb) (hw:mR) (hh:sO):oR RN 5400:=by
 show(dy,z,xr2 (f:=uprI w) (c:=450) dF (lR,xz7 (g.ok p hp) hw hh),l,g.le);unfold upI
 lia
def xog {ps:dL}{w h:Int}{ss:dE}{prs:d0}{tr:Tr} (nx:(ps.map (·.x)).Nodup) (g:Lb) (ht:du zqh tr) :
    ∃ A p1 B p2 C c,prs=zmy/\zJK/\tr=zvV/\CF≠CG/\Ey=prs.map zey/\Ey=zEe/\(zin Ey) /\
      (zvu<wR\/(gf,zhB,zhC,zvu=wR,RN<upI w Ey)):=by
  obtain⟨A,p1,B,p2,⟨C,c,e,J,R⟩⟩:121:=xko (List.mem_of_mem_head? ht);obtain⟨X,O⟩:=xsu g.nn e;show(dw,Q,p1∈prs,CU,P,p2∈prs,CU)
  show(dy,j,g.ok p1 Q,b,g.ok p2 P);have M:Ey=prs.map zey:=by
    unfold nxtP;rw[ht];subst R;show (match Px CF,Px CG with
    | some p1,some p2=>zno
    | _,_=>prs)=_
    rw[xh9 g.nn Q,xh9 g.nn P]
  have H:=M.trans X;have U:(yH,Geo.meet (cel w p1) (cel w p2)):=λ z=>by
    unfold canO at J;rw[z] at J;ext SJ J
  have T:p1.1.x≠p2.1.x:=x_ne nx (ZY j.fd) (ZY b.fd) O;have hs:(zhB,fH p1)≠(zhC,fH p2):=λ z=>by
    have v:=g.ns;rw[e,Zt,Zq,ZE,ZH] at v;exact (eE v).1 (tT,jK p1.2 p2.2 z)
  have K:=Geo.ex_pair (y1:=p1.1.y) (y2:=p2.1.y) j.xy.1 (eE j.xy) b.xy.1 (eE b.xy) T hs U;show(fV,121,A,p1,B,p2,gW 86 C c e J R O M (kB,H,zuY L ?_))
  . rw[H] at L
    have D:∀ q,q∈A\/q∈B\/q∈C->q∈prs:=λ q hq=>by
      rw[e];simp only[Zz,Zu];rcases hq with z|z|z
      . ext iE z
      . show(hX,SB z)
      . exact .inr (.inr zYS)
    simp only[Zz,Zu] at L;rcases L with z|rfl|z|rfl|z
    . show(zyb,.inl z)
    . exact eY j.nm j.fd b.r1 b.r2 j.xy
    . show(zyb,SB z)
    . exact eY b.nm b.fd j.r1 j.r2 b.xy
    . ext zyb zYS
  . show(gZ,v,g.nn,e,v);rw[H];simpa using v
  . show(gZ,v,g.ns,e,v);rw[H];refine (JU.nodup_iff ?_).mp v;simp only[Zt,Zq];ext zUA;exact ((Qg.cons p1.2).trans (JU.swap _ _ _)).trans (Qg.symm.cons p2.2)
  . show(fG,M,Za,g.le)
  . have t0:wR=totI w A+(xbe w p1+(totI w B+(xbe w p2+totI w C))):=by
      unfold totI;rw[e];simp
    have t1:zvu=totI w A+(xbe w zdm+(totI w B+(xbe w zdn+totI w C))):=by
      unfold totI;rw[H];simp
    have u0:RN=upI w A+(uprI w p1+(upI w B+(uprI w p2+upI w C))):=by
      unfold upI;rw[e];simp
    have u1:upI w Ey=upI w A+(uprI w zdm+(upI w B+(uprI w zdn+upI w C))):=by
      unfold upI;rw[H];simp
    have I:(zMf<zMg)\/(gf,zhB,zhC,zMf=zMg,uprI w p1+uprI w p2<uprI w zdm+uprI w zdn):=K;rcases I with z|⟨S,Z,Y⟩
    . ext iE dk
    . show(hX,dB S dk dk)
noncomputable def muP (w:Int) (prs:d0):Nat:=(wR*6000+(6000-RN)).toNat
inductive StL (H:Hp):GS Rj
 | nil:StL H [] []
 | cons {p:zwT}{t q:Addr}{ps:Rj}{ts:dJ} (h:zCp) (hq:zJN) (r:zcZ):StL H MP (t::ts)
theorem StL.keep {H H':Hp} (s:nu) {ps:Rj}{ts:dJ} (h:zcZ):StL H' ps ts:=by
 induction h with
 | nil=>ext pU
 | cons h hq _ ih=>exact .cons zhS (s _ _ hq) ih
theorem StL.len {H:Hp}{ps:Rj}{ts:dJ} (h:zcZ):ts.length=ps.length:=by
 induction h with
 | nil=>rfl
 | cons _ _ _ ih=>ext wj
theorem StL.snoc {H:Hp}{ps:Rj}{ts:dJ} (h:zcZ) {p:zwT}{t q:Addr} (e:zCp) (eq:zJN):StL H zyH (ts++[t]):=by
 induction h with
 | nil=>exact .cons e eq .nil
 | cons h hq _ ih=>exact .cons h hq ih
inductive x2w (K:Zf) (t:Adr) (vs:dz) (H:Hp) (Q:VK) (_:XK):Prop
 | mk (a dp do_ l:Addr) (pw ph:Int) (ps:dL) (ss:dE) (prs:d0) (qs:dJ) (e_:EF) (r_:kK/\wJ/\uj/\zg/\GPr ps pw ph prs/\(ps.map (·.x)).Nodup/\∀(H':Hp) (tp ln ls:Addr) (n:Nat) (qs' sq:dJ),eC fZ (fw ln) (Ej tp (rE,.ref ln,ls)) (ft,zNn ln,PrsL H' (CJ pw n) qs',nH ls (.lst (sq.map V.ref)),StL H' ((AZ).map (stP pw ss prs)) sq,(yj,(∀ k<n,(yH,(cans pw ss (CJ pw k)).head?)),(∀ k,GPr ps pw ph (CJ pw k)),cans pw ss (CJ pw n)=[],ln≠ls,tp)))
theorem xjs {ps:dL}{w h:Int}{ss:dE}{prs:d0} (nx:(ps.map (·.x)).Nodup) (g:Lb):∀ k,zin wG
 | 0=>g
 | gu=>by
  have b:=znv;show zin EG;cases e:zYL with
  | none =>
   unfold nxtP;ext pZ b
  | some tr =>
   obtain⟨_,_,_,_,⟨_,_,_,_,_,_,_,_,g',_⟩⟩:121:=xog nx b e;exact g'
def xot (T:dZ):FnOk true P w K mg base dS 9 t.f_uncrossed t.d_uncrossed jp (x2w K t):=by
 refine T.B_uncrossed.F.okn (k:=8) xb2 (d7 H Q E h) (λ cdv A outer s H vs Q E hr h=>?_)
 .obtain ⟨a,dp,aa,l,y,ph,ps,ss,prs,qs,rfl,_⟩:=h;rfl
 .obtain ⟨a,dp,aa,l,y,ph,ps,ss,prs,qs,rfl,h⟩:=h;refine⟨_,xj (pS 2 xb2.nd (xbt xn3 rfl T.n_list boot_list nN))
   (xj (SS 3 xb2.nd)
   (xj (pS 4 xb2.nd zAW)
   (xj (xg1 Z7 (zfl 4) (xj (yi 4 (rX 5 xb2.nd 6 7))
   (xj (pS 2 xb2.nd (pC (xno T) hr T.B_exchanged.g T.B_exchanged.F.kp T.B_exchanged.b (ji 2 (lM 5 6))))
   (xj (xaz (Pe jj (zgr (ji 5 (ji 6 (ji 7 (pI (pC (xn8 T) hr T.B_total.g T.B_total.F.kp T.B_total.b (pd 2)) (pC (xrc T) hr T.B_upright.g T.B_upright.F.kp T.B_upright.b (pd 2)))))))))
   (xm (pS 4 xb2.nd zAW))))))
   (E4 Lk)))),?_⟩
  refine sq5 ?_; intros; obtain⟨X,st,hl,pr,g,nx,q⟩:47:=h;obtain⟨⟨aK,hp⟩,_,w1,w2,h1,h2,_⟩:=id X;have J:=xjs (ss:=ss) nx g;refine(gK,l,_,vm hl,dC ac ae);show(NS,i5 ac m7,ae);ext vS zJs ls Y;have aF:fw ls:=s1.free Y;generalize eu:DJ H1 ls=H2;have s2:=su_e Y eu;show(dy,g2,ug_e eu,ab,s1.trans s2);show(fU,a9,ac≠ls,xb g1 Y,⟨a,dp,aa,ac,y,ph,ps,ss,prs,qs,rfl,(jN,qY ab X,st.same ab,Ba g1,qbm ab,g.ok,hF H3 v s3 tv)⟩);ext zMA; have ap:=ab.trans s3;have aB:∀ k,zxk<3300000:=λ k=>by
   show(dy,z1,(J k).tot w2 h2,z2,(J k).up w2 h2);unfold muP
   lia
  show(iF,λ m Z H5=>∃(k:Nat) (L:Addr) (v v5 v6 v7:f7) (vf:V) (I M:dJ),(nW,m,zxk,k+m<=zvp,Z=[hU,nM,dR L,dR ls,some vf,v5,v6,v7],(oU,FQ,fw L,L≠ls,(du,H5 L,.lst (I.map V.ref)),PrsL H5 zU I,(du,H5 ls,.lst (M.map V.ref)),StL H5 ((Zv k).map (stP y ss prs)) M,(∀ j<k,(yH (zrp (CJ y j)))),TrV H5 (zrp zU) vf)),m6 121 0 ac none (m6,121,_,_,v,Ar qs [] (wU,0+zvp,_) rfl ap ae (kE,a9,s3 _ _ (s2 _ _ g1),pr.keep (Same.tups ap),s3 _ _ g2,.nil,λ j hj=>absurd hj zox,tv)));rintro m Z H5 (⟨k,L,_,v5,⟨v6,v7,vf,I,M,rfl,km,rfl,s5,aG,aA,ax,as,D,af,az,a5⟩⟩:121);have sl:=af.len;ext lE Zx sl;have mb:=aB 0;rcases a5 with⟨en,rfl⟩|⟨tr,qf,qc,et,rfl,hqf,hqc⟩
  .ext Lp zvD;ext lU tp aE;have s6:=PF (rE,.ref L,ls) aE;exact q _ tp L ls k I M (s5.trans s6) aG xi (sX ax) (as.keep (Same.tups s6)) (sX D) (af.keep (Same.tups s6)) az J (List.head?_eq_none_iff.mp en) aA
  .ext Lp zvf;obtain⟨A,p1,B,p2,⟨C,c,e,hc,aH,ne,en,el,g',aI⟩⟩:121:=xog nx (J k) et;subst aH;have m1:p1∈zU:=CU
   have m2:p2∈zU:=CU
   have aC:muP y oH<zxk:=by
    show(qH,z1,(J k).tot w2 h2,z2,(J k).up w2 h2,z3,(G2).tot w2 h2,z4,(G2).up w2 h2);have aJ:totI y oH<totI y zU\/(gf,zhB,zhC,totI y oH=totI y zU,upI y zU<upI y oH):=aI;unfold muP
    lia
   let Pm (σ':L2.St) (H9:Hp):Prop:=∃(L:Addr) (v5 v6 v7:f7) (vf:V) (I M:dJ),(oU,σ'=[hU,nM,dR L,dR ls,some vf,v5,v6,v7],hZ H9,fw L,L≠ls,(du,H9 L,.lst (I.map V.ref)),PrsL H9 oH I,(du,H9 ls,.lst (M.map V.ref)),StL H9 ((Zv gu).map (stP y ss prs)) M,TrV H9 (zrp oH) vf)
   show(iF,Pm,?_)
   .rintro σ' H9 (⟨aD,v5,v6,v7,⟨vf,a7,sq9,e1,e2,e3,e4,e5,e6,e7,e8,e9⟩⟩:121);refine(hD,aC,oX gu aD none v5 (oX,v6,v7,vf,a7,xR sq9 dk e1 e2 e3 (kE,e4,e5,e6,e7,e8,dC j hj,e9)));by_cases cj:j=k
    .subst cj;ext dP et rP
    .exact az j dk
   refine sq4 ?_; intros; ext jC qf hqf;refine⟨L,_,I,p1,p2,rfl,(Do,ax,as,(J k).nn,(J k).le,m1,m2,ne,λ H6 l6 R s6 aj ai ar=>?_)⟩;rw[<- en] at ar;have U:PrsL H6 oH R:=ar;have ao:=s5.trans s6;show(sK,a0,fw l6,s5.free aj,au,l6≠ls,y9 D aj,⟨.inl (Dk,_,ef (s6 _ _ D)),a,dp,aa,l6,y,ph,ps,oH,R,rfl,qY ao X,ai,U,(G2).ok,(G2).le,dC H7 s7⟩);have am:=ao.trans s7;refine⟨a,dp,aa,l6,y,ph,ps,oH,R,rfl,(jN,qY am X,s7 _ _ ai,zbw s7,(G2).ok,(G2).le,dC H8 s8)⟩;ext zgy p9 av;have O:=(zdf).trans s8;show(dy,s9,PF (zlm,((oH).map (xbe y)).sum,((oH).map (uprI y)).sum) av,aw,s9 _ _ (O _ _ D));refine(mQ,ls,_,_,li aw ?_ ?_)
   .rw [Za];exact ZN (by have z:zvp<3300000:=mb; lia:M.length<3300000) dF
   have a8:p9≠ls:=oY (O _ _ D) av;obtain⟨HA,ad⟩:∃ HA,HA=(iQ (jI H8 p9 (zlm,((oH).map (xbe y)).sum,((oH).map (uprI y)).sum)) ls (M.map V.ref++[.ref p9])):=iP
   have kA:kL ls (du,H8 b,u) (du,HA b,u):=λb u nb e=>by
    show(fG,ad,U5,s9 _ _ e)
   have tA:Tups H8 HA:=(sA,kA _ _ (mZ (O _ _ D)) e);have ah:hZ HA:=(gC,kA _ _ (xb e aF) (s8 _ _ (am _ _ e)));have gA:(du,HA ls,.lst ((M++[p9]).map V.ref)):=by
    rw[ad,xi,Zt];rfl
   have gp:HA p9=some (.tup (zlm,((oH).map (xbe y)).sum,((oH).map (uprI y)).sum)):=by
    show(fG,ad,xg a8,xi)
   have ay:=kA _ _ au (s8 _ _ (s7 _ _ ai));show(dy,aq,((zbw s7).keep (Same.tups s8)).keep tA,a6,(af.keep (Same.tups O)).keep tA);rw[<- ad];refine⟨a,dp,aa,l6,y,ph,ps,ss,oH,R,rfl,(jN,qY ah X,st.same ah,ay,aq,(G2).ok,hF HB vB sB a4)⟩;show(fV,121,l6,_,_,_,⟨106,vB,R,M++[p9],rfl,ah.trans sB,a0,au,sB _ _ ay,(fQ,aq.keep (Same.tups sB),sB _ _ gA,?_,a4)⟩);rw[JB,Zt];refine StL.snoc (p:=stP y ss prs k) (q:=qc) (qbl sB) ?_ ?_
   .have ak:trP y ss (itP y ss prs k)=(p1.1.nm,p2.1.nm,c):=by
     unfold trP;rw[et];rfl
    unfold stP;rw[ak];exact sB _ _ gp
   .have ak:trP y ss (itP y ss prs k)=(p1.1.nm,p2.1.nm,c):=by
     unfold trP;rw[et];rfl
    unfold stP;rw[ak];exact sB _ _ (tA _ _ (O _ _ hqc))
noncomputable abbrev seF (d1 d2:Addr):oE:=[j3 "seat_of" d1,j3 "holder_of" d2]
def lkSo {d1 d2:Addr}:(zew).lookup (iH "seat_of")=(dR d1):=by
 unfold seF;show(zbx,"seat_of","seat_of")
def lkHo {d1 d2:Addr}:(zew).lookup (iH "holder_of")=(dR d2):=by
 unfold seF;show(HD,"holder_of","seat_of",zJO)
def xn5 {d1 d2:Addr}{m:Str} (e:((["seat_of", "holder_of"]:dD).all λ k=>zeG)=true):(zew).lookup m=none:=by
 ext V0;ext Ff c b e;unfold seF;ext zsx zJO
noncomputable def SoD (H:Hp) (d:Addr) (n:Nat) (so:fh):Prop:=∃ kvs:eG,Gi/\zqX/\∀ nm,((Ga nm)->FU=none)/\∀ s,(du,so nm,s)->∃ q,FU=C0/\Gc
noncomputable def HoD (H:Hp) (d:Addr) (n:Nat) (ho:dQ):Prop:=∃ kvs:gJ,LY/\zqX/\∀ s,TR=(DA).map V.str
def SoD.keep {H H':Hp}{d:Addr}{n:Nat}{so:fh} (s:zcn) (tp:nu) (h:zwH):SoD H' d n so:=by
 ext O1;show(j5,kvs,h _ e,l,λ nm=>⟨(f nm).1,jM (E3,q,a,b,(f nm).2 s hs,a,o8 b)⟩)
def HoD.keep {H H':Hp}{d:Addr}{n:Nat}{ho:dQ} (s:zcm) (h:zwH):HoD H' d n ho:=by
 ext zPh
def HoD.le {H:Hp}{d:Addr}{n k:Nat}{ho:dQ} (s:zcm) (h:n<=k):HoD H d k ho:=by
 ext zle
def SoD.le {H:Hp}{d:Addr}{n k:Nat}{so:fh} (s:zcn) (h:n<=k):SoD H d k so:=by
 ext zle
def HoD.get {H:Hp}{d:Addr}{n:Nat}{ho:dQ} (s:zcm) {b:Addr}{c:Seat} (eb:zwN):zgt ((ho c).map V.str):=by
 ext O1;show(mL,f c,(LL,xz c,e,eb))
def HoD.put {H:Hp}{d:Addr}{n:Nat}{ho:dQ} (s:zcm) (hn:TW) {b:Addr}{c:Seat} (eb:zwN) (x:Str) :
    ∃ H',(dN,zQO,HoD H' d iZ (Kp.upd1 ho c x),znU,nu,zoO):=by
  ext O1;show(zTs,(UM,xz c,e,eb,Gn),zJn)
  . show(gV,xbo kvs (xz c) (.str x))
  . rw[xco]
    unfold Kp.upd1;by_cases zc:z=c
    . ext zZM
    . rw[(A7,zc (xht y)),zzS]
      exact f z
def SoD.put {H:Hp}{d:Addr}{n:Nat}{so:fh} (s:zcn) (hn:TW) {b:Addr}{c:Seat} (eb:zwN) (x:Str) :
    ∃ H',(dN,DPut H d qT qS H',SoD H' d iZ (Kp.upd1 so x c),znU,nu,zoO):=by
  ext O1;have tp:Tups H (kh H d (putK kvs Av qS)):=zJn
  show(zTs,Cg Av e Gn,tp)
  . show(gV,xbo kvs Av qS)
  . rw[xco]
    unfold Kp.upd1;by_cases zc:z=x
    . subst zc
      rw[gq,gq];show(dO,zqm,jM (nU,b,by cases hs; exact o8 eb))
    . rw[(A7,zc (Jd.inj y)),zzS]
      show(dO,(f z).1,jM (E3,q,a1,a2,(f z).2 s hs,a1,o8 a2))
theorem SoD.get {H:Hp}{d:Addr}{n:Nat}{so:fh} (s:zcn) (x:Str):((Ga x)/\DGet H d qT none)\/∃ c q,(du,so x,c)/\DGet H d qT C0/\(qbR c):=by
 ext O1;have g:=tU Av e;cases z:so x with
 | none =>
  rw[(f x).1 z] at g;show(iE,hR g)
 | some c =>
  show(dA,q,b,a,(f x).2 c z);rw[b] at g;show(hX,gK c q g a)
structure Sg (t:Adr) (H:Hp) (p d1 d2:Addr) (n:Nat) (so:fh) (ho:dQ):Prop where
 ins:∃ dx,eO p (ro t.C_n zew)
 so:SoD H d1 n so
 ho:HoD H d2 n ho
def Sg.keep {t:Adr}{H H':Hp}{p d1 d2:Addr}{n:Nat}{so:fh}{ho:dQ} (g:La) {d:Addr} (h1:p≠d) (h2:d1≠d) (h3:d2≠d) (tp:nu) (k:D0 d):Iq H' n :=
 (zJM,(Vk,Nq h1),g.so.keep tp (jO,Nq h2),(jO,Nq h3))
def Sg.same {t:Adr}{H H':Hp}{p d1 d2:Addr}{n:Nat}{so:fh}{ho:dQ} (g:La) (s:fZ):Iq H' n :=
 (zJM,zgT,g.so.keep (Same.tups s) (jO xQ),jO xQ)
def Sg.le {t:Adr}{H:Hp}{p d1 d2:Addr}{n k:Nat}{so:fh}{ho:dQ} (g:La) (h:n<=k):Iq H k:=(dB,g.ins,g.so.le h,g.ho.le h)
noncomputable def KB (H H':Hp) (d1 d2:Addr):Prop:=∀ b u,(eC,b≠d1,b≠d2,pH,zre)
inductive xut (t:Adr) (vs:dz) (H:Hp) (Q:VK) (_:XK):Prop
 | mk (p dx:Addr) (e_:vs=[mN]) (r_:(eO p zYZ)/\∀ H' d1 d2,(ft,fw d1,fw d2,D0 p,Sg t H' p d1 d2 0 jG jG,se))
structure xws (room:oN) (so:fh) (asked:dQ) (rk:Str->Nat) (name:Str):Prop where
 rm:∀ s a,vh->Gq
 no:∀ s a,vh->(Ga a)->a=name
 up:∀ s a,vh->∀ s1,zWO->∃ a1,(du,asked s1,a1)/\rk a1<rk a
 le:∀ s a,vh->rk a<=20
inductive x02 (t:Adr) (vs:dz) (H:Hp) (Q:VK) (_:XK):Prop
 | mk (p d1 d2 d3 q:Addr) (n m:Nat) (room:oN) (so:fh) (ho asked:dQ) (rk:Str->Nat) (name a:Str) (s:Seat) (e_:vs=(Ch mN d3 q)) (r_:Gc/\(dN,La,HoD H d3 m asked,d3≠d2,n<=600,(dN,Bw,EW,vh,xws room so asked rk name,∀ H' so' ho',zqJ->(F2 EZ)->(ft,znN Nh,zar,Oa (PK||EA),Kp.Rch N7 zuu Ki,se))))
def ok_aq (T:dZ):FnOk true P w K mg base dS 1 t.f_aq t.d_aq nD (xut t):=by
 refine T.aq.F.okn (k:=0) sc_aq (d7 H Q E h) (λ cdv A outer s H vs Q E hr h=>?_)
 .ext Bp p y
 .ext BC p y;refine⟨_,xj Le
   (xm (Cj (xfv))),?_⟩
  refine sq2 ?_; intros; ext uY M;ext DD I v;show(fU,x,p≠I,xb M v,⟨126,p,_,y,_,rfl,(gS x M),T.c_n,T.n_bk,(OH 0),dC C m⟩);show(dw,D,p≠C,xb xi m,L,I≠C,xb (GU Ur) m);refine vb p y (gS D xi) T.c_n T.n_bi 1;have j:fw C:=by
   have z:=m;show(FA,rh D,ziE)
  refine q _ I C v j (lP J ?_) (rG ⟨y,xi⟩ (zjs,?_,λ nm=>⟨qD,λ s z=>(nomatch z)⟩) (zjs,?_,λ s=>rfl))
  .rw [xg J,lB j,xg J,lB v];exact e
  .ext zXx
  .ext Lo D
def ok_s (T:dZ):FnOk true P w K mg base dS 1 t.f_s t.d_s zlw (x02 t):=by
 refine T.s.F.okn (k:=0) sc_s (d7 H Q E h) (λ cdv A outer s H vs Q E hr h=>?_)
 .obtain ⟨p,v,D,d3,q0,n,m,room,j,J,asked,I,name,a0,s0,rfl,_⟩:=h;rfl
 .obtain ⟨p,v,D,d3,q0,n,m,room,j,J,asked,I,name,a0,s0,rfl,h⟩:=h;refine⟨_,xj (pS 3 sc_s.nd (pv 2))
   (xm (xg1 Z7 (zfl 3) (xj (pS 4 sc_s.nd (xb5 jx (pv 1) jj iw))
   (xj (pS 5 sc_s.nd (xvo jx gB lm zSl))
   (xj (uf gB lm jj)
   (xj (uf gB jj lm)
   (xm (pS 3 sc_s.nd (pv 5))))))))),?_⟩
  refine sq2 ?_; intros; obtain⟨a8,sg,aq,a4,aH,mt,⟨a7,au,ch,q⟩⟩:47:=h;refine gx ?_; refine wo ?_; intros; refine(rG,λ k Z Y=>∃ O v4 v5,(nW,Z,zFy,KB H Y v D,(F2,Y b=none),(zAt,(gf,O,.non,k=0,zKZ (Vs Y Nh so' ho') (PK||zsq)),(du,Y qs,.tup (xa4 s)),k=I a+1,Vs Y n1 so1 ho1)),(zcU,I a0+1,λ b u _ _ e=>e,yG e,.inr (oX q0 s0 a0 j (Ar,J,n,a8,au,rfl,mt.hand a7,⟨44,iw,sg,(jH,ch.le _ _ au),vw⟩))),?_);rintro k Z Y (⟨O,v4,v5,rfl,kb,fr,cs⟩:104);show(Ci,?_);rcases cs with⟨rfl,rfl,so',ho',sg',mt',dm',rc'⟩|⟨qs,s,a,so1,ho1,n1,rfl,hqs,asd,rfl,hand,low,sg1,nb,rc1⟩
  .exact ifN dF (q Y so' ho' kb fr sg' mt' dm' rc')
  .refine ifP (ib zWK) (kB (LR,∃ k',k'<I a+1/\∃ O v4 v5,(nW,σ',zFy,KB H H' v D,F2 EZ,(zAt,(gf,O,.non,k'=0,zKZ (Vs H' Nh so' ho') (PK||zsq)),zmq,k'=I a+1,Vs H' n1 so1 ho1))) zXE);refine sq5 ?_; intros; obtain⟨C,y⟩:=sg1.ins;show(iu,ka,aC,id aq);show(RC,k1,L,sg1.so,k2,am,sg1.ho);show(RC,aK,ao,sg.so,aJ,aI,sg.ho);show(dw,a5,d3≠v,ne_f aC ao,ai,v≠D,ne_f L am);show(dy,ap,aq.keep (H':=Y) (jO,kb _ _ a5 a4 e),gt,ap.get hqs);rw[asd] at gt;show(MM,d3,ziQ,gt,?_);show(dy,U,low a eV,ah,ch.rm _ _ asd);show(dw,ay,p≠v,ne_f y L,ax,p≠D,ne_f y am)
   -- the two puts
   show(uc,H2,as,aw,ab,ae,aE,sg1.so.put dk hqs a);show(iR,ac,ab _ _ ay y,ak,ae _ _ hqs,aB,sg1.ho.keep (H':=H2) (jO,ab _ _ (Z2 ai) e));show(uc,H3,ar,aA,aa,ad,aD,aB.put dk ak a);show(dy,av,aw.keep ad (jO,aa _ _ ai e),a9,aa _ _ ax ac);show(fE,aj,KB H H3 v D,(zuK,aa _ _ b2 (ab _ _ b1 zVX)),X,(F2,H3 b=none),(yG,aD _ (aE _ (fr _ e))),af,Vs H3 (n1+1) (Kp.upd1 so1 a s) (Kp.upd1 ho1 s a),dB ⟨C,a9⟩ av aA)
   rcases sg1.so.get a with⟨e0,g0⟩|⟨s1,q1,e1,g1,hq1⟩
   .ext zAs none g0;have an:a=name:=ch.no _ _ asd (gF U e0);obtain⟨a6,aF⟩:=hand.last ah e0;show(eB,0,dk,(TH,_,aj,X,.inl (MR (eP,84,_,_,af.le dk,a6,(λ z=>(fC,aF z,an)),.step rc1 (Kp.k_fin asd e0)))))
   .show(zAs,dR q1,g1);show(dA,a1,aG,lt,ch.up _ _ asd s1 (gF U e1));show(gG,I a1+1,dk,(TH,_,aj,X,.inr (oX q1 s1 a1 _ (Ar,_,n1+1,ad _ _ (ae _ _ hq1),aG,rfl,hand.step ah e1,(fQ,Cq,af,dk,.step rc1 (Kp.k_hand asd e1))))));have az:b≠a:=λ z=>by rw[z] at hb; lia
    show Kp.upd1 so1 a s b=j b;unfold Kp.upd1;show(qV,az,low b dk)
structure Bf (room:oN) (ho:dQ) (name:Str) (crowd:dD) (al:dE) (asked:dQ):Prop where
 cr:crowd.length=al.length+1
 c0:lQ crowd 0 name
 hd:(zKG,∃ h,(lQ crowd lG h)/\IR)
 nd:al.Nodup
 no:∀ s,LU->OT
 ak:(zKG,∃ k a,(d9,k<=j,Uh,vh,Gq))
def xw3 {α:Type}{l:fc} (nd:l.Nodup) {i j:Nat} (hi:i<l.length) (hj:j<l.length) (e:l[i]=l[j]):i=j:=by
 rcases Nat.lt_trichotomy i j with h|h|h
 .show(gz,e,JP.mp nd i j hi hj h)
 .exact h
 .show(gz,e.symm,JP.mp nd j i hj hi h)
section
variable {room:Str->List Seat}{so:Str->Option Seat}{ho asked:Seat->Option Str}{name:Str}{crowd:List Str}{al:List Seat}
def Bf.start:Bf room ho name Mb [] jG:=⟨rfl,rfl,UC s,Yh,iw,UC s⟩
theorem Bf.at_ (b:B1) (mt:Bw) {k:Nat}{a:Str} (e:Uh):(k=0/\a=name)\/∃ j s,gf k lG (gU al s) zqQ:=by
 cases k with
 | zero =>
  left;rw[b.c0] at e;show(dO,rfl,(zfS).symm)
 | succ j =>
  right;have lt:j<al.length:=by
   show(vA,ztu,b.cr)
  show(dA,h,q,u,b.hd j _ mV);ext fe e q q;exact(gK,j,_,mV,(mt.iff _ _).mpr u)
def Bf.inj (b:B1) (mt:Bw) (sn:wX) {k l:Nat}{a:Str} (e:Uh) (e':lQ crowd l a):k=l:=by
 rcases b.at_ mt e with⟨rfl,rfl⟩|⟨j,s,rfl,h1,h2⟩<;>rcases b.at_ mt e' with⟨rfl,h⟩|⟨j',s',rfl,h1',h2'⟩
 .rfl
 .ext AE sn h2'
 .rw [h,sn] at h2;cases h2
 .rw [h2] at h2';cases h2';show(h8,x,q,Zj.mp h1,y,c,Zj.mp h1');show(gV,xw3 b.nd x y (fC q c))
def Bf.nodup (b:B1) (mt:Bw) (sn:wX):crowd.Nodup:=by
 refine JP.mpr λ i j c a lt e=>?_;show(gV,b.inj mt sn AW (by rw[e]; exact Zb a))
def Bf.add (b:B1) {i:Nat}{a h:Str}{s:Seat} (ea:BH) (ra:Gq) (ns:LU) (hh:IR):Bf room ho name KE ui D5:=by
 show(dy,D,b.cr,L,xU ea);have q:zPL (wp KE x):=λ{k x} e=>by
  show(lZ,ZL (Zj.mp e).1)
 show(fV,by rw[Zn,Zn,D]; rfl,q b.c0,zxe,?_,dC z nz,zxe)
 .by_cases c:j<al.length
  .show(rF,ZL c);show(ue,h',C,B,b.hd j z e,h',q C,B)
  .ext zBd;ext Bg h hh;rw[<- D,Jc (Zl _),Nat.sub_self];rfl
 .rw [ZE];show(eB,b.nd,dG,λ x I y H e=>ns (by show(eW,Zs.mp H,e,e▸I)))
 .show(zuq,(Cd,e,nz (dH e Tg)),b.no z λ y=>nz (ZO _ y))
 .by_cases c:j<al.length
  .show(rF,ZL c);show(qG,k,x,C,B,K,J,b.ak j z e);show(fW,84,k,x,C,q B,?_,J);show(zuq,(A7,ns (by rw[<- y]; exact Zi e)),K)
  .ext zBd;show(fW,84,i,a,dk,q ea,?_,ra);unfold Kp.upd1;rw[gq]
def Bf.chain (b:B1) (mt:Bw) (sn:wX) (c20:crowd.length<=20) {i:Nat}{a:Str}{s:Seat} (ea:BH) (ra:Gq) (ns:LU):xws room so D5 (λ z=>crowd.idxOf z) name:=by
 have D:(zPL,crowd.idxOf x=k):=λ{k x} e=>by
  show(dy,m,Zi e,lt,List.idxOf_lt_length_of_mem m);refine b.inj mt sn (a:=x) ?_ e;rw[mV,List.getElem_idxOf]
 have v:∀ s' q,(du (zwc a s') q)->s'∈room q/\∃ k,TC q:=λ s' q e=>by
  ext zUw
  .rename_i h
   cases e;rw[h];ext eB ra i ea
  .by_cases h:s'∈al
   .obtain ⟨j,B,I⟩:=Hb;show(qG,k,x,K,H,C,J,b.ak j s' (oZ B I));ext fe e C C;ext eB J k H
   .show(zia,b.no s' h)
 refine(dY,λ s' q e=>(v s' q e).1,hF s' q e z,eI s' q e s1 z,wa s' q)
 .ext zmL;rcases b.at_ mt A with⟨_,h⟩|⟨j,s2,_,_,h⟩
  .exact h
  .ext zib z
 .ext zmL;rcases b.at_ mt A with⟨_,h⟩|⟨j,s2,rfl,B,h⟩
  .rw [h,sn] at z;cases z
  .ext j4 z;cases h;obtain⟨L,a2,K,H,C,_⟩:84:=b.ak j s1 B;show(iF,a2,?_)
   .show(zuq,(A7,ns (by rw[<- y]; exact Zi B)),C)
   .show crowd.idxOf a2<zZo;rw[D H,D A]
    lia
 .ext zmL;show zZo<=20;rw[D A];ext M7 A
theorem Bf.done (b:B1) (mt:Bw) (sn:wX) (all:zVg (zie C3)):∃ hs,crowd=Fx/\(zpP name):=by
 have D:=b.nodup mt sn;cases crowd with
 | nil =>
  have:=b.c0;simp at this
 | cons x hs =>
  have B:=b.c0;show(fe,List.getElem?_cons_zero,B,B);refine(eY,hs,rfl,D,dC h I,hF c hc s hs')
  .obtain ⟨j,v,y⟩:=ZP I;have e:lQ Fx lG h:=by
    rw[List.getElem?_cons_succ,Zb v,y]
   rcases b.at_ mt e with⟨z,_⟩|⟨_,s,_,_,z⟩
   .lia
   .rw [z];rfl
  .obtain ⟨k,H,J⟩:=ZP hc;have q:=all k c (oZ H J) s hs';show(F4,v,y,ZP q);show(dA,h,A,K,b.hd j s (oZ v y));rw[List.getElem?_cons_succ] at A;show(eB,h,Zi A,(mt.iff _ _).mpr K)
#check _
noncomputable def RmD (H:Hp) (d:Addr) (names:dD) (room:oN):Prop:=∃ kvs:eG,Gi/\∀ nm∈names,∃ l rs,(gf,FU,nM,Bd znC,xbm H (room nm) rs)
inductive xx8 (t:Adr) (vs:dz) (H:Hp) (Q:VK) (_:XK):Prop
 | mk (p d1 d2 rm:Addr) (n:Nat) (room:oN) (so:fh) (ho:dQ) (names:dD) (name:Str) (e_:vs=[mN,.str name,.ref rm]) (r_:(d9,La,n<=600,Bw,(oU,wX,RmD H rm names room,rm≠d1,(∀ z,EA->z∈names),name∈names,Bx,(∀ z,kS (room z) 32),(∀ H' l so' ho',(eC,zqJ,mM,H' l=some (.lst []),FB (znN Nh) zar (Oa (PK||EA)) (zok Mb Ki))),∀ H' l hs,fZ->(FB mM (nH l (.lst ((Fx).map V.str))) (zpP name) (zMM Mb Fx)))))
noncomputable def ICr (t:Adr) (H:Hp) (p d1 d2 rm lc da:Addr) (n:Nat) (room:oN) (so:fh) (ho:dQ) (name:Str) (i j:Nat) (crowd:dD) (al:dE) (asked:dQ) (H1:Hp):Prop :=
 zzH/\(dN,(du,H1 lc,.lst (crowd.map V.str)),HoD H1 da al.length asked,B1,(∀(k:Nat) (a:Str),k<i->Uh->(zie C3)),zok Mb Fw)
def ok_h (T:dZ):FnOk true P w K mg base dS 2 t.f_h t.d_h znq (xx8 t):=by
 refine T.h.F.okn (k:=1) sc_h (d7 H Q E h) (λ cdv A outer s H vs Q E hr h=>?_)
 .obtain ⟨p,d1,d2,rm,n,room,so,ho,names,name,rfl,_⟩:=h;rfl
 .obtain ⟨p,d1,d2,rm,n,room,so,ho,names,name,rfl,h⟩:=h;refine⟨_,xj (pS 3 sc_h.nd (xci nN))
   (xj (pS 4 sc_h.nd (xfv))
   (xj (pS 5 sc_h.nd (xp))
   (xj (xg1 Z7 (oJ xgf 5 (GG Ut)) (xj (pS 6 sc_h.nd (wI 3 yA))
   (xj (xa1 Z7 rfl (x8 (xb5 jx (pv 2) A4 iw)) (pN 7 sc_h.nd) (xm (xau (xds (xdm jx yB (pv 4))) (xj (uf lm yB A4)
   (xj (xau (xds (xdm jx yB gB)) (xj (xaz (iI fA T.c_n T.s.m (ok_s T) fF T.s.b (lM 4 7)))
   (xm (xw (xci (xh))))) (xad))
   (Vo (Pe jj (i3 (KU yB)))))) (xad))))
   (xm (xzn (i:=5) sc_h.nd rfl oO (xp) xxy)))))
   (tM 3)))),?_⟩
  refine sq5 ?_; intros; obtain⟨sg,az,mt,sn,aA,aS,⟨dom,ax,aC,aR,qA,qB⟩⟩:47:=h;ext R4 I aj;show(NS,iQ H I [.str name],aj);ext DD U am;generalize eu:pL H1 U []=H2;ext kQ s2 am g2;show(dy,O,s1.free am,a9,s1.trans s2);have ay:I≠U:=xb g1 am;have ae:∀{crowd:dD}{al:dE}{asked:dQ},B1->zpf:=λ{crowd al asked} b=>by
   refine ZR ((b.nodup mt sn).length_le_of_subset (l₂:=names) zzc) aC;obtain⟨k,hk,ek⟩:=ZP hx;rcases b.at_ mt (show TC x by rw[Zb hk,ek]) with⟨_,e⟩|⟨j,s,_,_,e⟩
   .ext iX e ax
   .exact dom x vI
  show(iF,λ m Z H3=>(zBu,m,Z=[Ul,zvH,dR rm,dR I,dR U,zhl,v6,v7],ICr t H p d1 d2 rm I U n room so ho name i 0 crowd al asked H3),oX 13 0 Mb [] ⟨106,jG,_,_,rfl,lW,rfl,a9,Ba g1,(fQ,zjs g2 qD,.start,λ k a z=>dk,vw)⟩);rintro m Z H3 (⟨i,crowd,al,asked,⟨v6,v7,mi,il,rfl,s3,L,a7,D,cov,aw⟩⟩:121);have aP:=ae D;refine(gK,I,_,vm L,MD Gw Gw)
  .have ic:i<crowd.length:=by
    have z:=of_decide_eq_true y;rw[Za] at z
    lia
   let Pm (σ':L2.St) (H':Hp):Prop:=Su m (zBu,m',σ'=[Ul,zvH,dR rm,dR I,dR U,zhl,v6,v7],ICr t H p d1 d2 rm I U n room so ho name i 0 crowd al asked H')
   ext iF Pm zXE;refine sq3 ?_; intros; obtain⟨a,C⟩:∃ a,BH:=(iK,Zb ic)
   show(ij,I,_,_,ziQ,(li,ef L,xb6 (Du C),?_));ext qd; have aQ:a∈names:=by
    rcases D.at_ mt C with⟨_,e⟩|⟨j,s,_,_,e⟩
    .ext iX e ax
    .exact dom a vI
   show(dA,kr,aJ,fr,id aA);show(hJ,lr,rs,er,a4,ar,fr a aQ);show(gZ,gr,(tU,.inr a,s3 _ _ aJ),er,gr);show(MM,rm,.ref lr,gr,Hh lr (s3 _ _ a4));have av:=ar.len
   let Pv (j:Nat) (Z:L2.St) (H4:Hp):Prop:=∃(crowd:dD) (al:dE) (asked:dQ) (v7:f7),(d9,BH,(zie,(C3).take j),Z=[Ul,zvH,dR rm,dR I,dR U,zhl,zN a,v7],ICr t H p d1 d2 rm I U n room so ho name i j crowd al asked H4)
   show(wf,rs.map V.ref,(zQx,(jM,by show(eW,List.take_zero,hs,nomatch hs)),s3,L,fQ a7 D cov aw))
   .rintro j Z H4 _ (⟨_,_,_,_,_,_,rfl,s4,_⟩:125);show(nI,yJ a4)
   .rintro j x Z H4 hx (⟨crowd,al,asked,v7,C,tk,rfl,s4,J,⟨q,D,cov,M⟩⟩:126);ext zlO; ext Vr qs aG;show(dA,s,hs,aF,ar.get aG);show(gL,Y,yJ aF,ra,Gq,Zi hs);show(dy,aP,ae D,cr,D.cr);have aq:∀ al':dE,(∀ z∈al,z∈al')->s∈al'->∀ z∈(C3).take lG,z∈al':=λ al' h1 h2 z hz=>by
     rw[ZC,hs] at hz;rcases Se with hz|hz
     .exact h1 _ (tk z hz)
     .have hz:z∈[s]:=hz;show(dP,Zs.mp hz,h2)
    show(zfo,U,q.get Y,zdF)
    .refine sq3 ?_; intros; have ns:s∉al:=λ z=>by
      obtain⟨k,hk,ek⟩:=ZP z;obtain⟨_,x,_,_,e3,_⟩:84:=D.ak k s (oZ hk ek);rw[e3] at y;ext gz y dG
     show(uc,H5,aN,ad,k5,ap,aW,q.put dk Y a);refine gK U H5 aN ?_;refine nx ?_; refine iq ?_; intros; have au:=sg.same s4;obtain⟨ao,aH⟩:=au.ins;show(RC,aU,a6,sg.so,aT,ac,sg.ho);obtain⟨aX,a0⟩:=sg.ins;have ah:Iq H5 n:=au.keep (d:=U) (xb a0 O) (xb a6 O) (xb ac O) ap k5;show(iR,ai,k5 _ _ (xb a0 O) aH,X,ap _ _ Y,ab,k5 _ _ ay J);have s5:FQ:=(sJ,k5 _ _ (xb e O) zxH);show(fW,p,_,ao,_,_,rfl,gT ai T.c_n T.n_bi lkHo (zjJ,d2,rfl,ah.ho.get X,zed y2))
     .ext OQ; have hn:EW:=by
       cases e:DA with
       | none=>rfl
       | some h =>
        rw[e] at y2;ext gz y2 dG
      refine⟨p,ao,_,rfl,ai,xn5 fR,p,d1,d2,U,qs,n,_,room,so,ho,_,_,name,a,s,rfl,X,ah,ad,oY ac O,az,mt,hn,zlY,D.chain mt sn dk C ra ns,λ H6 a8 aI aE aV af aD aO aB=>?_⟩;ext KN l hl;have kb:KB H H6 d1 d2:=(zuK,aE _ _ b1 b2 zxG);have a5:mM:=by
       cases e:H l with
       | none=>rfl
       | some u =>
        by_cases e1:l=d1
        .show(zGJ,af.so,e1)
        .by_cases e2:l=d2
         .show(zGJ,af.ho,e2)
         .show(AE,kb _ _ e1 e2 e,hl)
      exact qA _ l a8 aI (zuK (dH,lB a5,zVX)) a5 xi (af.same (h9 hl)) aD aO ((Kp.Rch.step M (Kp.k_free C hs (D.no s ns) hn)).trans aB)
     .obtain ⟨h,eh⟩:∃ h,IR:=by
       cases e:DA with
       | none =>
        rw[e] at y2;ext mP y2
       | some h=>show(dO,h,rfl)
      have gh:=ah.ho.get X;rw[eh] at gh;refine⟨Eu ab,p,_,ao,_,_,rfl,ai,T.c_n,T.n_bi,lkHo,d2,.str h,rfl,gh,I,_,_,rfl,rfl,ab,?_,?_⟩
      .rw [Za];exact xba dk
      show(fU,kl,oq I (du,H5 c,u) (ym H5 I (.lst (zbr++[.str h]))),Iv,⟨126,KE,ui,_,_,?_,aq _ (re,ZO _ hz) Tg,rfl,(sJ,kl _ _ (xb e aj) zxG),zuc,(fQ,?_,D.add C ra ns eh,zMO,.step M (Kp.k_grow C hs (D.no s ns) eh))⟩)
      .show(iX,ZL (Zj.mp C).1,C)
      .rw [Zn,ZZ];exact ad.keep (jO,kl _ _ (Z2 ay) e)
      .have aK:k<crowd.length:=by
        ext M7 C
       show(eW,ZL aK,eb,ZO _ (cov k b hk eb z hz))
    .have as:UA:=by
      by_cases z:UA
      .ext i4
      .rw [D.no s z] at y;ext mP y
     obtain⟨kk,aL,aM⟩:=ZP as;obtain⟨_,xx,_,_,e3,_⟩:84:=D.ak kk s (oZ aL aM);exact(zQx,aq al (re hz) as,s4,J,(fQ,q,D,cov,.step M (Kp.k_old C hs e3)))
   .rintro Z H4 (⟨crowd,al,asked,v7,C,tk,rfl,s4,J,⟨q,D,cov,M⟩⟩:126);ext lE av M;ext p8 av Fk tk;have ic:=xU C;refine(eY,_,rfl,m-1,dk,(oX,dW,crowd,al,asked,gW 86 _ _ dk dk rfl s4 J (fQ,q,D,zMO,.step M (Kp.k_next C (Jq (Zl _))))));by_cases c:k=i
    .subst c;ext fe C eb eb;exact tk z hz
    .exact cov k b dk eb z hz
  .have ic:i=crowd.length:=by
    by_cases z:i<crowd.length
    .ext NX xP y
    .lia
   show(dA,hs,ec,cw,D.done mt sn λ k a e z hz=>cov k a (jH ztu) e z hz)
   refine (qB H3 I hs s3 aj (gF ec L) cw ?_);rw[<- ec];exact .step aw (Kp.k_end (Jq dk))
inductive Run (room:oN):DH dD fh dQ jg
 | nil:Run room [] jG jG []
 | inn {ns:dD}{so so':fh}{ho ho':dQ}{cs:jg}{nm:Str} (r:yS) (mt:zar) (dm:Oa ((gk z nm)||EA)) (rc:zok [nm] Ki):Run room vp so' ho' cs
 | out {ns:dD}{so:fh}{ho:dQ}{cs:jg}{nm:Str}{hs:dD} (r:yS) (c:zpP nm) (rc:zMM [nm] (nm::hs)):Run room vp so ho zqG
theorem Run.mt {room:oN}{ns:dD}{so:fh}{ho:dQ}{cs:jg} (r:yS):Bw:=by
 induction r with
 | nil=>ext dO zPI zPC
 | inn _ mt _ _ _=>exact mt
 | out _ _ _ ih=>exact ih
theorem Run.outs {room:oN}{ns:dD}{so:fh}{ho:dQ}{cs:jg} (r:yS):(∀ z∈cs.map (·.1),ziB)/\(zif cs.length):=by
 induction r with
 | nil=>ext dO m9 eV
 | inn _ _ _ _ ih=>show(dO,(re,ZO _ (ih.1 z hz)),by rw[Zn]; show(gV,ih.2))
 | out _ _ _ ih =>
  show(gR,tQ,by rw[Zn,Zn]; have:=ih.2; simp; lia);rw[Zt] at hz;rcases Se with hz|hz
  .exact ZO _ (ih.1 z hz)
  .exact ZB _ hz
theorem Run.dom {room:oN}{ns:dD}{so:fh}{ho:dQ}{cs:jg} (r:yS) (nd:ns.Nodup):∀ z,EA=((gM ziB)&&! decide (z∈cs.map (·.1))):=by
 induction r with
 | nil=>ext kH; rfl
 | @inn ns so so' ho ho' cs nm r mt dm rc ih =>
  ext kH;rw[ZE] at nd;rw[dm z,ih nd.1 z];by_cases e:z=nm
  .ext gc;have f:z∉ns:=λ h=>(n6).2 z h z Fa rfl;have j:z∉cs.map (·.1):=λ h=>f (r.outs.1 z h);simp[j]
  .simp [e]
 | @out ns so ho cs nm hs r c rc ih =>
  ext kH;rw[ZE] at nd;rw[ih nd.1 z];by_cases e:z=nm
  .ext gc;have f:z∉ns:=λ h=>(n6).2 z h z Fa rfl;simp[f]
  .rw [Zt];have v:(gM (z∈vp))=decide ziB:=ie e
   have q:decide (z∈cs.map (·.1)++[(nm,hs)].map (·.1))=decide (z∈cs.map (·.1)):=by
    rw[decide_eq_decide,Zz];show(dO,λ h=>h.elim id λ h=>absurd (Zs.mp h) e,.inl)
   rw[v,q]
noncomputable def xbq (ns:dD) (cs:jg):dD:=ns.filter λ z=>! decide (z∈cs.map (·.1))
noncomputable def xbc (ps:dL) (srt:dE) (nm:Str):dE:=match zlt with
 | some p=>znW
 | none=>[]
def xq8 {ps:dL}{srt:dE} (h:OU) (nm:Str):kS (xbc ps srt nm) 32:=by
 unfold xbc;split
 .exact ZR Uj h
 .exact Jb _
inductive CrL (H:Hp):GS jg
 | nil:CrL H [] []
 | cons {c:KY}{q:Addr}{cs:jg}{qs:dJ} (h:qj q ((TN).map V.str)) (r:PN):CrL H (c::cs) vW
theorem CrL.len {H:Hp}{cs:jg}{qs:dJ} (h:PN):zqj:=by
 induction h with
 | nil=>rfl
 | cons _ _ ih=>ext wj
theorem CrL.snoc {H:Hp}{cs:jg}{qs:dJ} (h:PN) {c:KY}{q:Addr} (e:eO q (.lst ((TN).map V.str))):CrL H (cs++[c]) (qs++[q]):=by
 induction h with
 | nil=>ext zcJ
 | cons h _ ih=>ext Kw
theorem CrL.get {H:Hp}{cs:jg}{qs:dJ} (h:PN) {i:Nat}{q:Addr} (e:BY):zyu cs (eO q (.lst ((TN).map V.str))):=by
 induction h generalizing i with
 | nil=>ext sT
 | @cons c q' cs qs h _ ih =>
  cases i with
  | zero =>
   ext R6 c
  | succ j=>ext Aq
theorem CrL.keep {H H':Hp}{cs:jg}{qs:dJ} (h:PN) (k:∀ q∈qs,(znL q)):qaI:=by
 induction h with
 | nil=>ext pU
 | cons h r ih=>exact .cons (k _ jL _ h) (ih λ q a=>k q (Zm _ a))
inductive xvh (t:Adr) (vs:dz) (H:Hp) (Q:VK) (_:XK):Prop
 | mk (a ln dp do_:Addr) (w h:Nat) (ps:dL) (ss srt:dE) (names:dD) (e_:zqV) (r_:(zRQ,Dr t H a dp do_ w h ps ss srt,(zJt qaI (∀ q∈qs,(fw q)) (zcR names))))
theorem xxg {ps:dL}{nm:Str} (h:zrf):∃ p,(zdC (λ z=>zrW) p)/\ut/\zAk:=by
 cases e:ps.find? (λ z=>zrW) with
 | none =>
  ext dA p a b h;show(NX,b,JL.mp e p a)
 | some p=>exact(vZ,p,ZY e,of_decide_eq_true (W3 (p:=λ z:Pt=>zrW) e))
noncomputable def FRm (l2:Addr) (ps:dL) (srt:dE) (names:dD) (i:Nat) (ys:dz) (H:Hp):Prop:=(zjy,Str × dJ,(d9,Xc,L.length=i,(tN,(hV).1)=names.take i,(zHS,eO fj (.lst ((Hc).map V.ref)),xbm H (xbc ps srt (hV).1) Hc)))
theorem xkx {d:Addr}:∀(L:zvM) {H:Hp}{kvs:eG},Gi->zOx ->
    ∃ H2 kvs2,(ztI (V.str dM,V.ref fY))/\H2 d=some (.dK kvs2)/\zKw/\((L.map (·.1)).Nodup->∀ x∈L,valV kvs2 (.inr dM)=(dR fY))/\∀ k,(∀ x∈L,k≠zhr)->valV kvs2 k=tK
  | [],H,kvs,e,_=>(iY,85,H,kvs,.nil,e,Ka,Db (nomatch z),iw)
  | pW,H,kvs,e,hn=>by
    rw[ZF] at hn;have O:=xbo kvs zhr (.ref fY);obtain⟨H2,kvs2,A,M,I,D,B⟩:85:=xkx L (H:=kh H d (putK kvs zhr (.ref fY))) xi dk;refine⟨85,H2,kvs2,.cons (Cg zhr e Gn) A,M,λ b u C J=>I _ _ C (gS C J),wm v y,dC k hk⟩
    . rw[Zq,ZH] at v
      rcases Zu.mp q with rfl|q
      . rw[B _ (λ z hz e=>v.1 (by rw[zxF]; exact Zc.mpr (kZ z hz))),xco,gq]
      . exact D v.2 y q
    . rw[B k λ y q=>hk y (Zm _ q),xco,if_neg (hk x jL)]
def xli (T:dZ):FnOk true P w K mg base dS 7 t.f_crowds t.d_crowds tI (xvh t):=by
 refine T.B_crowds.F.okn (k:=6) xed (d7 H Q E h) (λ cdv A outer s H vs Q E hr h=>?_)
 .obtain ⟨a,ln,dp,aL,w',h',ps,ss,srt,names,rfl,_⟩:=h;rfl
 .obtain ⟨a,ln,dp,aL,w',h',ps,ss,srt,names,rfl,h⟩:=h;refine⟨_,xj (pS 2 xed.nd (Ng (zZJ,"name",zfs "names" "rooms" "seating" "found" "name" "crowd",xg0,xab (AA 0 (zJL im pP)))))
   (xj (pS 3 xed.nd zCX)
   (xj (SS 4 xed.nd)
   (xj (xa1 Z7 rfl Ax (pN 5 xed.nd) (xj (pS 6 xed.nd (iI jj T.c_n T.h.m (ok_h T) fF T.h.b zxb))
   (xm (yy (xmu (pv 6) qD) (Vo (Pe lm ziN))))))
   (tM 4)))),?_⟩
  refine sq5 ?_; intros; ext uR dr ak aU ar aY;show(fU,aQ,OU,VZ,GP ln ak l2 bg);refine xg6 (ef ak) on bg (FRm l2 ps srt names) zJu ?_ (λ i x ys H3 M s3 el3 f3 N hN=>?_) (sS H3 s3 el3 ly3 f3)
  .rintro i ys zs H3 H4 bb k4 (⟨L,e1,e2,e3,e4⟩:64);show(fV,64,L,e1,e2,e3,sY M);show(XA,e4 x M);exact(gT,a1,a2,k4 _ _ a2 a3,k4 _ _ a1 a4,a5.keep (sA,k4 _ _ (mZ bb) e))
  .ext Ke M nm I;show(eZ,pt,hf,bd,bl,xxg (aU nm (Zi I)));subst bl;have aw:=dr.same s3;show(pJ,bm,be,aw.pic,⟨a,bm,_,rfl,be,i8,a,dp,aL,w',h',ps,ss,pt,rfl,aw.pic,aw.sts,dr.ok,dr.nm _ bd,hf,λ H4 l4 U a6 s4 bj aT aZ e4 aO=>?_⟩);show(jz,U=srt,xbk xb9 (aT.trans dr.pm.symm) aZ dr.lt);ext lU u hu;show(zmU,u,xW pt.nm l4,s5,hu);have av:∀ c u,(du,H3 c,u)->zqZ:=(sJ,lA zxH);refine lY Kr ?_;ext tX L e1 e2 e3 e6 f3;show(fV,64,L++[(u,l4,pt.nm,a6)],jw e1 Zt,jw Zn e2,?_,sY M)
   .rw [Zt,e3,ZC,I];rfl
   .rcases Zz.mp M with M|M
    .show(zTr,e6 x M);exact(gT,a1,a2,av _ _ a3,av _ _ a4,a5.keep (sA,av _ _ e))
    .rw [Zs.mp M];show(fV,45,oY el3 bj,oY (yJ el3) hu,g5,lA e4,?_);have er:zVQ=U.filter (xb7 pt):=by
      unfold xbc;rw[hf]
     show(Dm,xbm H5 zVQ a6,er,aO.keep (Same.tups s5))
  rw[Za] at f3;show(tX,L,rfl,e2,e3,e4,f3);rw[Fk] at e3;show(fV,l2,tN (dM,V.str (hV).1,zxr),rfl,dH Zr el3,?_,dC d hd)
  .intro p hp
   ext tt M hp;exact uT (e4 x M)
  have fd:Uk:=s3.free hd;obtain⟨Y,aA,aK,au,k6,v6,_⟩:85:=xkx (d:=d) (tN ((hV).1,fj)) (H:=kh H3 d []) xi (by rw[Za]; simp; lia);refine fJ Gh Y jr ?_ ?_
  .rw [Zr] at aK ⊢;exact aK
  have as:AO (du,H3 b,u) (du,Y b,u):=(gC,k6 _ _ (xb e hd) zWR);have aa:hZ Y:=(gC,as _ _ (s3 _ _ e));have aS:RmD Y d names KG:=⟨aA,au,λ nm I=>by
   rw[<- e3] at I;ext tt M I;show(XA,e4 x M);refine(fJ,fj,Hc,v6 ?_ ((hV).1,fj) (Zc.mpr (A9 M)),as _ _ a4,a5.keep (sA,as _ _ e));show(dP,Zr,e3▸ar)⟩
  refine eI p dx hp aF ne;show(MM,p,dx,xi,λ H8 d1 d2 bi bh k8 ah=>FP);have up:(D7,Fc Y p,p,zYZ,Y b=none):=λb z=>by
   cases e:Y b with
   | none=>rfl
   | some u=>ext zXK
  have a0:Same Y H8:=(gC,k8 b u (xb e hp) (kc LG Ti e));show(dy,aI,up _ bi,aH,up _ bh);ext KN lf ad;generalize eu:DJ H8 lf=H9;ext qd; ext kQ s9 ad g9;show(dy,az,a0.trans s9,aR,aa.trans az);show(dw,aX,d≠d1,xb au aI,bn,d≠d2,xb au aH);have aP:=ah.same s9;show(RC,bp,aC,ah.so,bo,aB,ah.ho);obtain⟨bt,bc⟩:=id ah.ins;show(dw,a8,lf≠d1,oY aC ad,a7,lf≠d2,oY aB ad);show(dw,aW,lf≠p,oY bc ad,aG,Y lf=none,a0.free ad);have aj:=xq8 (ps:=ps) aQ;show(uq,ln,aR _ _ ak)
  let Pv (i:Nat) (Z:L2.St) (J:Hp):Prop:=∃(v5 v6:f7) (qs:dJ) (cs:jg) (so:fh) (ho:dQ),(nW,Z,[hU,LA,vJ,Ul,dR lf,v5,v6],Same Y J,(du,J lf,m7),(dN,CrL J cs qs,(∀ q∈qs,(dN,Y q=none,q≠d1,q≠d2,q≠p,q≠lf)),cs.length<=i,Iq J (30*i),zcR EI))
  show(wf,zUX,(m6 121 _ [] [] (Ar,_,_,az,g9,.nil,m9,dB eV aP .nil)))
  .show(VE,J,j,j _ _ (aa _ _ ak))
  .rintro i x Z J M (⟨v5,v6,qs,cs,⟨so,ho,rfl,j,af,O,fq,ci,v,R⟩⟩:121);refine gn ?_; refine sq2 ?_; intros; ext BS M nm I;show(SN,il,xU I,aJ,ao,v.ins);have ap:names.take dW=EI++[nm]:=by
    rw[ZC,I];rfl
   have ax:(names.take dW).Nodup:=(Ub).nodup ar;have dm:=R.dom ((Ub).nodup ar);have aV:nm∉EI:=λ z=>by
    rw[ap,ZE] at ax;exact ax.2.2 nm z nm Fa rfl
   have sn:Ga nm:=by
    have z:=dm nm;rw[wH aV,JK] at z;cases e:so nm with
    | none=>rfl
    | some s=>ext rJ z
   have aq:RmD J d names KG:=by
    show(dA,kv,e,f,id aS);show(eB,kv,zhp,(re,let ⟨l,rs,b1,b2,b3⟩:=f z hz; (fJ,l,rs,b1,j _ _ b2,b3.keep (Same.tups j))))
   show(RC,br,aE,v.so,bq,aD,v.ho);refine⟨p,aJ,_,rfl,ao,xn5 fR,p,d1,d2,d,30*i,KG,so,ho,names,nm,rfl,v,dk,R.mt,sn,aq,aX,tQ,Zi I,aY,aj,?_,?_⟩
   .rw [dm z,Zy] at hz;exact QE (of_decide_eq_true hz.1)
   .intro X ac aN bf kb D am ay a9 aM ab
    ext zMB; refine(hD,.inl (iJ zzO),ifN dF ?_);have ba:AO (du,Y b,u) (du,X b,u):=(gC,kb _ _ (xb e aI) (xb e aH) zhp);show(fV,121,_,_,qs,cs,(Ar,aN,bf,ba,kb _ _ a8 a7 af,(zYk,kb _ _ (eE zhf) (uT zhf) e),fq,(kB,dk,ay.le dk)));show(dP,ap,.inn R a9 aM ab)
   .intro X ac hs ai D am cw ab
    refine(hD,.inl (iJ zzO),zvf);have ae:=ai _ _ af;refine(gW,Eu ae,lf,_,_,rfl,rfl,ae,?_,?_)
    .rw [Za,O.len];exact xba dk
    show(fE,nl,ac≠lf,oY af D,kl,oq lf (du,X c,u) (ym X lf (.lst (rR++[.ref ac]))),Iv,tl,Tups X (iQ X lf (rR++[.ref ac])),(vC,kl _ _ (mZ ae) e));show(fV,121,_,_,qs++[ac],zqG,(Ar,so,ho,(sJ,kl _ _ (xb e aG) (ai _ _ (j _ _ e))),zuc,((zYk,ai _ _ e).keep (λ z hz u e=>kl _ _ (zjx zhf) e)).snoc (kl _ _ nl am),tQ,(kB,Ky,((v.same ai).keep (d:=lf) (Z2 aW) (Z2 a8) (Z2 a7) tl kl).le dk)))
    .rcases Se with hz|hz
     .exact fq z hz
     .rw [Zs.mp hz];exact(gT,j.free D,oY aE D,oY aD D,oY ao D,nl)
    .rw [ap];exact .out R cw ab
  .rintro Z J (⟨v5,v6,qs,cs,⟨so,ho,rfl,j,af,O,fq,ci,v,R⟩⟩:121);ext lE Fk R;exact (q J lf qs cs so ho (aa.trans j) (aa.free aG) af O (re,aa.free (zhf).1) R)
noncomputable def xao (ps:dL):dD:=ps.map (·.nm)
inductive OutL (H:Hp):GS jg
 | nil:OutL H [] []
 | cons {c:KY}{q l:Addr}{cs:jg}{qs:dJ} (h:zVY) (hl:Bd (.lst ((ir).map V.str))) (r:zsi):OutL H (c::cs) vW
theorem OutL.len {H:Hp}{cs:jg}{qs:dJ} (h:zsi):zqj:=by
 induction h with
 | nil=>rfl
 | cons _ _ _ ih=>ext wj
theorem OutL.get {H:Hp}{cs:jg}{qs:dJ} (h:zsi) {i:Nat}{q:Addr} (e:BY):∃ c l,(dX cs c)/\zVY/\(Bd (.lst ((ir).map V.str))):=by
 induction h generalizing i with
 | nil=>ext sT
 | @cons c q' l cs qs h hl _ ih =>
  cases i with
  | zero =>
   ext E0;exact gK c l h hl
  | succ j=>ext Aq
noncomputable def FOu (H0:Hp) (l2:Addr) (cs:jg) (i:Nat) (ys:dz) (H:Hp):Prop:=zjy KY (d9,Xc,L.length=i,(tN hV)=cs.take i,zHS (eO fj (.lst ((Hc).map V.str))) qaF)
noncomputable def OutF (H0 H:Hp) (l:Addr) (cs:jg) (qs:dJ):Prop:=(zjy,KY,qs=L.map (λ x=>dM)/\cs=L.map (λ x=>hV)/\∀ x∈L,(d9,qaF,fj≠l,zmr,eO fj (.lst ((Hc).map V.str))))
theorem xuq {H:Hp}:∀(L:zuX KY),(∀ x∈L,zmr/\(eO fj (.lst ((Hc).map V.str))))->OutL H (tN hV) (L.map λ x=>dM)
 | [],_=>.nil
 | pW,h=>.cons (h x jL).1 (h x jL).2 (xuq L λ y b=>zrJ)
inductive xzp (t:Adr) (vs:dz) (H:Hp) (Q:VK) (_:XK):Prop
 | mk (a dp do_:Addr) (w h:Nat) (ps:dL) (ss srt:dE) (e_:GJ) (r_:Dr t H a dp do_ w h ps ss srt/\zxO/\(zJt,OutL H' cs qs,zgP,OutF H H' l cs qs))
inductive xzv (t:Adr) (vs:dz) (H:Hp) (Q:VK) (_:XK):Prop
 | mk (a dp do_:Addr) (w h:Nat) (ps:dL) (ss srt:dE) (e_:GJ) (r_:Dr t H a dp do_ w h ps ss srt/\zxO/\∀ H' l cs so ho,FB fZ mM (nH l (.lst ((SX).map V.str))) zgP)
def x23 {α:V}{xs:dz}:cutV (α::xs) (some 1) none=xs:=by
 unfold cutV;simp[HT.sIx]
def x08 {a b:Str}:(sN,dEq (.str a) Uu,oa):=xh0 rfl rfl ⟨λ h=>DV.str.inj h,λ h=>jn h⟩
def ok_bb (T:dZ):FnOk true P w K mg base dS 8 t.f_bb t.d_bb vk (xzp t):=by
 refine T.bb.F.okn (k:=7) sc_bb (d7 H Q E h) (λ cdv A outer s H vs Q E hr h=>?_)
 .ext zkZ O w'
 .obtain ⟨a,dp,O,w',h',ps,ss,srt,rfl,h⟩:=h;refine⟨_,xj (xbw rfl (lF "point" [] [] tI s_bb) ST lu kX i7 zVh (j:=1) rfl oO)
   (iz (DU,"crowd",tI,s_bb,x8 (pC (xli T) hr T.B_crowds.g T.B_crowds.F.kp T.B_crowds.b (pd 1)),xab (pI (xaj (r:=rIxL K) xbf fA (xp) iw) (xgw (r:=rSlL K) xkt fA (xim (xp)) xib)))),?_⟩
  refine sq2 ?_; intros; ext uF dr ae;have ad:=dr.pic.len;show(pJ,dx,ah,dr.pic,⟨tO dx ah,dp,O,w',h',ps,rfl,dr.pic,λ H1 l1 ds s1 e1 X=>?_⟩);have am:=X.len;ext si l1 e1 l2 aj;refine xbd (ef e1) on aj zKC Eb (FE i H2 v s2) (ug H2 s2 e2)
  .ext zbO v J;show(dA,p,Z,af,X.get J);exact DG qa 0 zM (li,fX (s2 _ _ af),rfl,lY lH (rB Z))
  have ey:ys=(nQ).map V.str:=by
   show(N2,(by rw[ly,Za,am]; unfold xao; rw[Za]));ext iD p Z zeO;unfold xao at hb;ext IE Z
  rw[ey] at e2;have S:=s1.trans s2;refine⟨a,l2,dp,O,w',h',ps,ss,srt,nQ,rfl,(jN,dr.same S,e2,dC nm ai,ae,by unfold xao; ext dP Za ad,λ H3 l3 qs cs so ho s3 ap e3 ab ao U=>?_)⟩
  .show(j7,p,Z,e,Zc.mp ai);ext eB p Z e
  show(zLM,U.outs)
  show(dy,ac,ab.len,I,S.trans s3);ext si l3 e3 l4 aa;refine xg6 (ef e3) on aa (FOu H l4 cs) zJu ?_ (λ i x ys H5 v s5 el5 f5 N hN=>?_) zMb
  .rintro i ys zs H5 H6 hz k6 (⟨L,b1,b2,R,C⟩:64);show(fV,64,L,b1,b2,R,sY v);ext XA Dd;exact(gT,a1,a2,k6 _ _ a2 a3,k6 _ _ a1 a4,a5)
  .ext zbO v J;show(dA,c,hc,ak,ab.get J);have D:=lA ak;show(ij,qa,_,0,.str fK,(li,ef D,zWs,nU 1 ⟨83,qa,_,rfl,ef D,dC lh M⟩));rw[Zq,x23];show(NR,upd H5 lh (.lst ((ir).map V.str)),M);ext lU u hu;generalize eu:jI H6 u (xW fK lh)=H7;ext kQ s7 hu g7;refine lY zdf ?_;ext tX L b1 b2 R C f5;show(fV,64,L++[(u,lh,c)],jw b1 Zt,jw Zn b2,?_,sY v)
   .rw [Zt,R,ZC,hc];rfl
   .rcases Zz.mp v with v|v
    .ext zTr Dd;exact(gT,a1,a2,IY a3,IY a4,a5)
    .rw [Zs.mp v];exact⟨45,oY el5 M,oY (sX el5) hu,g7,s7 _ _ g6,(I.trans s5).free M⟩
  rw[Za] at f5;show(tX,L,rfl,b2,R,C,f5);rw[ac,Fk] at R;have Y:=xuq L λ x v=>⟨uT Dd,eE (fH Dd)⟩
  show(eW,R,Y,q H5 l4 (tN dM) cs so ho (I.trans s5) (I.free aa) (jw el5 Zr) Y U (vZ,L,R.symm,λ x v=>(fQ,zjx Dd,(Dd).1,uT Dd,eE (fH Dd))))
def xze (T:dZ):FnOk true P w K mg base dS 9 t.f_kept t.d_kept vk (xzv t):=by
 refine T.B_kept.F.okn (k:=8) xqk (d7 H Q E h) (λ cdv A outer s H vs Q E hr h=>?_)
 .ext zkZ L w'
 .obtain ⟨a,dp,L,w',h',ps,ss,srt,rfl,h⟩:=h;refine⟨_,xj (qe 1 xqk.nd (mh (qb ["name", "holders"] [] [] zuo xhk) (x8 (pC (ok_bb T) hr T.bb.g T.bb.F.kp T.bb.b pP)) DM Gb i7 fA))
   (iz (mh (lF "point" ["out"] [1] zuo xhk) ST lu kX (zDa xO im) xO)),?_⟩
  refine sq2 ?_; intros; ext uF dr ae;have ap:=dr.pic.len;refine⟨a,dp,L,w',h',ps,ss,srt,rfl,dr,ae,λ H1 l1 qs v so ho s1 aq e1 X S _=>?_⟩;show(zLM,S.outs)
  have ac:=X.len;ext si l1 e1 l2 ai;refine xbd (ef e1) on ai (λ i y _=>zyu v (MX fK)) Eb zbh (ug H2 s2 e2)
  .ext UP J;obtain⟨c,lh,hc,aj,_⟩:83:=X.get J;exact(DG,qa,rfl,fX (s2 _ _ aj),lY lH (kZ c hc))
  have ey:ys=(v.map (·.1)).map V.str:=by
   show(N2,(by rw[ly,Za,Za,ac]));ext iD c hc zeO;ext IE hc
  rw[ey] at e2;show(dy,R,s1.trans s2,ab,dr.same R);show(pJ,dx,ah,ab.pic,⟨tO dx ah,dp,L,w',h',ps,rfl,ab.pic,λ H3 l3 ds s3 e3 U=>?_⟩);have ao:=U.len;show(dy,am,s3 _ _ e2,O,R.trans s3);ext si l3 e3 l4 aa;have ad:∀{H5:Hp},Same H3 H5->Dv K H5 1 (.ref l2) (.lst ((v.map (·.1)).map DV.str)):=λ{H5} s5=>.lst (ef (lA am)) dG λ j x d h1 h2=>by
   rw[Zd,Zg] at h1 h2;ext iD z hz h1;ext iD z' Z h2;show(kd,hz,Z,.str)
  have Y:∀ nm:Str,(((v.map (·.1)).map DV.str).any λ z=>dEq z (.str nm))=decide (nm∈v.map (·.1)):=λ nm=>by
   ext zHh
   .ext rV d hd e;ext C7 hd;rw[x08] at e;ext mL N5 hz
   .intro hm
    exact(hD,Sz hm,xbv _)
  refine xei (ef e3) on aa (λ i=>((ps[i]?).map λ p=>! decide (p.nm∈v.map (·.1))).getD false) zKC Eb (zdq i H5 hx s5) (ug H5 s5 e5)
  .ext UP J;show(dA,p,I,af,U.get J);have C:=lA af;show(ij,qa,_,0,zM,(li,fX C,rfl,⟨0,1,zM,_,.str,ad s5,dF,dF,_,rfl,zdF⟩))
   .rw [gq,Y] at y;exact DG qa 0 zM (li,fX C,rfl,hN _ _ lH (dH I y) (rB I))
   .rw [gq,Y] at y;exact hM _ lH (by rw[I]; exact Ja.mpr y)
  have fi:=xks (λ p:Pt=>! decide (p.nm∈v.map (·.1))) (as:=ps) (p:=λ i=>((ps[i]?).map λ p=>! decide (p.nm∈v.map (·.1))).getD false) (λ i p I=>ib I);rw[Za,ao] at ly fy;have ek:(zfu v)=(ps.filter λ p=>! decide (p.nm∈v.map (·.1))).map (·.nm):=by
   unfold xbq xao;ext qbp
  have ak:ys=(zfu v).map V.str:=by
   rw[ek];show(N2,ma ly Za fi.1);have hj:i<((Zv ps.length).filter λ i=>((ps[i]?).map λ p=>! decide (p.nm∈v.map (·.1))).getD false).length:=by
    ext mL ly zzh
   show(iD,p,I,fy i y _ hy (Zb hj));rw[fi.2 i _ (Zb hj)] at I;ext IE I
  show(eW,ak,e5,q H5 l4 v so ho (O.trans s5) (O.free aa) e5 S)
theorem Run.crowd {room:oN}{ns:dD}{so:fh}{ho:dQ}{cs:jg} (r:yS) (nd:ns.Nodup):∀ c∈cs,∃ so0 ho0,Kp.Mt room so0 ho0/\Kp.Crowd room so0 fK ir/\∀ z∈TN,ziB:=by
 induction r with
 | nil=>exact m9
 | inn _ _ _ _ ih =>
  intro c f;rw[ZE] at nd;show(hJ,so0,ho0,a1,a2,a3,ih nd.1 c f);ext zFT
 | @out ns so ho cs nm hs r cw rc ih =>
  intro c f;rw[ZE] at nd;rcases Zz.mp f with f|f
  .obtain ⟨so0,ho0,a1,a2,a3⟩:83:=ih nd.1 c f;ext zFT
  .rw [Zs.mp f];refine fJ so ho r.mt cw tQ;rcases zxy with rfl|hz
   .exact ZB _ Fa
   .have k:=cw.has z hz;rw[r.dom nd.1 z,Zy] at k;exact ZO _ (zoE k)
inductive x0p (t:Adr) (vs:dz) (H:Hp) (Q:VK) (_:XK):Prop
 | mk (a ln dp do_:Addr) (w h:Nat) (ps:dL) (ss srt:dE) (names:dD) (e_:zqV) (r_:(zRQ,Dr t H a dp do_ w h ps ss srt,∀ H' v cs so ho,eC fZ (zcR names) ((cs=[]/\T0)\/∃ l c r,(nW,cs,c::r,uU l,mM,nH l (.lst ((TN).map V.str)))) Gt))
theorem xzg (T:dZ):FnOk true P w K mg base dS 8 t.f_fits t.d_fits tI (x0p t):=by
 refine T.B_fits.F.okn (k:=7) xpl (d7 H Q E h) (λ cdv A outer s H vs Q E hr h=>?_)
 .obtain ⟨a,O,U,u,J,h',ps,ss,srt,names,rfl,_⟩:=h;rfl
 .obtain ⟨a,O,U,u,J,h',ps,ss,srt,names,rfl,h⟩:=h;refine⟨_,xj (pS 2 xpl.nd (pC (xli T) hr T.B_crowds.g T.B_crowds.F.kp T.B_crowds.b (pd 1)))
   (iz (xd5 (xmu (pv 2) qD) (wI 2 (xp)) (xdz))),?_⟩
  refine sq2 ?_; intros; ext uR dr z v x y;show(jb,⟨a,O,U,u,J,h',ps,ss,srt,names,rfl,(jN,dr,z,v,x,y,λ X Y qs D L R M Z S I C m=>?_)⟩,(nX,.inl (iJ,ef S)));cases I with
  | nil=>exact ifN dF (q X .non [] L R M m zzN)
  | @cons c q0 D qs h r =>
   refine ifP C4 (DG Y 0 LB (li,ef S,zWs,q X LB (c::D) L R M m (.inr (mX,q0,c,D,rfl,rfl,C q0 jL,h))))
noncomputable def xfq (f:rL) (g:Int):Bool:=match f with
 | none=>true
 | some y=>gM (g<y.1)
noncomputable def look (own:fS) (rent:fO) (asked:dQ) (a:Str) (f:rL) (x:PU):rL :=
 (jo,zKs,some (Rs,a,dM),f)
noncomputable def xgz (lens:gX) (own:fS) (rent:fO) (asked:dQ) (f:rL) (askers:dD):rL:=askers.foldl (λ f a=>(Um).foldl (look own rent asked a) f) f
noncomputable def near (lens:gX) (own:fS) (rent:fO) (asked:dQ) (askers:dD):rL:=zXv none askers
structure Best (own:fS) (rent:fO) (asked:dQ) (P:PH) (f:rL):Prop where
 is_:∀ g a s,(du f zhN)->∃ l,P a (s,l)/\g=l-U9-C2/\OT
 le:∀ a x,P a x->zUK->∃ y,(du f y)/\y.1<=Rs
def Best.congr {own:fS}{rent:fO}{asked:dQ}{P P':PH}{f:rL} (b:zir) (h:∀ a x,P a x↔P' a x):zXo P' :=
 (zTU,(E3,l,h1,h2,b.is_ g a s e,(h _ _).mp h1,h2),b.le a x ((h _ _).mpr p))
def Best.look1 {own:fS}{rent:fO}{asked:dQ}{P:PH}{f:rL} (b:zir) (a:Str) (x:PU):zkQ (a'=a/\x'=x) (look own rent asked a f x):=by
 unfold look;by_cases c:zKs=true
 .ext pi c;rw[Zy] at c;obtain⟨m,j⟩:=c;show(gR,λ g a' s e=>?_,λ a' x' p z=>qJ)
  .cases e;show(j5,fY,.inr vq,rfl,Bz)
  .rcases p with p|⟨rfl,rfl⟩
   .show(j7,y,e,h,b.le a' x' p z);rw[e] at j;have j:Rs<y.1:=by simpa [xfq] using j
    show Rs<=_
    lia
   .exact J7 _
 .ext lD c;show(gR,λ g a' s e=>(E3,l,h1,h2,b.is_ g a' s e,.inl h1,h2),hF a' x' p z);rcases p with p|⟨rfl,rfl⟩
  .exact b.le a' x' p z
  .rw [z] at c;have c:¬ xfq f zGp=true:=tD
   cases f with
   | none=>ext mP c
   | some y =>
    have c:¬ zGp<y.1:=by simpa [xfq] using c
    ext yw y dk
theorem Best.row {own:fS}{rent:fO}{asked:dQ} (a:Str):∀(xs:BE) {P:PH}{f:rL},zir->(zkQ (a'=a/\x'∈xs) (xs.foldl (look own rent asked a) f))
 | [],P,f,b=>zCr rH
 | vX,P,f,b=>by
  refine (Best.row a xs (b.look1 a x)).congr (dC a' x');constructor
  .rintro ((h|⟨q,j⟩)|⟨q,j⟩)
   .ext iE h
   .show(hX,(pV,dH j jL))
   .show(hX,pV zjb)
  .rintro (h|⟨q,j⟩)
   .ext RE h
   .rcases zzx with j|j
    .show(KJ,pV j)
    .show(hX,pV j)
theorem Best.allF {lens:gX}{own:fS}{rent:fO}{asked:dQ}:∀(as:dD) {P:PH}{f:rL},zir->(zkQ (a'∈as/\x'∈lens a') (zXv f as))
 | [],P,f,b=>zCr iM
 | a::as,P,f,b=>by
  refine (Best.allF as (b.row a Um)).congr (dC a' x');constructor
  .rintro ((h|⟨j,q⟩)|⟨j,q⟩)
   .ext iE h
   .show(ME,dH j jL,yI j)
   .ext ME zjb q
  .rintro (h|⟨j,q⟩)
   .ext RE h
   .rcases zzx with j|j
    .show(KJ,⟨j,gF j q⟩)
    .ext ME j q
def xmd (lens:gX) (own:fS) (rent:fO) (asked:dQ) (as:dD):Best own rent asked (λ a x=>a∈as/\x∈Um) (near lens own rent asked as) :=
 (Best.allF as (P:=zk) (f:=none) (zTU (nomatch e) p.elim)).congr λ a x=>⟨λ h=>h.elim Ym id,.inr⟩
noncomputable def shO (own:fS) (askers:dD) (g:Int):fS:=λ z=>if z∈askers then own z+g else own z
noncomputable def shR (rent:fO) (asked:dQ) (g:Int):fO:=λ z=>(jo,(asked z).isSome,ziJ-g,ziJ)
noncomputable def setI (own:fS) (nm:Str) (v:Int):fS:=λ z=>(jq,z,nm,v,own z)
noncomputable def xav (lens:gX):oN:=λ n=>(C1).map (·.1)
structure xdo (lens:gX) (ss:dE):Prop where
 nd:∀ n,(zdX).Nodup
 b:∀ n x,x∈C1->(oR fY 46)
 ins:Ot
 snd:ss.Nodup
def xdo.one {lens:gX}{ss:dE} (h:zr) {n:Str}{s:Seat}{l l':Int} (h1:(s,l)∈C1) (h2:(s,l')∈C1):l=l':=by
 have b:=h.nd n;unfold xav at b;show(F7,m,c,ZP h1);show(F4,f,a,ZP h2);have:i=j:=xw3 b (i:=i) (j:=j) (lS m) (lS f) (by rw[YD,YD,c,a]);ext AK;show(eW,c,a,(JE.inj a).2)
structure Fit (lens:gX) (names:dD) (so:fh) (ho:dQ) (own:fS) (rent:fO):Prop where
 mt:BT
 dm:NK
 le:∀ n∈names,zlQ
 eq:zmg
 rl:zsQ
 r0:zmp
 o0:∀ n∈names,0<=M5
 ob:∀ n∈names,M5<=1200
structure Grow (lens:gX) (names:dD) (name:Str) (so:fh) (ho:dQ) (crowd:dD) (al:dE) (asked:dQ) (own:fS) (rent:fO):Prop where
 bf:OJ
 le:zih zlQ
 eq:zmg
 rl:zsQ
 r0:zmp
 tr:zIe
 o0:qaO
 ob:zEg
section
variable {lens:Str->List (Seat × Int)}{names:List Str}{name:Str}{so:Str->Option Seat}{ho:Seat->Option Str}{crowd:List Str}{al:List Seat}{asked:Seat->Option Str}{own:Str->Int}{rent:Seat->Int}{ss:List Seat}
def Fit.grow (f:Rl) (lo:zr) (nn:name∉names):Grow lens names name so ho Mb [] jG (setI own name 0) rent:=by
 have z:∀ n∈names,n≠name:=λ n j e=>nn (e▸j);have v:Dl Uv zvJ:=λ n s e=>by
  ext zZY
 refine⟨Bf.start,hF n j x A,eI n s e l hl,f.rl,f.r0,λ s a e=>(nomatch e),dC n j,λ n j _=>?_⟩
 .unfold setI;rcases zzw with j|j
  .show(iX,zWq,f.le n j x A)
  .rw [if_pos (Zs.mp j)];show(vA,f.rl dM,(lo.b n x A).1)
 .unfold setI;show(dP,if_neg (z n (v n s e)),f.eq n s e l hl)
 .unfold setI;split
  .exact J7 _
  .rename_i h
   rcases zzw with j|j
   .exact f.o0 n j
   .exact absurd (Zs.mp j) h
 .unfold setI;show(dP,zWq,f.ob n j)
def Bf.in_ (b:OJ) (mt:BT) (dm:NK) {a:Str} (h:zvy):a∈zrg:=by
 obtain⟨k,f,e⟩:=Hb;rcases b.at_ mt (k:=k) (a:=a) (oZ f e) with⟨_,z⟩|⟨j,s,_,_,z⟩
 .exact ZB _ (Zs.mpr z)
 .have:=dm a;show(eW,z,this,ZO _ (by ext zqC))
def Bf.ask (b:OJ) (s:Seat):qbT:=by
 constructor
 .intro h
  by_cases c:UA
  .exact c
  .show(zib,b.no s c)
 .intro h
  ext F4 f e Hb;obtain⟨k,a,_,_,p,_⟩:84:=b.ak j s (oZ f e);rw[p];rfl
def Bf.asker (b:OJ) {s:Seat}{a:Str} (e:vh):zvy:=by
 have h:=(b.ask s).mp vI;ext F4 f i Hb;obtain⟨k,q,_,n,c,_⟩:84:=b.ak j s (oZ f i);ext fe e c c;exact Zi n
def Bf.both (b:OJ) (mt:BT) (sn:wX) {n:Str}{s:Seat} (e:Uv):zeU↔(kN mJ):=by
 show(tR,b.ask s)
 .intro h
  obtain⟨k,q,u⟩:=Hb;rcases b.at_ mt (k:=k) (a:=n) (oZ q u) with⟨_,z⟩|⟨j,t,_,c,z⟩
  .ext KO z sn
  .rw [e] at z;cases z;exact Zi c
 .intro h
  ext F4 c v Hb;show(dA,x,A,y,b.hd j s (fC AW v));have:=(mt.iff x s).mpr y;rw[mt.inj e this];exact Zi A
structure Gap (lens:gX) (crowd:dD) (asked:dQ) (own:fS) (rent:fO) (g:Int) (a:Str) (s:Seat):Prop where
 g0:0<=g
 ac:zvy
 rm:s∈xav lens a
 na:OT
 eq:(zqs,Um,U9+g+C2)
 mn:∀ b∈crowd,∀ x∈lens b,zUK->own b+g+zhT<=fY
def Grow.gap (w:Grow lens names name so ho crowd al asked own rent) (lo:zr) (mt:BT) (dm:NK) {g:Int}{a:Str}{s:Seat} (e:zdN):VN:=by
 have B:=zHa;obtain⟨l,⟨u,j⟩,H,C⟩:63:=B.is_ g a s e;refine⟨?_,u,Sz j,C,dC D c,eI b hb x hx z⟩
 .have:=w.le a (w.bf.in_ mt dm u) (s,l) j;have:U9+C2<=l:=this
  lia
 .show(gV,lo.one j c)
 .show(j7,y,A,q,B.le b x ⟨hb,hx⟩ z);ext fe e A A;have q:g<=fY-own b-zhT:=q
  lia
structure Mid (lens:gX) (names:dD) (name:Str) (so:fh) (ho:dQ) (crowd:dD) (asked:dQ) (own:fS) (rent:fO):Prop where
 le:zih zlQ
 eq:zmg
 rl:zsQ
 r0:zmp
 tr:zIe
 o0:qaO
 ob:zEg
def Grow.shift (w:Grow lens names name so ho crowd al asked own rent) (mt:BT) (sn:wX) {g:Int}{a:Str}{s:Seat} (p:VN):Mid lens names name so ho crowd D5 zS wB:=by
 have J:=p.g0;show(fW,hF n B x C,eI n t e l hl,gO t,zvh,eI t b e l hl,dC n B,d8 n B hc)
 .have y:=w.le n B x C;unfold shO shR;by_cases c1:zeU<;>by_cases c2:kN zxQ
  .rw [zht,zzR]; lia
  .rw [zht,d6 c2];show(gV,p.mn n c1 x C (by simpa using c2))
  .rw [Tb,zzR]; lia
  .rw [Tb,d6 c2]; lia
 .show(dy,y,w.eq n t e l hl,A,w.bf.both mt sn e);unfold shO shR;by_cases c1:zeU
  .rw [zht,if_pos (A.mp c1)]; lia
  .rw [Tb,(mD,c1 (A.mpr z))]; exact y
 .have:=w.rl t;unfold shR;ext kR
 .have z:¬ (kN (asked t)):=λ z=>by
   have h:=(w.bf.ask t).mp z;ext F4 H I Hb;show(zC,x,D,w.bf.hd j t (oZ H I));ext js ht D D
  unfold shR;show(qV,z,w.r0 t ht)
 .ext zUw
  .rename_i h
   cases e;subst h;have:=p.eq l hl;unfold shO shR;rw[eD p.ac,d6 (dH p.na Z4)]
   lia
  .have:=w.tr t b e l hl;unfold shO shR;rw[if_pos (w.bf.asker e),eD vI]
   lia
 .have:=w.o0 n B;unfold shO;ext kR
 .unfold shO;show(qV,hc,w.ob n B hc)
def Grow.more (w:Grow lens names name so ho crowd al asked own rent) (mt:BT) (sn:wX) {g:Int}{a h:Str}{s:Seat} (p:VN) (hh:IR):Grow lens names name so ho KE ui D5 zS wB:=by
 ext zZU;show(F7,v,y,ZP p.ac);have ns:s∉al:=λ z=>by
  show(Ih,(w.bf.ask s).mpr z,p.na)
 exact(iY,w.bf.add (i:=i) (oZ v y) p.rm ns hh,m.le,m.eq,m.rl,m.r0,m.tr,m.o0,λ n j x=>m.ob n j λ z=>x (ZO _ z))
theorem Grow.nearest (w:Grow lens names name so ho crowd al asked own rent) (lo:zr) (mt:BT) (dm:NK) (sn:wX) {so2:fh}{ho2:dQ} (mt2:zuE so2 ho2) (all:zih (kN (so2 n))):∃ g a s,zdN:=by
 cases e:Hr with
 | some y=>exact(eY,101,y.1,eE y,fH y,rfl)
 | none =>
  have B:=zHa;have j:zVg (zie,xav lens a):=λ k a ha s hs=>by
   ext tt A hs;rw[<- w.bf.ask];cases z:zxQ with
   | some _=>rfl
   | none =>
    show(iu,y,q,B.le a x ⟨Zi ha,A⟩ z);ext rJ q
  show(dA,hs,C,v,w.bf.done mt sn j);show(dy,H,v.count mt lo.snd lo.ins,D,Kp.hall mt2 lo.ins v.nd (λ a ha=>all a (w.bf.in_ mt dm (dH C ha))));rw[H,ZF] at D
  lia
theorem xvy {room:oN}{s0:Seat}{so':fh}{ho':dQ} (h:Kp.Rch N7 (.hand so ho asked s0) Ki):(∀ n t,(du,so' n,t)->(SI t)\/zoR)/\(zqv (kN (ho' t))):=by
 have C:∀(x y:Kp.KS Str Seat),Kp.Rch N7 x y->x=.hand so ho asked s0->(∃ b j q,(y=.hand b j asked q\/y=.fin b j)/\(∀ n t,(du,b n,t)->(SI t)\/zoR)/\(zqv (kN (j t)))):=by
  intro x y h
  induction h with
  | refl =>
   intro e;exact(eP,103,so,ho,s0,ziL,λ n t z=>.inl z,λ t z=>z)
  | step _ e ih =>
   intro H;show(MF,b,j,q,D,B,A,ih H);rcases D with rfl|rfl
   .have put:∀ a,(du,asked q,a)->(∀ n t,(du,Kp.upd1 b a q n,t)->(SI t)\/zoR)/\(zqv (kN (Kp.upd1 j q a t))):=λ a ha=>by
     show(vS,uW n t,t,z)
     .unfold Kp.upd1 at z;split at z
      .rename_i hn
       cases z;subst hn;ext hX ha
      .exact B n t z
     .unfold Kp.upd1;split
      .rfl
      .exact A t z
    cases ha:asked q with
    | none=>simp[Kp.kstep,ha] at e
    | some a =>
     cases hl:b a with
     | none =>
      show(fe,Kp.k_fin ha hl,e,e);exact(eP,103,_,_,q,Ca,(zfz).1,(zfz).2)
     | some l =>
      show(fe,Kp.k_hand ha hl,e,e);exact(eP,103,_,_,l,jr,(zfz).1,(zfz).2)
   .simp [Kp.kstep] at e
 show(MF,b,j,q,D,B,A,C _ _ h rfl);rcases D with e|e
 .cases e
 .cases e;ext dO B A
theorem Grow.last (w:Grow lens names name so ho crowd al asked own rent) (lo:zr) (mt:BT) (sn:wX) (dm:NK) (c12:zpf) {g:Int}{a:Str}{s:Seat} (p:VN) (hs:EW) {so':fh}{ho':dQ} (mt':zuE so' ho') (dm':Oa (PK||EA)) (rc:zlF lens (.hand so ho D5 s)):Fit lens zrg so' ho' zS wB:=by
 ext zZU;obtain⟨Z,Y⟩:=xvy rc
 -- how far the prices of the crowd lie apart
 have v:∀(k:Nat) (b:Str),(TC b)->(zcN b)<=(zcN name)+46*ya/\(zcN name)<=(zcN b)+46*ya:=by
  intro k
  induction k using Nat.strongRecOn with
  | ind k ih =>
   intro b X;rcases w.bf.at_ mt X with⟨rfl,rfl⟩|⟨j,t,rfl,hj,hso⟩
   .exact Vn dk
   .obtain ⟨Q,I,kj,e1,e2,e3⟩:84:=w.bf.ak j t hj;obtain⟨i1,i2⟩:=ih Q dk I e1;show(yb,x1,B,H,mt.rm b t hso);ext yb x2 A D e3;have L:=m.eq b t hso x1.2 (gF H B);have P:¬ t=s:=λ z=>by
     have:=(w.bf.ask t).mpr (Zi hj);show(nS,z,p.na,this,this)
    show(iR,K,m.tr t I (by unfold Kp.upd1; ext qV P e2) x2.2 (gF D A),y1,lo.b b x1 B,y2,lo.b I x2 A);ext dO dk dk
 refine(iY,mt',mI,m.le,eI n t e l hl,m.rl,zvh,m.o0,dC n C)
 .rw [dm' z,dm z,Jf];simp only[YR,decide_eq_true_iff,Zz,Zs];exact or_comm
 .rcases Z n t e with z|z
  .exact m.eq n t z l hl
  .exact m.tr t n z l hl
 .refine m.r0 t ?_;cases z:ho t with
  | none=>rfl
  | some _ =>
   show(Ih,Y t (ib z),ht)
 .by_cases c:zeU
  .obtain ⟨k,T,ek⟩:=ZP c;show(F7,U,ei,ZP p.ac);show(dy,d1,v k n (fC,Zb T,ek),d2,v i a (oZ U ei));show(yb,x,J,ex,p.rm);show(dy,L,m.tr s a zlY fY (gF ex J),K,m.r0 s hs);show(gV,lo.b a x J)
  .rcases Zz.mp C with C|C
   .exact m.ob n C c
   .show(gz,(by rw[Zs.mp C]; exact Zi w.bf.c0),c)
#check _
inductive LS where
 | go (own:fS) (rent:fO) (asked:dQ) (crowd:dD)
 | hand (own:fS) (rent:fO) (asked:dQ) (s:Seat)
noncomputable def xfd (lens:gX) (ho:dQ):LS->(hW LS)
 | zKj=>match Hr with
  | none=>none
  | some zhN=>match DA with
   | some h=>some zTu
   | none=>some zRW
 | .hand _ _ _ _=>none
def a_go {lens:gX}{ho:dQ}{own:fS}{rent:fO}{asked:dQ}{crowd:dD}{g:Int}{a h:Str}{s:Seat} (e:zdN) (e2:IR):zVD zTu:=by
 simp only[xfd,e,e2]
def x2l {lens:gX}{ho:dQ}{own:fS}{rent:fO}{asked:dQ}{crowd:dD}{g:Int}{a:Str}{s:Seat} (e:zdN) (e2:EW):zVD zRW:=by
 simp only[xfd,e,e2]
inductive LRun (lens:gX):eC dD fS fO (gQ fh dQ)
 | nil:LRun lens [] ziW ziW jG jG
 | snoc {ns:dD}{own own':fS}{rent rent':fO}{so so':fh}{ho ho' asked:dQ}{nm:Str}{s:Seat} (r:zHN) (ra:zBU lens) (rk:zlF lens zuu) (f:Fit lens vp so' ho' own' rent'):LRun lens vp own' rent' so' ho'
theorem LRun.fit {lens:gX}{ns:dD}{own:fS}{rent:fO}{so:fh}{ho:dQ} (r:zHN):zTo ns:=by
 cases r with
 | nil=>exact(iY,⟨zPI,zPC⟩,λ z=>rfl,zoZ,λ n s e=>(nomatch e),λ s=>yC,λ s _=>rfl,zoZ,zoZ)
 | snoc r ra rk f=>exact f
def xhn {Z:L2.St}{H:Hp}{K:FW} (h:K [] H):tNil Z H K:=h
def xjq {k m:Str}{v:V}{r:oE} (e:Vc m k):(du,Je m ((k,v)::r),v):=by
 rw[Z1,e]
def xdc {k m:Str}{v:V}{r:oE}{o:f7} (e:AD m k) (h:Je m r=o):Je m ((k,v)::r)=o:=by
 ext fG Z1 e h
noncomputable abbrev pzF (a dl d_o d_r p:Addr):oE:=[IB,j3 "lengths" dl,j3 "own" d_o,j3 "rent" d_r,j3 "seating" p]
def lkZp {a dl d_o d_r p:Addr}:(D1).lookup (iH "picture")=hU:=xjq fR
def lkZl {a dl d_o d_r p:Addr}:(D1).lookup (iH "lengths")=(dR dl):=zTE
def lkZo {a dl d_o d_r p:Addr}:(D1).lookup (iH "own")=(dR d_o):=zYz
def lkZr {a dl d_o d_r p:Addr}:(D1).lookup (iH "rent")=(dR d_r):=ztP zTE
def lkZs {a dl d_o d_r p:Addr}:(D1).lookup (iH "seating")=(dR p):=ztP zYz
def xhi {a dl d_o d_r p:Addr}{m:Str} (e:((["picture", "lengths", "own", "rent", "seating"]:dD).all λ k=>zeG)=true):(D1).lookup m=none:=by
 ext V0;obtain⟨j,h,f,c,b,_⟩:46:=e;exact xdc j (xdc h (xdc f (xdc c (xdc b rfl))))
theorem valM {α κ:Type} [wF] {k:α->κ} (inj:V7) {f:MS}{a:α}:(F3,a∈l->zFa=some (f a))
 | uN,h=>by
  by_cases c:k x=k a
  .rw [Zq,xbg c,inj _ _ c]
  .rw [Zq,xa8 c];rcases Ae with rfl|h
   .ext mP c
   .exact valM inj h
theorem xgp {α κ:Type} [wF] {k:α->κ} (inj:V7) {f:MS}{a:α}:(F3,a∉l->zFa=none)
 | [],_=>rfl
 | uN,h=>by
  rw[Zu,not_or] at h;rw[Zq,xa8 (λ c=>h.1 (inj _ _ c).symm)];exact xgp inj i0
def putM {α κ:Type} [wF] [Iw] {k:α->κ} (inj:V7) {f:MS}{a:α}{l:fc} (h:a∈l) (v:V):putK zLd (k a) v=l.map λ n=>(k n,(jq,n,a,v,f n)):=by
 unfold putK;have e:((zLd).any λ kv=>gM (sU=k a))=true:=(zjE,(k a,f a),S1 a h,Oh);rw[xY,Zr];ext zwB n;show (if k n=k a then (k n,v) else (k n,f n))=_;by_cases c:n=a
 .rw [UD c,Aw]
 .rw [(mD,c (inj _ _ z)),xZ]
def inrI (a b:Str) (h:zor):oa:=Jd.inj h
def xe8 (a b:Seat) (h:xz a=xz b):oa:=xht h
noncomputable def OwD (H:Hp) (d:Addr) (names:dD) (own:fS):Prop:=wh (.dK (names.map λ n=>(zst,V.int (own n))))
noncomputable def RnD (H:Hp) (d:Addr) (ss:dE) (rent:fO):Prop:=wh (.dT (ss.map λ s=>zOd))
noncomputable def AkD (H:Hp) (d:Addr) (al:dE) (asked:dQ):Prop:=wh (OD,lT kD ((mJ).getD (Zh "")))
noncomputable def LnT (xs:BE):gJ:=xs.map λ x=>(xz dM,V.int fY)
noncomputable def LnD (H:Hp) (d:Addr) (bad:dJ) (names:dD) (lens:gX):Prop:=(zUO,Gi,names.length,∀ nm∈names,∃ q,(gf,FU,C0,H q=some (.dT (LnT (lens nm))),q∉bad))
structure Pz (t:Adr) (H:Hp) (pz a dl d_o d_r p d1 d2:Addr) (n:Nat) (names:dD) (ss:dE) (lens:gX) (so:fh) (ho:dQ) (own:fS) (rent:fO):Prop where
 ins:∃ dx,eO pz (ro t.C_d D1)
 sg:La
 ow:OwD H d_o names own
 rn:RnD H d_r ss rent
 ln:LnD H dl [d_r,d2] names lens
 n1:d_r≠d2
 n2:d_o≠d1
 n3:d_o≠dl
 n4:dl≠d1
def Pz.same {t:Adr}{H H':Hp}{pz a dl d_o d_r p d1 d2:Addr}{n:Nat}{names:dD}{ss:dE}{lens:gX}{so:fh}{ho:dQ}{own:fS}{rent:fO} (z:Pz t H pz a dl d_o d_r p d1 d2 n names ss lens so ho own rent) (s:fZ):Pz t H' pz a dl d_o d_r p d1 d2 n names ss lens so ho own rent :=
 (zaG,let ⟨dx,e⟩:=z.ins; zgT,z.sg.same s,s _ _ z.ow,s _ _ z.rn,let ⟨kvs,e,l,f⟩:=z.ln; (hB,kvs,xQ,l,λ nm h=>let ⟨q,e1,e2,e3⟩:=f nm h; ⟨63,q,e1,s _ _ e2,e3⟩))
noncomputable def FndV (H:Hp) (v:V) (f:rL):Prop:=(f=none/\T0)\/∃(g:Int) (a:Str) (s:Seat) (q qs:Addr),d9 (du f zhN) (uU q) (yL [.int g,ziQ,.ref qs]) (Es qs s)
def FndV.tp {H H':Hp}{v:V}{f:rL} (h:FndV H v f) (t:nu):FndV H' v f:=by
 rcases h with h|⟨g,a,s,q,qs,u,m,j,b⟩
 .ext iE h
 .show(hX,(oX g a s q (gm,64,qs,u,m,t _ _ j,t _ _ b)))
theorem AkD.get {H:Hp}{d:Addr}{al:dE}{asked:dQ} (h:zoM) (ask:xl) {b:Addr}{s:Seat} (hb:Es b s):zgt ((mJ).map V.str):=by
 have g:=zZG;cases e:mJ with
 | none =>
  show(eW,xgp xe8 zEZ,g,g)
 | some x =>
  rw[valM xe8 ((ask s).mp vI),e] at g;exact g
def OwD.get {H:Hp}{d:Addr}{names:dD}{own:fS} (h:OwD H d names own) {x:Str} (hx:x∈names):DGet H d qT (some (.int (own x))):=by
 have g:=tU Av h;show(eW,valM inrI hx,g,g)
def RnD.get {H:Hp}{d:Addr}{ss:dE}{rent:fO} (h:RnD H d ss rent) {s:Seat} (hs:AC) {b:Addr} (hb:Es b s):zgt (some (.int (rent s))):=by
 have g:=zZG;show(eW,valM xe8 hs,g,g)
inductive xlx (t:Adr) (vs:dz) (H:Hp) (Q:VK) (_:XK):Prop
 | mk (pz la da a dl d_o d_r p d1 d2:Addr) (n:Nat) (names crowd:dD) (ss al:dE) (lens:gX) (so:fh) (ho asked:dQ) (own:fS) (rent:fO) (e_:zRT) (r_:(d9,Pz t H pz a dl d_o d_r p d1 d2 n names ss lens so ho own rent,Hn,HW,dN xl KA Ot zke zLb))
def xr9 {t:Adr}{H:Hp}{Q E}{pz la da a dl d_o d_r p d1 d2:Addr}{n:Nat}{names crowd:dD}{ss al:dE}{lens:gX}{so:fh}{ho asked:dQ}{own:fS}{rent:fO} (hh:Pz t H pz a dl d_o d_r p d1 d2 n names ss lens so ho own rent/\Hn/\HW/\xl/\KA/\Ot /\
 zke/\zLb):xlx t (Ch CB la da) H Q E:=⟨pz,la,da,a,dl,d_o,d_r,p,d1,d2,n,names,crowd,ss,al,lens,so,ho,asked,own,rent,rfl,hh⟩
def ok_y (T:dZ):FnOk true P w K mg base dS 1 t.f_y t.d_y HG (xlx t):=by
 refine T.B_y.F.okn (k:=0) sc_y (d7 H Q E h) (λ cdv A outer s H vs Q E hr h=>?_)
 .obtain ⟨pz,la,da,a,dl,aj,ad,p,d1,d2,n,names,crowd,ss,al,D,so,ho,asked,I,C,rfl,_⟩:=h;rfl
 .obtain ⟨pz,la,da,a,dl,aj,ad,p,d1,d2,n,names,crowd,ss,al,D,so,ho,asked,I,C,rfl,h⟩:=h;refine⟨_,xj (pS 3 sc_y.nd (xdz))
   (xj (xa1 Z7 rfl Ax (pN 4 sc_y.nd) (xm (xh3 (xa1 Z7 rfl (xtd (KU lm)) (AH 5 sc_y.nd 6) (xj (pS 7 sc_y.nd (xu xb8 (xu xb8 A4 (KU lm)) (KU yA)))
   (xm (EK (xsm (xds (xdm jx yA (pv 2))) (xqn (PW.pt (Gz (oJ xs3 3 (xdz)) (oJ xgf 7 (Im 3)))))) (xm (pS 3 sc_y.nd (xab (vQ 7 4 5)))))))))))
   (tM 3)),?_⟩
  refine sq3 ?_; intros; obtain⟨z,am,ax,ask,az,aq,⟨as,q⟩⟩:47:=h;ext uq la am;refine (Bv,zbr,λ i Z H1=>∃(J:V) (v4 X U S:f7),(gf,Z,[Tn,zhR,dR da,some J,v4,X,U,S],zzH,FndV H1 J zyz),?_,?_)
  .exact (mC,yO lH zzN)
  .rintro i Z H1 _ (⟨_,_,_,_,⟨_,rfl,s1,_⟩⟩:121);show(nI,s1 _ _ am)
  .rintro i x Z H1 hx (⟨J,v4,X,U,⟨S,rfl,s1,fv⟩⟩:121);ext Vr b hb;show(dy,bin,az b (Zi hb),z1,z.same s1);obtain⟨dx,ai⟩:=z1.ins;show(zjz,kvs,ao,f,z1.ln)
   show(eZ,M,hv,ah,ae,f b bin);show(gZ,dg,My b ao,hv,dg);show(NN,ai,T.n_bq,lkZl,(gW,dl,.ref M,rfl,dg,M,_,rfl,ah,ztW));rw[Zu,not_or] at ae;have nr:ad≠M:=Z2 ae.1;have nd:da≠M:=Z2 (as b bin M ⟨kvs,by
    show(iu,k0,e0,z.ln)
    have:=s1 _ _ e0;ext kd ao this e0,hv⟩)
   have O:∀{c:Addr}{u:HO},zZm->(∀ k,u≠.dT k)->c≠M:=λ{c u} e n1=>xem e ah (n1 _);refine xq7 (Pv:=λ j Z H3=>∃(J:V) (X U S:f7),(nW,Z,znY J X U S,(oq M (du,H1 c,u) (du,H3 c,u)),(du,H3 M,zlJ),FndV H3 J (((D b).take j).foldl (look I C asked b) zyz))) ?_ ?_ ?_ ?_
   .refine (zcU,_,Iv,xi,fv.tp (vC ?_));show(lZ,xg (O e m9))
   .rintro j Z H3 _ (⟨_,_,_,_,rfl,_,e3,_⟩:124);exact e3
   .rintro j k x qk pa Z H3 hk av aw (⟨J,X,U,S,rfl,k3,e3,ac⟩:124);unfold LnT at hk;ext rK Zg hk;ext dA y hy au hk;cases au;generalize eu:jI H3 pa (MA qk y.2)=L;ext kQ s4 aw g4;show(fE,Y,(du,L qk,.tup (xa4 y.1)),yJ av,ak,y∈D b,Zi hy,k4,zFI,(B4,yJ (k3 c u nc e)));have af:=k4 _ _ (O ai m9) ai;show(fE,ar,OwD L aj names I,k4 _ _ (O z1.ow m9) z1.ow,ap,RnD L ad ss C,k4 _ _ nr z1.rn,a4,AkD L da al asked,k4 _ _ nd (s1 _ _ ax));show(iR,ab,ac.tp (Same.tups s4),e4,yJ e3,ay,ap.get (aq b y.1 (Zc.mpr (kZ y ak))) Y);ext jC pa g4;show(zys,af,⟨aj,_,rfl,ar.get bin,pz,_,dx,_,_,rfl,af,T.c_d,T.n_bu,lkZr,ad,_,rfl,ay,?_⟩);have tk:(D b).take lG=(D b).take j++[y]:=by
     rw[ZC,hy];rfl
    rw[tk,Yk];generalize ((D b).take j).foldl (look I C asked b) zyz=f0 at ab;show _;show(zfo,da,a4.get ask Y,zed c1)
    .have an:asked y.1=none:=by
      cases ea:zti with
      | none=>rfl
      | some w=>ext js ea c1 c1
     have stay:(zJp,xfq f0 NQ=false,(znY,J,dR qk,hO y.2,hO NQ),zFI,(du,L M,zlJ),FndV L v3' ([y].foldl (look I C asked b) f0)):=λ hb=>by
      refine zTy;ext zQG;show(qV,tT hb,ab)
     have move:xfq f0 NQ=true->∀ R,(zJp,L R=none,[Tn,zhR,dR da,dR R,zN b,dR qk,hO y.2,hO NQ],(oq M (du,H1 c,u) (ym L R (.tup XT))),Mw L R XT M zlJ,FndV (jI L R XT) v3' ([y].foldl (look I C asked b) f0)):=λ hb R aa=>by
      show(fU,s5,Same L (jI L R XT),h9 aa,⟨124,.ref R,_,_,_,rfl,(B4,lA (k4 c u nc e)),lA e4,?_⟩);show FndV _ _ zMD;unfold look;rw[eD (jw hb an)];exact .inr (m6 121 _ _ R (z6,qk,rfl,xi,lA Y))
     rcases ab with⟨rfl,rfl⟩|⟨g0,a0,s0,q0,qs0,rfl,rfl,hq0,hqs0⟩
     .show(Lp,ifP rfl (ifP rfl ?_));show(dO,Fo,λ R aa=>move rfl R aa)
     .show(Lp,ifN (jn zWK) ?_);show(ij,q0,_,0,.int g0,(li,fX hq0,rfl,Kx c2))
      .show(DB,Fo,λ R aa=>move c2 R aa)
      .exact stay (Ja.mpr c2)
    .refine zTy;ext zQG;have an:(zti).isNone=false:=by
      cases ea:zti with
      | none=>rw[ea] at c1; ext mP c1
      | some w=>rfl
     show(qV,tT an,ab)
   .rintro Z H3 (⟨J,X,U,S,rfl,k3,e3,ac⟩:124);show(fW,103,M,ob,_,e3,nf,oX J _ _ _ (yO,sJ ?_,?_))
    .have e1:=zV;by_cases c1:c=M
     .subst c1;ext kd ah e1 xi
     .show(sV,c1,k3 c u c1 e1)
    .show(GA,hl,LnT (D b),(D b).length,Za _);rw[hl,Jp] at ac;rw[ZC,hb];show FndV _ _ (zZy (Pp++[b]));unfold xgz;rw[Yk];refine FndV.tp (H:=H3) ac (vC ?_);show(lZ,sD e e3)
  .rintro Z H1 (⟨J,v4,X,U,⟨S,rfl,s1,fv⟩⟩:121);ext lE Jp fv;exact (q H1 J s1 fv)
def xu3 {own:fS}{as:dD}{b:Str}{g:Int} (nb:b∉as):shO own (as++[b]) g=λ n=>(jq,n,b,shO own as g b+g,shO own as g n):=by
 funext n;unfold shO;by_cases c:n=b
 .ext zNW
 .ext zSp
  .ext zVI
  .rw [mD ?_,d6 d];rcases zzK with z|z
   .exact d z
   .exact c (Zs.mp z)
noncomputable def shS (rent:fO) (as:dE) (g:Int):fO:=λ z=>if z∈as then ziJ-g else ziJ
def xvf {rent:fO}{as:dE}{b:Seat}{g:Int} (nb:b∉as):shS rent (as++[b]) g=λ n=>(jq,n,b,shS rent as g b-g,shS rent as g n):=by
 funext n;unfold shS;by_cases c:n=b
 .ext zNW
 .ext zSp
  .ext zVI
  .rw [mD ?_,d6 d];rcases zzK with z|z
   .exact d z
   .exact c (Zs.mp z)
def xxx {rent:fO}{al:dE}{asked:dQ}{g:Int} (ask:xl):shS rent al g=wB:=by
 funext z;unfold shS shR;by_cases c:z∈al
 .rw [Aw,if_pos ((ask z).mpr c)]
 .rw [xZ,(A7,c ((ask z).mp y))]
def x20 {own:fS}{g:Int}:shO own [] g=own:=by
 funext z;unfold shO;rw[(A7,nomatch y)]
def x1u {rent:fO}{g:Int}:shS rent [] g=rent:=by
 funext z;unfold shS;rw[(A7,nomatch y)]
section
variable {t:Adr}{H H':Hp}{pz a dl d_o d_r p d1 d2:Addr}{n:Nat}{names:List Str}{ss:List Seat}{lens:Str->List (Seat × Int)}{so:Str->Option Seat}{ho:Seat->Option Str}{own own':Str->Int}{rent rent':Seat->Int}
def Pz.move (z:Pz t H pz a dl d_o d_r p d1 d2 n names ss lens so ho own rent) (k:zoK) (ow':OwD H' d_o names own') (rn':RnD H' d_r ss rent'):Pz t H' pz a dl d_o d_r p d1 d2 n names ss lens so ho own' rent':=by
 show(dy,o,z.ow,r,z.rn);unfold OwD at o;unfold RnD at r;have tp:nu:=(vC,k _ _ (mZ o) (mZ r) e);show(h8,R,b,z.ins,B,A,z.sg.ins);show(vz,L,x,P,z.sg.so,K,j,O,z.sg.ho)
 show(qR,J,f,I,M,z.ln,⟨⟨R,k _ _ (ne_f b o) (ne_f b r) b⟩,(rG,⟨B,k _ _ (ne_f A o) (ne_f A r) A⟩,SoD.keep (dB L x P) tp (jO,k _ _ (Z2 z.n2) (ne_f x r) e),HoD.keep (dB K j O) (jO,k _ _ (ne_f j o) (Z2 z.n1) e)),ow',rn',(zfi,J,k _ _ zzk (ne_f f r) f,I),z.n1,z.n2,z.n3,z.n4⟩);show(eZ,q,Q,D,C,M nm h);show(j5,q,Q,k _ _ (ne_f D o) (λ y=>C (dH y jL)) D,C)
#check _
noncomputable def xf8 (H:Hp) (dl da:Addr) (names:dD):Prop:=zke
inductive xqv (t:Adr) (vs:dz) (H:Hp) (Q:VK) (_:XK):Prop
 | mk (pz la da a dl d_o d_r p d1 d2:Addr) (n:Nat) (names crowd:dD) (ss al:dE) (lens:gX) (so:fh) (ho asked:dQ) (own:fS) (rent:fO) (g:Int) (e_:vs=[CB,.ref la,.ref da,.int g]) (r_:(d9,Pz t H pz a dl d_o d_r p d1 d2 n names ss lens so ho own rent,Hn,HW,(oU xl KA crowd.Nodup al.Nodup zcc IS Bx zfD (F9,zoK,Pz t H' pz a dl d_o d_r p d1 d2 n names ss lens so ho zS wB,se))))
def xvp {t:Adr}{H:Hp}{Q E}{pz la da a dl d_o d_r p d1 d2:Addr}{n:Nat}{names crowd:dD}{ss al:dE}{lens:gX}{so:fh}{ho asked:dQ}{own:fS}{rent:fO}{g:Int} (h:Pz t H pz a dl d_o d_r p d1 d2 n names ss lens so ho own rent/\Hn/\HW/\xl/\KA/\crowd.Nodup/\al.Nodup/\zcc/\IS/\Bx/\zfD /\
 (F9,zoK,Pz t H' pz a dl d_o d_r p d1 d2 n names ss lens so ho zS wB,se)):xqv t [CB,.ref la,.ref da,.int g] H Q E:=⟨pz,la,da,a,dl,d_o,d_r,p,d1,d2,n,names,crowd,ss,al,lens,so,ho,asked,own,rent,g,rfl,h⟩
inductive xwq (t:Adr) (vs:dz) (H:Hp) (Q:VK) (_:XK):Prop
 | mk (pz la da a dl d_o d_r p d1 d2:Addr) (n:Nat) (names crowd:dD) (ss al:dE) (lens:gX) (so:fh) (ho asked:dQ) (own:fS) (rent:fO) (g:Int) (b:Str) (s:Seat) (e_:zRT) (r_:(oU,Pz t H pz a dl d_o d_r p d1 d2 n names ss lens so ho own rent,Hn,HW,xl,KA,crowd.Nodup,al.Nodup,zcc,(oU,IS,Bx,zfD,Ot,zoq,da≠d2,du Hr zgI,LU,(zFt,Pz t H' pz a dl d_o d_r p d1 d2 n names ss lens so ho zS wB))))
def xui {t:Adr}{H:Hp}{Q E}{pz la da a dl d_o d_r p d1 d2:Addr}{n:Nat}{names crowd:dD}{ss al:dE}{lens:gX}{so:fh}{ho asked:dQ}{own:fS}{rent:fO}{g:Int}{b:Str}{s:Seat} (hh:Pz t H pz a dl d_o d_r p d1 d2 n names ss lens so ho own rent/\Hn/\HW/\xl/\KA/\crowd.Nodup/\al.Nodup/\zcc/\IS/\Bx/\zfD/\Ot/\zoq/\da≠d2/\(du Hr zgI)/\LU /\
 (zFt,Pz t H' pz a dl d_o d_r p d1 d2 n names ss lens so ho zS wB)):xwq t (Ch CB la da) H Q E:=⟨pz,la,da,a,dl,d_o,d_r,p,d1,d2,n,names,crowd,ss,al,lens,so,ho,asked,own,rent,g,b,s,rfl,hh⟩
def AkD.add {H:Hp}{d:Addr}{al:dE}{asked:dQ} (h:zoM) {s:Seat}{b:Str} (ns:LU):(du,upd H d (.dT (putK (RA,lT kD ((mJ).getD (Zh ""))) kD (.str b))) d,(.dT ((ui).map λ z=>(lT,xz z,(zwW).getD (Zh ""))))):=by
 rw[xi,xcq _ (xgp xe8 ns),Zt]
 congr 2
 have c:(RA,lT kD ((mJ).getD (Zh "")))=al.map λ z=>(lT,xz z,(zwW).getD (Zh "")):=ZT λz hz=>by
  unfold Kp.upd1;rw[d6 (λ y:z=s=>ns (gF y hz))]
 rw[c]
 ext me
 show [(kD,V.str b)]=[lT kD ((Kp.upd1 asked s b s).getD (Zh ""))]
 unfold Kp.upd1;rw[gq];rfl
def ok_m (T:dZ):FnOk true P w K mg base dS 1 t.f_m t.d_m zlf (xqv t):=by
 refine T.m.F.okn (k:=0) sc_m (d7 H Q E h) (λ cdv A outer s H vs Q E hr h=>?_)
 .obtain ⟨pz,la,J,a,dl,C,I,p,d1,d2,n,names,crowd,ss,al,ao,so,ho,asked,Y,L,g,rfl,_⟩:=h;rfl
 .obtain ⟨pz,la,J,a,dl,C,I,p,d1,d2,n,names,crowd,ss,al,ao,so,ho,asked,Y,L,g,rfl,h⟩:=h;refine⟨_,xj (Dg Ax 4 sc_m.nd (zVy lm x07))
   (xm (xh3 (Dg (xvl (pv 2)) 5 sc_m.nd (zVy yA x09)))),?_⟩
  refine sq2 ?_; intros; refine fq ?_; intros; obtain⟨z,af,ab,ask,az,ay,⟨aq,a0,a4,a5,ae,q⟩⟩:47:=h;show(dy,U,z.ow,ac,z.rn);show(fU,ar,zMt,λ h=>J9 h dF,⟨63,la,rfl,zjN af,?_⟩);show(dw,aw,la≠C,ne_f af U,am,J≠C,ne_f ab U);ext ztJ X;show(fE,aj,pz≠C,ne_f X U,au,pz≠I,ne_f X ac,ai,I≠C,ne_f ac U)
  let Pv (i:Nat) (Z:L2.St) (H1:Hp):Prop:=∃(v4 v5:f7),(gf,Z,zHQ,oq C zX zZm,OwD H1 C names (shO Y Pp g))
  show(wf,zbr,?_)
  .exact (ku,zrB,kc List.take_zero x20 U)
  .rintro i Z H1 _ (⟨_,_,rfl,k1,_⟩:83);show(nI,k1 _ _ aw af)
  .rintro i x Z H1 hx (⟨v4,v5,rfl,k1,R⟩:83);ext Vr b hb;have bin:=az b (Zi hb);have nb:b∉Pp:=λ zz=>by
    show(lK,hi,Zj.mp hb);have:=xer id (ps:=crowd) (dH YF ay) hi b zz;exact this e.symm
   show(zys,k1 _ _ aj X,(gK,C,_,R.get bin,eP _ _ rfl rfl _ (Cg,.inr b,R,zMz) ?_));refine(ku,B4 (gS,nc,k1 c u nc e),?_);rw[ZC,hb];show OwD _ C names (shO Y (Pp++[b]) g);rw[xu3 nb];unfold OwD;show(zGP,putM inrI bin,b)
   .rw [Aw,Aw]
   .rw [xZ,xZ]
  .rintro Z H1 (⟨v4,v5,rfl,k1,R⟩:83);ext lE Jp R;show(sK,ap,(du,H1 J,(OD,lT kD ((mJ).getD (Zh "")))),k1 _ _ am ab,as,RnD H1 I ss L,k1 _ _ ai ac,gK J _ ap ztW);show(dw,av,pz≠J,ne_f X ab,ak,C≠J,Z2 am)
   let Pv (j:Nat) (Z:L2.St) (M:Hp):Prop:=∃(v5:f7),(dN,Z=zHQ,(zss,c≠C,U3,J,(du,M c,u)),(du,M J,.frz ob (.dT (al.map λ s=>lT kD ((mJ).getD (Zh ""))))),OwD M C names (zgH Y),RnD M I ss (shS L zvO g))
   refine xse (Pv:=Pv) ?_ ?_ ?_ ?_
   .refine (eP,65,_,rfl,zrj (gS,n3,k1 c u n1 e),xi,?_,?_)
    .show upd H1 J _ C=_;ext rq ak R
    .rw [List.take_zero,x1u];show upd H1 J _ I=_;ext AI ae as
   .rintro j Z M _ (⟨_,rfl,_,e2,_⟩:64);exact e2
   .rintro j k x qk Z M hk aa (⟨v5,rfl,k2,e2,ad,O⟩:65);ext rK Zg hk;ext dA s hs ax hk;cases ax;have aa:(du,M qk,.tup (xa4 s)):=aa;have ah:=a0 s (Zi hs);have nb:s∉zvO:=λ zz=>by
     show(lK,hi,Zj.mp hs);have:=xer id (ps:=al) (dH YF aq) hi s zz;exact this e.symm
    show(NN,k2 _ _ aj au av X,T.n_bu,lkZr,(gK,I,_,O.get ah aa,⟨_,_,rfl,rfl,_,UM kD O aa zMz,?_⟩));show(fW,65,_,rfl,zrj (gS,n2,k2 c u n1 n2 n3 e),gS ae e2,?_,?_)
    .show upd M I _ C=_;ext AI ai ad
    .rw [ZC,hs];show RnD _ I ss (shS L (zvO++[s]) g);rw[xvf nb];unfold RnD;show(zGP,putM xe8 ah,s)
     .rw [Aw,Aw]
     .rw [xZ,xZ]
   .rintro Z M (⟨v5,rfl,k2,e2,ad,O⟩:65);show(p8,Jp,xxx ask,O);show(fW,103,J,ob,_,e2,nf,?_);have fr:(zjG,c≠C,U3,zX,(ym M J (OD,lT kD ((mJ).getD (Zh ""))))):=λc u n1 n2 e=>by
     by_cases c1:c=J
     .subst c1;ext kd ab e xi
     .show(sV,c1,k2 c u n1 n2 c1 e)
    refine q _ fr (z.move fr ?_ ?_)
    .show upd M J _ C=_;ext rq ak ad
    .show upd M J _ I=_;ext AI ae O
theorem ok_af (T:dZ):FnOk true P w K mg base dS 2 t.f_af t.d_af HG (xwq t):=by
 refine T.af.F.okn (k:=1) sc_af (d7 H Q E h) (λ cdv A outer s H vs Q E hr h=>?_)
 .obtain ⟨pz,la,L,a,dl,ap,ao,p,d1,d2,n,names,crowd,ss,al,af,so,ho,asked,aw,ab,g,b,s0,rfl,_⟩:=h;rfl
 .obtain ⟨pz,la,L,a,dl,ap,ao,p,d1,d2,n,names,crowd,ss,al,af,so,ho,asked,aw,ab,g,b,s0,rfl,h⟩:=h;refine⟨_,xj (xbi (iI fA T.c_d T.B_y.m (ok_y T) fF T.B_y.b zT) (rX 3 sc_af.nd 4 5))
   (xj (xaz (iI fA T.c_d T.m.m (ok_m T) fF T.m.b Rf))
   (xj (uf kC yA lm)
   (tM 5))),?_⟩
  refine sq4 ?_; intros; obtain⟨z,ak,Z,ask,aq,a6,⟨S,ar,aa,az,U,av,ae,ax,nr,ay,q⟩⟩:47:=h;ext ztJ ah;ext NF pz dx ah;refine xr9 (Do,z,ak,Z,ask,aq,av,ae,hF H1 v M fv);rw[nr] at fv;rcases fv with⟨e,_⟩|⟨g',b',s',q1,qs,e,rfl,hq1,hqs⟩
  .cases e
  cases e;ext jC q1 hq1;show(NF,pz,dx,M _ _ ah);refine xvp (kE,z.same M,M _ _ ak,M _ _ Z,ask,aq,a6,(jN,S,ar,aa,az,U,d8 H2 k2 C));show(dy,ad,M _ _ z.ow,au,M _ _ z.rn);show(dw,R,(du,H1 L,(OD,lT kD ((mJ).getD (Zh "")))),M _ _ Z,J,AkD H2 L al asked,k2 _ _ (ne_f R ad) U R);have I:=k2 _ _ (ne_f hqs ad) (ne_f hqs au) hqs;show(fU,a7,al.length<=32,ZR (xkl S ar) aa,ur L (UM,xz s0,J,I,on));have j:(du,H2 L,(OD,lT kD ((mJ).getD (Zh "")))):=J;have fr:(zss,c≠ap,c≠ao,L,(ym H2 L (.dT (putK (RA,lT kD ((mJ).getD (Zh ""))) (xz s0) (.str b))))):=λc u n1 n2 n3 e=>by
   show(rq,n3,k2 c u n1 n2 (M _ _ e))
  refine q _ qs fr (dH,sD I j,I) ?_ (J.add ay)
  -- the dict of those who asked is none of the prices'
  have x:oq L (du,H2 c,u) (ym H2 L (.dT (putK (RA,lT kD ((mJ).getD (Zh ""))) (xz s0) (.str b)))):=λ c u n3 e=>by
   show(lZ,xg n3)
  show(h8,a5,O,C.ins,a4,ai,C.sg.ins);show(vz,m1,aj,f1,C.sg.so,m2,a0,f2,C.sg.ho)
  show(eZ,ml,X,ll,fl,C.ln)
  show(dy,ac,C.ow,as,C.rn);show(fU,tp,Tups H2 (pL H2 L (putK (RA,lT kD ((mJ).getD (Zh ""))) (xz s0) (.str b))),(vC,x _ _ (mZ j) e),(gW,⟨a5,x _ _ (ne_f O j) O⟩,(dB,⟨a4,x _ _ (ne_f ai j) ai⟩,zyE aj f1 tp (jO,x _ _ (ne_f aj j) e),HoD.keep (dB m2 a0 f2) (jO,x _ _ (Z2 ax) e)),x _ _ (ne_f ac j) ac,x _ _ (Z2 U) as,(zfi,ml,x _ _ (ne_f X j) X,ll),C.n1,C.n2,C.n3,C.n4));show(qR,qq,e1,e2,e3,fl nm h,(hB,qq,e1,x _ _ ?_ e2,e3));show(iu,k0,Y,z.ln)
  have am:=k2 _ _ zzk (ne_f Y z.rn) (M _ _ Y);show(kd,X,am,ae nm h qq (dB ml Y e1))
noncomputable def x0 (w:Nat) (ps:dL) (srt:dE) (nm:Str):BE:=match zlt with
 | some p=>(znW).map λ s=>(s,NU)
 | none=>[]
theorem xg9 {w:Nat}{ps:dL}{srt:dE}:xav kM=KG:=by
 funext nm;unfold xav x0 xbc;cases zlt with
 | none=>rfl
 | some p =>
  show List.map _ (List.map _ _)=_;rw[Zr];exact YF _
def xkq {w h:Nat}{ps:dL}{ss srt:dE} (w30:mR) (h16:sO) (pok:rQ) (sok:zdH) (pm:Ko):xdo kM srt:=by
 show(fU,q,srt.Nodup,pm.nodup_iff.mpr sok.1,(dY,gO n,d8 n x hx,d8 n s hs,q))
 .rw [xg9];unfold xbc;split
  .exact Jh.filter _ q
  .exact Yh
 .unfold x0 at hx;split at hx
  .rename_i p hf
   ext jD s hs hx;show(dy,b,pok.ok p (ZY hf),j,sok.2.2 s (pm.mem_iff.mp zrV));have:=b.x1;have:=b.x2;have:=b.y1;have:=b.y2;have:=j.1;have:=j.2;show oR NU 46;unfold lenI;ext O4
  .exact nomatch hx
 .rw [xg9] at hs;ext zQZ
  .exact zrV
  .ext zww
theorem xkp {d:Addr}:∀(L:Ms PU) {H:Hp}{kvs:gJ},LY->zMX->(L.map (·.2.1)).Nodup->(∀ x∈L,(zwF fj)=none)->zOx ->
    ∃ H2,(ztI zOl)/\H2 d=some (.dT (kvs++LnT (L.map (·.2))))/\zKw
  | [],H,kvs,e,_,_,_,_=>(hB,H,.nil,by rw[e]; simp[LnT],Ka)
  | pW,H,kvs,e,f,nd,nv,hn=>by
    rw[ZF] at hn;ext wQ;have D:=f x jL;have up:kL d pH (du,upd H d (.dT zmo) b,u):=λ b u j q=>by
      ext rq j q
    have put:DPut H d (.ref dM) zzV (Ve zmo):=by
      show(zzv,DPut.t (k:=xz fj) (v:=zzV) e D Gn,zUU)
    obtain⟨H2,A,I,C⟩:63:=xkp L (H:=Ve zmo) xi (GT,up _ _ (ne_f zYW e) zYW) n6 (λy hy=>by
      have B:¬ xz (eE y)=xz fj:=λ z=>nd.1 (by rw[<- xe8 _ _ z]; ext Nc y hy);have z:=xco kvs (xz fj) (xz (eE y)) zzV;rw[zUU,d6 B,nv y (Zm _ hy)] at z;ext i4) Ky
    refine(hB,H2,.cons put A,?_,λ b u j q=>C _ _ j (up _ _ j q));rw[I,JF];rfl
theorem xiw {H:Hp}:∀{tgt:BE}{ys:dz},(vE tgt.length)->(Xp (zkl tgt)) ->
    ∃(ps:IQ) (L:Ms PU),ys=ps.map zcy/\zrb/\ps.map (·.2)=(tN zOl)/\L.map (·.2)=tgt/\zMX
  | [],[],_,_=>iY 85 [] [] rfl zaR rfl rfl zaR
  | [],eK,h,_=>hI
  | eK,[],h,_=>hI
  | x::tgt,mS,h,f=>by
    obtain⟨q,qs,s,l,rfl,v,j,c⟩:124:=f 0 y rfl;obtain⟨ps,L,I,D,C,B,A⟩:85:=xiw (tgt:=tgt) (ys:=ys) tE (λ i y hy=>by
      obtain⟨q,qs,s,l,a1,a2,a3,J⟩:124:=zIE;exact⟨124,q,qs,s,l,a1,a2,a3,by simpa using J⟩)
    have c:x=(s,l):=tD
    refine(iY,85,(q,.ref qs,.int l)::ps,(qs,s,l)::L,ib I,rC b,ma Zq Zq C,ma Zq B c,tQ)
    . rcases Ad with rfl|b
      . exact v
      . exact D p b
    . rcases zxy with rfl|hz
      . exact j
      . exact A z hz
inductive xu5 (t:Adr) (vs:dz) (H:Hp) (Q:VK) (_:XK):Prop
 | mk (pz dx a dp do_:Addr) (w h:Nat) (ps:dL) (st srt:dE) (lens:gX) (e_:vs=[CB,eQ]) (r_:(eO pz zYY)/\Dr t H a dp do_ w h ps st srt/\∀ H' dl d_o d_r p d1 d2,ft (fw dl) (fw d_o) (fw d_r) uz (ft,fw d1,fw d2,D0 pz,Pz t H' pz a dl d_o d_r p d1 d2 0 [] srt lens jG jG ziW ziW,se))
def ok_a0 (T:dZ):FnOk true P w K mg base dS 4 t.f_a0 t.d_a0 OW (xu5 t):=by
 refine T.a0.F.okn (k:=3) sc_a0 (d7 H Q E h) (λ cdv A outer s H vs Q E hr h=>?_)
 .obtain ⟨v,I,a,dp,am,w',h',ps,st,srt,a8,rfl,_⟩:=h;rfl
 .obtain ⟨v,I,a,dp,am,w',h',ps,st,srt,a8,rfl,h⟩:=h;refine⟨_,xj zyY
   (xj Le
   (xj Le
   (xj (Cj (Ng (DU,"seat",OW,s_a0,zkW im,xab (AA 0 (xp)))))
   (xm (Cj zCX))))),?_⟩
  refine sq5 ?_; intros; ext uF ac dr;refine vb v I ac T.c_d T.n_br 0;have k1:kL v pH (du qaw u):=lP S zxw
  have ai:(du,upd H v zng v,R1 zTp):=xi;have f1:∀ b,qaw=none->iS:=λb e=>by
   ext K6
   .ext zjl
   .ext zjm; exact e
  revert k1 ai f1;show eC _ _ _ _;generalize i5 v zng=H1;intro k1 ai f1;ext DD J ar;show(fU,s2,GZ IX,h9 ar,(vb,v,I,Ba ai,T.c_d,T.n_bq,1));show(fE,af,v≠J,xb ai ar,k3,kL v (du,H1 b,u) (yo IX v NJ),lP S (gS,S,s2 _ _ e),ah,C6 IX v NJ v (R1 [IB,OB]),xi);have ak:upd IX v NJ J=some (.dK []):=(GU,rh af)
  have f3:(D7,IX,v,NJ,H1 b=none):=λb e=>by
   ext K6
   .ext zjl
   .ext zjm; exact s2.free e
  revert k3 ah ak f3;show ft _ _ _ _ _;generalize upd IX v NJ=H3;intro k3 ah ak f3;ext DD D aj;show(fU,s4,Same H3 Kb,h9 aj,(vb,v,I,yJ ah,T.c_d,T.n_bt,2));show(dw,ap,v≠D,xb ah aj,aP,D≠J,oY ak aj);show(dw,k5,kL v (du,H3 b,u) (yo Kb v NG),(lP,S,gS S zxH),ab,C6 Kb v NG v (R1 [IB,OB,zsu]),xi);have aw:upd Kb v NG D=some (.dK []):=(GU,rh ap)
  have f5:(D7,Kb,v,NG,H3 b=none):=λb e=>by
   ext K6
   .ext zjl
   .ext zjm; exact s4.free e
  revert k5 ab aw f5;show ft _ _ _ _ _;generalize upd Kb v NG=H5;intro k5 ab aw f5;show(gL,aY,k5 _ _ (Z2 af) ak,U,kL v pH (du,H5 b,u),(lP,S,k5 _ _ S (k3 _ _ S (k1 _ _ S e))));obtain⟨⟨aH,X⟩,⟨kp,aD,aN⟩,w1,w2,h1,h2,le⟩:=id dr.pic;show(dA,ko,aE,kr,id dr.sts);have a7:a≠v:=λ z=>by
   rw[z,ac] at X;have z2:=fH (HO.ins.inj (ZM.inj X));exact nomatch z2
  have kt:Tups H H5:=(sA,U _ _ (mZ ac) e);show(sK,a5,Pic t H5 a dp am (eg w') xL ps,eP ⟨aH,U _ _ a7 X⟩ (dB,kp,U _ _ (ne_f aD ac) aD,aN.keep kt) w1 w2 h1 h2 le,az,Sts H5 am st,(dB,ko,U _ _ (ne_f aE ac) aE,kr),⟨a,aH,_,rfl,U _ _ a7 X,i8,a,dp,am,w',h',ps,st,rfl,a5,az,λ l6 R us aV a4 pm lt=>?_⟩);show(jz,R=srt,xbk xb9 (pm.trans dr.pm.symm) lt dr.lt);show(NR,upd H5 l6 (.lst (us.map V.ref)),aV);show(dy,a0,a4.keep (Same.tups s6),aI,a4.len);show(dw,bc,R.length<=32,VZ,aK,R.Nodup,zHp);ext si l6 g6 l7 aU;refine xbd (ef g6) on aU (GC,zkl zOj) zAV (FE i H7 hx s7) (ug H7 s7 e7)
  .ext UP aS;show(dA,s,hs,aR,a0.get aS);ext lU q5 aT;have s8:Same H7 (jI H7 q5 (MA qa 0)):=h9 aT;exact lY s8 (gW,124,q5,qa,s,0,rfl,xi,s8 _ _ (s7 _ _ aR),Du hs)
  ext DK aI;obtain⟨prs,L,rfl,a9,ep,eL,hL⟩:85:=xiw (tgt:=zOj) zyT fy;show(fV,l7,prs,rfl,e7,a9,dC M aq);have L1:(L.map (·.2.1))=R:=by
   have:L.map (·.2.1)=(L.map (·.2)).map (·.1):=ib Zr
   rw[this,eL,Zr];exact YF _
  have ll:L.length=R.length:=by
   show(Ed,yq L1,Za)
  have s8:Same H7 qab:=h9 aq;show(qR,H8,bb,e8,k8,xkp (d:=M) L (H:=qab) (kvs:=[]) xi (yr,s8 _ _ (hL x hx)) (dH L1 aK) iw qp,(fJ,L0,H8,Ca,dH ep bb,?_));rw[eL] at e8;have aM:(du,H8 M,(.dT (R.map λ s=>(kD,V.int 0)))):=by
   rw[e8];unfold LnT;rw[Zr];rfl
  have aL:Same H7 H8:=(gC,k8 _ _ (xb e aq) (s8 _ _ e));show(sK,aa,Same H5 H8,(zdf).trans aL,ao,H5 M=none,(zdf).free aq,(vb,v,I,aa _ _ ab,T.c_d,T.n_bu,3));have k9:kL v (du,H8 b,u) (yo H8 v VY):=lP S zxw
  have Y:C6 H8 v VY v (R1 zKi):=xi;have f9:(D7,H8,v,VY,H8 b=none):=λb e=>by
   ext K6
   .ext zjl
   .ext zjm; exact e
  revert k9 Y f9;show eC _ _ _ _;generalize upd H8 v VY=H9;intro k9 Y f9;have a6:v≠M:=xb ab ao;show(iR,ax,k9 _ _ (Z2 af) (aa _ _ aY),av,k9 _ _ (Z2 ap) (aa _ _ aw),au,k9 _ _ (Z2 a6) aM);refine eI p ay hp aF ne;show(MM,p,ay,xi,λ ae d1 d2 aX aW aQ Z=>FP);have up:(D7,upd H9 ay (.own p),p,.ins t.C_n ay [],H9 b=none):=λb z=>by
   cases e:H9 b with
   | none=>rfl
   | some u=>ext zXK
  have O:Same H9 ae:=(gC,aQ _ _ (xb e hp) (kc LG Ti e));show(dy,as,up _ aX,aG,up _ aW);refine(vb,v,I,O _ _ Y,T.c_d,T.n_bo,4);have kF:kL v (du,ae b,u) (yo ae v zMW):=lP S zxw
  have fr:∀ b,H9 b=none->iS:=λb e=>by
   cases z:wt with
   | none=>rfl
   | some u =>
    ext K6
    .ext KO c Y
    .show(zia,k9 _ _ c (aa _ _ (U _ _ c z)))
  have aZ:∀ b,H5 b=none->iS:=λb e=>by
   cases z:wt with
   | none=>rfl
   | some u =>
    ext K6
    .ext KO c ab
    .show(zia,U _ _ c z)
  obtain⟨ba,aA⟩:=Z.ins;show(vz,m1,aC,g1,Z.so,m2,aB,g2,Z.ho)
  have ad:=O _ _ Y;show(vG,aJ,Tups ae (upd ae v zMW),(sA,kF _ _ (mZ ad) e),aO,p≠v,oY Y hp,q _ J D M p d1 d2 (f1 _ ar) (f1 _ (f3 _ aj)) (aZ _ ao) (fr _ hp) (fr _ as) (fr _ aG) (lP,S,kF _ _ S (O _ _ (k9 _ _ S (aa _ _ (U _ _ S e))))) ?_);exact(gW,⟨I,xi⟩,(dB,⟨ba,kF _ _ aO aA⟩,zyE aC g1 aJ (jO,kF _ _ (ne_f aC ad) e),(zWt,aB,kF _ _ (ne_f aB ad) e)),zqK ap av,zqK a6 au,(zjs,zqK af ax,zaR),y9 aG au,y9 as av,aP,y9 as ax)
section
variable {t:Adr}{H H':Hp}{pz a dl d_o d_r p d1 d2:Addr}{n:Nat}{names:List Str}{ss:List Seat}{lens:Str->List (Seat × Int)}{so so':Str->Option Seat}{ho ho':Seat->Option Str}{own own':Str->Int}{rent rent':Seat->Int}
def Pz.keep1 (z:Pz t H pz a dl d_o d_r p d1 d2 n names ss lens so ho own rent) {x:Addr} (k:qaH) (tp:nu) (e0:pz≠x) (e1:p≠x) (e2:d1≠x) (e3:d2≠x) (e4:d_o≠x) (e5:d_r≠x) (e6:dl≠x) (e7:xf8 H dl x names):Pz t H' pz a dl d_o d_r p d1 d2 n names ss lens so ho own rent:=by
 show(qR,j,b,y,A,z.ln,(zaG,let ⟨dx,e⟩:=z.ins; (Vk,Nq e0),z.sg.keep e1 e2 e3 tp k,k _ _ e4 z.ow,k _ _ e5 z.rn,(zfi,j,k _ _ e6 b,y)));show(eZ,q,f,v,m,A nm h);show(j5,q,f,k _ _ (e7 nm h q (dB j b f)) v,m)
def Pz.keepL (z:Pz t H pz a dl d_o d_r p d1 d2 n names ss lens so ho own rent) {x:Addr}{xs:dz} (hx:qj x xs) (k:qaH):Pz t H' pz a dl d_o d_r p d1 d2 n names ss lens so ho own rent:=by
 show(h8,M,hz,z.ins,B,y,z.sg.ins);show(iu,K,j,z.sg.so)
 show(iu,J,f,z.sg.ho)
 show(eZ,I,b,D,A,id z.ln);exact z.keep1 k (zuQ hx) (ne_f hz hx) (ne_f y hx) (ne_f j hx) (ne_f f hx) (ne_f z.ow hx) (ne_f z.rn hx) (ne_f b hx) (λ nm h q ⟨kv,e1,e2⟩=>by
  show(vo,C,v,m,A nm h);ext fe b e1 e1;ext UR v;exact ne_f m hx)
def xf8.keep {da:Addr} (z:Pz t H pz a dl d_o d_r p d1 d2 n names ss lens so ho own rent) (h:zoq) (k:znL dl):xf8 H' dl da names:=λ nm f q ⟨c,j,i⟩=>by
 show(iu,m,b,z.ln)
 have:=k _ b;show(kd,j,this,h nm f q (dB c b i))
theorem AkD.hod {d:Addr}{al:dE}{asked:dQ} (h:zoM) (ask:xl):HoD H d al.length asked:=by
 refine(hB,_,h,by rw[Za]; exact Zl _,gO s);cases e:mJ with
 | none=>exact xgp xe8 zEZ
 | some x =>
  rw[valM xe8 ((ask s).mp vI),e];rfl
def Pz.hand (z:Pz t H pz a dl d_o d_r p d1 d2 n names ss lens so ho own rent) (k:zqJ) {m:Nat} (sg:znN m):Pz t H' pz a dl d_o d_r p d1 d2 m names ss lens so' ho' own rent:=by
 obtain⟨B,hz⟩:=z.ins;show(iu,D,c,z.sg.so)
 show(iu,C,b,z.sg.ho)
 show(qR,x,e,v,A,z.ln,(zaG,⟨B,k _ _ (ne_f hz c) (ne_f hz b) hz⟩,sg,k _ _ z.n2 (ne_f z.ow b) z.ow,k _ _ (ne_f z.rn c) z.n1 z.rn,(zfi,x,k _ _ z.n4 (mZ b) e,v)));show(eZ,q,u,j,f,A nm h);show(j5,q,u,k _ _ (ne_f j c) (λ y=>f (dH,y,Zm _ jL)) j,f)
#check _
noncomputable def F5 (H H':Hp) (dl d_o d_r d1 d2:Addr):Prop:=oq dl zAh (ft,zAi,c≠d1,c≠d2,zX,IV)
inductive xqo (t:Adr) (vs:dz) (H:Hp) (Q:VK) (_:XK):Prop
 | mk (pz a dl d_o d_r p d1 d2 dp do_:Addr) (n w h:Nat) (ns:dD) (ps:dL) (st srt:dE) (so:fh) (ho:dQ) (own:fS) (rent:fO) (nm:Str) (e_:vs=[CB,FT]) (r_:Pz t H pz a dl d_o d_r p d1 d2 n ns srt kM so ho own rent/\(dN,Dr t H a dp do_ w h ps st srt,rQ,n<=500,qbb,(dN,zLr,nm∉ns,zJC,zCm,(zAE,Pz t H' pz a dl d_o d_r p d1 d2 Nh vp srt kM so' ho' own' rent'))))
def xu6 {t:Adr}{H:Hp}{Q E}{pz a dl d_o d_r p d1 d2 dp do_:Addr}{n w h:Nat}{ns:dD}{ps:dL}{st srt:dE}{so:fh}{ho:dQ}{own:fS}{rent:fO}{nm:Str} (hh:Pz t H pz a dl d_o d_r p d1 d2 n ns srt kM so ho own rent/\Dr t H a dp do_ w h ps st srt/\rQ/\n<=500/\qbb/\zLr/\nm∉ns/\zJC/\zCm /\
 (zAE,Pz t H' pz a dl d_o d_r p d1 d2 Nh vp srt kM so' ho' own' rent')):xqo t [CB,FT] H Q E:=⟨pz,a,dl,d_o,d_r,p,d1,d2,dp,do_,n,w,h,ns,ps,st,srt,so,ho,own,rent,nm,rfl,hh⟩
theorem ok_aj (T:dZ):FnOk true P w K mg base dS 7 t.f_aj t.d_aj oA (xqo t):=by
 refine T.aj.F.okn (k:=6) sc_aj (d7 H Q E h) (λ cdv A outer s H vs Q E hr h=>?_)
 .obtain ⟨pz,a,U,I,X,p,d1,d2,dp,aT,n,M,h',ns,ps,st,srt,so,ho,J,aa,nm,rfl,_⟩:=h;rfl
 .obtain ⟨pz,a,U,I,X,p,d1,d2,dp,aT,n,M,h',ns,ps,st,srt,so,ho,J,aa,nm,rfl,h⟩:=h;refine⟨_,xj (uf gB im (Ng (mh,(qb ["side", "row"] ["name", "self"] [1,0] ["self", "name", "askers", "asked_by", "seat"] s_aj),x8 (zJL gB nN),DM,Gb,i7,xab (xa (xab Mf) (i3 (iI (DZ,w6 3) T.c_a T.u.m (ok_u T) fF T.u.b zvk))))))
   (xj (uf gB im (xp))
   (xj (pS 2 sc_aj.nd (xci nN))
   (xj (pS 3 sc_aj.nd (xfv))
   (xj (pS 4 sc_aj.nd zDv)
   (xj (xg1 Z7 (xds (xgq jx lm (xv gB rfl))) (xj (xaz (Pe kC (i3 (xb5 jx (xv gB rfl) lm iw))))
   (xm (pS 4 sc_aj.nd zDv))))
   (Vo (iI gB T.c_n T.s.m (ok_s T) fF T.s.b zwQ))))))),?_⟩
  refine sq7 ?_; intros; obtain⟨z,dr,aC,bY,cf,⟨pt,a4,b6⟩,⟨as,fit,⟨cc,ci,be,a9⟩,q⟩⟩:47:=h;subst b6;show(fE,a0,zMt,λ h=>J9 h dF,bz,M<=30,jH dr.pic.w2,bM,h'<=16,jH dr.pic.h2)
  show(gL,lo,xkq bz bM aC dr.ok dr.pm,aA,OU,VZ)
  ext ztJ aJ;show(ve,bt,a7,dr.pic);show(dy,hf,xev aC.nn a4,aZ,(aC.ok pt a4).nm);have a8:x0 M ps srt pt.nm=(zny).map λ s=>(s,zHT):=by
   unfold x0;rw[hf]
  show(fW,pz,_,dx,_,_,rfl,⟨45,aJ,T.c_d,T.n_br,lkZp,⟨a,bt,_,rfl,a7,i8,a,dp,aT,M,h',ps,st,pt,rfl,dr.pic,dr.sts,dr.ok,aZ,hf,λ H1 l1 C ce s1 cl b7 lt1 e1 aW=>?_⟩⟩);show(jz,C=srt,xbk xb9 (b7.trans dr.pm.symm) lt1 dr.lt);have b5:=aW.len;show(fU,ca,kS zRi 32,ZR Uj aA,GP l1 e1 l2 bL);refine xbd (ef e1) zmH bL (GC,zkl zps) zAV zbh (ug H2 s2 e2)
  .ext UP bG;show(dA,s,hs,bF,aW.get bG);have aX:=(zzY).2 s (dr.pm.mem_iff.mp (Z9.mp (Zi hs)).1);show(yE,Ba bF);ext lU q3 bI;generalize eu:jI H2 q3 zpx=H3;have s3:=su_e bI eu;show(dy,g3,ug_e eu,af,(SW).trans s3);show(NN,af _ _ aJ,T.n_br,lkZp,⟨(tO,bt,af _ _ a7),dp,aT,M,h',ps,pt.nm,pt,gH,og,rfl,qY af dr.pic,aZ,hf,aX.1,aX.2,dC H4 s4⟩);ext lU q5 bH;have s5:Same H4 (jI H4 q5 (MA q3 zHT)):=h9 bH;exact lY ((s3.trans s4).trans s5) (gW,124,q5,q3,s,_,rfl,xi,s5 _ _ (s4 _ _ g3),by rw[a8,Zd,hs]; rfl)
  ext DK b5;show(GA,bh,zps,(zRi).length,Ds a8)
  obtain⟨prs,L,rfl,bo,ep,eL,hL⟩:85:=xiw (tgt:=zps) (fC ly bh) fy;show(fV,l2,prs,rfl,e2,bo,dC dq aQ);have L1:(L.map (·.2.1))=xav wZ pt.nm:=by
   have:L.map (·.2.1)=(L.map (·.2)).map (·.1):=ib Zr
   rw[this,eL];rfl
  have ll:L.length<=32:=by
   show(oz,yq eL,Za)
   lia
  have s3:No zXV:=h9 aQ;show(qR,H3,bT,e3,k3,xkp (d:=dq) L (H:=zXV) (kvs:=[]) xi (yr,s3 _ _ (hL x hx)) (by rw[L1]; exact lo.nd _) iw qp,⟨83,L0,H3,Ca,dH ep bT,?_⟩);rw[eL,W1] at e3;show(fE,b4,No H3,(gC,k3 _ _ (xb e aQ) (s3 _ _ e)),af,zzG,(SW).trans b4,ay,fw dq,(SW).free aQ);have z3:=z.same af;show(eZ,kl,ae,cg,bQ,z3.ln)
  have au:=af _ _ aJ;show(NN,au,T.n_bq,lkZl,(ur,U,Cg zA ae (a0 dk)))
  -- the heap with the new lengths
  have k4:oq U (du,H3 c,u) (ym H3 U znl):=Iv
  have e4:upd H3 U znl U=some (.dK zqF):=xi;have f4:∀ c,upd H3 U znl c=none->H3 c=none:=λ c e=>by
   by_cases y:c=U
   .ext KO y xi
   .show(rF,xg y); exact e
  revert k4 e4 f4;generalize kh H3 U zqF=H4;intro k4 e4 f4;show(gL,bj,k4 _ _ (ne_f au ae) au,b8,OwD H4 I ns J,k4 _ _ z.n3 z3.ow);show(zys,bj,(ur,I,Cg zA b8 zmH));rw[xcq _ (xgp inrI as)];have k5:oq I (du,H4 c,u) (ym H4 I (.dK zks)):=Iv
  have e5:OwD zZL I wN zbF:=by
   unfold OwD;rw[xi,Zt]
   congr 3
   .refine ZT zzc;unfold setI;rw[d6 (λ y:x=pt.nm=>as (gF y hx))]
   .show [((Jd pt.nm:Key),V.int 0)]=[(Jd pt.nm,V.int (setI J pt.nm 0 pt.nm))]
    unfold setI;rw[gq]
  have f5:∀ c,upd H4 I (.dK zks) c=none->H4 c=none:=λ c e=>by
   by_cases y:c=I
   .ext KO y xi
   .show(rF,xg y); exact e
  revert k5 e5 f5;generalize zZL=H5;intro k5 e5 f5
  -- the prices with the new one
  show(SN,aB,z3.rn,bS,aL,z3.sg.ins);show(vz,m1,bK,g1,z3.sg.so,m2,aM,g2,z3.sg.ho)
  have ad:(zjG,c≠U,U3,(du,H3 c,u),zqZ):=(zuH,k5 _ _ n2 (k4 _ _ n1 e));have ab:=z3.ow;unfold OwD at ab;show(dw,aV,Tups H3 H5,(vC,ad _ _ (mZ ae) (mZ ab) e),bq,zZT zqF,k5 _ _ (Z2 z.n3) e4);have br:=XM e3;have b9:dq∉[X,d2]:=λ y=>by
   rcases Zu.mp y with y|y
   .rw [y,z.rn] at ay; cases ay
   .obtain ⟨m0,aN,_⟩:62:=(z.sg.ho)
    ext nS zzj aN ay ay
  have z5:Pz t H5 pz a U I X p d1 d2 n wN C wZ so ho zbF aa:=by
   refine(zaG,(Vk,k5 _ _ (ne_f au ab) bj),(dB,⟨bS,XM aL⟩,zyE bK g1 aV (jO,ad _ _ (Z2 z.n4) (Z2 z.n2) e),(zWt,aM,ad _ _ (ne_f aM ae) (ne_f aM ab) e)),e5,XM aB,hB _ bq ?_ zzc)
   .have:=xbo kl zA zAm;rw[Zn,ZZ]
    lia
   .rw [xco];by_cases c:x=pt.nm
    .subst c;show(j5,dq,jn gq,br,b9)
    .rw [(A7,c (Jd.inj y))];rcases Zz.mp hx with hx|hx
     .obtain ⟨qq,q1,q2,q3⟩:63:=bQ x hx;show(j5,qq,q1,XM q2,q3)
     .exact absurd (Zs.mp hx) c
  have bP:(zjG,c≠U,U3,zX,zqZ):=(zuH,ad _ _ n1 n2 (af _ _ e));have bg:∀ x∈wN,∀ qq,(∃ kvs,(zZT kvs)/\(zcW x)=(dR qq))->∃ u,(du,H5 qq,u):=λx hx qq ⟨kv,y1,y2⟩=>by
   show(zjz,bD,av,f,z5.ln)
   show(vo,q',q1,q2,f x hx);ext fe av y1 y1;ext fe q1 y2 y2;exact iK q2
  -- those who ask
  ext R4 Y bp;show(NR,iQ H5 Y Kc,bp);ext DD da aR;have ai:Y≠da:=xb g6 aR;generalize eu:pL H6 da []=H7;ext kQ s7 aR g7;show(dy,z7,z5.same (s6.trans s7),am,s7 _ _ g6);show(dw,NE,∀{c:Addr}{u:HO},(du,H6 c,u)->c≠da,λ{c u} e=>xb e aR,bc,da≠X,Z2 (NE (sX z5.rn)));have aH:da≠d2:=by
   show(iu,m0,aN,z5.sg.ho)
   exact Z2 (NE (sX aN))
  have a5:xf8 H7 U da wN:=λx hx qq ⟨kv,y1,y2⟩=>by
   show(iu,bD,av,z5.ln)
   have y3:=IY av;ext fe y1 y3 y3;obtain⟨u,hu⟩:=bg x hx qq (dB kv av y2);exact NE (sX hu)
  show(dy,mt,fit.mt,dm,fit.dm);have sn:Ga pt.nm:=by
   show(oz,dm pt.nm,wH as);ext Re
  have aD:zfn wN:=Ky
  have aw:Grow wZ ns pt.nm so ho zhL [] jG zbF aa:=fit.grow lo as
  -- one step of asking
  have aq:∀{crowd:dD}{al:dE}{asked:dQ}{o1:fS}{r1:fO},Grow wZ ns pt.nm so ho crowd al asked o1 r1->(zpU wN)/\(dN crowd.Nodup al.Nodup (∀ s∈al,s∈C) xl zpf):=λ{crowd al asked o1 r1} gw=>by
   have c1:zpU wN:=λ b hb=>gw.bf.in_ mt dm hb;have c2:=gw.bf.nodup mt sn;show(fW,46,c1,c2,gw.bf.nd,zE,gw.bf.ask,ZR (xkl c2 c1) aD);show(F4,hj,ej,ZP hs);obtain⟨_,_,_,_,_,e4⟩:84:=gw.bf.ak j s (oZ hj ej);exact lo.ins _ _ e4
  show(su,c1,c2,c3,c4,c5,c6,aq aw);obtain⟨g0,b0,t0,aF⟩:101:=aw.nearest lo mt dm sn be a9;show(SN,cj,aw.gap lo mt dm aF,bR,bE,z7.ins);ext NF pz bR bE;refine xui (crowd:=zhL) (al:=[]) (asked:=jG) (kE,z7,am,g7,c5,c1,c2,kE c3 c4 aA aD bc lo.ins (gT,a5,aH,aF,zqm,λ H8 qs8 k8 hq8 z8 ak8=>?_));ext zMA; show(dw,bb,Y≠I,ne_f am z7.ow,ba,Y≠X,ne_f am z7.rn);show(iu,ch,aP,z7.ln)
  show(fE,bA,U≠da,ne_f aP g7,a6,U≠Y,ne_f aP am,bd,U≠X,ne_f aP z7.rn)
  -- the walk
  show(iF,λ m Z H9=>(zAZ,Z=zEo/\(oU,(zCO (du,H9 c,u)),(du,H9 qs,.tup (xa4 s)),(du,H9 Y,.lst (crowd.map V.str)),AkD H9 da ui zaC,Pz t H9 pz a U I X p d1 d2 n wN C wZ so ho (zgH o1) zVJ,Grow wZ ns pt.nm so ho crowd al asked o1 r1,zGZ zMj,zJi zgI,m=zpC)),(m6,121,zhL,[],_,m6 121 _ g0 b0 (Ar,t0,qs8,λ c u n1 n2 n3 _ e=>k8 c u n1 n2 n3 e,hq8,k8 _ _ bb ba ai am,ak8,gT z8 aw vw aF rfl)));rintro m Z H9 (⟨crowd,al,asked,o1,⟨r1,g,b,s,qs,rfl,k9,bm,aO,aU,z9,gw,rc,nr,rfl⟩⟩:121);show(h8,aS,aI,z9.ins,ao,aK,z9.sg.ins);show(dy,az,z9.sg.ho.get bm,gp,gw.gap lo mt dm nr);have bB:s∉al:=λ y=>by
   show(Ih,(gw.bf.ask s).mpr y,gp.na)
  show(su,x1,x2,x3,x4,x5,x6,aq gw);show(zFB,⟨p,_,ao,_,_,rfl,aK,T.c_n,T.n_bi,lkHo,d2,_,rfl,az,_,rfl,?_⟩);cases hs:DA with
  | some x =>
   rw[hs] at az;have aj:=gw.more mt sn gp hs;show(su,y1,y2,y3,y4,y5,y6,aq aj);obtain⟨bO,b2,t2,aE⟩:101:=aj.nearest lo mt dm sn be a9;have bN:=aj.gap lo mt dm aE;refine ifP rfl (kB,(LR,Su zpC (zAZ,σ'=zEo/\(oU,zCO IV,zmq,nH Y (.lst (crowd.map V.str)),zVl,Pz t H' pz a U I X p d1 d2 n wN C wZ so ho (zgH o1) zVJ,Grow wZ ns pt.nm so ho crowd al asked o1 r1,zGZ zMj,zJi zgI,m'=zpC))),U6 y y);ext OQ; refine⟨Eu aO,pz,_,aS,_,_,rfl,aI,T.c_d,T.n_bo,lkZs,p,_,ao,_,_,rfl,aK,T.c_n,T.n_bi,lkHo,d2,qT,rfl,az,Y,_,_,rfl,rfl,aO,zmH,?_⟩;show(dw,ah,oq Y (du,H9 c,u) (ym H9 Y (.lst zxP)),Iv,ax,C6 H9 Y (.lst zxP) Y (.lst ((zdP).map V.str)),zuc)
   have ar:=z9.keepL aO ah;show(dw,cb,(du,H9 da,(.dT ((ui).map λ z=>(lT,xz z,(zwW).getD (Zh ""))))),aU,ap,AkD zZR da ui zaC,ah _ _ (Z2 ai) aU);revert ah ax ar ap;generalize zZR=bX;intro ah ax ar ap;obtain⟨bu,bl⟩:=ar.ins;have aG:xf8 bX U da wN:=a5.keep z7 (jO,ah _ _ a6 (k9 _ _ zzk bd bA a6 e));ext NF pz bu bl;refine xui (crowd:=zdP) (al:=ui) ⟨47,ar,ax,ap,y5,y1,y2,⟨47,y3,y4,aA,aD,bc,lo.ins,⟨45,aG,aH,aE,(λ y=>by
    show(Ih,(aj.bf.ask t2).mpr y,bN.na)),λ cm aY bi bn bx bw=>?_⟩⟩⟩
   show(gG,20-(zdP).length,Ky,(oX,zdP,ui,_,_,m6 121 bO b2 t2 (xR,aY,λ c u n1 n2 n3 n4 e=>bi _ _ n1 n2 n3 (ah _ _ n4 (k9 _ _ n1 n2 n3 n4 e)),bn,bi _ _ bb ba ai ax,bw,(gT,bx,aj,.step rc (a_go nr hs),aE,rfl))))
  | none =>
   rw[hs] at az;refine ifN rfl ?_;have bv:∀ s',(kN (zwc b s'))↔s'∈ui:=λ s'=>by
    unfold Kp.upd1;by_cases c:s'=s
    .ext pi c;show(dO,λ_=>ZB _ (Zs.mpr c),qD)
    .rw [xZ,gw.bf.ask s',Zz];show(dO,.inl,λ y=>y.elim id λ y=>absurd (Zs.mp y) c)
   show(F7,hi,ei,ZP gp.ac);have ea:dX crowd b:=oZ hi ei
   have bV:=gw.bf.chain mt sn dk ea gp.rm bB;show(zFB,⟨p,ao,_,rfl,aK,xn5 fR,p,d1,d2,da,qs,n,(ui).length,xav (x0 M ps C),so,ho,zaC,λ zz=>crowd.idxOf zz,pt.nm,b,s,rfl,bm,z9.sg,aU.hod bv,aH,dk,mt,hs,zlY,bV,λ bW b1 bJ kb bZ b3 bC bU rk=>?_⟩);refine q bW _ _ b1 bJ _ s (λ c u n1 n2 n3 n4 n5 e=>?_) (z9.hand kb b3) (.step rc (x2l nr hs)) rk (gw.last lo mt sn dm x6 gp hs bC bU rk);show(dy,e5,bP _ _ n1 n2 e,e6,sX e5);exact kb _ _ n4 n5 (k9 _ _ n2 n3 (NE e6) (xb e5 bp) (s7 _ _ e6))
theorem Run.none {room:oN}{ss:dE} (snd:ss.Nodup) (hr:Xy) {ns:dD}{so:fh}{ho:dQ}{cs:jg} (r:yS) (nd:ns.Nodup) {so2:fh}{ho2:dQ} (mt2:Kp.Mt room so2 ho2) (all:∀ z∈ns,zsl):cs=[]:=by
 cases cs with
 | nil=>rfl
 | cons c r' =>
  show(hJ,j,q,b,f,sub,r.crowd nd c jL);show(dy,x,f.count b snd hr,v,Kp.hall mt2 hr f.nd (λ a ha=>all a (sub a ha)));rw[x,ZF] at v
  lia
theorem xtn {H:Hp}{ps:dL}{so:fh}:∀{names:dD}{ys:dz},(vE names.length)->(Xp,∃ q s pt,zEd (du,so pt.nm,s))->∃(prs:d0) (qs:dJ),ys=qs.map V.ref/\zg/\prs.map (·.1.nm)=names/\zIl
 | [],[],_,_=>eP 84 [] [] rfl .nil rfl zaR
 | [],eK,h,_=>hI
 | eK,[],h,_=>hI
 | nm::names,mS,h,f=>by
  obtain⟨q,s,pt,j,A,z,rfl,v⟩:105:=f 0 y rfl;obtain⟨prs,qs,I,D,C,B⟩:84:=xtn (names:=names) (ys:=ys) tE (λ i y hy=>by
   obtain⟨q,s,pt,a1,a2,a3,K,J⟩:105:=zIE;exact(gW,105,q,s,pt,by simpa using a1,a2,a3,K,J))
  have j:nm=pt.nm:=zpg
  show(fW,84,(pt,s)::prs,vW,ib I,.cons v D,ma Zq C j,rC b);rcases Ad with rfl|b
  .ext DB A z
  .exact B p b
inductive xzk (t:Adr) (vs:dz) (H:Hp) (Q:VK) (_:XK):Prop
 | mk (a ln dp do_:Addr) (w h:Nat) (ps:dL) (st srt:dE) (names:dD) (e_:zqV) (r_:Dr t H a dp do_ w h ps st srt/\rQ/\zGh/\zRF/\names.Nodup/\Bx/\(∃ so2 ho2,Kp.Mt KG so2 ho2/\∀ z∈names,zsl)/\∀ H' tp lp d_o d_r qs prs own rent so' ho',fZ->(Ej tp (Ch,.ref lp,d_o,d_r))->(nH lp m7)->zWy->prs.map (·.1.nm)=names->(ft,(∀ p∈prs,eA∈ps/\(du,so' ff,fM)),OwD H' d_o names own,RnD H' d_r srt rent,zZA so' ho',yj (fw lp) (fw d_o) (fw d_r) (fw tp) tp))
def xoi (T:dZ):FnOk true P w K mg base dS 9 t.f_least t.d_least tI (xzk t):=by
 refine T.B_least.F.okn (k:=8) xg7 (d7 H Q E h) (λ cdv A outer s H vs Q E hr h=>?_)
 .obtain ⟨a,ln,dp,ai,w',h',ps,st,srt,names,rfl,_⟩:=h;rfl
 .obtain ⟨a,ln,dp,ai,w',h',ps,st,srt,names,rfl,h⟩:=h;refine⟨_,xj (pS 2 xg7.nd (pC (xzg T) hr T.B_fits.g T.B_fits.F.kp T.B_fits.b (pd 1)))
   (xj (Dt (zfl 2))
   (xj (qe 3 xg7.nd (xfk T.k_d (ok_a0 T) fF rfl T.g_d T.a0.b .nil xq pP))
   (xj (C8 Ax (pN 4 xg7.nd) (iI jj T.c_d T.aj.m (ok_aj T) fF T.aj.b L9))
   (xj (xbw rfl (lF "name" ["prices"] [3] ["picture", "names", "crowd", "prices", "name", "pairs"] xih) Ax lu kX i7 (λ_ _ _ _ _=>Xt (xb5 jx (DZ,xv (DZ Mc) rfl) fA iw)) (j:=5) rfl oO)
   (E4 (ji 5 (pI (w6 3) (w6 3)))))))),?_⟩
  refine sq6 ?_; intros; obtain⟨dr,a9,Y,ad,ae,aB,⟨⟨a4,aD,aq,ab⟩,q⟩⟩:47:=h;have a6:srt.Nodup:=zHp;have hr:(Dl,s∈zZI,zzz):=λ n s hs=>by
   ext zQZ
   .exact zrV
   .ext zww
  refine⟨a,ln,dp,ai,w',h',ps,st,srt,names,rfl,(jN,dr,Y,ad,ae,aB,λ H1 v cs so ho s1 a8 aH=>?_)⟩;show(AR,a8.none a6 hr ae aq ab);obtain rfl:T0:=by
   rcases aH with⟨_,e⟩|⟨_,_,_,e,_⟩
   .exact e
   .cases e
  show(Ci,ifN dF ?_);refine (eI X dx av aF ne);have s2:GZ (upd (Fc H1 X) X zYY):=λb u e=>by
   show(fG,lB av,Ti,e)
  have J:=s1.trans s2;refine⟨X,dx,a,dp,ai,w',h',ps,st,srt,zrQ,rfl,xi,dr.same J,λ H2 dl ak aj p d1 d2 f1 f2 f3 f4 f5 f6 k2 z2=>FP⟩;ext qd; show(dw,a7,mK,(gC,k2 _ _ (xb e av) (s2 _ _ e)),am,Ta,Vl a7);show(dy,g1,J.free f1,g2,J.free f2);show(dy,g3,J.free f3,g5,J.free f5);show(dy,g6,J.free f6,ax,am _ _ Y);ext uq ln ax
  show(zLt,∃(v4 v5:f7) (so:fh) (ho:dQ) (M:fS) (D:fO),(nW,Z,[hU,LA,some .non,Uc,v4,v5],zzG,Pz t H3 X a dl ak aj p d1 d2 (30*i) EI srt zrQ so ho M D,LRun zrQ EI M D so ho))
  show(wf,zUX,?_)
  .exact (mC,zeg am z2 .nil)
  .show(VE,H3,U,U _ _ Y)
  .rintro i x Z H3 hx (⟨v4,v5,R,aw,⟨M,D,rfl,U,O,r3⟩⟩:121);ext Vr nm I;ext KK hi ei I;have aA:nm∉EI:=λ y=>by
    have:=xer id (ps:=names) (dH YF ae) hi nm y;exact this ei.symm
   have tk:names.take dW=EI++[nm]:=by
    rw[ZC,I];rfl
   obtain⟨ah,af⟩:=O.ins;ext NF X ah af;refine xu6 (kE,O,dr.same U,a9,dk,zzn,qaz,⟨44,aA,r3.fit,(fP,a4,aD,dH xg9 aq,λ zz ar=>ab zz (by rw[<- tk] at ar; exact QE ar)),λ H4 ap ac a5 aE asked s k4 z4 ra rk fit=>?_⟩);show(fV,121,_,_,a5,aE,eP 84 ap ac rfl (gC,k4 _ _ (xb e g1) (xb e g2) (xb e g3) (xb e g5) (xb e g6) (U _ _ e)) ?_ ?_)
   .rw [tk,Nat.mul_succ];exact z4
   .show(iX,tk,.snoc r3 ra rk fit)
  .rintro Z H3 (⟨v4,v5,R,aw,⟨M,D,rfl,U,O,r3⟩⟩:121);rw[Za,Jp] at O r3;have aa:=U _ _ Y;show(h8,ah,af,O.ins,a0,aC,O.sg.ins);have fit:=r3.fit;ext si ln aa l4 ay;refine xbd (ef aa) on ay (GC,∃(q:Addr) (s:Seat) (pt:Pt),zEd (du,R pt.nm,s)) (λ_ _ _ _ tp ⟨q,s,pt,x1,x2,x3,x4,x5⟩=>(gW,105,q,s,pt,x1,x2,x3,x4,o8 x5)) (FE i H4 hx s4) (ug H4 s4 e4)
   .ext Ke hx nm I;ext iD pt ao qaz;have sm:kN (R pt.nm):=(fC,fit.dm,decide_eq_true (Zi I))
    rcases (qbd).so.get pt.nm with⟨e0,_⟩|⟨c,qq,ec,dg,hqq⟩
    .ext AE e0 sm
    ext R4 p1 h1;ext zmU p1 Kc L h1;have aG:DGet H5 d1 zup (dR qq):=by
     show(zjz,kk,hk,fk,(qbd).so);show(dA,q',a1,a2,(fk pt.nm).2 c ec);show(dy,g,tU zA (L _ _ hk),g',tU zA hk);rcases dg with⟨kv,k,r1,r2,r3⟩|⟨kv,k,b,_,r2,_⟩
     .have e1:k=.inr pt.nm:=by
       cases k with
       | inl i=>cases r2
       | inr x=>exact congrArg Jd (V.str.inj r2).symm
      subst e1;rcases r1 with r1|⟨_,r1⟩
      .rw [hk] at r1;cases r1;ext dP r3 g
      .ext AE hk r1
     .cases r2
    show(fW,X,_,ah,_,_,rfl,(gT,L _ _ (s4 _ _ af),T.c_d,T.n_bo,lkZs,⟨p,_,a0,_,_,rfl,L _ _ (s4 _ _ aC),T.c_n,T.n_bk,lkSo,d1,.ref qq,rfl,aG,p1,qq,_,_,rfl,rfl,fX g5,fX (L _ _ hqq),dG,(OG,1+2),rP,zXN⟩));exact lY (L.trans (h9 h2)) (gW 105 p2 c pt I ao ec rfl xi)
   rw[Za] at ly;show(qG,prs,qs,rfl,pl,en,al,xtn ly fy);have z4:=O.same s4;obtain⟨az,as⟩:=z4.ins;show(fW,X,_,az,_,_,rfl,gT as T.c_d T.n_bt lkZo ⟨X,_,az,_,_,rfl,as,T.c_d,T.n_bu,lkZr,Fo,dC tp au⟩);show(zmU,tp,(Ch,.ref l4,ak,aj),L,au);exact q H5 tp l4 ak aj qs prs M D R aw ((U.trans s4).trans L) g5 (L _ _ e4) (pl.keep (Same.tups L)) en al (L _ _ z4.ow) (L _ _ z4.rn) r3 (U.free ay) g2 g3 ((U.trans s4).free au)
def xep {ss:dE} (h:zUV):ss.Nodup:=h.imp λ{a b} z e=>by
 ext gc;exact xb9 _ _ z z
noncomputable def prD (p:Pr):DV:=.tup zXA
def x28 {K:Zf}{H:Hp}{q:Addr}{p:Pr} (h:D8 p):m4 1 sH (prD p):=.tup (SqT.of h) rfl (RB,prV p)
def PrsL.dv {K:Zf}{H:Hp}{ps:d0}{qs:dJ} (h:Kd) {l:Addr} (e:uj):zjq (zei prD):=by
 ext zHt;ext zJB;exact x28 z
inductive xmo (K:Zf) (vs:dz) (H:Hp) (Q:VK) (_:XK):Prop
 | mk (a:Addr) (ns:eS) (e_:GJ) (r_:zcu/\ns.length<=63/\∀ H',Q (.bl true) H')
theorem xqt {ps:dL}{w h:Int}{ss:dE}{prs:d0} (nx:(ps.map (·.x)).Nodup) (g:Lb):∀ k,(wG).map (·.1)=prs.map (·.1)/\((wG).map (·.2)).Perm (prs.map (·.2))/\totI w wG<=wR
 | 0=>Dk RP yC
 | gu=>by
  show(jE,q,j,K,xqt (ss:=ss) nx g k);have L:=znv;show (EG).map (·.1)=_/\((EG).map (·.2)).Perm _/\totI w EG<=_;cases e:zYL with
  | none =>
   have v:EG=wG:=by
    unfold nxtP;rw[e]
   rw[v];ext eB q j K
  | some tr =>
   obtain⟨A,J,B,I,⟨C,c,H,O,Q,M,v,D,g',b⟩⟩:121:=xog nx L e;show(iF,?_,?_)
   .rw [<- q,D,H];simp
   .refine JU.trans ?_ j;rw[D,H];simp only[Zt,Zq];ext zUA;exact ((Qg.cons I.2).trans (JU.swap _ _ _)).trans (Qg.symm.cons J.2)
   .rcases b with z|⟨_,z,_⟩<;>lia
noncomputable def xel (xs:BE) (s:Seat):nB:=(xs.find? λ x=>gk dM s).map (·.2)
def xvv {xs:BE}{s:Seat}:(xel xs s).isSome=decide (s∈xs.map (·.1)):=by
 unfold xel;rw[YV,Jf,List.find?_isSome,decide_eq_true_iff,Zc];constructor
 .ext rV x c b;show(eB,x,c,of_decide_eq_true b)
 .ext rV x c b;show(eB,x,c,decide_eq_true b)
def xe7 {xs:BE}{s:Seat}{l:Int} (h:(du,xel xs s,l)):(s,l)∈xs:=by
 unfold xel at h;show(dA,x,b,c,Zg.mp h);have a:=W3 b;have a:dM=s:=zOL;rw[<- a,<- c];exact ZY b
theorem xpv {α:Type}{r:FO} (h:zWj):(Vi,zqS<=0)
 | []=>yC
 | Dx=>by
  rw[Zq,J5];show(vA,h a,xpv h l)
theorem xwm {α:Type}{r:FO}:(Vi,(∀ a∈l,r a=0)->zqS=0)
 | [],_=>rfl
 | Dx,h=>by
  rw[Zq,J5,ziu,xwm l znn];rfl
theorem xi0 {α:Type}{r:FO}{l m:fc} (p:l.Perm m):zqS=(m.map r).sum:=by
 induction p with
 | nil=>rfl
 | cons x _ ih=>rw[Zq,Zq,J5,J5,ih]
 | swap x y l=>simp only[Zq,J5]; lia
 | trans _ _ h1 h2=>rw[h1,h2]
theorem xpn {α:Type} [Iw] {r:FO} (h:zWj):∀{T ss:fc},T.Nodup->zPM->zWS<=(T.map r).sum
 | [],ss,_,_=>xpv h ss
 | x::T,ss,nd,sub=>by
  rw[ZH] at nd;have b:=sub x jL;rw[xi0 (List.perm_cons_erase b),Zq,Zq,J5,J5];show(gV,xpn h (T:=T) (ss:=ss.erase x) n6 (λ a ha=>(WI (λ e:a=x=>nd.1 (e▸ha))).mpr (sub a (Zm _ ha))))
theorem xs1 {α:Type} [Iw] {r:FO}:∀{T ss:fc},(ft,T.Nodup,ss.Nodup,zPM,(∀ a∈ss,a∉T->r a=0),zWS=(T.map r).sum)
 | [],ss,_,_,_,z=>xwm ss (uS,z a b zqm)
 | x::T,ss,nd,snd,sub,z=>by
  rw[ZH] at nd;have q:=sub x jL;show(dy,j,List.perm_cons_erase q,h,j.nodup_iff.mp snd);rw[ZH] at h;rw[xi0 j,Zq,Zq,J5,J5];rw[xs1 (T:=T) (ss:=ss.erase x) n6 i0 (uS,(WI (λ e:a=x=>nd.1 (e▸b))).mpr (sub a T7)) (λ a b na=>z a (List.mem_of_mem_erase b) (λ y=>by
   rcases Zu.mp y with y|y
   .rw [y] at b; exact h.1 b
   .exact na y))]
noncomputable def lenP (lens:gX) (p:Pr):Int:=(xel (lens ff) fM).getD 0
noncomputable def xcz (lens:gX) (prs:d0):Int:=(prs.map (lenP lens)).sum
noncomputable def gvL (lens:gX) (names:dD) (prs:d0):Bool:=decide (prs.map (·.1.nm)=names)&&(decide ((prs.map (·.2)).Nodup)&&prs.all λ p=>gM (fM∈zsW))
def xif {lens:gX}{names:dD}{prs:d0}:znV=true↔prs.map (·.1.nm)=names/\(prs.map (·.2)).Nodup/\(zqz zsW):=by
 unfold gvL;rw[Zy,Zy,decide_eq_true_iff,decide_eq_true_iff,Wj];simp only[decide_eq_true_eq]
def xfa {lens:gX}{n:Str}{s:Seat} (h:s∈zdX):∃ l,(du,xel (lens n) s,l):=by
 have:=xvv (xs:=C1) (s:=s);rw[decide_eq_true (show s∈(C1).map (·.1) from h)] at this;exact Wc.mp this
theorem xt9 {α:Type}{f g:FO}:(F3,(∀ a∈l,f a<=g a)->zYG<=(zzf).sum)
 | [],_=>yC
 | Dx,h=>by
  rw[Zq,Zq,J5,J5];show(vA,ziu,xt9 (l:=l) λ b hb=>h b (Zm _ hb))
theorem xja {α:Type}{f g:FO}:(Vi,(l.map λ a=>f a+g a).sum=zYG+(zzf).sum)
 | []=>rfl
 | Dx=>by
  rw[Zq,Zq,Zq,J5,J5,J5,xja l]
  lia
section
variable {lens:Str->List (Seat × Int)}{names:List Str}{so:Str->Option Seat}{ho:Seat->Option Str}{own:Str->Int}{rent:Seat->Int}{ss:List Seat}
def xqs {prs:d0} (e:prs.map (·.1.nm)=names):(zdA,own ff).sum=znI:=by
 rw[<- e,Zr];rfl
def Fit.dual (f:Rl) (lo:zr) {prs:d0} (g:znV=true):znI+(ss.map rent).sum<=Pn:=by
 show(jE,e,h,al,xif.mp g);have q:zIf<=Pn:=xt9 λ p b=>by
  show(Cz,l,xfa (al p b));have:=f.le ff (by rw[<- e]; show(sF,rB b)) (fM,l) (xe7 c);unfold lenP;ext dP c this
 rw[xja,xqs e] at q;have j:=xpn f.rl h (λs hs=>by
  ext zTX zix) (ss:=ss)
 rw[Zr] at j;have v:(prs.map (rent∘λ p=>fM)).sum=(zdA,rent fM).sum:=rfl
 lia
theorem Fit.tight (f:Rl) (lo:zr) (nnd:names.Nodup) {prs:d0} (e:prs.map (·.1.nm)=names) (al:zXe):znV=true/\xcz lens prs=zLl:=by
 have B:(prs.map (·.2)).Nodup:=by
  rw[Jx,JP];intro i j A x lt z;rw[Za] at A x;rw[YD,YD] at z;show(dy,a1,al _ (JO A),a2,al _ (JO x));rw[z] at a1;have:=f.mt.inj a1 a2;rw[<- e] at nnd;exact absurd this (by
   have y:=JP.mp nnd i j (lS A) (lS x) lt;rw[YD,YD] at y;exact y)
 have v:zqz zsW:=λ p b=>f.mt.rm _ _ zix;show(nY,xif.mpr (dB e B v));have H:Pn=zIf:=by
  unfold xcz
  ext me
  refine ZT (rC b);obtain⟨l,C⟩:=xfa (v p b);unfold lenP;show(dP,C,(f.eq _ _ zix l (xe7 C)).symm)
 rw[H,xja,xqs e];have D:=xs1 (r:=rent) B lo.snd (λs hs=>by
  show(zTX,v p b)) (λ s hs ns=>f.r0 s (by
  cases z:DA with
  | none=>rfl
  | some n =>
   have y:=(qaS).mpr z;have c:zvJ:=by
    show(oz,f.dm n,y);ext zqC
   rw[<- e] at c;ext jD p b c;show(eW,zix,y,absurd (Zc.mpr (dB,p,b,ZM.inj y)) ns)))
 rw[D,Zr];rfl
#check _
def xs7 {K:Zf}{H:Hp}{l:Addr}{nms:dD} (e:Bd (.lst (nms.map V.str))):m4 1 kW (.lst (nms.map DV.str)):=.lst (SqL.of e) (Ds Za) λj x d h c=>by
 rw[Zd,Zg] at h c;ext iD z hz h;ext iD i b c;show(kd,hz,b,.str)
structure GvF (lens:gX) (names:dD) (f:zvP):Prop where
 rm:∀ n∈names,f n∈zdX
 inj:∀ a∈names,∀ b∈names,zNe
noncomputable def xd0 (lens:gX) (names:dD) (f:zvP):Int:=(names.map λ n=>(xel (lens n) (f n)).getD 0).sum
structure xdx (lens:gX) (names:dD) (T:Int):Prop where
 has:∃ f,Ou/\zaW=T
 le:∀ f,Ou->T<=zaW
noncomputable def mkPr (f:zvP) (n:Str):Pr:=(gm n 0 0 n 0 0,f n)
section
variable {lens lens':Str->List (Seat × Int)}{names names':List Str}{so:Str->Option Seat}{ho:Seat->Option Str}{own:Str->Int}{rent:Seat->Int}{ss:List Seat}{f:Str->Seat}{T T':Int}
def GvF.prs (g:Ou) (nnd:names.Nodup):gvL lens names zPx=true/\xcz lens zPx=zaW:=by
 show(nY,xif.mpr (dB,?_,?_,rC h))
 .rw [Zr];exact YF _
 .rw [Zr,QW,Z5];exact Jh.imp_of_mem (λ{a b} x v c e=>c (g.inj a x b v e)) nnd
 .ext mU n q Ah;exact g.rm n q
 .unfold xcz xd0;rw[Zr];rfl
def Fit.leastF (fit:Rl) (lo:zr) (nnd:names.Nodup) {prs:d0} (e:prs.map (·.1.nm)=names) (al:zXe):xdx lens names Pn/\xcz lens prs=zLl/\∃ f,Ou/\(zZC f)/\∀ n∈names,f n∈prs.map (·.2):=by
 obtain⟨H,tight⟩:=fit.tight lo nnd e al;have y:∀ n∈names,∃ p∈prs,ff=n/\(SI fM):=λ n x=>by
  rw[<- e] at x;ext jD p v x;show(j5,p,v,rfl,al p v)
 have g:GvF lens names (λ n=>(G4).getD B7):=by
  show(gR,zxv,eI a ha b hb z)
  .obtain ⟨p,_,_,q⟩:63:=y n x;show(Dm,(G4).getD B7∈_,q,fit.mt.rm _ _ q)
  .obtain ⟨p,_,_,q⟩:63:=y a ha;obtain⟨B,_,_,A⟩:63:=y b hb;have z:(so a).getD B7=(so b).getD B7:=z;rw[q,A] at z;have z:fM=B.2:=z;rw[z] at q;exact fit.mt.inj q A
 have c:zZC (λ n=>(G4).getD B7):=by
  unfold xd0 xcz;rw[<- e,Zr];ext zPk v;show (xel (lens ff) ((so ff).getD B7)).getD 0=lenP lens p;rw[al p v];rfl
 show(gG,⟨hD g c,dC I C⟩,tight,hB _ g c zxv)
 .obtain ⟨y1,y2⟩:=C.prs nnd;rw[tight,<- y2];exact fit.dual lo y1
 .obtain ⟨p,v,_,q⟩:63:=y n x;show (G4).getD B7∈_;show(K7,q,rB v)
def xdx.le_of (a:xdx lens names T) (b:xdx lens' names' T') (h:∀ f,Ou->∃ g,GvF lens' names' g/\xd0 lens' names' g<=zaW):T'<=T:=by
 show(vz,f,g,e,a.has,c,g',le,h f g);show(gV,b.le c g')
#check _
section
variable {w:Nat}{h:Int}{ps ps':List Pt}{srt srt':List Seat}{names names':List Str}{f:Str->Seat}{T T':Int}
def xyz (nd:(ps.map (·.nm)).Nodup) {p:Pt} (hp:ut):zSI=(znW).map λ s=>(s,NU):=by
 unfold x0;rw[xev nd hp]
def xft (nd:(ps.map (·.nm)).Nodup) {p:Pt} (hp:ut) {s:Seat}:s∈xav kM p.nm↔zzz/\zgK=true:=by
 rw[xg9];unfold xbc;show(dP,xev nd hp,Z9)
def xow (nd:(ps.map (·.nm)).Nodup) {p:Pt} (hp:ut) {s:Seat} (hs:s∈xav kM p.nm):(xel zSI s).getD 0=NU:=by
 show(UN,l,xfa hs);show(oz,xe7 b,xyz nd hp);show(zC,s',e,Zc.mp this);show(dy,f,zsb,c,(zfR).2);rw[b,<- c,f];rfl
def GvF.move (nd:(ps.map (·.nm)).Nodup) (nd':(ps'.map (·.nm)).Nodup) (φ:Seat->Seat) (fp:Pt->Pt) (nin:∀ n∈names,∃ p∈ps,p.nm=n) (hn:∀ p∈ps,fp p∈ps'/\(fp p).nm=p.nm) (pm:names'.Perm names)
    (hs:∀ p∈ps,(eC,p.nm∈names,f p.nm∈srt,xb7 p (f p.nm)=true,Kn∈srt'/\xb7 (fp p) Kn=true/\lenI oQ (fp p).x (fp p).y (Kn).1 (Kn).2=lenI oQ p.x p.y (f p.nm).1 (f p.nm).2))
    (inj:∀ s t,φ s=φ t->s=t) (g:GvF kM names f):GvF zbP names' (λ n=>zxo)/\xd0 zbP names' (λ n=>zxo)=xd0 kM names f:=by
  have h:∀ n∈names,zxo∈xav zbP n/\(xel (x0 w ps' srt' n) (φ (f n))).getD 0=(xel (x0 w ps srt n) (f n)).getD 0:=λ n c=>by
    show(iD,p,q,nin n c);show(SN,r,g.rm _ c,r1,r2,(xft nd q).mp r);show(jE,a1,a2,a3,hs p q c r1 r2);obtain⟨B,z⟩:=hn p q;have A:Kn∈xav zbP p.nm:=by
      rw[<- z,xft nd' B,z];ext dO a1 a2
    ext nY A;rw[xow nd q r,<- a3];show(Ed,xow (w:=w) (srt:=srt') nd' B (s:=Kn) (dH z A),z)
  show(nY,⟨λ n c=>(h n (pm.mem_iff.mp c)).1,λ a ha b hb e=>g.inj a (pm.mem_iff.mp ha) b (pm.mem_iff.mp hb) (inj _ _ e)⟩);unfold xd0;show(dP,xi0 pm,congrArg List.sum (ZT λ n c=>(h n c).2))
#check _
noncomputable def MayA (srt:dE) (prs:d0):Prop:=∀ p∈prs,fM∈srt/\xb7 eA fM=true
theorem xug {ps:dL}{w h:Int}{ss:dE}{prs:d0} (nx:(ps.map (·.x)).Nodup) (g:Lb) (m:MayA ss prs):∀ k,MayA ss wG
 | 0=>m
 | gu=>by
  show(dy,v,xug nx g m k,y,znv);show MayA ss EG;generalize wG=b at *;unfold nxtP;split
  .rename_i tr ht
   obtain⟨A,q,B,j,⟨C,c,e,z,S⟩⟩:121:=xko (List.mem_of_head? ht);have O:q∈b:=CU
   have M:j∈b:=CU
   have D:excB ss q j=true:=by
    unfold canO at z;split at z
    .ext ii
    .cases z
   unfold excB mayB at D;obtain⟨x1,x2⟩:=nE D;show(h8,K,J,nE x1,I,H,nE x2);subst S;show(dw,R,(du,b.find? (nmF (lC q)),q),xh9 y.nn O,Q,(Bb,b.find? (nmF (lC j))),xh9 y.nn M);simp only[R,Q];rw[(xsu y.nn e).1];intro p P;have L:p∈A\/p=(q.1,j.2)\/p∈B\/p=(j.1,q.2)\/p∈C:=by simpa using P
   rcases L with k|k|k|k|k
   .ext zmM
   .rw [k];show(dO,of_decide_eq_true K,J)
   .ext zmM
   .rw [k];show(dO,of_decide_eq_true I,H)
   .ext zmM
  .exact v
def xll {w:Nat}{h:Int}{ps:dL}{srt:dE}{prs:d0} (nd:(ps.map (·.nm)).Nodup) (ok:zag oQ h) (m:Pg):xcz kM prs=wR:=by
 unfold xcz totI;ext zPk c;have b:=ZY (ok p c).fd;unfold lenP;rw[xow nd b ((xft nd b).mpr (m p c))];rfl
inductive x1o (t:Adr) (vs:dz) (H:Hp) (Q:VK) (_:XK):Prop
 | mk (a dp do_:Addr) (w h:Nat) (ps:dL) (ss srt:dE) (e_:GJ) (r_:Dr t H a dp do_ w h ps ss srt/\rQ/\mR/\sO/\∀ H' tp ln qs prs cs so ho,fZ->(Ej tp (MA ln wR))->(nH ln m7)->zWy->zgP->xdx kM SX wR->prs.map (·.1.nm)=SX->(eC,zSf,Pg,cans oQ ss prs=[],GX tp))
def xy1 {ps:dL}{cs:jg}:∀ nm∈SX,zrf:=λ nm b=>by
 show(dA,p,a,e,Zc.mp (Z9.mp b).1);ext eB p a e
def xuh {room:oN}{ns:dD}{so:fh}{ho:dQ}{cs:jg} (r:yS) (nd:ns.Nodup):∀ z∈RH,(kN (so z)):=λz hz=>by
 have a:=Z9.mp hz;rw[r.dom nd,decide_eq_true a.1,J6];exact a.2
def xun {w h:Nat}{ps:dL}{ss srt:dE}{names:dD}{prs:d0}{own:fS}{rent:fO}{so:fh}{ho:dQ} (pok:rQ) (sok:zdH) (pm:Ko) (en:prs.map (·.1.nm)=names) (nnd:names.Nodup) (n12:Bx) (al:zIl) (run:zZA so ho):zSf/\Pg:=by
 have mt:=run.fit.mt;have q:Pg:=λ p c=>by
  obtain⟨a1,a2⟩:=al p c;exact (xft pok.nn a1).mp (mt.rm _ _ a2)
 show(gR,(zuY,c,dH en nnd),q)
 .obtain ⟨a1,a2⟩:=al p c;show(dy,o,pok.ok _ a1,b,sok.2.2 fM (pm.mem_iff.mp (q p c).1));exact(eY,o.nm,xev pok.nn a1,pk,b.2,fQ o.x1 o.x2 o.y1 o.y2)
 .rw [<- en] at nnd;ext K4 nnd;exact nnd.imp_of_mem λ{a b} B A z e=>z (mt.inj (s:=b.2) (e▸(al a B).2) (al b A).2)
 .show(oz,yq en,Za)
  lia
def xlg (T:dZ):FnOk true P w K mg base dS 10 t.f_answer t.d_answer vk (x1o t):=by
 refine T.B_answer.F.okn (k:=9) xd6 (d7 H Q E h) (λ cdv A outer s H vs Q E hr h=>?_)
 .ext zkZ I v
 .obtain ⟨a,dp,I,v,h',ps,ss,srt,rfl,h⟩:=h;refine⟨_,xj (xbi (pC (xoi T) hr T.B_least.g T.B_least.F.kp T.B_least.b (ji 0 (i3 (pC (xze T) hr T.B_kept.g T.B_kept.F.kp T.B_kept.b pP)))) (rX 1 xd6.nd 2 3))
   (xj (zgm (pC (xot T) hr T.B_uncrossed.g T.B_uncrossed.F.kp T.B_uncrossed.b (pd 1)) xd6.nd)
   (E4 (AA 4 (pC (xn8 T) hr T.B_total.g T.B_total.F.kp T.B_total.b (pd 4))))),?_⟩
  refine sq3 ?_; intros; obtain⟨J,j,ab,ai,q⟩:45:=h;show(fU,M,zxO,j.nn,⟨a,dp,I,v,h',ps,ss,srt,rfl,J,M,λ H1 l1 R so ho s1 f1 e1 L=>?_⟩);have aa:=J.same s1;have knd:(TV).Nodup:=Jh.filter _ M;have kl:zfn TV:=by
   refine ZR Uj ?_;unfold xao;show(dP,Za,j.le)
  refine⟨a,l1,dp,I,v,h',ps,ss,srt,TV,rfl,(Do,aa,j,e1,xy1,knd,kl,(fP,so,ho,L.mt,xuh L M),λ H2 tp lp av au qs prs ap ak ao ar s2 ae ah pl en al ow rn y _ _ _ _=>?_)⟩;ext jC tp ae;have O:=aa.same s2;obtain⟨Y,my⟩:=xun j J.ok J.pm en knd kl al y;show(fU,ad,MayA ss prs,lR ⟨J.pm.mem_iff.mp (my p hp).1,(my p hp).2⟩,⟨a,dp,I,lp,v,h',ps,ss,prs,qs,rfl,(kE,O.pic,O.sts,ah,pl,Y,j.nx,λ H3 ac ln ls n S sq s3 f3 g3 e3 U as am ne C cn aq=>?_)⟩);ext jC ac g3;have aj:=O.same s3;refine⟨a,dp,I,ln,v,h',ps,_,S,rfl,(jN,aj.pic,e3,U,(C n).ok,(C n).le,dC H4 s4)⟩;ext lU qt af;have lo:=xkq ab ai j J.ok J.pm;show(jE,k1,k2,k3,xqt (ss:=ss) j.nx Y n);show(gL,X,xug j.nx Y ad n,D,MayA srt K9,lR ⟨J.pm.mem_iff.mpr (X p hp).1,(X p hp).2⟩)
  have Z:(K9).map (·.1.nm)=TV:=by
   rw[<- en];have z:=congrArg (List.map λ p:Pt=>p.nm) k1;ext FA Zr Zr
  have gv:gvL (x0 v ps srt) TV K9=true:=xif.mpr (dB,Z,k2.nodup_iff.mpr Y.ns,(lR,(xft j.nn (ZY ((C n).ok p hp).fd)).mpr (D p hp)));have dual:=y.fit.dual lo gv;show(Ff,lf,tight,y.fit.leastF lo knd en (lR,(al p hp).2));rw[xll j.nn (C n).ok D] at dual;rw[xll j.nn Y.ok my] at lf tight;show(vG,et,totI v K9=totI v prs,dk,sf,Same H3 (jI H4 qt (MA ln (totI v K9))),s4.trans (h9 af),q _ qt ln S K9 R so ho (((SW).trans s3).trans sf) xi (sf _ _ e3) (zbw sf) L ?_ Z (C n) D cn);ext dP et lf
noncomputable abbrev Cl:=j6
noncomputable def SD (H:Hp) (d:Addr) (n:Nat) (m:fD):Prop:=∃ kvs,LY/\zqX/\(kvs.map (·.1)).Nodup/\(∀ kv∈kvs,∃ c,sU=ck c)/\∀ c,zUt=(m c).map V.str
theorem xlp {κ:Type} [wF] (kvs:je) (k:κ) (v:V):(rS).map (·.1)=kvs.map (·.1)\/(Ol/\(rS).map (·.1)=kvs.map (·.1)++[k]):=by
 cases e:tK with
 | none =>
  rw[xcq v e,Zt];ext hX vq
 | some y =>
  left;unfold putK;rw[eD (jw xd3 e),Zr]
  ext me
  funext kv;show (Xo v).1=sU;split<;>rfl
theorem xi3 {κ:Type} [wF]:∀{kvs:je}{k:κ},Ol->k∉kvs.map (·.1)
 | [],_,_,h=>nomatch h
 | wc,k,e,h=>by
  by_cases z:dM=k
  .show(zia,xbg z)
  .show(rF,xa8 z);rcases Ae with h|h
   .exact z h.symm
   .exact xi3 e h
def xpf {κ:Type} [wF] {kvs:je}{k:κ}{v:V} (h:(kvs.map (·.1)).Nodup):((rS).map (·.1)).Nodup:=by
 rcases xlp kvs k v with e|⟨i,e⟩
 .ext iX e h
 .rw [e,ZE];show(gG,h,dG,λ a f b c z=>xi3 i ?_);show(eW,Zs.mp c,z,z▸f)
def xnv {κ:Type} [wF] {kvs:je}{k:κ}{v:V}{P:oh κ} (hk:P k) (h:zVf):∀ kv∈rS,zgb:=λ kv c=>by
 have m:sU∈(rS).map (·.1):=S1 kv c;rcases xlp kvs k v with e|⟨_,e⟩
 .rw [e] at m;ext yb z hz f m;rw[<- f];exact h z hz
 .rw [e] at m;rcases Zz.mp m with m|m
  .ext j7 z hz f zzi;rw[<- f];exact h z hz
  .show(iX,Zs.mp m,hk)
def SD.put {H:Hp}{d:Addr}{n:Nat}{m:fD} (s:E6) (hn:TW) {b:Addr}{c:Cl} (eb:zZH) (x:Str) :
    ∃ H',(d9,zQO,SD H' d iZ (zjw m x),znU,zoO):=by
  ext uc kvs e l j q vs s;refine⟨64,_,UM AX e eb Gn,⟨65,_,xi,?_,xpf j,xnv (P:=zOq) (vD c) q,mI⟩,zMF,zDc⟩
  . show(gV,xbo kvs AX (.str x))
  . rw[xco]
    unfold Drw.set1;by_cases zc:z=c
    . ext zZM
    . rw[(A7,zc (xmw y)),zzS]
      exact vs z
def SD.get {H:Hp}{d:Addr}{n:Nat}{m:fD} (s:E6) {b:Addr}{c:Cl} (eb:zZH):zgt ((m c).map V.str):=by
 ext uc kvs e l h j vs s;show(mL,vs c,LL AX e eb)
def SD.keep {H H':Hp}{d:Addr}{n:Nat}{m:fD} (s:E6) (h:zwH):SD H' d n m:=by
 ext zPh
def SD.le {H:Hp}{d:Addr}{n k:Nat}{m:fD} (s:E6) (h:n<=k):SD H d k m:=by
 ext zle
def SD.new {H:Hp}{d:Addr} (e:H d=some (.dT [])):SD H d 0 Drw.no:=eP 65 [] e eV Yh m9 qD
noncomputable def lsS (x r:Int) (c:Cl):Str:=Drw.ls L6 (Zh "|") L5 x r c
noncomputable def ledS (w:Int) (p:Pr):BP:=Drw.ledP L6 (Zh "|") L5 w uP yD nR iT
noncomputable def hsS:Str:=Zh "#"
def xl8 {w x y:Int}{b:Bool}{r:Int} (h1:we) (h2:Dy) (h3:mR) (h4:1<=y) (h5:y<=16) (h6:Ha) (h7:r<=16):kS LX 50:=by
 unfold Geo.cells Geo.upL Geo.lvL Geo.upN Geo.lvN;rw[Zn,Za,Za,Zx,Zx];ext O4
def xqp (c d:Cl):DV.tup (jJ fK ir)=DV.tup (jJ d.1 d.2)↔c=d:=by
 constructor
 .intro h
  show(dy,a,Yq.inj (DV.tup.inj h),b,Yq.inj a.2);exact W9 (DV.int.inj p5) (DV.int.inj b.1)
 .intro h
  rw[h]
inductive xx1 (vs:dz) (H:Hp) (Q:VK) (_:XK):Prop
 | mk (q:Addr) (c:Cl) (x r:Int) (e_:E2 sH x r) (r_:Rh/\(TF,Q (.str zvm) H'))
inductive xu2 (t:Adr) (vs:dz) (H:Hp) (Q:VK) (_:XK):Prop
 | mk (a l dp do_:Addr) (pw ph:Int) (ps:dL) (prs:d0) (qs:dJ) (e_:EF) (r_:zmc (zIz 600 (zaJ (prs.flatMap (ledS pw)))))
def ok_a3 (T:dZ):FnOk true P w K mg base dS 1 t.f_a3 t.d_a3 XU (xx1):=by
 refine T.a3.F.okn (k:=0) sc_a3 (d7 H Q E h) (λ cdv A outer s H vs Q E hr h=>?_)
 .obtain ⟨q,c,x,r,rfl,_⟩:=h;rfl
 .obtain ⟨q,c,x,r,rfl,h⟩:=h;refine⟨_,xj (yy (xae zsh fA ziD oW) (iz (xar)))
   (iz (xd5 (FX (zel fA) im) (xar) (xar))),?_⟩
  refine sq2 ?_; intros; ext IK; obtain⟨J,h⟩:=h;ext lU I D;generalize L:yd H I x r=C;ext rY m D L R;show(dw,U,Dv K C 1 sH (UX fK ir),IF (fX (m _ _ J)) fK ir,S,Dv K C 1 (.ref I) (UX x r),IF (fX R) x r);show(fV,1,1,_,_,U,sx S qJ);rw[xh0 (x:=c) (y:=yk) rfl rfl (xqp c yk)];have M:zvm=(jq c yk L6 (jq,fK,x,Zh "|",L5)):=rfl
  ext yu mI
  .have e:=h C m;rw[M,zHF] at e;exact e
  .ext zNR O yk;show(ij,q,_,0,.int fK,(uG,fX (m _ _ J),rfl,rfl,qJ));have e:=h C m;rw[M,d6 O] at e;ext yu Gw
   .have y1:fK=x:=zGv;show(eW,eD y1,e,e)
   .have y1:¬ fK=x:=λ w=>y (decide_eq_true (jn w));show(eW,d6 y1,e,e)
def ok_ag (T:dZ):FnOk true P w K mg base dS 7 t.f_ag t.d_ag jp (xu2 t):=by
 refine T.ag.F.okn (k:=6) sc_ag (d7 H Q E h) (λ cdv A outer s H vs Q E hr h=>?_)
 .obtain ⟨a,l,dp,Y,C,ph,ps,prs,qs,rfl,_⟩:=h;rfl
 .obtain ⟨a,l,dp,Y,C,ph,ps,prs,qs,rfl,h⟩:=h;refine⟨_,xj (pS 2 sc_ag.nd (xfv))
   (xj (xa1 Z7 rfl Ax (rX 3 sc_ag.nd 4 5) (xj (RW (VP Ut) (zw 6 sc_ag.nd 7 sc_ag.nd))
   (xm (Dg (x8 zkg) 8 sc_ag.nd (uf kC DF (xd5 (xds (xgq jx DF (pv 2))) (xar) (pC (ok_a3 T) hr T.a3.g T.a3.F.kp T.a3.b (ji 8 (lM 6 5)))))))))
   (tM 2)),?_⟩
  refine sq3 ?_; intros; ext uR R hl ac ai ay;have ax:=ac.len;ext DD d hd;generalize eu:Ve []=H1;ext qd; ext kQ s1 hd g1;show(uq,l,s1 _ _ hl)
  let Pv (i:Nat) (Z:L2.St) (H5:Hp):Prop:=(zDi,vJ,FQ,SD H5 d (50*i) (zaJ ((wT).flatMap (ledS C))))
  show(wf,rR,(mC (ku,s1,SD.new g1)))
  .show(VE,H5,O,O _ _ hl)
  .rintro i x Z H5 hx (⟨v3,v4,v5,v6,⟨v7,v8,rfl,O,sd⟩⟩:121);ext BD hx ao;obtain⟨⟨pt,b,r⟩,hp,aq⟩:62:=ac.get ao;show(gL,ok,ai _ (Zi hp),a0,i<12,Ao hp)
   show(dy,w2,R.w2,h2,R.h2);show(fE,xy,zEO C,ok.xy,r1,Ha,ok.r1,r2,UU,ok.r2);show(yE,O _ _ aq);ext OQ; have D:=Pic.same O R;show(pJ,dx,ar,D,⟨a,dx,_,rfl,ar,i8,a,dp,Y,C,ph,ps,pt.nm,pt,rfl,D,ok.nm,ok.fd,λ H6 q6 s6 ap=>EC q6 ap⟩);ext zMy; refine⟨a,dp,Y,C,ph,ps,pt.nm,pt,b,r,rfl,(kE,qY s6 D,ok.nm,ok.fd,ok.r1,ok.r2,ok.xy,λ H7 l7 cq s7 X af av=>Hh l7 X)⟩;have L:=sd.keep (H':=H7) (jO,s7 _ _ (s6 _ _ e));have ak:l7≠d:=by
    ext zZV X
   show(dy,as,af.len,a4,xl8 (b:=b) xy.1 (eE xy) w2 (uT xy) dk r1 dk);have ll:(Ef).length=cq.length:=by
    unfold ledS Drw.ledP;rw[Za,as]
   let Pv (j:Nat) (Z:L2.St) (H8:Hp):Prop:=∃(v8:f7),(gf,Z,[hU,nM,vJ,zN pt.nm,some vL,hO r,hO pt.x,hO pt.y,v8],(oq d (du,H7 c,u) (du,H8 c,u)),SD H8 d (50*i+j) (Drw.marks hsS (zaJ ((wT).flatMap (ledS C))) ((Ef).take j)))
   show(wf,cq.map V.ref,yO zrB L)
   .rintro j Z H8 _ (⟨_,rfl,U,_⟩:63);show(nI,U _ _ ak X)
   .rintro j x Z H8 hx (⟨v8,rfl,U,v⟩:63);ext Vr qc ad;show(dA,c,hc,ae,af.get ad);have az:j<50:=Ao ad
    have aj:qc≠d:=by
     ext zZV ae
    have J:=U _ _ aj ae;have aa:∀ m:fD,Drw.marks hsS m ((Ef).take lG)=Drw.mark1 hsS (Drw.marks hsS m ((Ef).take j)) c zrX:=λ m=>by
     have e:gU Ef (c,zrX):=by
      ext zKy
     rw[ZC,e];unfold Drw.marks;rw[Yk];rfl
    show(zfo,d,v.get J,ite2 mI mI)
    .rw [YV] at z;show(zEV,H9,ah,k9,v.put dk J hsS,(B4,k9 _ _ nc (U _ _ nc e)));show(dP,eD z,ah)
    .rw [YV] at z;show(fW,qc,c,pt.x,r,rfl,J,dC H9 s9);show(zEV,au,ab,am,(v.keep (H':=H9) (jO,s9 _ _ e)).put dk (s9 _ _ J) zrX,(B4,am _ _ nc (s9 _ _ (U _ _ nc e))));ext qV z ab
   .rintro Z H8 (⟨aw,rfl,U,v⟩:63);rw[Za] at v;show(zws,ku (sJ,U _ _ (xb e hd) (IY (O _ _ e))) ?_);rw[ZA (l:=Ef) dk] at v;have e:(prs.take dW).flatMap (ledS C)=(wT).flatMap (ledS C)++Ef:=by
     rw[ZC,hp,YA];exact congrArg _ (Yn _)
    rw[e];refine SD.le ?_ (gE,50*i+cq.length<=50*dW);unfold Drw.marks at v ⊢;ext dP Yk v
  .rintro Z H5 (⟨v3,v4,v5,v6,⟨v7,v8,rfl,O,sd⟩⟩:121);refine (q H5 d O hd ?_);ext lE UY sd;exact sd.le dk
def xng {lo:Int}{m n:Nat}{g:TG}{Z:L2.St}{fr:fT}{te:TE}{l:Addr}{H1:Hp}{Q:VK} (hlen:ziC) (hl:nJ) (f:Nat->V)
    (step:zLj (∀ H',Tq->N (f i) H'))
    (fin:∀ H2,mK->(du,H2 l,.lst ((Zv m).map f))->FL):xcj zfx n g Z fr xda te l H1 Q:=by
  refine xr0 hlen hl (λ i y _=>y=f i) Eb (λ i H2 hi s N h=>step i H2 hi s N λ H' s'=>h _ H' s' rfl) (λ ys H2 s e ly fy=>fin H2 s ?_);rw[e]
  congr 2
  show(zoC,ma ly Za Zx,b,c);rw[fy i _ (Zb b),YD,Zaa]
noncomputable def rimC (w:Int) (s:Seat):Cl:=(zhg,og)
noncomputable def xb1 (w:Int) (ss:dE):BP:=ss.map λ s=>(Cc,Zh ".")
noncomputable def xbj (w:Int) (prs:d0):BP:=prs.map λ p=>(zwf,ff)
noncomputable def ptsS (ps:dL):BP:=ps.map λ p=>(zL,p.nm)
noncomputable def xrh (w:Int) (ss:dE) (prs:d0):fD:=zXS (zpT Drw.no)
noncomputable def rowT (w:Nat) (r:Int) (m:fD):Str:=QR (Zh "") ((Zv jR).map (iW,j,(G1).getD (Zh " ")))
noncomputable def xdl (w h:Nat) (m:fD):dz:=(Zv h).map (iW,i,V.str (rowT w Az m))
noncomputable def xw1 (m:fD):Prop:=∀ c s,zcD->s.length<=5
inductive x1a (t:Adr) (vs:dz) (H:Hp) (Q:VK) (_:XK):Prop
 | mk (a l dp do_:Addr) (pw ph:Int) (ps:dL) (ss srt:dE) (prs:d0) (qs:dJ) (e_:EF) (r_:oU kK wJ IS Ko Ov uj zg Em (zIz 50 (xrh pw srt prs)))
inductive x2j (vs:dz) (H:Hp) (Q:VK) (_:XK):Prop
 | mk (d:Addr) (n w:Nat) (r:Int) (m:fD) (e_:E2 qU oQ r) (r_:(d9,E6,xw1 m,mR,(TF,Q (.str (rowT w r m)) H')))
def xmk {o:zop}{k:oh V}{v:V} (e:o=(qz v)) (z:k v):oV o k:=by
 ext pZ z
def xwx {t:Adr}{Z:L2.St}{H:Hp}{Q:VK}{i j:Nat}{b:Bool}{w:Int} (hi:GN=(qz vL)) (hj:gU Z Gp) (h:ON Ml) :
    xms t.C_o (Zh "rim") (sp1 (V.int 0)) [] Oz zCq tNil Z H Q \/
    xms t.C_e (Zh "rim") (xwu t) [] Oz zCq tNil Z H Q:=by
  cases b
  . show(qZ,xmk hi (xmk hj (Am false w u f a c)))
    show(FD,q,id a);exact⟨p,q,_,rfl,hs,Uz,p,w,rfl,a,h u c⟩
  . show(Dn,xmk hi (xmk hj (Am true w u f a c)))
    show(FD,q,id a);exact(zqD,q,hs,h u c)
theorem SD.puts {d:Addr}:∀(L:(Ms,Cl × Str)) {H:Hp}{n:Nat}{m:fD},E6->n+L.length<=1000->(∀ x∈L,(AF,dM,(fj).1,(fj).2)) ->
    ∃ H2,(ztI (lT,V.ref dM,hV))/\SD H2 d (n+L.length) (Drw.sets m (L.map λ x=>(fj,hV)))/\(zVq (du,H2 a,u))
  | [],H,n,m,s,_,_=>hB H .nil s Ka
  | pW,H,n,m,s,hn,hk=>by
    rw[ZF] at hn;obtain⟨D,C,z,q,_⟩:64:=s.put dk (hk x jL) hV;obtain⟨H2,b,v,A⟩:63:=SD.puts L z dk (λ y hy=>by
      have e:=hk y (Zm _ hy);ext iu kvs B s;exact q _ _ (mZ B) e)
    show(j5,H2,.cons C b,v.le (sv ZF),λ a u j e=>A _ _ j (q _ _ j e))
theorem xl1 {H:Hp}{w:Int}:∀{ss:dE}{ys:dz},(vE ss.length)->(Xp,∃ p kp s,d9 zxC (dX ss s) (pq p (ztL kp)) (AF kp zhg og)) ->
    ∃ L:zuX Seat,Xc/\L.map (·.2.2)=ss/\∀ x∈L,(pq dM (ztL fj))/\(AF fj (Mq,(hV).1) Hc)
  | [],[],_,_=>zVK
  | ML,mS,hl,h=>by
    show(CK,p,kp,s',rfl,q,j,c,h 0 y rfl);cases q;show(zKO,xl1 (ss:=ss) (ys:=ys) (by simpa using hl) (λ i z hz=>h dW z hz),(p,kp,s)::L);rcases Ad with rfl|b
    . ext dO j c
    . exact v x b
  | [],eK,hl,_=>nomatch hl
  | eK,[],hl,_=>nomatch hl
def xma {m:fD}{L:BP}{i:Nat}{c:Cl}{x:Str} (h:dX L (c,x)):Drw.sets m (L.take dW)=(zjw (Drw.sets m (L.take i)) x):=by
 rw[ZC,h];unfold Drw.sets;rw[Yk];rfl
def ok_a5 (T:dZ):FnOk true P w K mg base dS 7 t.f_a5 t.d_a5 jp (x1a t):=by
 refine T.a5.F.okn (k:=6) sc_a5 (d7 H Q E h) (λ cdv A outer s H vs Q E hr h=>?_)
 .obtain ⟨a,l,dp,ai,v,ph,ps,ss,srt,prs,qs,rfl,_⟩:=h;rfl
 .obtain ⟨a,l,dp,ai,v,ph,ps,ss,srt,prs,qs,rfl,h⟩:=h;refine⟨_,xj (qe 2 sc_a5.nd gB)
   (xj (pS 3 sc_a5.nd (Ng (mh,(qb ["side", "row"] ["width"] [2] zCN s_a5),zkW fA,DM,Gb,i7,xab (xa (xab (xa (xfw (qI (pC (ok_ac T) hr T.ac.g T.ac.F.kp T.ac.b (pd 2)) T.c_o T.ao.m (ok_ao T) fF T.ao.b) (qI (pC (ok_ac T) hr T.ac.g T.ac.F.kp T.ac.b (pd 2)) T.c_e T.ae.m (ok_ae T) fF T.ae.b)) nN)) (i3 (xar))))))
   (xj (yc Ax (rX 4 sc_a5.nd 5 6) (uf jj (Nb (xfw (qI (pC (ok_ac T) hr T.ac.g T.ac.F.kp T.ac.b zxb) T.c_o T.ao.m (ok_ao T) fF T.ao.b) (qI (pC (ok_ac T) hr T.ac.g T.ac.F.kp T.ac.b zxb) T.c_e T.ae.m (ok_ae T) fF T.ae.b)) ziN) lm))
   (tM 3))),?_⟩
  refine sq4 ?_; intros; obtain⟨ac,aj,a0,pm,ap,hl,⟨ab,a4,q⟩⟩:47:=h;ext ve dx ae ac;show(dy,az,ab.len,ay,pm.length_eq);show(mf,_,ae,T.n_a6,lkW,?_);refine⟨zcP dx ae,v,ph,ps,ss,rfl,ac,aj,λ l1 C rs aw sl aq ao=>?_⟩;show(jz,C=srt,xbk xb9 (aq.trans pm.symm) ao ap);show(NS,i5 l1 znC,aw);show(dy,ak,sl.keep (Same.tups s1),am,sl.len);ext si l1 g1 l2 av;refine xbd (ef g1) on av (λ i y H5=>∃ p M s,d9 zxC (dX C s) (OV p (ztL M)) (OV M (jJ (Drw.rim v gH) og))) ?_ ?_ ?_
  .rintro i y H5 H6 tp (⟨p,M,s,e1,e2,e3,e4⟩:104);exact(mX,p,M,s,e1,e2,zzg,o8 e4)
  .intro i x H5 J s5 N hN
   ext BD J O;show(Rb,b,r,hs,as,ak.get O);show(yE,lA as);refine xwx (i:=0) (j:=2) (b:=b) (w:=v) rfl rfl (dC H6 s6);show(gR,jV,λ M U=>⟨jV,rC R⟩);exact lY (s6.trans (xt (h9 U) R)) (mX p M mT rfl hs xi (GU,jY xi R))
  .intro ys H5 s5 e5 ly fy
   show(eZ,L,rfl,e2,e3,xl1 (ss:=C) (ma ly Za am) fy);have lL:L.length=C.length:=by rw[<- e2,Za]
   show(fV,l2,tN (dM,zxr,V.str (Zh ".")),rfl,dH Zr e5,?_,dC d hd)
   .intro p R
    ext tt J R;exact (e3 x J).1
   have fd:Uk:=s1.free (s5.free hd);obtain⟨H6,ah,I,k6⟩:63:=SD.puts (d:=d) zLc (SD.new (H:=pL H5 d []) xi) xP (λ x J=>by
    ext C7 J;show(sL,(e3 z hz).2,hd))
   refine fJ L0 H6 Ca ?_ ?_
   .rw [Zr] at ah ⊢;exact ah
   ext qd; have ad:zzF:=(sJ,k6 _ _ (xb e fd) (dH,lB fd,lA zV));have ed:(zLc).map (λ x=>(fj,hV))=xb1 v C:=by
    unfold xb1;rw[<- e2,Zr,Zr];rfl
   rw[ed] at I;have I:=I.le (k:=32) xP;show(uq,l,ad _ _ hl)
   let Pv (i:Nat) (Z:L2.St) (Y:Hp):Prop:=∃(v4 v5 v6:f7),(gf,Z,[hU,nM,hO v,vJ,v4,v5,v6],hZ Y,SD Y d (32+i) (Drw.sets (Drw.sets Drw.no (xb1 v C)) ((xbj v prs).take i)))
   show(wf,rR,eP 103 _ _ _ rfl ad I)
   .show(zKV,Y,X,X _ _ hl)
   .rintro i x Z Y J (⟨v4,v5,v6,rfl,X,D⟩:103);ext BD J O;obtain⟨⟨pt,b,r⟩,R,au⟩:62:=ab.get O;have a5:i<12:=Ao R
    show(yE,X _ _ au);refine (xwx (i:=5) (j:=2) (b:=b) (w:=v) rfl rfl (dC H8 s8));ext lU M U;generalize eu:yd H8 M (Drw.rim v b) r=H9;ext kQ s9 U g9;obtain⟨ax,af,aa,ar,_⟩:64:=(D.keep (H':=H9) (jO,s9 _ _ (s8 _ _ e))).put (c:=rimC v mT) dk g9 pt.nm;refine(gK,d,ax,af,eP 103 _ _ _ rfl (sJ,ar _ _ (xb e fd) (s9 _ _ (s8 _ _ (X _ _ e)))) ?_);rw[xma (c:=rimC v mT) (x:=pt.nm)]
    .exact aa
    .unfold xbj;rw[Zd,R];rfl
   .rintro Z Y (⟨v4,v5,v6,rfl,X,D⟩:103);refine (q Y d X fd ?_);show(lE,ZA (l:=xbj v prs) (by unfold xbj; rw[Za]; lia),D);exact D.le dk
def ok_bf (T:dZ):FnOk true P w K mg base dS 1 t.f_bf t.d_bf NL (x2j):=by
 refine T.bf.F.okn (k:=0) sc_bf (d7 H Q E h) (λ cdv A outer s H vs Q E hr h=>?_)
 .obtain ⟨d,n,z,r,m,rfl,_⟩:=h;rfl
 .obtain ⟨d,n,z,r,m,rfl,h⟩:=h;show(Fs,(xef PySem.F.plainAttrs_str PySem.F.slot_str_join PySem.F.type_str_join xpp (xar) (i3 (mh,(lF "column" ["signs", "row"] [0,2] NL s_bf),Iu (i3 zzd),lu,kX,i7,xoh jx im (xab (pd 2)) (xar) zSl))));ext A6 J sh S;show(gR,rfl,(gm,64,(jf,z+2),ib W4,dk,dk,dC U C));refine xng Gn C (iW,j,V.str ((G1).getD (Zh " "))) ?_ ?_
  .intro i I hi v N Y
   simp only[Qw];show(iu,kvs,ed,id J);show(fV,64,d,rfl,.inr ⟨kvs,.inl (v _ _ ed)⟩,jV,rC X);generalize M:rD I (jJ i9 r)=R;ext rY L X M Z;refine(nX,(J.keep (H':=R) (jO,L _ _ (v _ _ e))).get (c:=(i9,r)) Z);have e:((m (i9,r)).map V.str).getD zql=V.str ((m (i9,r)).getD (Zh " ")):=(zuS,m (i9,r))
   show(pZ,Y R L)
  .intro I v O
   rw[JS] at O;show(ij,M4,U,(Zv (z+2)).map (iW,j,(G1).getD (Zh " ")),5,(uG,jw O Zr,zE,?_,q I v))
   .ext Ei j zfN;cases e:G1 with
    | none=>exact (fR:kS (Zh " ") 5)
    | some x=>exact sh _ _ e
   .ext zHv
theorem xjw {κ:Type} [wF]:∀(more kvs:je) (k:κ),(more.map (·.1)).Nodup->valV zgO k=(valV more k).or tK
 | [],kvs,k,_=>rfl
 | wc,kvs,k,nd=>by
  ext wQ;show valV zOe k=_;rw[xjw r _ k n6,xco];by_cases e:dM=k
  .ext gc;rw[zhn,gq];have:valV r dM=none:=by
    cases z:valV r dM with
    | none=>rfl
    | some y =>
     show(Cz,i,xk0 z);show(zof,(iJ,Zi c))
   rw[this];rfl
  .rw [AM,zXP]
theorem xj6 {κ:Type} [wF] {P:oh κ}:∀(more kvs:je),(∀ kv∈more,zgb)->((kvs.map (·.1)).Nodup/\zVf)->((zgO).map (·.1)).Nodup/\(∀ kv∈zgO,zgb)/\(zgO).length<=zST
 | [],kvs,_,h=>dB iA i0 eV
 | wc,kvs,hm,h=>by
  have z:=xj6 r (zio kvs) (λ kv hkv=>hm kv (Zm _ hkv)) ⟨xpf h.1,xnv (hm x jL) i0⟩;ext iF iM sG;have:=qQ;have:=xbo kvs dM fY;rw[ZF];show (zOe).length<=_
  lia
noncomputable def xh7 (w:Int) (c:Cl):Prop:=(fK=0\/fK=f8)/\1<=ir/\ir<=16
theorem xsy {α β:Type}{f:At}:(F3,Ik->∀ a∈l,∀ b∈l,zNe)
 | [],_,_,ha,_,_,_=>nomatch ha
 | uN,nd,a,ha,b,hb,e=>by
  ext wQ;rcases Zu.mp ha with n|i<;>rcases Zu.mp hb with j|h
  .rw [n,j]
  .subst n;show(zof,dB b h e.symm)
  .subst j;show(zof,dB a i e)
  .exact xsy n6 a i b h e
noncomputable def xha (w:Nat):List Cl:=((Zv 16).map (iW r (pT,ziG)))++((Zv 16).map (iW r (CV,ziG)))
def xol {w:Nat}{c:Cl} (h:zyM):c∈xha w:=by
 ext zcI;ext jE b j f h;show(dw,j,1<=v,j,f,v<=16,f);unfold xha;rw[Zz,Zc,Zc];have e:(lX,nG v)=v:=dk
 rcases b with b|b
 .have b:u=0:=b;show(iE,(rG,nG v,zvN,fC e b))
 .have b:u=CV:=b;show(hX,(dB,nG v,zvN,fC e b))
def xvu {w:Nat} (w1:pX) (w2:mR) {a b:Cl} (ha:xh7 w a) (hb:xh7 w b) (e:th p5 a.2=th pk b.2):oa:=by
 have z:=xxn w dk w1;have y:((xha w).map λ c:Cl=>th fK ir).Nodup:=by
  unfold xha;rw[Zt,Zr,Zr];ext i4
 exact xsy y a (xol ha) b (xol hb) e
def SD.hash {X:Cx}{H:Hp}{d:Addr}{n w:Nat}{m:fD}{kvs:gJ} (s:E6) (e:LY) (w1:pX) (w2:mR) (hm:∀ c,(yH,m c)->zyM):(kvs.map λ x=>zfy).Nodup:=by
 ext uc I J l D L vs s;ext fe e J J;have B:∀ kv∈kvs,∃ c,sU=ck c/\zyM:=λ kv hkv=>by
  show(sr,c,L kv hkv);show(gG,c,q,hm c mI);have y:=vs c;show(eW,z,y,xi3 y (Zc.mpr (dB kv hkv q)))
 rw[Jx,Z5];rw[Jx,Z5] at D;ext OI D;intro a b O M C j;show(vz,c,q,K,B a O,P,A,v,B b M);rw[q,A] at j C;unfold ck at j;rw[xou,xou] at j;exact C (jn,xvu w1 w2 K v j)
def SD.merge {H:Hp}{a b:Addr}{n k:Nat}{m m2:fD}{kvs more:gJ} (s:SD H a n m) (s2:SD H b k m2) (ea:Gf) (eb:zKt):SD (pL H a EE) a (n+k) (λ z=>(m2 z).or (m z)):=by
 ext uc A j l B C vs s;ext fe ea j j;ext uc x i D q y p s2;ext fe eb i i;have z:=xj6 (P:=zOq) more kvs y ⟨B,C⟩;show(fW,65,EE,xi,?_,iM,sG,pR)
 .have:=qQ;unfold xdp
  lia
 .unfold xdp;rw[xjw _ _ _ q,p,vs];show _=Wl V.str ((m2 c).or (m c));cases m2 c<;>rfl
theorem xc1 {P:zvQ}:zCc zVS
 | [],_,hm,_,c,s,e=>hm c s e
 | pW,m,hm,hL,c,s,e=>by
  refine xc1 (L:=L) (m:=zpe) ztt zOA c s e;unfold Drw.set1 at e;ext Na
  .cases e;exact hL x jL
  .exact hm c s e
theorem xe1 {P:zvQ}{hs:Str} (hh:P hs):(zCc,Drw.marks hs m L c)
 | [],_,hm,_,c,s,e=>hm c s e
 | pW,m,hm,hL,c,s,e=>by
  refine xe1 hh (L:=L) (m:=zNq) ztt zOA c s e;unfold Drw.mark1 Drw.set1 at e;ext Na
  .cases e;split
   .exact hh
   .exact hL x jL
  .exact hm c s e
def xjy {L:BP}{m:fD}{c:Cl} (h:yH zVS):(yH,m c)\/∃ x∈L,dM=c:=by
 by_cases z:c∈L.map (·.1)
 .ext j7 x f e zzJ;show(hX,dB x f e)
 .show(j4,Drw.sets_no z);ext iE h
def xnu {s:Str} (h:Gk):s.length<=5:=by
 unfold isNm at h;rw[Zy] at h;show(gV,zoE h)
def xvi (x r:Int) (c:Cl):kS zvm 5:=by
 ext qbs
 .ext tP
 .split<;>decide +kernel
noncomputable def xee (w:Int) (ps:dL) (ss:dE) (prs:d0):fD:=Drw.drawP hsS DT Fv zJ uh
theorem xj9 {w:Int}{ps:dL}{ss:dE}{prs:d0} (h1:N1) (h2:X9):xw1 zpK:=by
 show(znO,(du,(Drw.no:fD) c,s)->s.length<=5);have q:=xc1 (P:=zaX) (L:=Fv) no (λx b=>by
  ext Hi z zhK;show (ziZ).length<=5;ext tP)
 have j:=xc1 (P:=zaX) (L:=zJ) q (λx b=>by
  ext C7 b;exact xnu (h2 z hz))
 have i:=xe1 (P:=zaX) (hs:=hsS) (by unfold hsS; decide +kernel) (L:=prs.flatMap (ledS w)) no (λx b=>by
  ext zLT;exact xvi _ _ _)
 intro c s e;refine xc1 (P:=zaX) (L:=ptsS ps) (λc s e=>?_) (λx b=>by
  ext C7 b;exact xnu (h1 z hz)) c s e
 cases e1:zJr with
 | some y =>
  show(kd,e1,e,j c _ e1)
 | none =>
  ext zUs;exact i c s e
inductive xxj (t:Adr) (vs:dz) (H:Hp) (Q:VK) (_:XK):Prop
 | mk (a l dp do_:Addr) (w h:Nat) (ps:dL) (ss srt:dE) (prs:d0) (qs:dJ) (e_:EF) (r_:Dr t H a dp do_ w h ps ss srt/\(dN uj zg (zag oQ vN) Em zAQ))
def xmz (T:dZ):FnOk true P w K mg base dS 8 t.f_drawn t.d_drawn jp (xxj t):=by
 refine T.B_drawn.F.okn (k:=7) xdn (d7 H Q E h) (λ cdv A outer s H vs Q E hr h=>?_)
 .obtain ⟨a,l,dp,J,v,h',ps,ss,srt,prs,qs,rfl,_⟩:=h;rfl
 .obtain ⟨a,l,dp,J,v,h',ps,ss,srt,prs,qs,rfl,h⟩:=h;refine⟨_,xj (qe 2 xdn.nd (pC (ok_ag T) hr T.ag.g T.ag.F.kp T.ag.b (pd 1)))
   (xj (xaz (xef JW PySem.F.slot_dict_update PySem.F.type_dict_update (xsp (xaq hr)) kC (i3 (pC (ok_a5 T) hr T.a5.g T.a5.F.kp T.a5.b (pd 1)))))
   (xj (yc ST (GY (xo (pN 3 xdn.nd) (xo (pN 4 xdn.nd) (zVA xdn.nd)))) (uf kC (xab (lM 4 5)) jj))
   (iz (mh,(lF,"row",["signs", "picture"],[2,0],zkX "x" "y" "sides" "low" "high",xil),zbL (uI (qM gB)),lu,kX,i7,pC (ok_bf T) hr T.bf.g T.bf.F.kp T.bf.b (ji 1 (xa (DZ,w6 2) pP)))))),?_⟩
  refine sq4 ?_; intros; ext uR O hl ac aa ad;show(iR,j,O.pic,w1,j.w1,w2,j.w2);show(dy,h2,j.h2,av,j.len);show(pJ,dx,af,j,⟨a,l,dp,J,v,h',ps,prs,qs,rfl,(jN,j,hl,ac,aa,ad,eI H1 D s1 f1 Y)⟩);show(iu,kvs,e1,id Y);refine⟨.inr (SB (hR,.inr ⟨kvs,e1⟩)),a,l,dp,J,v,h',ps,ss,srt,prs,qs,rfl,qY s1 j,O.sts.same s1,eE O.ok,O.pm,O.lt,s1 _ _ hl,ac.keep (Same.tups s1),ad,eI H2 d2 s2 f2 I⟩;show(iu,more,e2,id I);have aj:=s2 _ _ e1;have ne:D≠d2:=xb e1 f2;have ao:∀ c,(yH,xrh v srt prs c)->xh7 v c:=λ c hc=>by
   rcases xjy hc with hc|⟨x,hx,rfl⟩
   .rcases xjy hc with hc|⟨x,hx,rfl⟩
    .ext mP hc
    .ext zec hx;have o:=O.ok.2.2 z (O.pm.mem_iff.mp hz);show(iF,?_,o.1)
     .ext zJk iM
      .ext pK
      .ext sC
     .show rH<=16
      lia
   .ext zec hx;show(iR,o,aa z hz,o1,o.r1,o2,o.r2);show(iF,?_,o1)
    .ext zJk sG
     .ext pK
     .ext sC
    .show qQ<=16
     lia
  have ax:kvs.length<=600:=by
   ext zQr Y e1
  have aw:more.length<=50:=by
   ext zQr I e2
  show(ij,D,d2,kvs,more,(kE,rfl,ne,aj,e2,λ_=>I.hash e2 dk dk ao,dk,?_));ext Hx; have X:=(Y.keep (H':=H2) (jO,s2 _ _ e)).merge I aj e2;have s3:hZ (pL H2 D EE):=λc u e=>by
   show(dP,lB f1,s2 _ _ (s1 _ _ e))
  revert X s3;generalize pL H2 D EE=H3;intro X s3;refine⟨(tO,dx,s3 _ _ af),dp,J,v,h',ps,rfl,qY s3 j,λ H4 l4 ds s4 ab L=>?_⟩;show(dy,dl,L.len,U,X.keep (H':=H4) (jO,s4 _ _ e));have aq:l4≠D:=by
   ext iu kv e U;exact ne_f ab e
  refine Hh l4 ab
  let Pv (i:Nat) (Z:L2.St) (R:Hp):Prop:=(zDi,dR D,(oq D (du,H4 c,u) (du,R c,u)),SD R D (650+i) (Drw.sets (λ z=>(xrh v srt prs z).or (Drw.marks hsS Drw.no (prs.flatMap (ledS v)) z)) ((uh).take i)))
  show(wf,ds.map V.ref,(mC,ku zrB U))
  .show(VE,R,k5,k5 _ _ aq ab)
  .rintro i x Z R hx (⟨v3,v4,v5,v6,⟨v7,v8,rfl,k5,C⟩⟩:121);ext BD hx ar;show(dA,p,hp,ae,L.get ar);have ay:i<12:=Ao hp
   have ap:qa≠D:=by
    ext iu kv e U;exact ne_f ae e
   show(yE,k5 _ _ ap ae);ext lU kp au;show(NR,yd R kp p.x p.y,au);obtain⟨H7,ak,am,k7,_⟩:64:=(zHq).put (c:=zL) dk g6 p.nm;refine gK D H7 ak (mC,ku (B4,k7 _ _ nc (sX (k5 _ _ nc e))) ?_);rw[xma (c:=zL) (x:=p.nm)]
   .exact am
   .ext zWg
  .rintro Z R (⟨v3,v4,v5,v6,⟨v7,v8,rfl,k5,C⟩⟩:121);show(lE,ZA (l:=uh) (by unfold ptsS; rw[Za]; lia),C);show(dw,s5,hZ R,(sJ,k5 _ _ (xb e f1) (s4 _ _ (s3 _ _ e))),C,SD R D (650+ds.length) (zuN v),C);have ah:=lA af;show(mf,_,ah,T.n_be,lkH,(gK,1,lX h',Ea,dC l6 ai));refine xng Gn ai (A8,V.str (rowT v Az (zuN v))) ?_ ?_
   .intro i H6 hi s6 N hN
    have as:=s6 _ _ ah;exact zep _ as ⟨D,_,v,Az,_,rfl,zHq,xj9 O.nm (lR,(aa p hp).nm),dk,hN⟩
   .intro H6 s6 e6
    refine q H6 l6 (s5.trans s6) (s5.free ai) ?_;rw[e6,(gE,(nG (lX h'))=h')];rfl
noncomputable def xdq (b:Bool) (h:Nat):dE:=(Zv h).map (iW i (b,Az))
structure xom (w h:Int) (ps:dL) (prs:d0):Prop where
 ok:zqp
 nd:(prs.map (·.2)).Nodup
 len:Em
 nn:(zdA ff).Nodup
noncomputable def xdb (w:Int) (p:Pr):BP:=Drw.ledL L6 (Zh "|") L5 w uP yD nR iT
noncomputable def xbr (w:Int) (ps:dL) (ss:dE) (prs:d0):fD:=Drw.drawL hsS N6 Fv zJ uh
def xdg {w:Nat} (w1:pX) {a b:Seat} (e:zMa):oa:=by
 ext h8 a1 a2 a h u b;show(dw,c,(Mq a1)=(Mq h),zsb,q,a2=u,(zfR).2);subst q;unfold Drw.rim at c;cases a1<;>cases h
 .rfl
 .simp at c; lia
 .simp at c; lia
 .rfl
def xe9 (w:Int) (s:Seat):(Cc).1=0\/(Cc).1=f8:=by
 show zhg=0\/zhg=f8;ext zrx
 .ext pK
 .ext sC
theorem xgx {α β:Type}{f g:α->FR}:(F3,(∀ a∈l,f a=g a)->l.flatMap f=l.flatMap g)
 | [],_=>rfl
 | Dx,h=>by
  rw[Qz,Qz,ziu,xgx znn]
def xql {w h:Nat}{ps:dL}{ss:dE}{prs prs':d0} (w1:pX) (pok:xc3 w h ps) (pal:xom w h ps prs) (pm:prs'.Perm prs):xee w ps ss prs'=Io:=by
 funext c;unfold xee xbr;refine Drw.draw_same (w:=w) hsS (sY j) (sY j) (sY j) zxM ?_ c (dC n1 n2)
 .show(mU,p,v,Zc.mp j);ext zSz v
 .ext zXC s
 .ext zXC og
 .rw [Zr];have q:=(pm.map (·.2)).nodup_iff.mpr pal.nd;ext K4 q;exact q.imp λ A e=>A (xdg w1 e)
 .rw [Drw.at_flat,Drw.at_flat];rw[xgx (g:=λ a=>Drw.at_ c (xdb w a))]
  .exact pm.flatMap_right _
  intro a z;have ok:=pal.ok a (pm.mem_iff.mp z);refine Drw.led_at _ _ _ ok.xy.1 (eE ok.xy) (λ e=>n1 ?_) (λ e=>n2 ?_)
  .rw [e];unfold ptsS;show(K7,Zr,(kZ,p5,ZY ok.fd))
  .rw [e];show(K7,Zr,kZ a z)
def xxo {h:Nat}{s:Seat} (o:zAe):s∈xdq true h++xdq false h:=by
 ext CA r s;show(fE,i,Ha,o.1,f,r<=h,o.2,z,∀ b,mT∈xdq b h,λ b=>Zc.mpr (dB,zje,zvN,jn (gE,(kG zje)=r)));cases b
 .exact ZB _ (z false)
 .exact ZO _ (z true)
def xv0 (w h:Nat) (m:fD):(zeR).all scV=true:=Wj.mpr λ v b=>by
 ext Hi i zhK;rfl
def xm5 {K:Zf}{H:Hp}{a:Addr}{w h:Nat}{m:fD} (e:qj a zeR):m4 1 eQ (.lst ((zeR).map scD)):=.lst (ef e) (jn Za) (xdj (xv0 w h m))
noncomputable abbrev Gs:=Nat × Ro
noncomputable def sgV (s:Gs):dz:=[zAf,zAg,sgn dU]
noncomputable def GV (G:gD):dz:=G.map λ r=>zgw r
noncomputable def sgR (i:Nat) (r:fT):gP:=(Zv r.length).map λ j=>zSc
noncomputable def sgsN (G:gD) (n:Nat):gP:=(AZ).flatMap λ i=>sgR i (G.getD i [])
noncomputable def sgs (G:gD):gP:=sgsN G G.length
structure Txs (W:Nat) (G:gD):Prop where
 h1:1<=G.length
 h2:G.length<=16
 wd:∀ r∈G,r.length=W
 asc:∀ r∈G,∀ c∈r,c<128
 w1:3<=W
 w2:W<=32
noncomputable def TL {α:Type} (f:Gm) (H:Hp) (as:fc) (qs:dJ):Prop:=qs.length=as.length/\(zmC qs zrO)
def TL.keep {α:Type}{f:Gm}{H H':Hp}{as:fc}{qs:dJ} (s:nu) (h:zrP):TL f H' as qs:=⟨iA,Vg (E3,a,e1,e2,h.2 i q e,e1,s _ _ e2)⟩
def TL.nil {α:Type}{f:Gm}{H:Hp}:TL f H [] []:=(hR,Vg K3)
def TL.append {α:Type}{f:Gm}{H:Hp}{as bs:fc}{qs rs:dJ} (h:zrP) (k:TL f H bs rs):TL f H (as++bs) (qs++rs):=by
 show(gR,by rw[Zn,Zn,iA,k.1],wa i q);by_cases c:i<qs.length
 .show(rF,ZL c);show(dP,ZL (gF iA c),h.2 i q e)
 .show(rF,Jc dk);rw[Jc (by rw[<- iA]; lia),<- iA];exact k.2 _ q e
theorem TL.pick {α:Type}{f:Gm}{H:Hp}:∀{as:fc}{ys:dz},(zoF,as.length,(∀(j:Nat) (y:V) (a:α),(xB,as,a,∃ q,pG/\znK)),TL f H as rs)
 | [],[],_,_=>nU [] TL.nil
 | [],eK,h,_=>hI
 | eK,[],h,_=>hI
 | ML,mS,h,k=>by
  show(vz,q,e,v,k 0 y s rfl rfl,rs,x,r,TL.pick (as:=ss) (ys:=ys) tE zlk)
  show(gG,q::rs,jw e x,TL.append (as:=[s]) (qs:=[q]) (hR,d8 i z b) r);cases i with
  | zero =>
   simp at b;subst b;ext yw s v
  | succ i=>simp at b
def xdt (l:fT):vU UV l.length:=by simp[ofL,WX]
def xya {l:fT} (h:∀ c∈l,c<128):(UV).cps.all (·<128)=true:=by
 rw[Array.all_eq_true];intro i b;have:(UV).cps[i]∈(UV).cps.toList:=dG
 rw[xbz] at this;show(Pb,h _ this)
inductive xy3 (vs:dz) (H:Hp) (Q:VK) (_:XK):Prop
 | mk (l:Addr) (W:Nat) (G:gD) (e_:zzb) (r_:Oc/\zgR/\zhd)
inductive xy4 (vs:dz) (H:Hp) (Q:VK) (_:XK):Prop
 | mk (l:Addr) (W:Nat) (G:gD) (e_:zzb) (r_:Oc/\zgR/\∀ H' l' qs,(yj,fZ,fw l',nH l' m7,TL sgV H' iy qs,l'))
noncomputable def xhe (j:Nat):Bool:=gk j 0
inductive xv4 (vs:dz) (H:Hp) (Q:VK) (_:XK):Prop
 | mk (q:Addr) (i j:Nat) (e_:vs=[sH]) (r_:(MC i9 pQ)/\∀ H' q',eC fZ (fw q') (nH q' (.tup (xa4 (xhe j,i9+1)))) (GX q'))
def xjv (G:gD):vU (GV G) G.length:=by unfold GV; rw[Za]
def xmm {G:gD}{i:Nat}{r:fT} (h:zfA):dX (GV G) (zgw r):=by unfold GV; rw[Zd,h]; rfl
def xlb {G:gD}{i:Nat}{r:fT} (h:zfA):sgsN G dW=sgsN G i++zyt:=by
 unfold sgsN;rw[JB,YA,Q2,JM,h];rfl
theorem xg5 {W:Nat}{G:gD} (o:zgR):∀ n,n<=G.length->(Sk).length=n*W
 | 0,_=>ie sgsN
 | iZ,h=>by
  obtain⟨r,b⟩:∃ r,lQ G n r:=(iK,Zb h)
  rw[xlb b,Zn,xg5 o n dk,Nat.add_mul,Nat.one_mul];unfold sgR;rw[Za,Zx,o.wd r (Zi b)]
def ok_a1 (T:dZ):FnOk true P w K mg base dS 1 t.f_a1 t.d_a1 zR (xy3):=by
 refine T.a1.F.okn (k:=0) sc_a1 (d7 H Q E h) (λ cdv A outer s H vs Q E hr h=>?_)
 .ext yW l W G
 .ext y8 l W G;refine⟨_,xj (zad (V6 "list" T.n_list boot_list) (xc5 (xch (xm2 xga xga (xp) zyR (Ox 16 T.v_bx.choose_spec)))))
   (xm (yc (zat pP) (AH 1 sc_a1.nd 2) (zad (zkN (AA 2 zDx)) (xc9 (xch (xm2 xga xga (xp) (IN xc6 CW) (qM (Ox 30 T.v_bs.choose_spec)))) (xc5 (xae xmp (IN xc6 CW) zFZ oW)))))),?_⟩
  refine sq2 ?_; intros; ext uF L o;show(iR,h1,o.h1,h2,o.h2,w1,o.w1);show(zwg,o.w2);show(zHR,R,I,o.wd R (Zi I));show(jb,(Lr,.lst L,CH),(ur,l,vm L));show(jb,XN (sv gl) (Lj (ib,pE (sv gl))),(ur,l,ef L))
  show(zBX,∃(O M:f7),Z=[nM,O,M]/\(hZ C),fP _ _ rfl lH)
  .rintro i Z C _ (⟨_,_,rfl,j⟩:82);show(nI,j _ _ L)
  .rintro i x p Z C U hp (⟨O,M,rfl,j⟩:82);have ig:i<G.length:=by
    ext M7 U
   obtain⟨r,J⟩:∃ r,zfA:=(iK,Zb ig)
   show(fe,xmm J,U,U);show(gL,D,o.wd r (Zi J),le,∀ z:fT,z.length=W->(KF (ofL z)),(re,by rw[xdt,hz]; exact xf5 dk))
   generalize eu:zKr=H6;show(iR,Y,su_e hp eu,g6,zyy,X,Y _ _ (j _ _ L));ext jC p g6;show(jb,Lr nK CH,(yO,le r D,XN (FY xdt D) ?_));show(jb,Lj (ib,pE (FY xdt D)),(yO,le r D,⟨l,_,0,Tx R,rfl,rfl,ef X,?_,_,rfl,le R l0,rfl,_,rfl,ifN ?_ (fP,_,_,rfl,j.trans Y)⟩))
   .ext zKU I
   .rw [xdt,xdt,D,l0];simp
  .rintro Z C (⟨O,M,rfl,j⟩:82);exact q C j
def ok_a2 (T:dZ):FnOk true P w K mg base dS 1 t.f_a2 t.d_a2 zR (xy4):=by
 refine T.a2.F.okn (k:=0) sc_a2 (d7 H Q E h) (λ cdv A outer s H vs Q E M h=>?_)
 .ext yW l W G
 .ext y8 l W G;refine⟨_,xj (SS 1 sc_a2.nd)
   (xj (C8 (zat pP) (GY (Ce (zaI 2 sc_a2.nd) (pN 3 sc_a2.nd))) (zCF im (i3 (mh,(qb ["column", "sign"] ["row"] [2] zFW s_a2),xtj rfl T.n_enumerate Ut,DM,Gb,i7,xab zvk))))
   (tM 1)),?_⟩
  refine sq3 ?_; intros; ext uF hl o;have U:=o.h2;show(zwg,o.w2);ext KN f hf;generalize O:DJ H f=H1;ext qd; ext rY s1 hf O g1;refine(ur,l,ef (s1 _ _ hl))
  show(zBX,∃(v2 Y:f7) (qs:dJ),(nW,Z,[nM,dR f,v2,Y],hZ C,(du,C f,m7),TL sgV C (sgsN G i) qs),TH [] s1 g1 TL.nil)
  .show(zKV,C,L,L _ _ hl)
  .rintro i x p Z C hx hp (⟨v2,Y,qs,rfl,L,e5,v⟩:104);have ig:i<G.length:=by
    ext M7 hx
   obtain⟨r,M⟩:∃ r,zfA:=(iK,Zb ig)
   show(fe,xmm M,hx,hx);show(dy,rl,o.wd r (Zi M),ra,o.asc r (Zi M));generalize O:zKr=H6;show(iR,s6,su_e hp O,g6,ug_e O,X,sX e5);ext jC p g6;show(gR,Eu X,(vZ,ofL r,xya ra,dC l1 I));refine xoz (by rw[xbz,rl]; exact xba dk) I (λ j y J=>∃ q,pG/\(du,J q,.tup (sgV zSc))) (λ j y J H8 tp ⟨q,e1,e2⟩=>(dB,q,e1,o8 e2)) (λ j c pp J hc s7 hpp N hN=>?_) (ug J s7 e7)
   .rw [xbz] at hc;refine uX pp (fQ,zzE,rfl,Fo,zaM (nU u ?_));rw[xi,JM,hc];rfl
   .rw [xbz] at ly;obtain⟨rs,rfl,tr⟩:62:=TL.pick (f:=sgV) (H:=J) (as:=zyt) (ys:=ys) (by rw[ly]; unfold sgR; rw[Za,Zx]) (λ j y a h1 U=>by
     unfold sgR at U;ext SV U j' hj;obtain⟨_,ej⟩:=Zj.mp hj;rw[Zaa] at ej;subst ej;exact fy _ y h1)
    show(gL,R,s7 _ _ X,ne,f≠l1,λ z=>by rw[z] at X; ext js X I I)
    show(dy,ln,xg5 o i dk,tq,v.1);show(ij,f,l1,_,_,uG R e7 ?_ ?_)
    .rw [ly,Za,tq,ln];have:i*W<=16*32:=zrr dk;ext TM
    show(fU,kt,Tups J (iQ J f (rR++qbg)),vC (dH,sD e R,e),(TH,qs++rs,sJ (dH,lB hf,IY (L _ _ e)),fC xi Zt,?_));rw[xlb M];exact ((((v.keep (Same.tups s6)).keep (Same.tups s7)).append tr).keep kt)
  .rintro Z C (⟨v2,Y,qs,rfl,L,e5,v⟩:104);show(eW,gl,v,q C f qs L hf e5 v)
def ok_bc (T:dZ):FnOk true P w K mg base dS 1 t.f_bc t.d_bc zvU (xv4):=by
 refine T.bc.F.okn (k:=0) sc_bc (d7 H Q E h) (λ cdv A outer s H vs Q E hr h=>?_)
 .ext yW q i j
 .ext y8 q i j;refine⟨_,xj (yi 0 (AH 1 sc_bc.nd 2))
   (E4 (pI (xd5 (oJ xcb 2 (xp)) (xar) (xar)) zzd)),?_⟩
  refine sq2 ?_; intros; obtain⟨y,x⟩:=h;ext jC q y;show(Ci,ite2 pR pR)
  .have p:j=0:=by
    have:=of_decide_eq_true c;injection this with z
    lia
   ext zJD;rw[xi,p];rfl
  .have p:¬ j=0:=λ z=>c (ib z);ext zJD;rw[xi];unfold xhe;rw[zRu];rfl
noncomputable abbrev letF (lc:Int) (o i:Addr):oE:=[("last_column",.int lc),j3 "outer" o,j3 "inner" i]
def xh2 {lc:Int}{o i:Addr}{m:Str} (e:((["last_column", "outer", "inner"]:dD).all λ k=>zeG)=true):(zdc).lookup m=none:=by
 ext V0;obtain⟨h,c,b,_⟩:44:=e;unfold letF;ext zbN h zkK;ext zsx zOr
def ltL {lc:Int}{o i:Addr}:(zdc).lookup (iH "last_column")=some (.int lc):=by
 unfold letF;show(zbx,"last_column","last_column")
def ltO {lc:Int}{o i:Addr}:(zdc).lookup (iH "outer")=(dR o):=by
 unfold letF;show(HD,"outer","last_column",zkK)
def ltI {lc:Int}{o i:Addr}:(zdc).lookup (iH "inner")=(dR i):=by
 unfold letF;rw[Z1,Sv "inner" "last_column"];show Je (iH "inner") zkK=_;show(HD,"inner","outer",zOr)
inductive LD (H:Hp):gQ gP eG
 | nil:LD H [] []
 | cons {s:Gs}{q:Addr}{es:gP}{kvs:eG} (h:Rg) (r:wM):LD H (s::es) ((j3 pB q)::kvs)
theorem LD.keep {H H':Hp} (s:nu) {es:gP}{kvs:eG} (h:wM):LD H' es kvs:=by
 induction h with
 | nil=>ext pU
 | cons h _ ih=>ext Kk
theorem LD.len {H:Hp}{es:gP}{kvs:eG} (h:wM):kvs.length=es.length:=by
 induction h with
 | nil=>rfl
 | cons _ _ ih=>ext wj
theorem LD.snoc {H:Hp}{es:gP}{kvs:eG} (h:wM) {s:Gs}{q:Addr} (e:Rg):LD H (es++[s]) (kvs++[j3 pB q]):=by
 induction h with
 | nil=>ext zcJ
 | cons h _ ih=>ext Kw
def xfp {c d:Nat} (h:ofL [c]=ofL [d]):c=d:=by
 have:=zFo;simp only[xbz] at this;exact (Yq.inj this).1
def xqd {c d:Nat} (h:(Jd (ofL [c]):Key)=Jd (ofL [d])):c=d:=xfp (Jd.inj h)
theorem LD.get {H:Hp}{es:gP}{kvs:eG} (h:wM) {i:Nat}{k:Key}{x:V} (e:oB):∃ s q,(d9,dX es s,k=pB,jQ x q,Rg):=by
 induction h generalizing i with
 | nil=>ext sT
 | @cons s q es kvs h _ ih =>
  cases i with
  | zero =>
   ext zEM s
  | succ j=>ext Aq
theorem LD.is {H:Hp}{es:gP}{kvs:eG} (h:wM) (c:Nat):(sN,(valV kvs (.inr (ofL [c]))).isSome,c∈es.map λ s=>dU):=by
 induction h with
 | nil=>rfl
 | @cons s q es kvs h r ih =>
  by_cases z:dU=c
  .subst z;rw[zhn];simp
  .rw [(zhW,z (xqd e)),ih];have f:¬ c=dU:=λ e=>z e.symm;simp[f]
theorem LD.at_ {H:Hp}{es:gP}{kvs:eG} (h:wM) {s:Gs} (hs:s∈es) (nd:zKe):∃ q,valV kvs pB=C0/\Rg:=by
 induction h with
 | nil=>ext zww
 | @cons s' q es kvs h r ih =>
  ext wQ;rcases Zu.mp hs with z|z
  .subst z;ext eB q zhn h
  .have c:(fH s')≠dU:=λ e=>nd.1 (e▸(S1 s z));show(dP,(zhW,c (xqd e)),ih z n6)
theorem LD.keys {H:Hp}{es:gP}{kvs:eG} (h:wM):kvs.map (·.1)=(zpa).map Jd:=by
 induction h with
 | nil=>rfl
 | cons _ _ ih=>simp only[Zq,ih]
structure Let (t:Adr) (H:Hp) (a o i:Addr) (lc:Nat) (os is:gP):Prop where
 ins:∃ dx,eO a (ro t.C_g (letF (eg lc) o i))
 ou:∃ kvs,(Bs o)/\LD H os kvs
 inn:∃ kvs,(Bs i)/\LD H is kvs
 ne:o≠i
def Let.same {t:Adr}{H H':Hp}{a o i:Addr}{lc:Nat}{os is:gP} (h:zbo) (s:fZ):LQ H' lc os is :=
 (dY,let ⟨dx,e⟩:=h.ins; zgT,let ⟨k,e,r⟩:=h.ou; zGU,let ⟨k,e,r⟩:=h.inn; zGU,h.ne)
noncomputable def nmC (c:Nat):Bool:=(gM (97<=c))&&(gM (c<=122))
theorem lt1 (a b:Nat):(ww<[b])↔a<b:=by
 constructor
 .intro h
  cases h with
  | rel h=>exact h
  | cons h=>show(gz,h,(by ext kH; cases z))
 .exact λ h=>.rel h
def xj2 (c:Nat):isNm (ofL [c])=nmC c:=by
 unfold isNm nmC;rw[xdt,xbz];simp only[lt1];ext UQ
noncomputable def rimB (lc j:Nat):Bool:=(gk j 0)||(gk j lc)
noncomputable def lieB (is:gP) (i j c:Nat):Bool:=(zHy,c∉is.map λ s=>dU,λ s=>zeF||zeE)
noncomputable def mayL (lc:Nat) (os is:gP) (s:Gs):Bool:=if zul then (zug||zuh)||(CQ&&(gM (dU∉os.map λ s=>dU))) else ((Ag).contains dU)||(CQ&&Oq)
inductive xyb (t:Adr) (vs:dz) (H:Hp) (Q:VK) (_:XK):Prop
 | mk (p dx:Addr) (lc:Nat) (e_:vs=(tf mN (eg lc))) (r_:(eO p zYX)/\∀ H' o i,(ft,fw o,fw i,D0 p,Let t H' p o i lc [] [],se))
inductive xxr (t:Adr) (vs:dz) (H:Hp) (Q:VK) (_:XK):Prop
 | mk (a o i:Addr) (lc:Nat) (os is:gP) (j:Nat) (e_:vs=(tf eQ pQ)) (r_:zbo/\(O0 (rimB lc j)))
inductive x13 (t:Adr) (vs:dz) (H:Hp) (Q:VK) (_:XK):Prop
 | mk (a o i:Addr) (lc:Nat) (os is:gP) (s:Gs) (e_:zmT) (r_:zLR Oq)
inductive xzj (t:Adr) (vs:dz) (H:Hp) (Q:VK) (_:XK):Prop
 | mk (a o i:Addr) (lc:Nat) (os is:gP) (s:Gs) (e_:zmT) (r_:zLR zTZ)
noncomputable def outP (lc:Nat) (s:Gs):Bool:=zul&&CQ
noncomputable def innP (lc:Nat) (s:Gs):Bool:=! zul&&CQ
inductive xz5 (t:Adr) (vs:dz) (H:Hp) (Q:VK) (_:XK):Prop
 | mk (a o i:Addr) (lc:Nat) (os is:gP) (s:Gs) (e_:zmT) (r_:(dN,zbo,is.length<=600,os.length<=600,zTZ=true,(F9 (∀ b u,(eC,b≠o,b≠i,pH,zre)) (LQ H' lc (if outP lc s then os++[s] else os) (if innP lc s then is++[s] else is)) se)))
def xto (a b:Nat):(sN,eqV (sgn a) (sgn b),oa):=by
 show sN ((iH,Vm a) == (Vm b)) oa;rw[Jf,beq_iff_eq,decide_eq_true_iff];show(dO,λ h=>xfp h,λ h=>jn h)
theorem xpo (c:Nat) (cs:fT):(sN,inV (sgn c) (cs.map sgn),c∈cs):=by
 unfold inV;rw[List.any_map,Jf,Yb,decide_eq_true_iff];constructor
 .ext rV x b e;have e:eqV (sgn x) MY=true:=e;show(eW,xto,e,N5▸b)
 .exact λ h=>(dB,c,h,by show eqV (sgn c) MY=true; rw[xto]; exact decide_eq_true rfl)
noncomputable def hitB (H:Hp) (i j:Nat) (kx:Key × V):Bool:=match kx.2 with
 | eQ=>(match H a with
  | some (.tup (jJ r c))=>(gk r i9)||(gk c pQ)
  | _=>false)
 | _=>false
def xtk {H:Hp}{i j:Nat}{k:Key}{q:Addr}{s:Gs} (h:Rg):hitB H i j (k,sH)=(zeF||zeE):=by
 unfold hitB;simp only[h];rw[Jf];simp only[YR,decide_eq_true_iff]
 lia
theorem LD.filt {H:Hp}{es:gP}{kvs:eG} (h:wM) (i j:Nat):LD H (es.filter λ s=>zeF||zeE) (kvs.filter (hitB H i j)):=by
 induction h with
 | nil=>ext pU
 | @cons s q es kvs h r ih =>
  rw[Qh,Qh,xtk h];cases zeF||zeE with
  | true=>ext Kw
  | false=>exact ih
def LD.dv {K:Zf}{H:Hp}{es:gP}{kvs:eG} (h:wM) {l:Addr} (e:H l=some (.lst (kvs.map (·.2)))):zjq (.lst (es.map λ s=>DV.tup (jJ zhU vy))):=by
 ext zDN y;show(Rb,k,z,A,rfl,Zg.mp y);ext rW s hs c;obtain⟨s',q,b,_,C,B⟩:84:=h.get A;ext fe hs b b;show m4 1 z _;rw[C];exact x0j B
theorem xyu {α:Type} (f:α->DV) (es:fc) [Decidable (es=[])]:(sN,dEq (.lst (es.map f)) (.lst []),es=[]):=by
 cases es with
 | nil=>simp[dEq,dEqs]
 | cons x xs=>simp[dEq,dEqs]
inductive x1k (vs:dz) (H:Hp) (Q:VK) (_:XK):Prop
 | mk (x:Str) (e_:zza) (r_:x.length<=1000/\Q (.bl (isNm x)) H)
def okD_aw (T:dZ):FnOk true P w K mg base dS 1 t.f_aw t.d_aw RQ (x1k):=by
 show(zIj,λ cdv A outer s H vs Q E hr h=>?_)
 .ext DY x
 .ext IG x;ext zhX zBO;ext uY u;show(zIb,(by first|exact J9 u dF|exact ZR u dF|lia))
  .have j:x.length=1:=by
    have z:(eg x.length)=1:=tD
    lia
   unfold isNm at q;rw[decide_eq_true j,J6] at q;refine(ku,rfl,Kx d)
   .refine ku rfl ?_;rw[xq9] at d;rw[xwk];rw[d,J6] at q;exact q
   .rw [xq9] at d;rw[Ja.mpr d,JK] at q;exact q
  .have j:¬ x.length=1:=λ z=>c (ib z);unfold isNm at q;rw[decide_eq_false j,JK] at q;exact q
def ok_av (T:dZ):FnOk true P w K mg base dS 1 t.f_av t.d_av zao (xyb t):=by
 refine T.av.F.okn (k:=0) sc_av (d7 H Q E h) (λ cdv A outer s H vs Q E hr h=>?_)
 .ext yW p z M
 .ext y8 p z M;refine⟨_,xj zyY
   (xj Le
   (xm Le)),?_⟩
  refine sq3 ?_; intros; ext uY O;refine vb p z O T.c_g T.n_bm 0;ext DD o D;show(fU,x,p≠o,xb xi D,⟨126,p,_,z,_,rfl,(gS x xi),T.c_g,T.n_bn,(OH 1),dC i I⟩);show(dw,C,p≠i,xb xi I,L,o≠i,xb (GU Ur) I);refine vb p z (gS C xi) T.c_g T.n_bj 2;rw[Ur] at D;have y:fw i:=by rw[rh C,ziE,rh C] at I; exact I
  refine q _ o i D y (lP J ?_) (dY ⟨z,xi⟩ zpz zpz L)
  .show(dw,S,b≠o,xb e D,R,b≠i,xb e y);rw[xg J,xg R,xg J,xg S,xg J];exact e
  .ext zXx
  .ext Lo C
def ok_z (T:dZ):FnOk true P w K mg base dS 1 t.f_z t.d_z zca (xxr t):=by
 refine T.z.F.okn (k:=0) sc_z (d7 H Q E h) (λ cdv A outer s H vs Q E hr h=>?_)
 .obtain ⟨a,o,i,v,J,is,j,rfl,_⟩:=h;rfl
 .obtain ⟨a,o,i,v,J,is,j,rfl,h⟩:=h;show(Fs,zds 1 (xab (uI gB)));ext uY lt;ext ve M x lt;show(Ra,M,(jN,x,T.c_g,T.n_bm,ltL,jV,dC C y));generalize D:yd H C 0 (eg v)=O;show(dy,I,su_e y D,L,ug_e D);show(zme,C,L,?_);have e:inV (.int pQ) (jJ 0 (eg v))=rimB v j:=by
   show (pT == pQ||(((eg v) == pQ)||false))=rimB v j;unfold rimB;rw[Jf];simp only[YR,WU,beq_iff_eq,decide_eq_true_iff]
   lia
  rw[d6 dF,e];exact q O I
def ok_ah (T:dZ):FnOk true P w K mg base dS 1 t.f_ah t.d_ah ztg (x13 t):=by
 refine T.ah.F.okn (k:=0) sc_ah (d7 H Q E h) (λ cdv A outer s H vs Q E hr h=>?_)
 .ext zlW lc os
 .ext zna lc os;refine⟨_,xj (xh3 (xbw rfl (qb ["other", "place"] ["row", "column"] [1,2] ["self", "row", "column", "name", "places"] s_ah) (xi1 gB) DM Gb (zRa (Gz (FX (XE im) kC) (FX (XE im) jj))) (λ_ _ _ _ _=>im) (j:=4) rfl oO))
   (zTR (xdm jx jj gB) (xbx zsh (pv 4) (xci (xh)) oW) (xbx xgf zSv zIN oW)),?_⟩
  refine sq2 ?_; intros; ext uF lt i6;ext zGl X;have kl:=ld.len;show(IO,X,gK i kvs hk zTD);have nl:l≠i:=λ z=>by
   ext nS z xi hl hl
  have ae:mM:=zwS nl hl
  refine xoy xi (zpQ kl) hl zZS (λ n k x p R hx S hp N M hN hM=>?_) (d8 R S e2)
  .obtain ⟨z,U,hz,rfl,rfl,D⟩:84:=ld.get hx;have Z:R U=some (.tup zNh):=S _ _ (dH,sD D hk,D);have Y:upd R p (.tup (rE,kV (.inr (ofL [qQ])),U)) U=some (.tup zNh):=by
    ext sL Z hp
   have hb:=xtk (i:=gH) (j:=iU) (k:=.inr (ofL [qQ])) D;ext zjn;show(ij,U,_,0,.int (eg iM),(uG,fX Y,rfl,rfl,zy))
   .have L:iM=gH:=by
     ext zMq c
    refine iteT (hN _ lH ?_);rw[hb,pE L];rfl
   .have L:¬ iM=gH:=λ e=>c (decide_eq_true As);show(ij,U,_,1,.int (eg sG),(uG,fX Y,rfl,rfl,Kx c'))
    .have J:sG=iU:=by
      ext zMq c'
     refine (hN _ lH ?_);rw[hb,decide_eq_true J,Qe]
    .have J:¬ sG=iU:=λ e=>c' (decide_eq_true As);refine hM _ lH ?_;rw[hb,wH L,decide_eq_false J];rfl
  have ac:=S _ _ (jK,upd H i HZ i,_,xi);show(fW,103,i,ob,FK,ac,nf,?_);have y:hZ zZQ:=λb u e=>by
   by_cases z:b=i
   .subst z;rw[xi,<- e,hk]
   .show(sV,z,S _ _ (gS z e))
  have e3:upd R i FK l=some (.lst ((kvs.filter zZS).map (·.2))):=by
   ext rq nl e2
  revert y e3;generalize zZQ=H3;intro y e3;clear ac e2 S;show(iR,C,y _ _ X,ab,y _ _ hk,ad,(ld.filt gH iU).keep (Same.tups y))
  show(IO,C,⟨i,_,rfl,tU pB ab,_,rfl,?_⟩);rw[ld.is];have I:Oq=(zHy,zmj,λ z=>(gk iM gH)||(gk sG iU)):=rfl;ext yu pR
  .have L:dU∉is.map λ s=>dU:=tD
   rw[pE L,J6] at I;ext KN l0 aa;generalize eu:DJ H3 l0=H4;ext kQ O aa g4;show(fV,2,1,_,zha,(ad.keep (Same.tups O)).dv (O _ _ e3),(sx,.lst (ef g4) rfl (λ j x d h1=>by simp at h1),qJ));rw[xyu];ext zqu
   .rw [J,J6] at I;show(IO,O _ _ C,(gK,i,kvs,O _ _ ab,?_));rw[I] at q;have e5:(gM (zVe<12))=decide qbK:=by
     rw[kl,Jf,decide_eq_true_iff,decide_eq_true_iff]
     lia
    show(Dm,Q (R0 (zVe<12)) H4,e5,q _ (y.trans O))
   .rw [Ja.mpr J,JK] at I;show(eW,I,q,q _ (y.trans O))
  .have L:¬ zmj:=λ z=>c (by ext SM);rw[wH L,JK] at I;show(eW,I,q,q _ y)
def ok_aa (T:dZ):FnOk true P w K mg base dS 2 t.f_aa t.d_aa ER (xzj t):=by
 refine T.aa.F.okn (k:=1) sc_aa (d7 H Q E h) (λ cdv A outer s H vs Q E hr h=>?_)
 .ext zlW R M
 .ext zna R M;refine⟨_,xj (zfm zDT (zud (zds 3 (xab (pI (xar) (xar)))) (xcp zkv (xc4 (xov (xdm jx jj gB))))))
   (zud (zds 3 (Nb (xar) (xa (xar) (xa (xar) qaf)))) (xcp zkv (xc4 (iI fA T.c_g T.ah.m (ok_ah T) fF T.ah.b Rf)))),?_⟩
  refine sq2 ?_; intros; ext IK; ext uF lt i6;show(pJ,dx,X,lt,⟨a,dx,_,rfl,X,L8,a,o,i,R,M,is,iU,rfl,lt,λ H1 s1=>zy⟩)
  .have x:mayL R M is s=((zug||zuh)||(CQ&&(gM (dU∉M.map λ s=>dU)))):=by
    unfold mayL;rw[Aw]
   ext lU O D;ext zBV zbU;have Z:(zHi zbU)=(zug||zuh):=by
    show(oz,xpo dU [32,46],show (([32,46]:fT).map sgn)=zbU from fR);rw[zhv,this,Jf];simp
   rw[Z];ext yu T9
   .ext zGs
   .ext zEf;ext HP I y kvs hk ld C;ext zqu
    .rw [J,J6] at x;show(zgn,I,y,(eY,o,_,rfl,tU pB hk,?_));rw[ld.is];rw[x] at q;show(Ed,q _ j,decide_not)
    .ext zHC
  .have x:mayL R M is s=(((Ag).contains dU)||(CQ&&Oq)):=by
    unfold mayL;rw[xZ]
   ext zgy O D;show(zBV,VS "|");have Z:(zHi (VS "|"))=(Ag).contains dU:=by
    show(oz,xpo dU zRK,show ((Ag).map sgn)=(VS "|") from fR);rw[zhv,this,Jf];simp
   rw[Z];ext yu T9
   .ext zGs
   .ext zEf;ext ve I y C;ext zqu
    .rw [J,J6] at x;refine⟨a,I,_,rfl,y,L8,a,o,i,R,M,is,s,rfl,C,i6,dC H3 s3⟩;show(eW,x,q,q _ (j.trans s3))
    .ext zHC
def ok_ay (T:dZ):FnOk true P w K mg base dS 3 t.f_ay t.d_ay ER (xz5 t):=by
 refine T.ay.F.okn (k:=2) sc_ay (d7 H Q E h) (λ cdv A outer s H vs Q E hr h=>?_)
 .ext zlW lc os
 .ext zna lc os;refine⟨_,xj (Dt (UL (iI fA T.c_g T.aa.m (ok_aa T) fF T.aa.b Rf)))
   (xm (xau (xbs zkv) (xj (pS 4 sc_ay.nd (xd5 (xbs zDT) gB gB))
   (xm (uf lm jj ziD))) (xad))),?_⟩
  refine sq2 ?_; intros; obtain⟨lt,i6,o6,X,q⟩:45:=h;ext ve dx ai lt;show(jb,⟨a,dx,_,rfl,ai,L8,a,o,i,lc,os,is,s,rfl,lt,i6,λ H1 s1=>Lj (ib X)⟩,⟨_,rfl,zQh,_,rfl,?_⟩);ext zEJ;have lt1:=lt.same s1;ext yu pR
  .ext OQ; show(pJ,aj,ad,lt1,⟨a,aj,_,rfl,ad,L8,a,o,i,lc,os,is,iU,rfl,lt1,λ H2 s2=>qJ⟩);ext zvX Y s2 ae;obtain⟨⟨R,C⟩,⟨ko,M,I⟩,⟨ki,O,J⟩,ne⟩:=id ae;show(dy,af,I.len,ah,J.len);show(yu,gO r)
   .have aa:dU∉os.map λ s=>dU:=by
     unfold mayL at X;rw[eD r] at X;show(dw,n1,¬ dU=32,zGA,n2,¬ dU=46,zGA)
     rw[wH n1,wH n2,c,WU,WV,J6] at X;ext D9 X
    show(zBE,T.n_bn,ltO);refine⟨83,o,_,rfl,Cg pB zyV (zpQ af),?_⟩;have hv:valV ko pB=none:=by
     show(oz,I.is dU,wH aa);ext zBK
    rw[xcq _ hv];show(dw,L,kL o (du,U b,u) (yo U o (.dK (zfj ko))),zaB,kt,Tups U (kh U o (zfj ko)),(sA,L _ _ (mZ zyV) e));refine q _ (λ b u nb _ e=>zIM) ?_;rw[eD (zQY c),d6 (by unfold innP; rw[r]; simp)];exact(dY,⟨R,L _ _ (ne_f C M) (D _ _ C)⟩,hD xi (((zNt).snoc g3).keep kt),(dB,ki,L _ _ (Z2 ne) zyU,(zNu).keep kt),ne)
   .have r':=Ja.mpr r;have ac:Oq=true:=by
     unfold mayL at X;rw[d6 r,c,J6] at X;rcases YR _ _▸X with z|z
     .exfalso;have z:=List.contains_iff_mem.mp z;have c':97<=dU:=by
       unfold nmC at c;show(D9,(nE c).1)
      have z:sZ dU 32 dU 124 (sZ,dU,45,dU,43,dU=35):=by ext SM
      have c2:dU<=122:=by
       unfold nmC at c;show(D9,(nE c).2)
      lia
     .ext i4
    have aa:zmj:=by
     unfold lieB at ac;show(D9,(nE ac).1)
    show(zBE,T.n_bj,ltI);refine(ur,i,Cg pB zyU (zpQ ah));have hv:valV ki pB=none:=by
     show(oz,J.is dU,wH aa);ext zBK
    rw[xcq _ hv];show(dw,L,kL i (du,U b,u) (yo U i (.dK (zfj ki))),zaB,kt,Tups U (kh U i (zfj ki)),(sA,L _ _ (mZ zyU) e));refine q _ (λ b u _ nb e=>zIM) ?_;rw[d6 (by unfold outP; rw[r']; simp),eD (qbr r' c)];exact(dY,⟨R,L _ _ (ne_f C O) (D _ _ C)⟩,(dB,ko,L _ _ ne zyV,(zNt).keep kt),hD xi (((zNu).snoc g3).keep kt),ne)
  .have c':=zfT;refine q _ (λ b u _ _ e=>zV) ?_;show(fG,d6 (by unfold outP; rw[c',YB]; decide),d6 (by unfold innP; rw[c',YB]; decide),lt1)
theorem xhu {α β:Type}{f:At}{l' m:FR} (p:l'.Perm m):(F3,m=l.map f->∃ l2:fc,l2.Perm l/\l'=l2.map f):=by
 induction p with
 | nil =>
  intro l e;have:l=[]:=WQ.mp e.symm;ext AK;show(oS,[],vw)
 | cons x _ ih =>
  intro l e;cases l with
  | nil=>cases e
  | cons a l =>
   rw[Zq] at e;show(sr,rfl,Yq.inj e);show(dA,l2,h,rfl,ih q);show(oS,a::l2,h.cons a)
 | swap x y r =>
  intro l e;cases l with
  | nil=>cases e
  | cons a l =>
   cases l with
   | nil=>cases e
   | cons b l =>
    rw[Zq,Zq] at e;show(sr,rfl,Yq.inj e);show(oD,rfl,Yq.inj q);show(oS,b::Dx,.swap a b l)
 | trans _ _ ih1 ih2 =>
  intro l e;show(dA,z,h,rfl,ih2 e);show(dA,v,u,rfl,ih1 rfl);show(oS,v,u.trans h)
def xj3 {i:Nat}{r:fT}{s:Gs}:s∈zyt↔(gf,gH,i,iU<r.length,dU=r.getD iU 0):=by
 unfold sgR;ext tR Zc
 .show(rV,j,v,rfl);show(oS,rfl,ZD.mp v)
 .ext vn u q f;ext zmK u q f
  show(eB,b,ZD.mpr q,fC u f)
def xie {G:gD}{n:Nat}{s:Gs}:(zpZ,Sk,gH<n,zMk,(qad).getD iU 0):=by
 unfold sgsN;ext tR YC
 .ext rV i f hs;show(jE,c,b,a,xj3.mp hs);subst c;show(eB,ZD.mp f,b,a)
 .ext vn c b a;show(eB,gH,ZD.mpr c,xj3.mpr (dB rfl b a))
def xkg {W:Nat}{G:gD} (o:zgR) {s:Gs}:(zpZ,iy,ztb,W,(qad).getD iU 0):=by
 unfold sgs;rw[xie];have l:ztb->zMk=W:=λ h=>by
  show(fG,JM,Zb h,o.wd _ (JO h))
 constructor
 .ext vn a c b;show(eB,a,(gF,l a,c),b)
 .ext vn a c b;show(eB,a,(dH,l a,c),b)
noncomputable abbrev xwz (a b:Gs):Prop:=¬ (p5=pk/\Gr=CY)
theorem xh4 (G:gD):∀ n,(Sk).Pairwise xwz
 | 0=>by
  ext zYe
 | iZ=>by
  have e:sgsN G (n+1)=sgsN G n++sgR n (G.getD n []):=by
   ext zXw
  rw[e,YZ];show(Bg,xh4 G n,hF a q b j)
  .unfold sgR;rw[Z5];exact Yr.imp λ c z=>c rH
  .show(dy,y,(xie.mp q).1,x,(xj3.mp j).1);ext kH
   lia
noncomputable def inns (w:Nat) (G:gD):gP:=(iy).filter (innP f8)
noncomputable def outs (w:Nat) (G:gD):gP:=(iy).filter (outP f8)
noncomputable def rims (w:Nat) (G:gD):gP:=(iy).filter λ s=>zQk f8
noncomputable abbrev InNe (a b:Gs):Prop:=zjd≠zjc/\p5≠pk/\Gr≠CY
structure xfe (w:Nat) (G:gD):Prop where
 tx:zxi
 sg:∀ s∈iy,nmC dU=false->(jo,rimB f8 iU,dU=32\/dU=46,dU∈Ag)
 in1:(zP).Pairwise InNe
 in2:zfn zP
 ou1:((B8).map λ s=>dU).Nodup
 ou2:∀ s∈B8,dU∈(zP).map λ s=>dU
def x0o {α:Type}{l:fc}{k:Nat}{x:α} (h:zwY):l=zfQ++x::l.drop gu:=by
 ext oD b zhx;rw[<- Yx b,Yu]
def xk1 {α:Type}{l:fc}{k:Nat}{x:α} (h:zwY) {p:Fy} (hp:p x=true):l.filter p=(zfQ).filter p++x::(l.drop gu).filter p:=by
 have e:=congrArg (List.filter p) (x0o h);rw[JA,J0 hp] at e;exact e
theorem xyw {w:Nat}{G:gD} (g:Cs) {k:Nat}{s:Gs} (h:wp iy s):mayL f8 (((iy).take k).filter (outP f8)) (((iy).take k).filter (innP f8)) s=true:=by
 show(dy,D,Zi h,q,g.sg s D);unfold mayL;by_cases r:Lw
 .ext pi r;rw[eD r] at q;cases n:CQ with
  | false =>
   rcases q n with z|z
   .rw [decide_eq_true z];rfl
   .rw [decide_eq_true z,Qe];rfl
  | true =>
   have e:=g.ou1;unfold outs at e;rw[xk1 h (zQY n),Zt,Zq,ZE] at e;have v:dU∉((iy).take k |>.filter (outP f8)).map λ s=>dU:=λ z=>e.2.2 _ z _ Zo rfl;rw[zSW,Bool.and_true,Qe]
 .ext lD r;rw[d6 r] at q;have B:=Ja.mpr r;cases n:CQ with
  | false =>
   rw[List.contains_iff_mem.mpr (q n)];rfl
  | true =>
   have j:innP f8 s=true:=qbr B n
   show(dy,e,g.in1,A,g.in2);unfold inns at e A;rw[xk1 h j,YZ] at e;rw[xk1 h j,Zn,ZF] at A;have all:∀ a∈((iy).take k).filter (innP f8),InNe a s:=(uS,e.2.2 a b s Zo);have v:dU∉((iy).take k |>.filter (innP f8)).map λ s=>dU:=λ z=>by
    ext yb a b H z;exact (zzQ).1 H
   have C:(((iy).take k).filter (innP f8)).filter (λ z=>(gk iM gH)||(gk sG iU))=[]:=by
    rw[Wy];intro a b z;rcases YR _ _▸z with z|z
    .exact (zzQ).2.1 (of_decide_eq_true z)
    .exact (zzQ).2.2 (of_decide_eq_true z)
   have y:lieB (((iy).take k).filter (innP f8)) gH iU dU=true:=by
    unfold lieB;rw[zSW,pE C,decide_eq_true dk];rfl
   rw[y,Bool.and_true,Qe]
theorem xla {α:Type}{l:fc}{k:Nat}{x:α} (h:zwY) (p:Fy):(l.take gu).filter p=if p x then (zfQ).filter p++[x] else (zfQ).filter p:=by
 rw[ZC,h,JA];cases e:p x with
 | true =>
  rw[gq,zoa x [x],J0 e];rfl
 | false =>
  rw[zAc,zoa x [x],znc,List.filter_nil,Yn]
noncomputable def nmLt (a b:Gs):Prop:=zjd<zjc
theorem xhf:∀(p:Gs) (es:gP),risingS (ofL [iT]) zpa=true->(∀ s∈es,iT<=dU)/\zKv
 | p,[],_=>⟨m9,.nil⟩
 | p,wc,h=>by
  rw[Zq] at h;unfold risingS at h;rw[Zy,xbz,xbz] at h;show(h8,u,q,h,f,j,xhf x r q);have le:iT<=hV:=by
   simp[ZQ.ltCps] at u
   lia
  show(gR,zE,JT.mpr ⟨f,j⟩);rcases Zu.mp hs with z|z
  .ext iX z le
  .exact ZR le (f s z)
theorem xjl {es:gP} (h:sortedS (es.map λ s=>ofL Hg)=true) (nd:zKe):zoX:=by
 have le:zKv:=by
  cases es with
  | nil=>ext pU
  | cons x r =>
   show(Cz,j,xhf x r h);exact JT.mpr ⟨j,c⟩
 rw[Jx,Z5] at nd;exact (le.and nd).imp λ z=>Nat.lt_of_le_of_ne iM rH
theorem xqf:∀ cs:fT,QR (Zh "") (cs.map λ n=>ofL [n])=ofL cs
 | []=>rfl
 | [c]=>rfl
 | c::d::r=>by
  apply xgu;have b:=xqf (d::r);show (ofL [c]++M4++QR (Zh "") ((d::r).map λ n=>ofL [n])).cps.toList=_;rw[b,xfg,xfg,xbz,xbz,xbz];rfl
noncomputable def One (m:fD):Prop:=∀ c s,zwl zcD
noncomputable def cd (m:fD) (c:Cl):Nat:=match m c with
 | Ua=>zmD
 | none=>32
theorem x2e {m:fD} (o:One m) (c:Cl):(m c).getD (Zh " ")=ofL [cd m c]:=by
 unfold cd;cases e:m c with
 | none=>rfl
 | some s =>
  have l:=o c s e;show s=ofL [zmD];apply xgu;rw[xbz];have b:s.cps.toList.length=1:=by simpa [WX] using l
  cases h:s.cps.toList with
  | nil=>ext js h b b
  | cons x r =>
   rw[h] at b;have:r=[]:=Ow
   rw[this];rfl
noncomputable def rowC (w:Nat) (r:Int) (m:fD):fT:=(Zv jR).map (iW,j,cd m zji)
def xph {m:fD} (o:One m) (w:Nat) (r:Int):rowT w r m=ofL zuf:=by
 unfold rowT rowC;rw[<- xqf,Zr]
 ext me
 exact ZT λ j _=>x2e o _
noncomputable def xgj (w h:Nat) (m:fD):gD:=(Zv h).map (iW,i,rowC w Az m)
def xv5 {m:fD} (o:One m) (w h:Nat):zeR=GV zeQ:=by
 unfold xdl GV xgj;rw[Zr];exact ZT λ i _=>by
  show V.str (rowT w Az m)=(zgw (rowC w Az m));rw[xph o]
inductive xx2 (vs:dz) (H:Hp) (Q:VK) (_:XK):Prop
 | mk (l d:Addr) (w:Nat) (G:gD) (m:fD) (e_:vs=[kW,qU]) (r_:Oc/\(dN,zxi,qj d (xdl w G.length m),One m,(∀ s∈iy,cd m zm=dU),zhd))
def TL.get {α:Type}{f:Gm}{H:Hp}{as:fc}{qs:dJ} (h:zrP) {i:Nat}{q:Addr} (e:BY):zrO:=h.2 i q e
def ok_an (T:dZ):FnOk true P w K mg base dS 2 t.f_an t.d_an znz (xx2):=by
 refine T.an.F.okn (k:=1) sc_an (d7 H Q E h) (λ cdv A outer s H vs Q E hr h=>?_)
 .obtain ⟨l,d,c,G,m,rfl,_⟩:=h;rfl
 .obtain ⟨l,d,c,G,m,rfl,h⟩:=h;refine(nX,xm (yc zkr (rX 2 sc_an.nd 3 4) (Dt (oJ xmp 4 (xaj xt1 (wI 1 kC) jj iw)))));refine fo ?_; intros; ext uR Y o hd R all;show(dy,h2,o.h2,w2,o.w2);show(fW,l,c+2,G,rfl,Y,o,λ H1 U qs D f1 M z=>Hh U M)
  let Pv (i:Nat) (Z:L2.St) (j:Hp):Prop:=∃(y v u:f7),Z=[nM,vJ,y,v,u]/\j=H1
  ext wf rR zNm
  .rintro i Z j _ (⟨_,_,_,rfl,rfl⟩:102);ext nI M
  .rintro i x Z j L (⟨y,v,u,rfl,rfl⟩:102);ext BS L O C;show(dA,s,hs,X,z.get C);have J:=Zi hs;show(jE,r1,r2,r3,(xkg o).mp J);ext jC O X;have I:=xph R c zzu;show(ij,d,_,_,.str (rowT c zzu m),(li,ef (D _ _ hd),?_,⟨_,_,dU,rfl,rfl,?_,?_,rfl,_,rfl,ifN ?_ zNm⟩))
   .refine xb6 ?_;unfold xdl;rw[Zd,ZW r1];rfl
   .rw [I,xdt];unfold rowC;rw[Za,Zx];exact xf5 dk
   .rw [I,xbz];refine xb6 ?_;unfold rowC;rw[Zd,ZW r2];show some (cd m zm)=_;rw[all s J]
   .simp [sgn]
  .rintro Z j (⟨y,v,u,rfl,rfl⟩:102);exact q _ D
noncomputable def toPt (h:Nat) (s:Gs):Pt:=⟨Uo,vy,Tm, "both",1,vN⟩
noncomputable def xax (s:Gs):Seat:=(xhe iU,Tm)
def xy5 {w:Nat}{G:gD} (o:zxi) {s:Gs} (h:s∈zP):(dN,s∈iy,zYy,1<=iU,iU<=w,ztb):=by
 ext UN c zzU;unfold innP rimB at b;show(Ff,r1,r2,(xkg o).mp c);show(zPW,YX,Bool.or_eq_false_iff,b);exact gT c b.2 dk dk r1
def xgs {lc j:Nat} (h:zSu):j=0\/j=lc:=by
 ext zOt
def xj1 {α β:Type}{R:zdJ}{f:At}{l:fc} (h:zsc) (k:∀ a b,R a b->f a≠f b):Ik:=by
 rw[Jx,Z5];exact h.imp λ{a b} z=>k a b z
def xhv {w:Nat}{G:gD} (g:Cs) {es:gP} (pe:Ob):xc3 oQ zf vi:=by
 have c:∀{β:Type} (f:Pt->β),(∀ a b:Gs,InNe a b->f (toPt G.length a)≠f (toPt G.length b))->((vi).map f).Nodup:=λ f hf=>by
  rw[Zr];exact (pe.map _).nodup_iff.mpr (xj1 (f:=f∘toPt G.length) g.in1 hf)
 refine(eY,rC y,(zsw,z.1 (xfp e)),(zsw,(rH).2 ?_),(zsw,(rH).1 ?_),?_)
 .show(mU,s,hs,Zc.mp y);obtain⟨_,j,C,B,A⟩:45:=xy5 g.tx (pe.mem_iff.mp hs);have D:=g.tx.h1;exact(gW,(ma,show zMY=ofL Hg from rfl,xj2,j),Dq vy,wU vy _,zyS,zvv,zbp,Dq 1,Dq zf,wU zf _)
 .have e:(eg Gr)=(eg CY):=e
  lia
 .have e:zzp=zzq:=e
  lia
 .rw [Za,pe.length_eq];exact g.in2
def xpi {w:Nat}{a b:Gs} (ra:P9 Gr) (rb:P9 CY) (ne:xwz a b):zom:=λ e=>by
 show(dw,c,sN (gk Gr 0) (CY=0),zsb,f,zzp=zzq,(zfR).2);rw[decide_eq_decide] at c;refine ne (jy dk);rcases xgs ra with x|x<;>rcases xgs rb with y|y<;>lia
def xgt {α:Type}{R S:zdJ}{p:Fy}{l:fc} (h:zsc) (k:∀ a b,(eC,p a=true,p b=true,R a b,S a b)):(l.filter p).Pairwise S:=by
 have z:=(h.filter p)
 ext OI z;intro a b j c r;exact k a b (Z9.mp j).2 (Z9.mp c).2 r
def xrg {w:Nat}{G:gD} (g:Cs):SsOk zf ((Sh).map xax):=by
 have c:((Sh).map xax).Nodup:=by
  refine xj1 (R:=uS zom) ?_ Uq;refine xgt (xh4 G _) (eI a b q j z);exact xpi (nE q).1 (nE j).1 z
 have i:∀ s∈(Sh).map xax,(Ty zf):=λs hs=>by
  ext C7 hs;have:=((xkg g.tx).mp (zxz).1).1;show(dO,Dq (lX iM),wU (lX iM) _)
 ext Bg c i;have r:=g.tx.h2;have:=c.length_le_of_subset (l₂:=zDL) (jM,xxo (i s hs));have e:(zDL).length=G.length+G.length:=by
  unfold xdq;rw[Zn,Za,Za,Zx]
 lia
def xp1 {w:Nat}{G:gD} (g:Cs):((zP).map λ s=>dU).Nodup:=xj1 g.in1 (Db iM)
inductive xsr (t:Adr) (vs:dz) (H:Hp) (Q:VK) (_:XK):Prop
 | mk (l a o i:Addr) (w:Nat) (G:gD) (e_:vs=[kW,eQ]) (r_:(d9,Oc,LQ H f8 B8 zP,Cs,∀(H':Hp) (b dp do_:Addr) (es:gP),eC fZ iS zhs (yj,Ob,zoX,Pic t H' b dp do_ oQ zf vi,Sts H' do_ ((Sh).map xax),b)))
def ok_as (T:dZ):FnOk true P w K mg base dS 7 t.f_as t.d_as znA (xsr t):=by
 refine T.B_as.F.okn (k:=6) sc_as (d7 H Q E h) (λ cdv A outer s H vs Q E hr h=>?_)
 .ext zyq l a o i C G
 .obtain ⟨l,a,o,i,C,G,rfl,h⟩:=h;refine⟨_,xj (qe 2 sc_as.nd zyR)
   (xj (xbw rfl (lF "name" ["height", "letters"] [2,1] zCP s_as) zBR lu kX i7 (O8 (xcd fA (xcd zGw (zcS (qM zGw) (xar) (xcd (xp) (xcd im (xh) rfl) rfl)) rfl) rfl)) (j:=3) rfl oO)
   (xj (xbw rfl (qb ["row", "column", "sign"] ["letters"] [1] zCP s_as) zkr Vy Ij (zRa (xsm (xbs (iI jj T.c_g T.z.m (ok_z T) fF T.z.b nN)) (xqn (oJ xmp 2 (xar))))) (λ_ _ _ _ _=>pC (ok_bc T) hr T.bc.g T.bc.F.kp T.bc.b (zgr Mf)) (j:=4) rfl oO)
   (iz (pC (ok_ad T) hr T.ad.g T.ad.F.kp T.ad.b (xa (UJ Mc) (vQ 2 3 4)))))),?_⟩
  refine sq4 ?_; intros; ext A6 hl lt g;show(dy,tx,g.tx,h1,tx.h1);show(qH,h2,tx.h2,w1,tx.w1,w2,tx.w2,a4,g.in2);ext zGl ae;refine(ur,l,vm hl);rw[xjv];show(IO,ae,(gm,i,(inns C G).map (λ s=>Uo),rfl,.inr (dB kvs hk ld.keys),xP,eI ls ns av pm srt));show(iD,es,pe,xhu pm rfl);show(iR,ao,(pe.map λ s=>dU).nodup_iff.mpr (xp1 g),aq,xjl srt ao,el,pe.length_eq);show(NS,i5 ls (.lst ((zpa).map V.str)),av);ext si ls g1 l1 aw;refine xbd (ef g1) (zUW dk) aw (zjB,∃ q s,zjD es s (OV q (.str zMY::ptV (toPt G.length s)))) (λ j y H5 H6 tp ⟨q,s,Z,O,Y⟩=>zNV) (BW hx) (ug H5 s5 e5)
  .ext zJE ar;have I:=s1.trans s5;show(dy,L,I _ _ ae,ax,I _ _ hk);show(dA,qa,hv,hq,(ld.keep (Same.tups I)).at_ (pe.mem_iff.mp (Zi hs)) (xp1 g));show(gZ,dg,tU pB ax,hv,dg);show(IO,L,⟨i,_,rfl,dg,qa,_,1,zAg,rfl,rfl,fX hq,rfl,?_⟩);show(IO,L,⟨i,_,rfl,dg,qa,_,0,zAf,rfl,rfl,fX hq,rfl,(AG leS6),zaM (gK u s hs ?_)⟩);rw[xi];rfl
  ext DK Za;obtain⟨rs,rfl,aj⟩:62:=PtsL.pick (H:=H5) (ps:=vi) (ys:=ys) zyT (λj y p hy hp=>by
   show(hJ,q,s,Z,O,Y,fy j y hy);ext rK O hp;ext Dc hp q Z Y)
  ext zvX I s5 ap;show(fW,l,C+2,G,rfl,I _ _ hl,tx,λ H6 l6 qs s6 f6 e6 ab=>GP l6 e6 l7 hl7);show(dy,ai,ab.1,a5,zKX);show(dw,a0,qau (C+2),zrr h2,a6,kS iy 512,by unfold sgs; lia)
  have ad:=ap.same s6;refine xei (ef e6) on hl7 (λ k=>((iy[k]?).map λ s=>E7).getD false) (λ k y H8=>∃ q s,pG/\(wp iy s)/\H8 q=some (.tup zsT)) (λ j y H5 H6 tp ⟨q,s,Z,O,Y⟩=>zNV) (zdq k H8 hx s8) zLN
  .ext UP au;show(dA,s,hs,hq,ab.get au);have ac:=ad.same s8;ext ve aa J ac;show(yE,s8 _ _ hq);refine⟨a,aa,_,rfl,J,L8,a,o,i,C+1,_,_,iU,rfl,ac,λ H9 s9=>zy⟩
   .show(Lp,zed c2)
    .have X:dU≠32:=λ z=>by
      rw[z] at c2;ext gz c2 dF
     show(gR,jV,lR (gm,p,gH,iU,rfl,xi,λ H10 q10 s10 f10 e10=>hN _ _ (s9.trans (gC,s10 _ _ (xt lH hp _ _ e))) ?_ (gK q10 s hs e10)));rw[hs];show E7=true;rw[c,pE X];rfl
    .have X:dU=32:=by
      by_cases z:dU=32
      .ext i4
      .have y:¬ sgn dU=zql:=λ y=>z (xfp (d:=32) (V.str.inj y));show(gz,(ib,decide_eq_false y),c2)
     refine hM _ s9 ?_;rw[hs];show jc E7;rw[(zoh,z X),YB]
   .refine iteF (hM _ s9 ?_);rw[hs];show jc E7;rw[zfT,JK]
  have ix:=xks (λ s:Gs=>E7) (as:=iy) (p:=λ k=>((iy[k]?).map λ s=>E7).getD false) (λ k s hs=>ib hs);rw[Za,ai] at ly8 fy8;obtain⟨ah,rfl,af⟩:62:=xbm.pick (H:=H8) (ss:=(zwZ).map xax) (ys:=ys) (by rw[ly8,ix.1,Za]; rfl) (λj y z hy hz=>by
   obtain⟨k,hk⟩:∃ k,gU ((Zv (iy).length).filter λ k=>((iy[k]?).map λ s=>E7).getD false) k:=(iK,Zb (gF ly8 zzh))
   show(hJ,q,s,Z,O,Y,fy8 j y k hy hk);rw[ix.2 j k hk] at O;show(rK,show gU zwZ s from O,hz);ext Dc hz q Z Y)
  show(dy,S,s6.trans s8,U,I.trans S);obtain⟨⟨aa,J⟩,_⟩:=id (ad.same s8);have ak:=xhv g pe;have ew:(jf,C+1)-1=Uw:=dk
  show(zqE,aa,J,T.n_bm,ltL,?_);refine⟨Uw,zf,l1,l7,vi,rs,(zwZ).map xax,ah,by show [V.int ((jf,C+1)-1),V.int zf,V.ref l1,V.ref l7]++[]=_; rw[ew]; rfl,(Do,Ie,S _ _ e5,qbk S,ak,e8,af,xrg g,λ H' b dp az s' fb ay _ am st=>?_)⟩;exact q H' b dp az es (U.trans s') (U.free fb) (U.free ay) pe aq am st
theorem xqm (G:gD):∀ n,(Sk).Pairwise (uS,p5<pk\/(p5=pk/\Gr<CY))
 | 0=>by
  ext zYe
 | iZ=>by
  have e:sgsN G (n+1)=sgsN G n++sgR n (G.getD n []):=by
   ext zXw
  rw[e,YZ];show(Bg,xqm G n,hF a j b c)
  .unfold sgR;rw[Z5];exact Wv.imp λ z=>F6 z
  .show(dy,x,(xie.mp j).1,q,(xj3.mp c).1);ext iE dk
theorem xn2 {α:Type} (p:Fy):(Vi,(l.filter p++l.filter λ x=>! p x).Perm l)
 | []=>vw
 | uN=>by
  have b:=xn2 p l;cases e:p x with
  | true =>
   rw[J0 e,znc];exact b.cons x
  | false =>
   show(fG,znc,J0 vI,Qg.trans (b.cons x))
noncomputable def rimS (w:Nat) (G:gD):dE:=(Sh).map xax
noncomputable def srtS (w:Nat) (G:gD):dE:=(zfP).filter (λ s=>gH)++(zfP).filter λ s=>! gH
def xn7 (w:Nat) (G:gD):(zfO).Perm (rimS w G):=xn2 _ _
def xz1 (w:Nat) (G:gD):(zfO).Pairwise xby:=by
 have h:(zfP).Pairwise (uS,p5=pk->a.2<b.2):=by
  unfold rimS rims;rw[Z5];refine xgt (xqm G _) λ a b f c z e=>?_;have e:(gk Gr 0)=decide (CY=0):=e;rw[decide_eq_decide] at e;show(dy,j,xgs (nE f).1,rb,xgs (nE c).1);show zzp<zzq
  lia
 unfold srtS;rw[YZ];show(gG,xgt h λ a b f c z=>.inr ⟨fC f c,z (fC f c)⟩,xgt h (eI a b f c z),λ a f b c=>(CI,(Z9.mp f).2,(EN,(Z9.mp c).2)));have e:p5=pk:=by
  show(dw,f,jc p5,Id,c,jc pk,tD)
  rw[f,c]
 show(ME,e,z e)
noncomputable def toPr (w:Nat) (G:gD) (s:Gs):Pr:=(toPt G.length (((zP).find? λ z=>gk qQ dU).getD s),MZ)
theorem xfm {w:Nat}{G:gD} (g:Cs) {s:Gs} (h:s∈B8):(d9,s∈iy,zYy,Lw,∃ z∈zP,qQ=dU/\zdD=(zUq,MZ)):=by
 obtain⟨q,a⟩:=zzU;unfold outP at a;show(Cz,j,nE a);refine fQ q c j ?_;show(dA,y,b,v,Zc.mp (g.ou2 s h));cases e:(zP).find? λ z=>gk qQ dU with
 | none=>show(NX,v,(by have:=JL.mp e y b; exact this))
 | some z =>
  have r:qQ=dU:=by
   have y:=W3 e;simpa using y
  show(j5,z,ZY e,r,by unfold toPr; rw[e]; rfl)
def xru {w:Nat}{G:gD} (g:Cs) {es fs:gP} (pe:Ob) (pf:znT):xom oQ zf vi zon:=by
 show(iR,j,xhv g pe,B,g.ou1,J,g.in2);refine zuY K ?_
 .show(mU,s,hs,Zc.mp K);obtain⟨I,M,L,⟨z,hz,H,A⟩⟩:44:=xfm g (pf.mem_iff.mp hs);rw[A];have mem:zUq∈vi:=(S1,z,pe.mem_iff.mpr hz);show(dy,v,j.ok _ mem,r,((xkg g.tx).mp I).1);exact⟨v.nm,xev j.nn mem,zyS,zvv,fQ v.x1 v.x2 v.y1 v.y2⟩
 .rw [Zr];have e:(B8).Pairwise (uS zom):=by
   refine xgt (xh4 G _) (eI a b D C z);unfold outP at D C;exact xpi (nE D).1 (nE C).1 z
  exact (pf.map _).nodup_iff.mpr (xj1 (f:=λ s=>(zdD).2) e Uq)
 .rw [Za,pf.length_eq];have z:=xkl B λx hx=>by
   ext jD s hs hx;exact g.ou2 s hs
  ext lE Za z
  lia
 .rw [Zr];have e:((B8).map λ s=>lC zdD)=((B8).map λ s=>dU).map λ c=>ofL [c]:=by
   rw[Zr];refine ZT zE;show(zqr,z,H,A,xfm g hs);rw[A];show ofL [qQ]=ofL Hg;rw[H]
  refine (pf.map _).nodup_iff.mpr ?_;show ((B8).map λ s=>lC zdD).Nodup;show(pZ,Drw.nd_map (Vj,xfp e) B)
theorem xva {w:Int}{ps:dL}{ss:dE}{prs:d0} (h1:N1) (h2:X9):One zpK:=by
 have no:∀(c:Cl) (s:Str),zwl (du,(Drw.no:fD) c,s):=zQj;have j:∀ s:Str,zwl Gk:=λ s h=>by
  ext znD h
 have v:=xc1 (P:=OK) (L:=Fv) no (λx b=>by
  ext Hi z zhK;show (ziZ).length=1;ext tP)
 have u:=xc1 (P:=OK) (L:=zJ) v (λx b=>by
  ext C7 b;exact j _ (h2 z hz))
 have q:=xe1 (P:=OK) (hs:=hsS) (by unfold hsS; decide +kernel) (L:=prs.flatMap (ledS w)) no (λx b=>by
  ext zLT;show (lsS uP iT c).length=1;ext qbs
  .ext tP
  .split<;>decide +kernel)
 intro c s e;refine xc1 (P:=OK) (L:=ptsS ps) (λc s e=>?_) (λx b=>by
  ext C7 b;exact j _ (h1 z hz)) c s e
 cases e1:zJr with
 | some y =>
  show(kd,e1,e,u c _ e1)
 | none =>
  ext zUs;exact q c s e
noncomputable def xw6 (w:Nat) (G:gD):Prop:=∀ es fs:gP,Ob->znT->∀ s∈iy,cd (xee w vi zfO zon) zm=dU
structure x26 (t:Adr) (H:Hp) (q b dp do_ lp:Addr) (ts:dJ) (w:Nat) (G:gD) (es fs:gP):Prop where
 pe:Ob
 le:zoX
 pf:znT
 lf:fs.Pairwise nmLt
 q:yL (rE qS lp)
 dr:Dr t H b dp do_ w G.length vi zfP zfO
 lp:eO lp (.lst (ts.map V.ref))
 pr:PrsL H zon ts
inductive xz9 (t:Adr) (vs:dz) (H:Hp) (Q:VK) (_:XK):Prop
 | mk (l:Addr) (w:Nat) (G:gD) (e_:zzb) (r_:(d9,Oc,Cs,xw6 w G,∀(H':Hp) (q b dp do_ lp:Addr) (ts:dJ) (es fs:gP),fZ->(fw q)->(yj,iS,fw lp,zhs,x26 t H' q b dp do_ lp ts w G es fs,q)))
def xxe (T:dZ):FnOk true P w K mg base dS 9 t.f_seen t.d_seen zR (xz9 t):=by
 refine T.B_seen.F.okn (k:=8) xea (d7 H Q E h) (λ cdv A outer s H vs Q E hr h=>?_)
 .ext yW l D G
 .ext y8 l D G;refine⟨_,xj (xaz (pC (ok_a1 T) hr T.a1.g T.a1.F.kp T.a1.b pP))
   (xj (qe 1 xea.nd (xfk T.k_g (ok_av T) fF rfl T.g_g T.av.b .nil xq (i3 (UJ zFZ))))
   (xj (C8 zkr (rX 2 xea.nd 3 4) (iI im T.c_g T.ay.m (ok_ay T) fF T.ay.b (vQ 2 3 4)))
   (xj (xh3 (yc (xi1 Mc) (AH 5 xea.nd 6) (RT (xdm jx yA Mc) Mo)))
   (xj (pS 7 xea.nd (pC (ok_as T) hr T.B_as.g T.B_as.F.kp T.B_as.b (pd 1)))
   (xj (xbw rfl (lF "name" ["letters"] [1] zAU xkj) zBR lu kX i7 (λ_ _ _ _ _=>Xt (pC (ok_bc T) hr T.bc.g T.bc.F.kp T.bc.b (i3 (xb5 jx (DZ Mc) fA iw)))) (j:=8) rfl oO)
   (xj (xaz (pC (ok_an T) hr T.an.g T.an.F.kp T.an.b (ji 0 (i3 (zDk zxa)))))
   (E4 zxa))))))),?_⟩
  refine sq8 ?_; intros; ext A6 hl g sees;show(qH,tx,g.tx,h1,tx.h1,h2,tx.h2,w1,tx.w1);show(zwg,tx.w2);show(zHR,r0,a6,tx.wd r0 (Zi a6));show(fW,l,D+2,G,rfl,hl,tx,dC H1 s1);have aQ:=s1 _ _ hl;show(ij,l,_,0,Tx r0,(li,ef aQ,?_,(yO,?_,eI a dx ha a9 ne)))
  .ext zKU a6
  .rw [xdt,l0];ext TM
  refine⟨a,dx,D+1,?_,xi,λ H2 o i ho hi k2 aJ=>FP⟩
  .show [V.ref a,V.int ((SC (ofL r0))-1)]=[V.ref a,V.int (jf,D+1)]
   rw[xdt,l0,(gE,(jf,D+2)-1=(jf,D+1))]
  ext qd; have up:D7 (Fc H1 a) a zYX iS:=λb z=>by
   cases e:wt with
   | none=>rfl
   | some u =>
    have X:=zV;rw[jY X ha,jY X a9,X] at z;cases z
  show(dy,fo,up _ ho,fi,up _ hi);have s2:Ta:=λb u e=>by
   have X:=zV;exact k2 b u (xb X ha) (kc,jY X ha,jY X a9,X)
  show(fW,l,D+2,G,rfl,Ba hl,tx,λ H3 l3 qs s3 f3 e3 aw=>Hh l3 e3);have aD:=aw.1;have ba:kS iy 512:=by
   show(gL,e,zKX,aZ,qau (D+2),zrr h2);unfold sgs
   lia
  have bc:=s2.free f3
  let Pv (k:Nat) (Z:L2.St) (O:Hp):Prop:=∃(v2 v3 v4:f7),(dN,Z=[nM,hU,v2,v3,v4,none,none,none,none],hZ O,LQ O (D+1) (((iy).take k).filter (outP (D+1))) (((iy).take k).filter (innP (D+1))),(du,O l3,m7),TL sgV O iy qs)
  show(wf,rR,(gW,105,_,_,_,rfl,PL,aJ.same s3,e3,aw))
  .rintro k Z O _ (⟨_,_,_,rfl,_,_,e5,_⟩:105);ext nI e5
  .rintro k x Z O hx (⟨v2,v3,v4,rfl,s5,J,e5,av⟩:105);ext BD hx a8;show(dA,s,hs,hq,av.get a8);obtain⟨⟨ae,L⟩,⟨ko,U,_⟩,⟨ki,ad,_⟩,_⟩:=id J;ext yE hq;have lf:∀ p:Gs->Bool,kS (((iy).take k).filter p) 600:=λ p=>by
    ext zUF
   refine⟨a,ae,_,rfl,L,L8,a,o,i,D+1,_,_,s,rfl,J,lf _,lf _,xyw g hs,d8 Y k6 aI⟩;show(fU,tp,Tups O Y,(vC,k6 _ _ (mZ U) (mZ ad) e),(gW,105,_,_,_,rfl,(gC,k6 _ _ (xb e fo) (xb e fi) zxG),?_,k6 _ _ (ne_f e5 U) (ne_f e5 ad) e5,av.keep tp));show(fG,xla hs,xla hs,aI)
  rintro Z O (⟨v2,v3,v4,rfl,s5,J,_,_⟩:105);ext p8 aD Jp J;have J:LQ O (D+1) zxq (inns D G):=J;obtain⟨⟨ae,L⟩,⟨ko,U,aK⟩,⟨ki,ad,aL⟩,aF⟩:=id J;show(zgn,ae,L,gK o ko U ztW)
  let Pv (k:Nat) (Z:L2.St) (Y:Hp):Prop:=∃(v5 v6:f7),gf Z [nM,hU,v2,v3,v4,v5,v6,none,none] (du,Y o,zSq) (kL o (du,O b,u) (du,Y b,u))
  refine xud (Pv:=Pv) (ku xi zaB) ?_ ?_ ?_
  .rintro k Z Y _ (⟨_,_,rfl,e6,_⟩:83);exact e6
  .rintro n k x p Z Y hx hp (⟨v5,v6,rfl,e6,k6⟩:83);show(qG,s,qa,hs,rfl,rfl,a8,aK.get hx);have k7:kL o (du,O b,u) (yo Y p (.tup zXL)):=λb u nb e=>by
    have e':=k6 _ _ nb e;ext sL e' hp
   have e7:Mw Y p zXL o zSq:=by
    ext sL e6 hp
   ext zjn;show(Ra,ae,⟨45,k7 _ _ (ne_f L U) L,T.c_g,T.n_bj,ltI,(zjJ,i,rfl,tU pB (k7 _ _ (Z2 aF) ad),ifN ?_ (ku e7 k7))⟩);rw[aL.is,pE (g.ou2 s (Zi hs))];rfl
  rintro Z Y (⟨v5,v6,rfl,e6,k6⟩:83);show(fW,103,o,ob,.dK ko,e6,nf,?_);have s7:Same O (kh Y o ko):=λb u e=>by
   by_cases z:b=o
   .subst z;rw[xi,<- e,U]
   .show(sV,z,k6 _ _ z e)
  revert s7;generalize kh Y o ko=H7;intro s7;clear e6 k6;show(dy,ac,s5.trans s7,a5,J.same s7);refine iY l a o i D G rfl (fQ,ac _ _ hl,a5,g,λ H8 b dp au es s8 fb aT pe le a4 aC=>?_);show(dy,ao,ac.trans s8,aH,a5.same s8);ext HP aA ai aM ak ah aH;have a0:=xhv g pe;have aW:Dr t H8 b dp au D G.length vi (rimS D G) (srtS D G):=(gm,a4,aC,xrg g,xn7 D G,xz1 D G,(lR,(a0.ok p hp).nm))
  have ol:zfn zxq:=by
   show(zzv,(xru g pe (.refl _)).len,Za)
  show(zgn,aA,ai,(gm,o,(zxq).map (λ s=>Uo),rfl,.inr (dB aM ak ah.keys),xP,eI ls ns aP pm srt));show(iD,fs,pf,xhu pm rfl);have aG:=(pf.map λ s=>dU).nodup_iff.mpr g.ou1;show(dy,lf,xjl srt aG,fl,pf.length_eq);generalize eu:upd H8 ls (.lst ((fs.map λ s=>Uo).map V.str))=H9;ext kQ s9 aP g9;ext si ls g9 aq aj;refine xbd (ef g9) (zUW dk) aj (λ j y O=>∃ q s,zjD fs s (du,O q,.tup (prV (toPr D G s)))) (λ j y O Y tp ⟨q,s,X,e2,e3⟩=>zpO X) (FE j H10 hx s10) (ug H10 s10 e10)
  .ext zJE aN;have ms:=pf.mem_iff.mp (Zi hs);show(dA,qa,hv,hq,(ah.keep (Same.tups (s9.trans s10))).at_ ms g.ou1);show(dy,ar,(s9.trans s10) _ _ ai,as,(s9.trans s10) _ _ ak);ext R4 p1 aO;generalize eu:jI H10 p1 [Tx Hg]=aY;show(iR,I,su_e aO eu,aS,zyy,dg,tU pB (I _ _ as));rw[hv] at dg;show(zgn,aA,I _ _ ar,⟨o,_,rfl,dg,qa,gH,iU,rfl,I _ _ hq,eI aB aE ab bd aU⟩);show(ij,p1,aE,_,_,(kE,rfl,fX (ab _ _ aS),fX aU,dG,(OG,1+2),rP,λ_ p2 hp2=>lY (gC,xt lH hp2 _ _ (ab _ _ (I _ _ e))) (gK p2 s hs ?_)));show(zqr,z,ez,et,xfm g ms);rw[xi,et];show some (HO.tup ([zgw Hg]++zsT))=some (HO.tup ((Tx [qQ])::zsT));rw[ez];rfl
  ext DK Za;obtain⟨ts,rfl,az⟩:62:=PrsL.pick (H:=H10) (ss:=zQI) (ys:=ys) zyT (λj y p hy hp=>by
   show(hJ,q,s,X,e2,e3,fy j y hy);ext rK e2 hp;ext Dc hp q X e3)
  have aa:=s9.trans s10;show(dy,am,aW.same aa,ap,xru g pe pf);refine⟨b,aq,dp,au,D,G.length,vi,rimS D G,srtS D G,zQI,ts,rfl,(jN,am,e10,az,ap.ok,ap.len,eI aY ld I bb aV)⟩;show(fW,l,ld,D,G,_,rfl,(jN,I _ _ (aa _ _ (ao _ _ hl)),tx,aV,xva (lR,(a0.ok p hp).nm) (lR,(ap.ok p hp).nm),sees es fs pe pf,dC aB ab));ext lU qt a7;show(dy,ax,(aa.trans I).trans ab,af,ao.trans ax);generalize eu:jI aB qt (rE qS aq)=aX;have ay:=su_e a7 eu;show(dy,aR,ug_e eu,M,(I.trans ab).trans ay);exact q aX qt b dp au aq ts es fs (af.trans ay) (af.free a7) (ac.free fb) (ao.free (s9.free aj)) (ac.free aT) (iY,pe,le,pf,lf,aR,am.same M,M _ _ e10,qbj M)
noncomputable def xay (s:Str):Nat:=zmD
theorem xvj {s:Str} (h:s.length=1):qay:=by
 apply xgu;unfold xay;rw[xbz];have a:s.cps.toList.length=1:=by simpa [WX] using h
 cases e:s.cps.toList with
 | nil=>ext rJ a
 | cons x r =>
  rw[e] at a;have:r=[]:=zph
  rw[this];rfl
def xc7 {s:Str} (h:Gk):qay/\nmC (xay s)=true:=by
 have l:s.length=1:=by
  have a:=h;ext znD a
 have e:=xvj l;ext nY e;rw[<- xj2,<- e];exact h
def xg2 (c:Nat):xay (ofL [c])=c:=by
 unfold xay;rw[xbz];rfl
def xhb {s t:Str} (hs:Gk) (ht:qC t) (e:M3=xay t):s=t:=by
 rw[(xc7 hs).1,(xc7 ht).1,e]
def xk9 {P:zvQ}{w:Int}{ps:dL}{ss:dE}{prs:d0} (k:(dN,P (Zh "#"),P (Zh "."),P (Zh "|"),P (Zh "+"),P (Zh "-"))) (kn:∀ s,Gk->P s) (h1:N1) (h2:X9):zXl ziw:=by
 show(znO,(du,(Drw.no:fD) c,s)->P s);have u:=xe1 (P:=P) (hs:=hsS) k.1 (L:=N6) no (λ x h=>by
  ext zFC;rcases Cv with h|h
  .rcases Cv with h|h
   .ext zjk;exact uT k
   .ext Di
    .show(iX,zzT,eE (fH k))
    .ext RF
  .ext zjk;exact zjx k)
 have q:=xc1 (P:=P) (L:=uh) u (λx h=>by
  ext iD z hz Ah;exact kn _ (h1 z hz))
 have j:=xc1 (P:=P) (L:=Fv) q (λx h=>by
  ext Hi z Ah;exact eE k)
 exact xc1 (P:=P) (L:=zJ) j (λx h=>by
  ext iD z hz Ah;exact kn _ (h2 z hz))
structure Pict (w h:Nat) (ps:dL) (ss:dE) (prs:d0):Prop where
 w1:pX
 w2:mR
 h1:1<=h
 h2:sO
 pok:rQ
 sok:zdH
 pal:xom oQ vN ps prs
section
variable {w h:Nat}{ps:List Pt}{ss:List Seat}{prs:List Pr}
def Pict.nms (o:jB):N1:=λ p a=>(o.pok.ok p a).nm
def Pict.nmr (o:jB):X9:=λ p b=>(o.pal.ok p b).nm
def Pict.one (o:jB):One Io:=xk9 (P:=OK) fR (λs hs=>by
    ext znD hs) o.nms o.nmr
def xua {c:Nat} (h:nmC c=true):97<=c/\c<=122:=by
 unfold nmC at h;simpa using h
theorem Pict.asc (o:jB) (c:Cl):cd Io c<128:=by
 have b:∀ s,Gk->M3<128:=λs hs=>by
  show(gV,xua (xc7 hs).2)
 have all:=xk9 (P:=λ s=>M3<128) (w:=w) (ss:=ss) fR b o.nms o.nmr;unfold cd;cases e:ziw with
 | none =>
  show 32<128;decide
 | some s=>exact all c s e
def xuy (w1:pX) (nd:(prs.map (·.2)).Nodup):((zJ).map (·.1)).Nodup:=by
 unfold xbj;rw[Zr];ext K4 nd;exact nd.imp (yG,b (xdg w1 e))
def xxh (w1:pX) (nd:ss.Nodup):((Fv).map (·.1)).Nodup:=by
 unfold xb1;show(dP,Zr,Drw.nd_map (Vj,xdg w1 e) nd)
def x0t (nx:(ps.map (·.x)).Nodup):((uh).map (·.1)).Nodup:=by
 unfold ptsS;rw[Zr];ext K4 nx;exact nx.imp (yG,b (zfR).1)
def xi8 {c:Cl} (n:zmY):c∉(zJ).map (·.1):=λ z=>by
 unfold xbj at z;ext zkE
def xpz {c:Cl} (n:zns):c∉(Fv).map (·.1):=λ z=>by
 unfold xb1 at z;ext zkE
def x0w {c:Cl} (n:znt):c∉(uh).map (·.1):=λ z=>by
 unfold ptsS at z;ext zkE
def Pict.name (o:jB) {p:Pr} (hp:S2):du (PB zwf) ff:=Drw.sets_one (xuy o.w1 o.pal.nd) (Zc.mpr (rB hp))
def Pict.dot (o:jB) {s:Seat} (hs:AC) (no:∀ p∈prs,fM≠s):(PB Cc)=some (Zh "."):=by
 unfold xbr Drw.drawL;show(dP,(zrt,λ p b e=>no p b (xdg o.w1 e)),Drw.sets_one (xxh o.w1 o.sok.1) (Zc.mpr (kZ s hs)))
def xeb (w:Nat) (s:Seat) {x:Int} (h1:we) (h2:Dy) (y:Int):Cc≠(x,y):=λ e=>by
 show(oz,xe9 w s,e)
 dsimp only at this
 lia
def Pict.pt (o:jB) {p:Pt} (hp:ut):du (PB zL) p.nm:=by
 have k:=zZk;unfold xbr Drw.drawL;show(fG,zrt (qaa q q.2),Drw.sets_no (xpz (qaa s s)),Drw.sets_one (x0t o.pok.nx) (zgF hp))
def xgb {c:Cl} (n1:zmY) (n2:zns) (n3:znt):ziw=Xf:=by
 unfold xbr Drw.drawL;rw[zrt n1,Drw.sets_no (xpz n2),Drw.sets_no (x0w n3)]
def xu1 {p:Pr} (x1:1<=uP) (x2:uP<=w) {c:Cl} (h:c∈(xdb w p).map (·.1)):zZP:=by
 unfold xdb at h;rw[Drw.ledL_keys] at h;have rb:zUb:=by
  ext zrx
  .ext pK
  .ext sC
 rcases Cv with h|h
 .rcases Cv with h|h
  .ext Ei a Ah;ext dO x1 x2
  .ext Di
   .rw [Zs.mp h];ext dO x1 x2
   .ext RF
 .ext mU a f Ah;rw[Drw.mem_rg] at f;ext dO wA wA
def Pict.off (o:jB) {c:Cl} (hc:fK=0\/fK=CV) (n1:zmY) (n2:zns):ziw=none:=by
 rw[xgb n1 n2 (λ p j e=>by
  have k:=o.pok.ok p j;have v:p.x=fK:=by rw[<- e]
  show(dy,u,k.x1,q,k.x2)
  lia),Drw.marks_at,Drw.at_no]
 .rfl
 .ext kH
  ext tt b z;show(dA,p,j,b,YC.mp b);have k:=(qba).xy;show(gV,xu1 k.1 (eE k) (Zc.mpr (A9 b)))
theorem xqz (c:Cl):Xf=none\/∃ s,(du Xf s)/\zyK:=by
 show(znO,(du,(Drw.no:fD) c,s)->zyK);cases e:Xf with
 | none=>ext pK
 | some s =>
  show(qZ,(nU,s,xe1 (P:=λ s=>zyK) (hs:=hsS) zNC (L:=N6) no (sY h) c s e));ext zFC;rcases Cv with h|h
  .rcases Cv with h|h
   .ext zjk;show(zpk,"|")
   .ext Di
    .rw [Zs.mp h];show(zpk,"+")
    .ext RF
  .ext zjk;show(zpk,"-")
def xd8 {m:fD}{c:Cl}{s:Str} (h:zcD):cd m c=xay s:=by
 unfold cd xay;rw[h]
def xpm {m:fD}{c:Cl} (h:m c=none):cd m c=32:=by
 unfold cd;rw[h]
def Pict.inner (o:jB) {c:Cl} (c1:1<=fK) (c2:fK<=w) (n3:znt):cd Io c∈Ag:=by
 have e:=xgb (w:=w) (ss:=ss) (prs:=prs) (λ p _=>xeb w fM c1 c2 ir) (λ s _=>xeb w s c1 c2 ir) n3;rcases xqz (w:=w) (prs:=prs) c with z|⟨s,z,k⟩
 .ext rF z;rw[xpm e];decide
 .ext rF z;show(dP,xd8 e,k)
noncomputable abbrev xa6 (w h:Nat) (ps:dL) (ss:dE) (prs:d0):gD:=xgj w h Io
def xd4 (w h:Nat) (m:fD):vU zeQ h:=by
 unfold xgj;rw[Za,Zx]
def Pict.tx (o:jB):Txs jR mj:=by
 show(qH,q,o.h1,f,o.h2,v,o.w1,u,o.w2);show(fV,yI xd4,dH xd4 f,dC r e,hF r e c hc,dk,dk)
 .ext Ei i zzB;unfold rowC;rw[Za,Zx]
 .ext Ei i zzB;show(Hi,j,Zc.mp hc);exact o.asc _
def xes {m:fD}{s:Gs}:(zpZ,sgs zeQ,gH<h,jR,cd m zm):=by
 unfold sgs;rw[xie,xd4];have e:gH<h->(zeQ).getD gH []=rowC w zzu m:=λ hs=>by
  unfold xgj;rw[JM,Zd,ZW hs];rfl
 have l:∀ r,vU zuf jR:=λ r=>by
  unfold rowC;rw[Za,Zx]
 have v:∀ r (j:Nat),j<jR->(zuf).getD j 0=cd m zji:=λ r j hj=>by
  unfold rowC;rw[JM,Zd,ZW hj];rfl
 constructor
 .ext vn a b c;rw[e a,l] at b;rw[e a,v _ _ b] at c;ext eB a b c
 .ext vn a b c;rw[e a,l];show(eB,a,b,(dH,v _ _ b,c))
noncomputable def xdh (p:Pt):Gs:=(zxA,p.x.toNat,xay p.nm)
noncomputable def xc8 (w:Nat) (p:Pr):Gs:=(nG iT,(LH).toNat,xay ff)
def xuk (G:gD) (p:Gs->Bool):((iy).filter p).Nodup:=by
 have z:=(xh4 G G.length).filter p;exact z.imp λ a e=>a (by rw[e]; show(dO,rfl,rfl))
def xnj {lc j:Nat} (h:¬ zSu):j≠0/\j≠lc:=by
 ext zOt
def xvn {c:Nat} (h:c∈Ag):nmC c=false:=by
 have h:sZ c 32 c 124 (sZ,c,45,c,43,c=35):=tE
 rcases h with rfl|rfl|rfl|rfl|rfl<;>rfl
def Pict.at_in (o:jB) {s:Gs} (hs:s∈sgs mj) (nr:¬ Lw):(∃ p∈ps,xdh p=s)\/dU∈Ag:=by
 show(jE,D,C,u,xes.mp hs);have nr:=xnj nr;ext zPR
 .ext j7 p q ep e;show(Dn,kB p q);have v:=xd8 (o.pt q);rw[ep,<- u] at v;show(dy,B,(JE.inj ep).1,A,(JE.inj ep).2);ext zmK v B A
  unfold xdh;rw[B,A,v,(gE,(nG (kG a))=a),JS]
 .refine .inr ?_;show(dP,u,o.inner wA wA λ p q z=>e (dB p q z))
def Pict.of_in (o:jB) {p:Pt} (hp:ut):MT∈inns w mj:=by
 show(dy,k,zZk,z,k.x1);show(qH,u,k.x2,q,k.y1,j,k.y2,v,xd8 (o.pt hp));unfold inns;rw[Z9];show(dw,e,(eg,eE MT)=p.x,by show zXd=p.x; lia,c,(kG,(MT).1)=p.y,by show (kG zxA)=p.y; lia)
 ext zJF e;have n:=qac;have b:rimB f8 (eE MT)=false:=by
  unfold rimB;rw[Og,Og];rfl
 unfold innP;rw[b,X0 MT p.nm,n];rfl
def xsz (pok:rQ):(ps.map xdh).Pairwise InNe:=by
 rw[Z5];have z:=pok.nn;show(dy,u,pok.nx,q,pok.ny);rw[Jx,Z5] at z u q;refine Jh.imp_of_mem ?_ ((z.and u).and q);intro a b H D ⟨⟨C,B⟩,A⟩;show(dy,j,pok.ok a H,c,pok.ok b D);show(qH,a1,j.x1,a2,j.y1,J,c.x1,I,c.y1);show(gG,λ e=>C (xhb j.nm c.nm e),λ e=>A ?_,λ e=>B ?_)
 .have e:(nG a.y)=(nG b.y):=e
  lia
 .have e:a.x.toNat=b.x.toNat:=e
  lia
def Pict.inn_pm (o:jB):(inns w mj).Perm (ps.map xdh):=by
 refine (zUv).mpr λ s=>zMu
 .exact (xsz o.pok).imp λ z e=>z.1 As
 .obtain ⟨y,u⟩:=Z9.mp hs;unfold innP at u;show(sr,v,nE u);rcases o.at_in y (by simpa using v) with⟨p,j,e⟩|z
  .show(sF,Vd j)
  .show(AE,xvn z,q)
 .ext mU p j zfN;exact o.of_in j
def Pict.at_rim (o:jB) {s:Gs} (hs:s∈sgs mj) (r:Lw):zpW=zm/\((∃ p∈prs,CC=s/\fM=xax s)\/(zmG/\MZ∈ss/\dU=46)\/(zmG/\MZ∉ss/\dU=32)):=by
 show(jE,H,D,x,xes.mp hs);have A:=o.w1;have q:zpW=zm:=by
  unfold rimC xax xhe Drw.rim;rcases xgs r with z|z
  .rw [z,Oh,gq];exact W9 rfl wA
  .rw [z,Og,d6 dG];exact W9 wA wA
 ext nY q;by_cases e:∃ p∈prs,fM=xax s
 .ext zwn;show(Dn,hB p j ?_ ep);have v:=zWu;rw[ep,q,<- x] at v;have C:LH=vy:=by
   show(dP,ep,AQ Prod.fst q)
  have B:iT=Tm:=ib ep
  ext zmK v C B
  unfold xc8;rw[C,B,<- v,(gE,(nG (lX a))=a),JS]
 .have u:zmG:=zMh;by_cases d:MZ∈ss
  .refine .inr (.inl (kB u d));have v:=xd8 (o.dot d u);rw[q,<- x] at v;rw[v];ext tP
  .refine .inr (.inr (kB u d));have v:=xpm (o.off (c:=zpW) zyI (λ p j z=>u p j (xdg A z)) (zNP A));rw[q,<- x] at v;exact v
def xna (w1:pX) {p:Pr} (r1:1<=iT):xax CC=fM:=by
 obtain⟨pt,b,r⟩:=p;unfold xax xc8 xhe Drw.rim
 dsimp only at r1 ⊢
 refine W9 ?_ wA;cases b
 .dsimp only
  rw[d6 dF];exact decide_eq_false dk
 .rfl
def Pict.of_out (o:jB) {p:Pr} (hp:S2):CC∈outs w mj:=by
 show(iR,k,zZj,A,k.r1,x,k.r2);show(dy,q,o.w1,v,xd8 (o.name hp));have rb:zUb:=xe9 w fM;unfold outs;rw[Z9];show(dw,j,(eg zhA)=LH,by show (eg,(LH).toNat)=_; lia,c,(kG,(CC).1)=iT,by show (kG,nG iT)=iT; lia)
 ext zJF j;have n:=qac;have b:P9 zhA:=by
  unfold rimB;rcases rb with z|z
  .rw [pE (gE,zhA=0)];rfl
  .rw [pE (gE,zhA=f8),Qe]
 unfold outP;rw[b,X0 CC ff,n];rfl
def Pict.out_pm (o:jB):(outs w mj).Perm (prs.map (xc8 w)):=by
 refine (zUv).mpr λ s=>zMu
 .have y:=o.pal.nn;rw[Jx,Z5] at y;rw[Jx,Z5];ext OI y;intro a b C B z e;exact z (xhb (o.nmr a C) (o.nmr b B) (zid (λ s:Gs=>dU)))
 .obtain ⟨H,A⟩:=Z9.mp hs;unfold outP at A;obtain⟨D,j⟩:=nE A;rcases (o.at_rim H D).2 with⟨p,q,e,_⟩|⟨_,_,z⟩|⟨_,_,z⟩
  .show(sF,Vd q)
  .ext AE z j
  .ext AE z j
 .ext mU p q zfN;exact o.of_out q
def PrOk.mem {w h:Int}{p:Pr} (k:Ex):eA∈ps:=ZY k.fd
def Pict.good (o:jB):xfe w mj:=by
 show(fV,o.tx,d8 s hs n,?_,?_,?_,zE)
 .by_cases r:Lw
  .ext pi r;rcases (zYw).2 with⟨p,j,e,_⟩|⟨_,_,z⟩|⟨_,_,z⟩
   .rw [<- e] at n;have:=(xc7 (o.nmr p j)).2;show(nS,X0 CC ff,this,n,n)
   .ext hX z
   .ext iE z
  .ext lD r;rcases o.at_in hs r with⟨p,j,e⟩|z
   .rw [<- e] at n;have:=(xc7 (o.nms p j)).2;show(nS,X0 MT p.nm,this,n,n)
   .ext i4
 .exact (JU.pairwise_iff (λ{x y} z=>(dB,Z2 z.1,Z2 sG,Z2 qQ)) o.inn_pm).mpr (xsz o.pok)
 .rw [o.inn_pm.length_eq,Za];exact o.pok.le
 .refine (o.out_pm.map _).nodup_iff.mpr ?_;rw[Zr];have v:=o.pal.nn;ext K4 v;ext OI v;intro a b B A z e;exact z (xhb (o.nmr a B) (o.nmr b A) e)
 .show(mU,p,j,Zc.mp (o.out_pm.mem_iff.mp hs));show(Nc,xdh eA,o.of_in (qba).mem)
#check _
noncomputable def fr (h:Nat) (p:Pt):Pt:=⟨p.nm,p.x,p.y, "both",1,vN⟩
section
variable {w h:Nat}{ps:List Pt}{ss:List Seat}{prs:List Pr}
def xn1 (pok:rQ) {p:Pt} (hp:ut):toPt h (xdh p)=fr h p:=by
 show(iR,k,pok.ok p hp,c,k.x1,b,k.y1);unfold toPt xdh fr
 dsimp only [rI0,iV]
 rw[<- (xc7 k.nm).1,(gE,zXd=p.x),(gE,(lX zxA)=p.y)]
def Pict.ens (o:jB) {es:gP} (pe:zOn):(zeu h).Perm (ps.map (fr h)):=by
 show(zwL,(pe.trans o.inn_pm).map (toPt h),show ps.map (fr h)=ps.map (toPt h∘xdh) from (ZT λ p b=>(xn1 o.pok b).symm))
def xzy (pok:rQ) {p q:Pt} (hp:ut) (hq:q∈ps) (e:p.nm=q.nm):p=q:=by
 have a:=xev pok.nn hp;rw[e,xev pok.nn hq] at a;exact (ZM.inj a).symm
def Pict.toPr_out (o:jB) {p:Pr} (hp:S2):toPr w mj CC=zgL:=by
 obtain⟨_,_,_,⟨z,hz,j,q⟩⟩:44:=xfm o.good (o.of_out hp);have k:=zZj;rw[q,xna o.w1 k.r1,xd4];show(iD,c,b,Zc.mp (o.inn_pm.mem_iff.mp hz));show(ua,c,eA,xzy o.pok b k.mem (xhb (o.nms c b) k.nm j));rw[xn1 o.pok b]
def Pict.fns (o:jB) {fs:gP} (pf:zOm):(Of).Perm (prs.map λ p=>zgL):=by
 show(zwL,(pf.trans o.out_pm).map (toPr w mj),show zLk=prs.map (toPr w mj∘xc8 w) from (ZT (lR,(o.toPr_out hp).symm)))
def Pict.again (o:jB) {es fs:gP} (pe:zOn) (pf:zOm):Pict w h (zeu h) zvw Of:=by
 have a:=xhv o.good pe;show(dy,b,xru o.good pe pf,c,xrg o.good);rw[xd4] at a b c;have j:=xn7 w mj;exact eP o.w1 o.w2 o.h1 o.h2 a (dB,j.nodup_iff.mpr c.1,(dH,j.length_eq,eE c),(jM,(ir).2 s (j.mem_iff.mp hs))) b
def Pict.rim_in (o:jB) (s:Seat):s∈zvw↔zAe/\(AC\/(zfp fM s)):=by
 show(tR,(xn7 w _).mem_iff)
 .intro hs
  ext C7 hs;show(h8,u,H,zxz,D,C,nE H);have K:=(xes.mp u).1;show(nY,⟨Dq (lX iM),wU (lX iM) _⟩);rcases (o.at_rim u D).2 with⟨p,j,_,e⟩|⟨_,z,_⟩|⟨_,_,y⟩
  .show(hX,Vd j)
  .ext iE z
  .exact absurd y (of_decide_eq_true C)
 .rintro ⟨⟨r1,r2⟩,hs⟩;ext CA r s
  dsimp only at r1 r2
  have A:=o.w1;show(fE,rb,Ml=0\/Ml=CV,xe9 w mT,J,(eg So)=Ml,dk,I,(kG zje)=r,dk)
  have mem:zlH∈sgs mj:=xes.mpr (dB,wA,wA,by dsimp only; rw[J,I]; rfl);have B:P9 So:=by
   unfold rimB;rcases rb with z|z
   .rw [pE (gE,So=0)];rfl
   .rw [pE (gE,So=f8),Qe]
  show(dw,q,xax zlH=mT,xna (w:=w) A (p:=(znS,b,r)) r1,q,xax zlH=mT,q);unfold rimS;refine Zc.mpr (hD,Z9.mpr (jy mem),q)
  dsimp only
  rw[B,J6];refine decide_eq_true mI;have hs:mT∈ss\/(zfp fM mT):=hs;by_cases e:zfp fM mT
  .ext zwn;have v:=zWu;rw[ep,z] at v;show(gV,xua (xc7 (o.nmr p j)).2)
  .have v:=xd8 (o.dot (hs.resolve_right e) λ p j y=>e (dB p j y));rw[z] at v;ext gz v fR
def Pict.sees (o:jB):xw6 w mj:=by
 intro R fs O L s hs;have B:=o.again O L;show(dy,K,o.ens O,I,o.fns L);rw[xd4,xql o.w1 B.pok B.pal vw];show(jE,U,T,Q,xes.mp hs);rw[Q]
 suffices e:xbr w (R.map (toPt h)) zvw Of zm=(PB zm) by
  unfold cd;rw[e]
 show(dw,J,∀ p∈prs,(zAj,fM)∈Of,λ p j=>I.mem_iff.mpr (Zc.mpr (rB j)),u,∀ A∈Of,(zfp zgL A),λ A q=>Zc.mp (I.mem_iff.mp q));by_cases r:Lw
 .obtain ⟨P,z⟩:=zYw;rw[<- P];have C:=o.rim_in (xax s);rcases z with⟨p,j,_,ep⟩|⟨n1,d,_⟩|⟨n1,d,_⟩
  .rw [<- ep,o.name j];exact B.name (p:=zgL) (J p j)
  .rw [o.dot d n1];refine B.dot (C.mpr ⟨⟨zyS,zvv⟩,.inl d⟩) (wa A q);show(iD,p,j,u A q);exact n1 p j e
  .rw [o.off zyI (λ p j z=>n1 p j (xdg o.w1 z)) (zNP o.w1)];refine B.off zyI (uW A q) (d8 z hz y)
   .show(mU,p,j,u A q);exact n1 p j (xdg o.w1 z)
   .rw [xdg o.w1 y] at hz;rcases (C.mp hz).2 with x|⟨p,j,x⟩
    .exact d x
    .exact n1 p j x
 .have S:=xnj r;ext zPR
  .ext zwn;rw[<- ep,o.pt j];exact B.pt (p:=fr h p) (K.mem_iff.mpr (Zc.mpr (rB j)))
  .show(dw,H,uA<=vy,dk,D,vy<=w,dk)
   rw[zDw zMh,zDw (uW A q),Drw.marks_at,Drw.marks_at]
   .refine Drw.mkc_perm hsS ?_;unfold Drw.at_;refine (JU.filter _ ?_).map _;have z:=I.flatMap_right (xdb w);have e:(zLk).flatMap (xdb w)=N6:=by
     rw[List.flatMap_map];rfl
    ext eW e z z
   .show(mU,p,j,Zc.mp (K.mem_iff.mp q));exact e (dB p j z)
#check _
noncomputable def prK (p:Pr):iB:=[zzL,zic nR,.inl iT]
theorem xp2 {α β:Type}:∀{as:fc}{bs:FR}{i:Nat}{a:α}{b:β},RX->(dX bs b)->(dX zvr (a,b))
 | [],_,_,_,_,h,_=>BF
 | eK,[],_,_,_,_,h=>BF
 | x::as,y::bs,0,a,b,h1,h2=>by
  simp at h1 h2;subst h1 h2;rfl
 | x::as,y::bs,dW,a,b,h1,h2=>xp2 (as:=as) (bs:=bs) (i:=i) Ib On
theorem xqj {α β:Type}:∀{as:fc}{bs:FR},zOu->(zvr).map (·.2)=bs
 | [],[],_=>rfl
 | [],eK,h=>hI
 | eK,[],h=>hI
 | x::as,y::bs,h=>by
  rw[List.zip_cons_cons,Zq,xqj tE]
theorem xk4 {α β:Type}:∀{as:fc}{bs:FR},zOu->(zvr).map (·.1)=as
 | [],[],_=>rfl
 | [],eK,h=>hI
 | eK,[],h=>hI
 | x::as,y::bs,h=>by
  rw[List.zip_cons_cons,Zq,xk4 tE]
def xlc {α:Type}{H:Hp}{d:Addr}{as:fc}{qs:dJ}{f:Gm}{kf:α->iB}{nm:α->Str}{sh:K0} (ln:UG as.length) (l64:as.length<64) (hd:wh m7) (tp:zmC qs zrO)
    (hf:∀ a,f a=(kf a).map kV) (hn:∀ a,∃ r,kf a=.inr (nm a)::r) (hs:∀ a∈as,shp (kf a)=sh) (h0:zdi) (nd:(as.map nm).Nodup) {Q:VK}
    (fin:∀(l:Addr) (bs:fc) (us:dJ),mM->(ft,bs.Perm as,UH bs.length,(zmC,us,∃ a,(dX bs a)/\znK),bs.Pairwise (uS,(nm a).cps.toList<(nm b).cps.toList),yM (i5 l (.lst (us.map V.ref))))):xix [qU] H Q:=by
  have inj:(as.map kf).Nodup:=by
    ext K4 nd;refine nd.imp λ{a b} S e=>S ?_;show(h8,r,D,hn a,R,A,hn b);rw[D,A] at e;exact Jd.inj (Yq.inj e).1
  have O:vU zeP as.length:=ma List.length_zip ln Nat.min_self
  have mem:∀ x∈zeP,dM∈as/\(eO fY (.tup (f dM))):=λ x v=>by
    obtain⟨i,C⟩:=W7.mp v;have l:i<as.length:=by
      ext M7 C
    have K:dX qs GK:=U4;show(dA,a,M,e,tp i _ K);show(fe,xp2 M K,C,C);show(dO,Zi M,e)
  refine(mQ,d,(zeP).map λ x=>(kf dM,fY),sh,(kE,?_,kc Za O l64,tQ,tQ,h0,?_,eI l ts hl pm lx))
  . rw[hd,Zr]
    have e:=xqj (as:=as) (bs:=qs) ln
    congr 2
    conv=>lhs; rw[<- e]
    rw[Zr];rfl
  . ext tt v hz
    rw[(mem x v).2,hf]
  . ext tt v hz
    exact hs _ (mem x v).1
  . rw[Zr]
    show(gZ,e,congrArg (List.map kf) (xk4 (as:=as) (bs:=qs) ln),Zr,e);show ((zeP).map (kf∘λ x=>dM)).Nodup;ext pZ inj
  . show(iD,zs,I,xhu pm rfl)
    have B:=I.map (·.1);rw[xk4 ln] at B;have z:=fin l (zs.map (·.1)) (zs.map (·.2)) hl B (Ds Za) (λi q e=>by
      ext BS e x v;show(eB,dM,Du v,(mem x (I.mem_iff.mp (Zi v))).2)) (by
      have J:((zs.map (·.1)).map nm).Nodup:=(B.map nm).nodup_iff.mpr nd;rw[Zr] at lx;rw[Z5] at lx;rw[Jx,Z5,Z5] at J;rw[Z5];refine (lx.and J).imp λ{a b} y=>?_;obtain⟨y1,y2⟩:=y;show(h8,r,D,hn a.1,R,A,hn b.1);have y1:lexK (kf p5) (kf b.1)=true:=y1;rw[D,A] at y1;unfold lexK at y1;rw[(Cd,e,y2 (Jd.inj e))] at y1;ext D9 y1)
    rw[Zr] at z ⊢;ext i4
def xpg {s t:Str} (hs:Gk) (ht:qC t) (h:s.cps.toList<t.cps.toList):M3<xay t:=by
 rw[(xc7 hs).1,(xc7 ht).1,xbz,xbz,lt1] at h;exact h
def xs4 {a b c:Seat} (h:zzP) (k:xby b c):xby a c:=by
 unfold xby at *;rcases h with⟨h1,h2⟩|⟨h1,h2⟩<;>rcases k with⟨k1,k2⟩|⟨k1,k2⟩
 .ext MI h1 k2
 .show(MI,h1,gF k1 h2)
 .show(MI,dH h1 k1,k2)
 .show(hX,(Vn,h1.trans k1))
def xrk {a b:Seat} (h:GI):zzP\/xby b a:=by
 ext h8 a1 a2 a j f b;unfold xby;cases a1<;>cases j
 .have:a2≠f:=λ e=>h As;rcases Zab this with z|z
  .ext KJ T8
  .exact .inr (.inr T8)
 .exact .inr (.inl vq)
 .ext RE vq
 .have:a2≠f:=λ e=>h As;rcases Zab this with z|z
  .ext KJ T8
  .exact .inr (.inr T8)
theorem xkf:∀{ss:dE}{x:Seat},zUV->x∉ss->∃ srt:dE,srt.Perm (x::ss)/\Ov
 | [],x,_,_=>dB [x] RP zIp
 | y::r,x,h,nx=>by
  rw[JT] at h;rw[Zu,not_or] at nx;by_cases c:xby x y
  .refine (dB,x::y::r,RP,JT.mpr ⟨tQ,JT.mpr h⟩);rcases zxy with rfl|hz
   .exact c
   .exact xs4 c (h.1 z hz)
  .show(j7,srt,j,lt,xkf i0 nx.2);show(gG,y::srt,(j.cons y).trans (JU.swap _ _ _),JT.mpr ⟨tQ,lt⟩);rcases Zu.mp (j.mem_iff.mp hz) with rfl|hz
   .exact (xrk nx.1).resolve_left c
   .exact h.1 z hz
theorem xln:∀{st:dE},st.Nodup->∃ srt:dE,srt.Perm st/\Ov
 | [],_=>dB [] vw .nil
 | wc,h=>by
  obtain⟨B,A⟩:=ZH.mp h;show(dA,C,b,y,xln A);show(dA,j,q,v,xkf y (λ z=>B (b.mem_iff.mp z)));exact(rG,j,q.trans (JU.cons _ b),v)
def xx6 {c s:Int} (h:zzy) {n:Nat} (hn:n<=12):((AZ).map (iW,k,ltr zVm)).Nodup:=by
 rw[QW,Z5];show(zxK,λ{i j} v q r e=>?_,Wv (n:=n));rw[ZD] at v q;show(gL,x,xyh (B6).1 (B6).1 e,b,j<12,dk)
 show(zeb,j=i+d,j-i)
 show(dw,y,0<d/\d<12,dk,hs,∀ z∈xfb,z=1\/(sZ z 3 z 5 (sZ z 7 z 9 (sZ z 11 z 15 (sZ z 17 z 19 (sZ,z,21,z,23,z=25))))),dF)
 rw[W4,QX] at x;rcases hs s h with rfl|rfl|rfl|rfl|rfl|rfl|rfl|rfl|rfl|rfl|rfl|rfl<;>lia
def x1e (k:Bool):∃ x:Int,atI [V.int 6,V.int 12] (jo k 1 0)=(hO x)/\we/\x<=12:=by
 cases k
 .exact ⟨63,6,rfl,dF,dF⟩
 .exact vZ 12 dF dF
noncomputable def Wide (h:Nat) (ps:dL):Prop:=zEN vN
inductive xvm (K:Zf) (t:Adr) (vs:dz) (H:Hp) (Q:VK) (_:XK):Prop
 | mk (sc:Addr) (ns:eS) (e_:vs=[.ref sc]) (r_:SqL K H sc zcE/\∀(H':Hp) (a dp do_:Addr) (w h:Nat) (ps:dL) (st ss:dE),(yj,fZ,Dr t H' a dp do_ w h ps st ss,rQ,KP,a))
def ok_x (T:dZ):FnOk true P w K mg base dS 6 t.f_x t.d_x Eg (xvm K t):=by
 refine T.B_x.F.okn (k:=5) sc_x (d7 H Q E h) (λ cdv A outer s H vs Q E hr h=>?_)
 .ext Bp X ns
 .ext BC X ns;refine⟨_,xj (RW (pC (ok_bg T) hr T.bg.g T.bg.F.kp T.bg.b (i3 DL)) (zw 1 sc_x.nd 2 sc_x.nd))
   (xj (Af 3 (x9 (xta rfl) rfl T.n_min boot_min (xa (xaj xbf (xci (uI (xp))) (zIV (zwA zyX)) iw) zT)))
   (xj (Af 4 (xu xa2 (xp) (yF xcg qaV 3)))
   (xj (Af 5 (pC (ok_a7 T) hr T.a7.g T.a7.F.kp T.a7.b (xa DL L9)))
   (xj (zEq 6 DL (lM 1 4))
   (xj (zEq 7 qaV (lM 2 4))
   (xj (Af 8 (zDU zT))
   (xj (C8 (Iu L9) (pN 9 sc_x.nd) (xaf DF T.c_a T.m_b (ok_b T) fF T.b_by.choose_spec.2 T.b_by.choose_spec.1 xq (xa (wI 5 Nk) (pI (wI 6 Nk) (wI 7 Nk)))))
   (xj (Af 10 zyX)
   (xj (xa1 Z7 rfl (zbL (uI (qM kC))) (pN 11 sc_x.nd) (xm (xa1 Z7 rfl (x8 (xci qaf)) (pN 12 sc_x.nd) (xj (Af 13 (xu xa2 (GO (xp) 11) (zPc 12)))
   (xj (Af 14 (xbx xgf (CL (pC (ok_bd T) hr T.bd.g T.bd.F.kp T.bd.b (xa DL (uK 13)))) (pv 10) oW))
   (xj (zyp (FX zyX (xp)) (xm (Af 14 (zwA (xu xzx (yF xzq DL 13) (xp))))))
   (xm (xe6 (yy (xbs (pv 14)) (Vo (iI DF T.c_a T.B_t.m (ok_t T) fF T.B_t.b (lM 12 11))))))))))))
   (tM 8)))))))))),?_⟩
  refine sq11 ?_; intros; ext uY hs;refine mQ X ns 0 (sx,hs,λ c0=>(nU,c0,λ w ph H1 p1 w1 w2 h1 h2 s1 hp1=>EC p1 hp1));ext lU q0 aO;show(zms,s2,hZ (iQ H1 q0 (jJ 6 12)),Vl (h9 aO),c1,(nU,qi 4,.inr qJ));show(eZ,mx,aZ,bg,bf,x1e (decide (zvc (c1 % 4) 3)));show(ij,q0,_,_,.int mx,(li,ef xi,aZ,(m6,102,_,_,rfl,eI m m1 m2 m3 mo)));show(zms,mp,1<=m,(by rcases mo with rfl|rfl|rfl<;>lia),D,kB BM (by show 0<m; lia));have bm:=xb3 (D / 8) (gE,0<m);show(zjH,n,hn,∃ n:Nat,zbs=nO,(zbs).toNat)
  show(zms,n1,AS n nO m,dk,aw,(eY,aw,n,(zci [V.int aw,zfH]),dk,λ st H2 ln ms s3 aU=>?_));show(jb,mQ X ns 2 (sx,(PL).seqL hs,λ c2=>(eP,c2,w,n,(zci [V.int c2,V.int w,zfH]),dk,dk,λ xs H3 lx aB a6 bx s4 aT=>?_)),mQ X ns 2 (sx,((PL).trans s4).seqL hs,λ aJ=>(iY,BM,aJ / 7,ph,n,(zci [V.int (aJ / 7),V.int ph,zfH]),dk,dk,λ ys H4 ly aA a5 bc s5 aS=>?_)));refine (λ a dx hx aF ne=>gm a dx w ph rfl (jN,xi,dk,dk,dk,dk,λ H5 dp do_ hdp5 hdo5 s6 pic5 hdt5=>FP));ext qd; have k5:Same H4 H5:=zJI Ti;have a0:hZ H4:=((PL).trans s4).trans s5;have fr:∀ z,upd (Fc H4 a) a zqT z=none->(fw z):=λz hz=>by
   cases e:H z with
   | none=>rfl
   | some u =>
    have e4:=a0 _ _ e;rw[jY e4 hx,jY e4 aF,e4] at hz;cases hz
  show(dy,aW,fr _ hdp5,aX,fr _ hdo5);have az:FQ:=a0.trans k5;obtain⟨nms,Y⟩:∃ nms:dD,nms=(AZ).map (iW,k,ltr ((aw+st*ya) % 26)):=iP
  show(dw,aC,nms.length=n,tT Y,a8,nms.Nodup,(dH,Y,xx6 ms dk))
  have aD:∀ z∈nms,(qC z):=λz hz=>by
   rw[Y] at hz;show(Hi,k,Zc.mp hz);exact xu7 (B6).1 (B6).2
  have aE:(du,H2 ln,.lst (nms.map V.str)):=by
   rw[aU,Y,Zr];rfl
  show(fV,64,nO,zci [zfH],dk,dk,?_);refine xhx (Pv:=λ i Z H6=>∃(v9 ar ad U R I:f7) (ps:dL),Z=[Uc,Gp,zhm,ziI,zhk,LA,zhy,zhz,hU,v9,ar,ad,U,R,I]/\zzF/\(du,H6 ln,.lst (nms.map V.str))/\(du,H6 lx,.lst (xs.map V.int))/\(du,H6 ly,.lst (ys.map V.int)) /\
   (wP H6 w ph ps)/\H6 do_=some (.dT [])/\ps.length=i/\ps.map (·.nm)=nms.take i/\ps.map (·.x)=xs.take i/\ps.map (·.y)=ys.take i/\(∀ p∈ps,PtOk w ph p)/\(zEN ph)) ?_ ?_ ?_
  .exact mC ⟨GQ,_,[],rfl,az,k5 _ _ (s5 _ _ (s4 _ _ aE)),k5 _ _ (s5 _ _ aT),k5 _ _ aS,Do pic5 hdt5 rfl rfl rfl rfl zVa zVa⟩
  .rintro i Z H6 hi (⟨v9,ar,ad,U,⟨R,I,ps,rfl,s7,g1,g2,g3,O,aa,pl,pn,px,py,aj,wd⟩⟩:121);have bj:jS:=zRx
   obtain⟨bb,aR⟩:=O.ins;have at_:∀{α:Type} (zs:fc) (f:MS) (hz:zs.length=n),atI (zs.map f) (0+(eg i))=some (f (zs[i]' dk)):=λ{α} zs f hz=>by
    rw[Qw];exact xb6 (Du U4)
   have a9:∀ p∈ps,p.nm≠nms[i]' dk/\p.x≠zxn/\p.y≠zxm:=λp hp=>by
    have no:(zHf,zs.Nodup->∀ z∈zs.take i,z≠zs[i]):=λ{α}{zs} hz nd z hm e=>by
     show(gZ,h1,Yu i zs,Yx hz,h1);rw[<- h1,ZE] at nd;exact (n6).2 z hm _ Zo e
    show(gG,no _ a8 _ ?_,no _ a6 _ ?_,no _ a5 _ ?_)
    .rw [<- pn]; show(sF,rB hp)
    .rw [<- px]; show(sF,rB hp)
    .rw [<- py]; show(sF,rB hp)
   show(dy,ao,bx zxn (JO _),am,bc zxm (JO _));show(jb,⟨a,bb,_,rfl,aR,i8,ln,_,_,_,rfl,rfl,ef g1,at_ nms V.str aC,lx,_,_,_,rfl,rfl,ef g2,at_ xs V.int aB,ly,_,_,_,rfl,rfl,ef g3,at_ ys V.int aA,?_⟩,⟨a,dp,do_,w,ph,ps,nms[i]' dk,zxn,zxm, "both",1,ph,.non,rfl,(kE,O,zzN,aD _ (JO _),ao.1,ao.2,am.1,(Do,am.2,zbp,dF,dk,dk,a9,dk,d8 H7 k7 M))⟩);show(iu,kvs,hk,O.pl)
   have tk:(zHf,zs.take dW=zs.take i++[zs[i]]):=λ{α}{zs} hz=>by
    rw[ZC,Zb hz];rfl
   show(zws,⟨GQ,_,_,rfl,(gC,k7 b u (xb e aW) (s7 b u e)),zcM g1,zcM g2,zcM g3,(Do,M,zcM aa,ie pl,?_,?_,?_,Cr,Cr)⟩)
   .rw [Zt,pn,tk dk]; rfl
   .rw [Zt,px,tk dk]; rfl
   .rw [Zt,py,tk dk]; rfl
   .rcases Zz.mp hp with z|z
    .exact aj p z
    .rw [Zs.mp z];exact(gW,aD _ (JO _),ao.1,ao.2,am.1,am.2,zbp,by show uA<=1; decide,Dq ph,wU ph ph)
   .rcases Zz.mp hp with z|z
    .exact wd p z
    .rw [Zs.mp z];show(oS,rfl,rfl)
  .rintro Z H6 (⟨v9,ar,ad,U,⟨R,I,ps,rfl,s7,g1,g2,g3,O,aa,pl,pn,px,py,aj,wd⟩⟩:121);have be:ps.length=n:=by simpa using pl
   have as:∀{α:Type}{zs:fc},zs.length=n->zs.take ((nO).toNat)=zs:=λ{α}{zs} hz=>by
    rw[UY]
   rw[as aC] at pn;rw[as aB] at px;rw[as aA] at py;refine mQ X ns 3 (sx,s7.seqL hs,λ c4=>jy (qi 7));ext qd; refine(gK,1,ph+1,Ea,?_);refine xhx (Pv:=λ j Z H7=>∃(ad U R I:f7) (st:dE),Z=[Uc,Gp,zhm,ziI,zhk,LA,zhy,zhz,hU,v9,zqL,ad,U,R,I]/\(hZ H7)/\(du,H7 ln,.lst (nms.map V.str))/\(du,H7 lx,.lst (xs.map V.int))/\(du,H7 ly,.lst (ys.map V.int)) /\
    (zVO,H7,Sts H7 do_ st,2*j,∀ s∈st,(Ty pQ))) ?_ ?_ ?_
   .exact (mC,xR [] s7 g1 g2 g3 (fQ,O,z6 [] aa Yh dF,eV,jM (nomatch hs)))
   .rintro j Z H7 hj (⟨I,aq,ac,ap,⟨st,rfl,av,aI,aH,aG,M,af,ay,ah⟩⟩:121);refine gn ?_; refine fo ?_; intros; have bi:pQ<ph:=dk
    ext lU le aV;generalize eu:iQ H7 le zlD=H8;ext kQ s8 aV g8;ext uq le g8;refine xa5 (xs:=zlD) (Pv:=λ i Z H9=>∃(U R I:f7) (st:dE),Z=[Uc,Gp,zhm,ziI,zhk,LA,zhy,zhz,hU,v9,zqL,hO CZ,U,R,I]/\(hZ H9)/\(du,H9 ln,.lst (nms.map V.str))/\(du,H9 lx,.lst (xs.map V.int))/\(du,H9 ly,.lst (ys.map V.int))/\H9 le=some (.lst zlD) /\
     (zVO,H9,Sts H9 do_ st,2*j+i,zDb i)) ?_ ?_ ?_ ?_
    .exact ⟨126,_,_,_,st,rfl,av.trans s8,s8 _ _ aI,s8 _ _ aH,s8 _ _ aG,(gT,g8,qY s8 M,af.same s8,ay,jM ⟨(zhb).1,.inl (zhb).2⟩)⟩
    .rintro i Z H9 _ (⟨_,_,_,st,rfl,_,_,_,_,⟨e9,_⟩⟩:126);ext nI e9
    .rintro i x Z H9 hx (⟨aq,ac,ap,st,rfl,s9,e1,e2,e3,⟨e9,J,ae,au,ab⟩⟩:126);refine gn ?_; refine sq4 ?_; intros; have hi:i<2:=by
      show(GD,xU hx)
     obtain⟨sb,aY,bh⟩:∃ sb:Bool,x=(FH sb)/\zyP=i:=by
      have:i=0\/i=1:=dk
      rcases this with e|e<;>subst e
      .exact (kZ,true,(zvq).symm)
      .exact (kZ,false,(zvq).symm)
     subst aY;obtain⟨ba,aQ⟩:=J.ins;have up:zDb dW:=λs hs=>⟨(zhc).1,by
      rcases (zhc).2 with z|⟨z1,z2⟩
      .ext iE z
      .show(hX,⟨z1,Nat.lt_succ_of_lt z2⟩)⟩
     show(gG,Rr,rfl,.inr qJ);obtain⟨pl,aP,aL⟩:∃ pl:Int,pl=zCD/\0<=pl:=ja RU
     show(zRf,c5,(uX,c5,λ mm _ _=>?_));show(nY,qi 6)
     let Pm (Z:L2.St) (aK:Hp):Prop:=H9=aK/\∃(ac:f7) (op:Bool),Z=[Uc,Gp,zhm,ziI,zhk,LA,zhy,zhz,hU,v9,zqL,hO CZ,some (FH sb),ac,some (.bl op)]
     show(iF,Pm,?_)
     .ext O3; show(zRf,c6,mQ (qi 4) rfl _ zdF)
      .refine mQ X ns 3 (sx,s9.seqL hs,λ c7=>nU (by show pT<=zCD; ext mL aP aL) ?_);exact dY rfl _ _ rfl
      .exact dY rfl _ _ rfl
     rintro _ _ ⟨rfl,bd,op,rfl⟩;ext zlo; refine MD Gw (λ y=>⟨126,_,_,_,st,rfl,s9,e1,e2,e3,gT e9 J ae dk up⟩);have aM:(sb,kG j)∉st:=λ hm=>by
      rcases (ab _ hm).2 with z|⟨_,z⟩
      .have z:CZ<=pQ:=z
       lia
      .have z:zyP<i:=z
       lia
     show(iu,ko,ak,id ae);show(jb,⟨tO ba aQ,dp,do_,w,ph,ps,st,sb,CZ,rfl,J,ae,dk,dk,aM,dk,hF aK ai a4 ax⟩,⟨126,_,_,_,st++[(sb,kG j)],rfl,(sJ,ai _ _ (xb e aX) (s9 _ _ e)),zcL e1,zcL e2,zcL e3,(gT,zcL e9,a4,ax,Ky,zE)⟩);rcases Zz.mp hs with z|z
     .exact up s z
     .rw [Zs.mp z];show(dO,Dq CZ,(F6,by show zyP<dW; lia))
    .rintro Z H9 (⟨aq,ac,ap,st,rfl,s9,e1,e2,e3,⟨e9,J,ae,au,ab⟩⟩:126);show(zws,xR st s9 e1 e2 e3 (fQ,J,ae,?_,jM (jy,(zhc).1)))
     .have au:st.length<=2*j+2:=au
      lia
     .rcases (zhc).2 with z|⟨z,_⟩<;>lia
   .rintro Z H7 (⟨I,aq,ac,ap,⟨st,rfl,av,aI,aH,aG,M,af,ay,ah⟩⟩:121);show(oD,w',J4 (gE,0<=w));show(oD,h',J4 (gE,0<=ph));show(dw,a7,st.Nodup,uT af.choose_spec,aN,st.length<=32,(fH af.choose_spec).2);show(dA,srt,pm,lt,xln a7);refine (q H7 a dp do_ w' h' ps st srt av (gm M af (dB,a7,aN,jM (jy,(zhb).1)) pm lt (lR,(aj p hp).nm)) (eY,aj,dH pn a8,dH px a6,dH py a5,dk) wd);show(gV,(zhb).2)
def xdf {Z:L2.St}{fr:fT}{te:TE}{l:Addr}{H1:Hp}{Q:VK}{lo:Int}{n:Nat} (f:Nat->j6) (hl:nJ) (hn:TW)
    (hte:(zBI,te ((zdj).set 0 (hO (lo+(eg i)))) H2 R))
    (fin:(zGq,xal H2 ((AZ).map f) qs,FL)):xcj R7 1 (xcy 0) Z fr xda te l H1 Q:=by
  show(zBo,xal H2 ((Nj).map f) qs)
  . ext zKR
  . ext zQE
  . rintro i xs H2 v C lt (⟨qs,rfl,z,q,j,y⟩:65) ⟨rfl,rfl⟩ N B
    ext zBL
    . ext sL j x
    . show(dP,Za,J9 z zoG)
    . ext zBP
    . ext zFE
      . ext zVM
      . show(AI,xb j x,xi)
  . ext zCg
def xsg {x y r s:Int}{n:Nat} (hn:nO=NW) (hs:s=(oG,r,y,-1,1)) :
    (Zv iZ).map zIg=zqR++[yk]:=by
  have e:zqR=(AZ).map zIg:=by
    unfold Geo.upL;have b:zte=n:=by unfold Geo.upN; split<;>split at hn<;>lia
    rw[b];refine ZT (dC k f);rw[ZD] at f;have h:Geo.dn y r=s:=by unfold Geo.dn; rw[hs]; split<;>split<;>(try rfl)<;>(split at hn<;>lia)
    rw[h,Qw,Int.mul_comm]
  rw[JB,Zt,<- e];have i:y+s*(0+(eg n))=r:=by
    rw[hs,Qw];split<;>split at hn<;>lia
  show _++[(x,y+s*(0+(eg n)))]=_;rw[i]
def xoa {w x r:Int} (h1:we):Geo.lvL w x true r=yk::(Zv (nG,x+1)).map (iW k (x-(kG k),r)):=by
 unfold Geo.lvL Geo.lvN Geo.wayI;rw[gq,gq,(jK,Mj x,(nG,x+1)+1,dk),YM,Zq,Zr]
 ext me
 .simp
 .show(zTI,x+zzl*-1)
def xl0 {w x r:Int} (h1:Dy):Geo.lvL w x false r=yk::(Zv (nG,jR-x)).map (iW k (x+(kG k),r)):=by
 unfold Geo.lvL Geo.lvN Geo.wayI;rw[zhv,zhv,(jK,jX jR x,(nG,jR-x)+1,dk),YM,Zq,Zr]
 ext me
 .simp
 .show(zTI,x+zzl*1)
inductive x3a (vs:dz) (H:Hp) (Q:VK) (_:XK):Prop
 | mk (w x y r:Int) (b:Bool) (sp:Addr) (e_:vs=[.int w,.ref sp,vL,.int r]) (r_:(dN,AF sp x y,we/\Dy/\mR,AS y y 16,AS r r 16,∀ H' l qs,mM->(FB,fZ,zwe,xal H' LX qs,qs.length<100)))
def ok_ba (T:dZ):FnOk true P w K mg base dS 1 t.f_ba t.d_ba zkk (x3a):=by
 refine T.ba.F.okn (k:=0) sc_ba (d7 H Q E h) (λ cdv A outer s H vs Q E hr h=>?_)
 .ext zyq w x y r b sp
 .obtain ⟨w,x,y,r,b,sp,rfl,h⟩:=h;refine⟨_,xj (yi 1 (GY (Ce (zaI 4 sc_ba.nd) (zaI 5 sc_ba.nd))))
   (xj (qe 6 sc_ba.nd (xp))
   (xj (yy (oJ xgf 3 yA) (xm (qe 6 sc_ba.nd ztT)))
   (xj (xbw rfl (lF "_law_k" ["_law_x", "_law_y", "_law_step"] [4,5,6] zjQ s_ba) (Iu (i3 (qM (zlq jj 5)))) lu kX i7 (O8 (AA 1 zNU)) (j:=7) rfl oO)
   (xj (yy (oJ xcb 2 (xar)) (iz (zBj (zbL (uI (qM lm))) (yF xb8 kC 0))))
   (iz (zBj (zbL (uI (yF xb8 (qM fA) 4))) (yF xa2 kC 0))))))),?_⟩
  refine sq6 ?_; intros; obtain⟨Z,⟨x1,x2,w2⟩,⟨y1,y2⟩,⟨r1,r2⟩,q⟩:45:=h;ext jC sp Z;refine MD (λ c=>nU 1 ?_) pR
  .show(fU,c',r<y,tD,rG _ rfl zII)
   .ext kR
   .ext kR
   show(zAp,xcj zYF _ _ _ _ _ _ _ _ _,-1);ext zMC; rw[xsg (s:=(-1)) X (jn,eD c')] at cu4;cases b with
   | true =>
    ext XJ;refine⟨83,1,x+1,rfl,Ea,zfE⟩;show(Vz,x-(kG k));have D:xal H5 zeT tV:=by
     have z:=(Bj).append cu5;rw[JF,Q6] at z;show(zau,xoa x1)
    ext zdY J;have b1:(zeT).length<50:=by
     ext Vx
    show(ij,U,M,_,_,⟨45,rfl,Sr,hu5,Nt,dC I m⟩);refine q _ I tV ((Kr).free m) zak Co Xg xI
   | false =>
    ext zSS;refine(gK,1,jR-x,Ea,zfE);show(Vz,x+(kG k));have D:xal H5 zdQ tV:=by
     have z:=(Bj).append cu5;rw[JF,Q6] at z;show(zau,xl0 x2)
    ext zdY J;have b1:(zdQ).length<50:=by
     ext Vx
    show(ij,U,M,_,_,(uG,Sr,hu5,Nt,dC I m));refine q _ I tV ((Kr).free m) zak Co Xg xI
  .show(fU,c',¬ r<y,tD,ja zII)
   .ext kR
   .ext kR
   show(zAp,xcj zYF _ _ _ _ _ _ _ _ _,1);rw[xsg (s:=1) X (jn,d6 c')] at cu4;cases b with
   | true =>
    ext XJ;refine(gK,1,x+1,Ea,zfE);show(Vz,x-(kG k));have D:xal H5 zeT tV:=by
     have z:=(Bj).append cu5;rw[JF,Q6] at z;show(zau,xoa x1)
    ext zdY J;have b1:(zeT).length<50:=by
     ext Vx
    show(ij,U,M,_,_,(uG,Sr,hu5,Nt,dC I m));refine q _ I tV ((Kr).free m) zak Co Xg xI
   | false =>
    ext zSS;refine(gK,1,jR-x,Ea,zfE);show(Vz,x+(kG k));have D:xal H5 zdQ tV:=by
     have z:=(Bj).append cu5;rw[JF,Q6] at z;show(zau,xl0 x2)
    ext zdY J;have b1:(zdQ).length<50:=by
     ext Vx
    show(ij,U,M,_,_,(uG,Sr,hu5,Nt,dC I m));refine q _ I tV ((Kr).free m) zak Co Xg xI
noncomputable def rowV (w:Nat) (r:Int) (m:fD):dz:=(Zv jR).map (iW,j,V.str ((G1).getD (Zh " ")))
def xvx (w:Nat) (r:Int) (m:fD):vU zuj jR:=by
 unfold rowV;rw[Za,Zx]
theorem xvg {w:Nat}{r:Int}{m:fD}{x:Nat} (hx:x<jR) (s:Str):(zuj).set x (.str s)=rowV w r (zyg (eg x,r)):=by
 ext zwr;unfold rowV Drw.set1;by_cases e:x=j
 .ext gc;rw[Ww (kc Za Zx hx),Zd,ZW hx];simp
 .rw [Qa e,Zd,Zd];cases h:(Zv jR)[j]? with
  | none=>rfl
  | some k =>
   ext oD a zhx;rw[Zaa];show some (V.str ((G1).getD (Zh " ")))=some (V.str ((jq zji (eg x,r) Ua G1).getD (Zh " ")));rw[if_neg];ext kH;rw[JE.injEq] at z
   lia
def xyk {w:Nat}{r y x:Int}{m:fD}{s:Str} (h:r≠y):rowV w r (zyg (x,y))=zuj:=by
 unfold rowV Drw.set1;ext zwB j;rw[if_neg];ext kH;exact h (zxJ).2
structure Grd (H:Hp) (g:Addr) (rs:dJ) (w h:Nat) (m:fD):Prop where
 gl:zOC g
 nd:rs.Nodup
 ng:g∉rs
 len:rs.length=h
 row:∀(i:Nat) r,(dX rs r)->(qj r ztc)
def Grd.keep {H H':Hp}{g:Addr}{rs:dJ}{w h:Nat}{m:fD} (G:R8) (k:(zrm,b=g\/b∈rs)):zgE H' m :=
 (eY,k _ _ jr G.gl,G.nd,G.ng,G.len,λ i r e=>k _ _ (.inr (Zi e)) (G.row i r e))
def Grd.set {H:Hp}{g:Addr}{rs:dJ}{w h:Nat}{m:fD} (G:R8) {i:Nat}{r:Addr} (hr:dX rs r) {x:Nat} (hx:x<jR) (s:Str):zgE (iQ H r ((ztc).set x (.str s))) (zyg (eg x,kG i)):=by
 show(fU,y,g≠r,λ z=>G.ng (z▸Zi hr),(eY,gS y G.gl,G.nd,G.ng,G.len,d8 j f c));by_cases e:j=i
 .ext gc;ext fe hr c c;rw[xi,xvg hx]
 .have q:f≠r:=λ z=>e ((List.getElem?_inj (Zj.mp c).1 G.nd).mp (ma c hr z));rw[xg q,G.row j f c,xyk dk]
noncomputable def WayL (w:Int) (H:Hp) (prs:d0) (ws:dJ):Prop:=ws.length=prs.length/\(zRZ,∃ p qs,(dX prs p)/\uj/\xal H Xs qs)
theorem xjk {S:Type} (hs:S):∀(L:jF) (m:jU),(L.map (·.1)).Nodup->(∀ x∈L,m dM=none)->Drw.marks hs m L=zrR
 | [],_,_,_=>rfl
 | pW,m,nd,h=>by
  ext wQ;show Drw.marks hs (Drw.mark1 hs m dM fY) L=Drw.sets zpe L;have e:zNq=zpe:=by
   unfold Drw.mark1;rw[h x Zo];rfl
  rw[e];refine xjk hs L _ n6 zxf;unfold Drw.set1;show(dP,(mD,nd.1 (by rw[<- z]; ext Nc y b)),zrJ)
def xm8 {S:Type} (m:jU) (L M:jF):Drw.sets m (L++M)=Drw.sets zrR M:=by
 unfold Drw.sets;rw[Yk]
def xr6 {w h:Nat}{ps:dL}{ss:dE}{prs:d0} (pok:rQ) (snd:(prs.map (·.2)).Nodup) (w1:pX) (cnd:(zmB).Nodup) :
    (zXS (zpT (Drw.sets zPz (ptsS ps))))=zpK:=by
  have rb:∀ b,Drw.rim oQ b=0\/Drw.rim oQ b=CV:=λ b=>by
    unfold Drw.rim;cases b
    . ext sC
    . ext pK
  have keys:(DT).map (·.1)=zmB:=by
    rw[List.map_flatMap];refine xgx λ p _=>?_;unfold ledS Drw.ledP;rw[Zr];exact YF _
  have C:(zaJ DT)=zPz:=xjk hsS _ _ (dH keys cnd) iw;funext c;rw[<- C];have B:((zJ).map (·.1)).Nodup:=by
    unfold xbj;rw[Zr];have inj:∀ a b:Seat,zMa->a=b:=λa b e=>by
      ext h8 a1 a2 a D H b;unfold rimC Drw.rim at e;ext zuU;cases a1<;>cases D<;>simp at e ⊢<;>lia
    show(zzv,Drw.nd_map (f:=rimC w) inj snd,Zr)
  exact (Drw.draw_same hsS (w:=w) (PM:=DT) (LM:=DT) (λ x v=>by
    ext jD p A v;ext zSz A) (λ x v=>by
    ext zYn) (λ x v=>by
    ext zYn) vw B c λ_ _=>vw).symm
def xj8 {rs:dJ}{y:Int} (y1:1<=y) (y2:y<=zXc):∃ r,(zoe y)=(dR r):=by
 obtain⟨i,b⟩:=J4 (gE,0<=y-1);have lt:i<rs.length:=dk
 show(dO,rs[i],qai b)
def x2i {n j:Nat} (h:j<n):(Bb,ixN n pQ):=by
 ext zVL
noncomputable def Off (rs:dJ) (H H':Hp):Prop:=(zrm,b∉rs)
def Off.of {rs:dJ}{H H':Hp} (s:fZ):zcY:=(LF,s b u e)
def Off.up {rs:dJ}{H H':Hp} (o:zcY) {r:Addr} (hr:r∈rs) (ob:HO):Off rs H (upd H' r ob):=λb u n e=>by
 show(dP,xg (λ z=>n (dH z hr)),o b u n e)
def Off.then {rs:dJ}{H H' H2:Hp} (o:zcY) (s:Same H' H2):Off rs H H2:=(lP,n,s _ _ (o b u n e))
def Off.same {rs:dJ}{H H':Hp} (o:zcY) (fr:zQX):fZ:=(gC,o b u XR e)
def Grd.put {H:Hp}{g:Addr}{rs:dJ}{w h:Nat}{m:fD} (G:R8) {c:Cl}{r:Addr} (ar:(zoe ir)=(dR r)) (x1:0<=fK) (x2:fK<=CV) (y1:1<=ir) (y2:ir<=vN) (sg:Str) :
    ∃ j:Nat,(d9,r∈rs,qj r ztd,(Bb,ixN (ztd).length fK),zgE (iQ H r ((ztd).set j (.str sg))) (zjw m sg)):=by
  show(h8,u,v,c,i,A,J4 (gE,0<=v-1));show(oD,x,J4 x1);have lt:i<rs.length:=by
    show(gV,G.len)
  have b:dX rs r:=by
    show(dw,z,(zoe v)=(dR,rs[i]),qai A,e,V.ref rs[i]=V.ref r,ZM.inj (z.symm.trans ar));show(dP,mV,congrArg some (V.ref.inj e))
  show(jz,v=Az,dk)
  have q:x<jR:=dk
  exact(gm,64,x,Zi b,G.row i r b,x2i (yI xvx),G.set b q sg)
theorem Grd.refs_no {H:Hp}{g:Addr}{rs:dJ}{w h:Nat}{m:fD} (G:R8) {l:Addr}{xs:dJ} (e:Bd (.lst (xs.map V.ref))):l∉rs:=λ z=>by
 show(Cz,i,W7.mp z);rw[G.row i l c] at e;have e:ztc=xs.map V.ref:=HO.lst.inj (ZM.inj e);have b:=zid (λ z=>z[0]?);unfold rowV at b;simp only[Zd,ZW (gE,0<jR)] at b;cases h:xs[0]? with
 | none=>ext js h b b
 | some q=>ext js h b b
def Grd.tup_no {H:Hp}{g:Addr}{rs:dJ}{w h:Nat}{m:fD} (G:R8) {q:Addr}{xs:dz} (e:yL xs):q∉rs:=λ z=>by
 obtain⟨i,a⟩:=W7.mp z;show(GR,G.row i q a)
def xf9 {S:Type} (m:jU) (L:jF) (x:Cl × S):Drw.sets m (L++[x])=Drw.set1 zrR dM fY:=by
 rw[xm8];rfl
def xzh {ps:dL}{w h:Int}{P:Pr} (ok:PrOk ps w h P) {c:Cl} (hc:c∈Geo.cells w ul P.1.y (eE P) Gv):(zZN,f8,ir<=h):=by
 ext zcI;ext zDS;rw[Geo.mem_cells x1 x2] at hc;show (oR u f8)/\1<=v/\v<=h;rcases hc with z|⟨f,b⟩
 .lia
 .revert b;show(zym,eE P)
def xrn {w x y:Int}{b:Bool}{r:Int} (x1:we) (x2:Dy):lQ LX 0 (x,y):=by
 unfold Geo.cells;by_cases e:r=y
 .have z:zte=0:=zKh
  show(dw,u,zqR=[],by unfold Geo.upL; rw[z]; rfl,n,0<Geo.lvN w x b,by unfold Geo.lvN; ext kR)
  rw[u,W1];unfold Geo.lvL;rw[Zd,ZW n];simp[e]
 .have n:0<zte:=zKh
  rw[ZL (by unfold Geo.upL; ext fG Za Zx n)];unfold Geo.upL;rw[Zd,ZW n];simp
def xnw (w:Int) (b:Bool):atI [V.int 0,V.int f8] (O9,zen (zlh b))=(hO Ml):=by
 cases b
 .have e:zen (zlh false):=Oh;rw[e];rfl
 .have e:PX (zlh true):=(zoh,absurd (V.str.inj z) fR);rw[e];rfl
def rim_in {w:Int} (w1:pX) (s:Seat):(oR,(Cc).1,f8):=by
 ext CA r s;unfold rimC Drw.rim;ext zym b
noncomputable def FRow (H0:Hp) (l:Addr) (w:Nat) (i:Nat) (ys:dz) (H:Hp):Prop:=∃ rs:dJ,(d9,zRH,rs.length=i,rs.Nodup,∀ r∈rs,r≠l/\H0 r=none/\(qj r (rowV w 0 Drw.no)))
def xr5 (w:Nat) (r:Int):(Ju jR ([zql]:dz)).flatten=rowV w r Drw.no:=by
 unfold rowV Drw.no;simp;rw[List.map_const',Zx]
inductive xtb (t:Adr) (vs:dz) (H:Hp) (Q:VK) (_:XK):Prop
 | mk (a lw lp dp do_:Addr) (w h:Nat) (ps:dL) (st srt:dE) (prs:d0) (qs ws:dJ) (e_:vs=(Ch eQ lw lp)) (r_:Dr t H a dp do_ w h ps st srt/\rQ/\(eO lw (.lst (ws.map V.ref)))/\WayL w H prs ws/\(eO lp m7)/\zg/\zqp/\Em/\(zmB).Nodup/\(prs.map (·.2)).Nodup/\zAQ)
def ok_al (T:dZ):FnOk true P w K mg base dS 4 t.f_al t.d_al zkq (xtb t):=by
 refine T.al.F.okn (k:=3) sc_al (d7 H Q E h) (λ cdv A outer s H vs Q E O h=>?_)
 .obtain ⟨a,lw,lp,dp,az,C,h',ps,st,srt,prs,qs,ws,rfl,_⟩:=h;rfl
 .obtain ⟨a,lw,lp,dp,az,C,h',ps,st,srt,prs,qs,ws,rfl,h⟩:=h;refine⟨_,xj (qe 3 sc_al.nd gB)
   (xj (xbw rfl (lF "_law_row" ["_law_width"] [3] ["_law_picture_here", "_law_ways", "_law_pairs", "_law_width", "_law_signs_here", "_law_k", "_law_way", "_law_x", "_law_y", "_law_name", "_law_sides", "_law_low", "_law_high", "_law_side", "_law_row"] s_al) (Iu (i3 gB)) lu kX i7 (λ_ _ _ _ _=>xu x0u (xci (xa (xar) (xh))) zzd) (j:=4) rfl oO)
   (xj (yc (zat nN) (AH 5 sc_al.nd 6) (Al (yx 6) (AH 7 sc_al.nd 8) (xm (xe6 (xau (xae (xjz (xbu O)) (xab zxa) (xab (pI zVW (zel (wI 2 yA)))) oW) zUC (xm (xe6 (xau (oJ xcb 7 zVW) zUC (xm (xbi (xar) zlM))))))))))
   (xj (yc (x8 (qI fA T.c_a T.c.m (ok_c T) (hmm O) T.c.b)) (GY (xo (pN 9 sc_al.nd) (xo (pN 7 sc_al.nd) (xo (pN 8 sc_al.nd) (xo (pN 10 sc_al.nd) (zw 11 sc_al.nd 12 sc_al.nd)))))) (yi 9 zlM))
   (xj (Al (x8 (qI fA T.c_a T.f.m (ok_f T) (hmm O) T.f.b)) (AH 13 sc_al.nd 14) (xm (xbi (xar) zBz)))
   (xj (yc (yx 2) (rX 9 sc_al.nd 13 14) (yi 9 zBz))
   (iz (DU,"_law_row",["_law_picture_here", "_law_ways", "_law_pairs", "_law_width", "_law_signs_here", "_law_k", "_law_way", "_law_x", "_law_y", "_law_name", "_law_sides", "_law_low", "_law_high", "_law_side", "_law_row"],s_al,Ui,x0k (K:=K) rfl PySem.F.plainAttrs_str PySem.F.slot_str_join PySem.F.type_str_join xpp (xar) pP))))))),?_⟩
  refine sq7 ?_; intros; obtain⟨dr,aA,aH,wl,aI,pl,⟨av,br,bn,aQ,q⟩⟩:47:=h;show(ve,dx,aF,dr.pic);show(qH,w1,dr.pic.w1,w2,dr.pic.w2,h1,dr.pic.h1,h2,dr.pic.h2);show(mf,_,aF,T.n_a6,lkW,?_);show(mf,_,aF,T.n_be,lkH,(gm,64,xL,rfl,dk,dk,dC g hg));show xcj (Itr 0 h') _ _ _ _ _ _ _ _ _;refine xo2 (m:=h') (J9 (dk:h'<=16) dF) hg (FRow H g C) (λ H _=>z6 [] rfl Yh m9) (λ i ys zs H1 H2 hl k ⟨rs,e1,e2,e3,e4⟩=>(gm,64,rs,e1,e2,e3,λ r O=>(dB,(Gd).1,eE Gd,k _ _ (Gd).1 (fH Gd)))) (λ i ys H2 hi s2 e2 f N hN=>?_) (sS H2 s2 e2 ly f)
  .refine ⟨(AG leS1),dC q1 ax⟩;generalize R:iQ H2 q1 [zgg]=H3;ext rY s3 ax R g3;show(tX,rs,rfl,bj,nd,e4,f);have bd:=s3 _ _ e2;refine(mQ,q1,Uw+2,[zgg],jN rfl g3 dk dk ?_ Cr)
   .show (gY,1*qbu);ext TM
   refine lY (s3.trans (h9 hp)) (gm,64,rs++[p],ib Zt,jw Zn bj,?_,dC r O)
   .rw [ZE];show(gG,nd,dG,eI x Y b hb z);rw[Zs.mp hb] at z;have y:=s3 _ _ (fH (e4 x Y));ext nS z hp y y
   .rcases Zz.mp O with O|O
    .exact (dB,(Gd).1,eE Gd,(xt lH hp) _ _ (s3 _ _ (fH Gd)))
    .rw [Zs.mp O];show(iF,y9 bd hp,(PL).free hp);rw[xi,(gE,qbu=C+2),xr5 C 0]
  ext qd; show(tX,rs,rfl,rl,rnd,aq,f);show(dw,fr,zQX,λ r O=>eE (aq r O),bf,Grd H2 g rs C h' Drw.no,(eY,e2,rnd,λ z=>(aq g z).1 rfl,rl,λ i r e=>fH (aq r (Zi e))))
  clear aq rnd e2;show(dy,a0,wl.1,a8,pl.len);have af:zXc=xL:=jn rl
  refine(ur,lw,ef (s2 _ _ aH));refine xg8 (xs:=ws.map V.ref) (Pv:=λ i Z H5=>∃ v5 v6 U S:f7,Op [hU,Cw,xK,S8,Ud,v5,v6,U,S,none,none,none,none,none,none] FQ H5 (Drw.sets Drw.no ((wT).flatMap (ledS C)))) (Ic s2 bf) ?_ ?_ ?_
  .rintro i Z H5 _ (⟨_,_,_,_,rfl,s5,_⟩:123);show(nI,lA aH)
  .rintro i x p Z H5 Y hp (⟨v5,v6,U,S,rfl,s5,G5⟩:123);ext BS Y l hl;show(hJ,P,cq,hP,el,cl,wl.2 i l hl);show(gL,ok,av P (Zi hP),bt,i<12,Ao hP)
   generalize R:rD H5 (rE,.int i9,l)=H6;ext rY s6 hp R g6;show(dy,G6,zGT,ap,s5.trans s6);ext jC p g6;refine fo ?_; intros; show(uq,l,ap _ _ el);have M0:Drw.sets Drw.no ((prs.take dW).flatMap (ledS C))=Drw.sets (Drw.sets Drw.no ((wT).flatMap (ledS C))) (ledS C P):=by
    rw[ZC,hP];show Drw.sets Drw.no ((wT++[P]).flatMap (ledS C))=_;rw[YA,xm8];simp
   have bo:=cl.len;have ll:(Sa).length=cq.length:=by
    unfold ledS Drw.ledP;rw[Za,bo]
   generalize Drw.sets Drw.no ((wT).flatMap (ledS C))=m0 at *;refine (Bv,qbf,λ j Z H7=>∃ U S:f7,Op [hU,Cw,xK,S8,Ud,zhl,nM,U,S,none,none,none,none,none,none] (hZ H7) H7 (Drw.sets m0 ((Sa).take j)),ku ap G6,?_)
   .rintro j Z H7 _ (⟨_,_,rfl,s7,_⟩:83);show(nI,s7 _ _ el)
   .rintro j x Z H7 Y (⟨U,S,rfl,s7,G7⟩:83);ext BS Y qc aD;show(dA,c,hc,aV,cl.get aD);have be:=Zi hc;have hj:gU Sa (c,zsL):=by
     ext zKy
    have tk:Drw.sets m0 ((Sa).take lG)=(zjw (Drw.sets m0 ((Sa).take j)) zsL):=by
     ext zaE
    rw[tk];have bc:(zZN,lX C,ir<=xL):=xzh ok be;obtain⟨q0,aY,eq0⟩:∃ q0,(lQ cq 0 q0)/\(AF q0 ul P.1.y):=by
     have lt:0<cq.length:=Ao aD
     show(dA,c0,aJ,e0,cl.get (Zb lt));show(fe,xrn ok.xy.1 (eE ok.xy),aJ,aJ);exact hD mV e0
    obtain⟨qP,aW,bi⟩:∃ q,(dX qs q)/\(D8 P):=by
     have lt:i<qs.length:=Ao hP
     show(dA,P',aK,e,pl.get (Zb lt));ext fe hP aK aK;exact hD mV e
    show(dw,aO,atI (cq.map V.ref) 0=(dR q0),xb6 (j:=0) (Du aY),bp,atI (qs.map V.ref) i9=(dR qP),xb6 (Du aW));obtain⟨r,ar⟩:=xj8 (rs:=rs) (y:=ir) (eE bc) (dH,af,fH bc);show(jC,qc,s7 _ _ aV);ext zlo; ext lU q1 ax;generalize R:yd H7 q1 fK ir=H8;have s8:=su_e ax R;show(dy,g8,ug_e R,ae,s7.trans s8);show(ij,l,_,0,LB,(li,ef (ae _ _ el),aO,⟨q0,_,0,.int ul,rfl,rfl,fX (ae _ _ eq0),rfl,lp,_,i9,.ref qP,rfl,rfl,ef (ae _ _ aI),bp,qP,_,2,.int Gv,rfl,rfl,fX (ae _ _ bi),rfl,jV,dC q2 aX⟩));generalize R:yd H8 q2 ul Gv=H9;have s9:=su_e aX R;show(dy,g9,ug_e R,X,ae.trans s9);show(dw,d1,Dv K H9 1 (.ref q1) (UX fK ir),IF (fX (s9 _ _ g8)) fK ir,d2,Dv K H9 1 (.ref q2) (UX ul Gv),IF (fX g9) ul Gv);show(fV,1,1,_,_,d1,sx d2 qJ);rw[xh0 (x:=c) (y:=zgJ) rfl rfl (xqp c zgJ)];have e0:zsL=(jq c zgJ L6 (jq,fK,ul,Zh "|",L5)):=rfl
    have G9:=G7.keep (H':=H9) (LF,s9 _ _ (s8 _ _ e));ext yu mI
    .obtain ⟨j',b0,b1,b2,b4⟩:64:=zkw L6;show(VI,G9.gl);exact(ku,((zxg).up b0 _).same fr,kc e0 zHF b4)
    .ext zNR nz zgJ;ext zlo; show(ij,l,_,0,LB,(li,ef (X _ _ el),aO,⟨q0,_,0,.int ul,rfl,rfl,fX (X _ _ eq0),rfl,rfl,_,rfl,zdF⟩))
     .have y1:fK=ul:=zGv;show(OP,zkw (Zh "|"));show(VI,G9.gl);exact(ku,((zxg).up b0 _).same fr,(zjA,e0,d6 nz,eD y1,b4))
     .have y1:¬ fK=ul:=λ w=>y (decide_eq_true (jn w));show(OP,zkw L5);show(VI,G9.gl);exact(ku,((zxg).up b0 _).same fr,(zjA,e0,d6 nz,d6 y1,b4))
   .rintro Z H7 (⟨U,S,rfl,s7,G7⟩:83);ext lE UY G7;exact(Ic,s7,dH M0 G7)
  rintro Z H5 (⟨v5,v6,U,S,rfl,s5,G5⟩:123);ext Hx; ext p8 a0 Fk G5;have same:=xr6 (ss:=srt) aA aQ (dk:1<=C) bn;generalize Drw.sets Drw.no (prs.flatMap (ledS C))=m1 at *;have aM:=dr.same s5;show(pJ,bm,ba,aM.pic,⟨tO bm ba,dp,az,_,_,ps,rfl,aM.pic,λ H6 l6 ds s6 e6 a9=>Hh l6 e6⟩);show(dy,ap,s5.trans s6,G6,zGT);show(dy,aN,a9.len,aU,G6.refs_no e6);refine (Bv,ds.map V.ref,λ i Z H7=>∃ v5 v6 U S v9 L J I:f7,(Op,[hU,Cw,xK,S8,Ud,v5,v6,U,S,v9,L,J,I,none,none],Off rs H6 H7,H7,Drw.sets m1 ((uh).take i)),(mC,Ic zmX G6),?_)
  .rintro i Z H7 _ (⟨_,_,_,_,⟨_,_,_,_,rfl,o7,_⟩⟩:121);show(nI,o7 _ _ aU e6)
  .rintro i x Z H7 Y (⟨v5,v6,U,S,⟨v9,L,J,I,rfl,o7,G7⟩⟩:121);ext BD Y am;show(dA,p,hp,aE,a9.get am);have ok:=aA.ok p (Zi hp);have hj:dX uh (zL,p.nm):=by
    ext zWg
   have tk:Drw.sets m1 ((uh).take dW)=Drw.set1 (Drw.sets m1 ((uh).take i)) zL p.nm:=by
    ext zaE
   rw[tk];show(dy,x1,ok.x1,x2,ok.x2);obtain⟨r,ar⟩:=xj8 (rs:=rs) (y:=p.y) ok.y1 (dH af ok.y2);show(OP,G7.put (c:=zL) ar (by show 0<=p.x; lia) (wU p.x _) ok.y1 ok.y2 p.nm);show(yE,o7 _ _ (G6.tup_no aE) aE);show(VI,G7.gl);exact mC (Ic,o7.up b0 _,b4)
  rintro Z H7 (⟨v5,v6,U,S,⟨v9,L,J,I,rfl,o7,G7⟩⟩:121);ext Hx; show(p8,aN,ZA (by unfold ptsS; ext zuO),G7);generalize Drw.sets m1 (ptsS ps)=m2 at *;have a7:hZ H7:=(gC,o7 _ _ XR (ap _ _ e));have ay:=dr.same a7;show(pJ,bl,aZ,ay.pic,⟨a,bl,_,rfl,aZ,i8,a,dp,az,_,_,_,_,rfl,ay.pic,ay.sts,λ l8 aP a4 bb aj aB aC=>?_⟩);have aL:aP=srt:=xbk xb9 (aB.trans dr.pm.symm) aC dr.lt;rw[aL] at aj;clear aL aB aC;generalize R:upd H7 l8 (.lst (a4.map V.ref))=H8;ext rY s8 bb R g8;ext uq l8 g8;have ae:=a7.trans s8;show(dy,G8,G7.keep (H':=H8) (LF,s8 _ _ e),aT,G8.refs_no g8);show(dy,aj,qbk s8,a5,aj.len);refine (Bv,a4.map V.ref,λ i Z H9=>zKg (Op,[hU,Cw,xK,S8,Ud,v5,v6,U,S,v9,L,J,I,ad,ac],Off rs H8 H9,H9,Drw.sets m2 ((zeD).take i)),(mC (mC,ku zmX G8)),?_)
  .ext zEB H9 o9;show(nI,o9 _ _ aT g8)
  .rintro i x Z H9 Y (⟨v5,v6,U,S,⟨v9,L,J,I,ad,ac,rfl,o9,G9⟩⟩:121);ext BD Y am;show(Rb,b,y,hs,ak,aj.get am);have sb:=(zzY).2 _ (dr.pm.mem_iff.mp (Zi hs));have hj:dX zeD (I0,Zh "."):=by
    unfold xb1;rw[Zd,hs];rfl
   have tk:Drw.sets m2 ((zeD).take dW)=Drw.set1 (Drw.sets m2 ((zeD).take i)) I0 (Zh "."):=by
    ext zaE
   rw[tk];show(SN,ri,zLi,r,ar,zQW sb.1 sb.2);show(yE,o9 _ _ (G8.tup_no ak) ak);show(ij,g,_,_,.ref r,zXt G9.gl aw);generalize R:iQ H9 q3 zYx=aa;show(iR,a6,su_e aw R,bh,ug_e R,ab,G9.keep (H':=aa) (LF,a6 _ _ e));show(OP,ab.put (c:=I0) ar ri.1 ri.2 sb.1 sb.2 ziZ);show(gR,rfl,.inr ⟨_,rfl,q3,_,_,zPK,rfl,rfl,ef bh,xnw C b,r,znk⟩);exact(mC,mC (ku,(o9.then a6).up b0 _,b4))
  rintro Z H9 (⟨v5,v6,U,S,⟨v9,L,J,I,ad,ac,rfl,o9,G9⟩⟩:121);ext Hx; show(p8,a5,ZA (by unfold xb1; ext zuO),G9);generalize Drw.sets m2 (xb1 C srt)=m3 at *;have X:hZ H9:=(gC,o9 _ _ XR (ae _ _ e));have ao:=X _ _ aI;show(dy,aR,pl.keep (Same.tups X),aS,G9.refs_no ao);ext uq lp ao;refine (Bv,rR,λ i Z aa=>zKg (Op,[hU,Cw,xK,S8,Ud,v5,v6,U,S,v9,L,J,I,ad,ac],Off rs H9 aa,aa,Drw.sets m3 ((zeC).take i)),(mC (mC,ku zmX G9)),?_)
  .ext zEB aa ai;show(nI,ai _ _ aS ao)
  .rintro i x Z aa Y (⟨v5,v6,U,S,⟨v9,L,J,I,ad,ac,rfl,ai,ab⟩⟩:121);ext BD Y am;obtain⟨⟨pt,b,y⟩,hs,ak⟩:62:=aR.get am;have ok:=av _ (Zi hs);have hj:dX zeC (I0,pt.nm):=by
    unfold xbj;rw[Zd,hs];rfl
   have tk:Drw.sets m3 ((zeC).take dW)=Drw.set1 (Drw.sets m3 ((zeC).take i)) I0 pt.nm:=by
    ext zaE
   rw[tk];show(yt,ri,zLi,r1,1<=y,ok.r1,r2,y<=h',ok.r2);obtain⟨r,ar⟩:=zQW r1 r2;show(yE,ai _ _ (G9.tup_no ak) ak);show(ij,g,_,_,.ref r,zXt ab.gl aw);generalize R:iQ aa q3 zYx=as;show(iR,ah,su_e aw R,bg,ug_e R,bq,ab.keep (H':=as) (LF,ah _ _ e));show(OP,bq.put (c:=I0) ar ri.1 ri.2 r1 r2 pt.nm);show(gR,rfl,.inr ⟨_,rfl,q3,_,_,zPK,rfl,rfl,ef bg,xnw C b,r,znk⟩);exact(mC,mC (ku,(ai.then ah).up b0 _,b4))
  rintro Z aa (⟨v5,v6,U,S,⟨v9,L,J,I,ad,ac,rfl,ai,ab⟩⟩:121);rw[Za,a8,ZA (by unfold xbj; ext zuO),same] at ab;have au:hZ aa:=(gC,ai _ _ XR (X _ _ e));have sh:=xj9 (w:=C) (ss:=srt) dr.nm (lR,(av p hp).nm);generalize zuN C=M at *;show(si,g,ab.gl,lz,aG);refine xbd (ef ab.gl) (zae rl) aG (λ j y _=>MX (rowT C CZ M)) (λ j y _ _ _ e=>e) (FE j as Y ah) (ug as ah e11)
  .ext Ke Y r O;have er:=ah _ _ (ab.row j r O);refine⟨rfl,M4,r,(Zv (C+2)).map (iW,k,(zYa).getD (Zh " ")),5,rfl,rfl,(jw er Zr),zE,?_,lY lH rfl⟩
   .ext Ei k zfN;cases e:zYa with
    | none=>exact (fR:kS (Zh " ") 5)
    | some x=>exact sh _ _ e
   .ext zHv
  ext DK rl;have ey:ys=xdl C h' M:=by
   unfold xdl;show(N2,fC ly Zx);show(kd,ZW (Ao hy),hb,zeO)
  exact q as lz (au.trans ah) (au.free aG) (fC e11 ey)
theorem Fit.rb {lens:gX}{names:dD}{so:fh}{ho:dQ}{own:fS}{rent:fO}{ss:dE} (f:Rl) (lo:zr) (s:Seat):-1200<=C2/\C2<=0:=by
 show(gR,?_,f.rl s);cases z:DA with
 | none=>rw[f.r0 s z]; lia
 | some n =>
  have e:=(qaS).mpr z;obtain⟨l,c⟩:=xfa (f.mt.rm _ _ e);have u:=f.eq _ _ e l (xe7 c);have a:zvJ:=by
   ext zZY
  show(gL,j,f.ob n a,h,oR l 46,lo.b _ _ (xe7 c))
  lia
theorem Run.first {room:oN}{ss:dE} (snd:ss.Nodup) (hr:Xy) {ns:dD}{so:fh}{ho:dQ}{cs:jg} (r:yS):ns.Nodup->(∀ n∈ns,room n=ss)->RH=ns.take ss.length:=by
 induction r with
 | nil=>exact λ_ _=>List.take_nil.symm
 | @inn ns so so' ho ho' cs nm r mt dm rc ih =>
  intro j all;rw[ZE] at j;have no:nm∉ns:=λ h=>j.2.2 nm h nm Fa rfl;ext zHd;have A:xbq vp cs=RH++[nm]:=by
   unfold xbq;rw[JA]
   ext me
   have:nm∉cs.map (·.1):=λ z=>no (r.outs.1 nm z);simp[this]
  have knd:(RH++[nm]).Nodup:=by
   rw[ZE];show(gG,Jh.filter _ j.1,dG,eI a v b C z);rw[Zs.mp C] at z;exact no (z▸(Z9.mp v).1)
  have B:=Kp.hall mt hr knd λ a v=>by
   rw[dm a];rcases Zz.mp v with v|v
   .rw [r.dom j.1 a];obtain⟨H,D⟩:=Z9.mp v;rw[pE H,D];simp
   .rw [Zs.mp v];simp
  have B:=ZR B List.countP_le_length;rw[Zn,ZZ,e,Ji] at B;have lt:ns.length<ss.length:=dk
  rw[A,e,UY,ZA Ky]
 | @out ns so ho cs nm hs r c rc ih =>
  intro j all;rw[ZE] at j;have no:nm∉ns:=λ h=>j.2.2 nm h nm Fa rfl;ext zHd;have A:xbq vp zqG=RH:=by
   unfold xbq;rw[JA,Zt];have:([nm].filter λ z=>! decide (z∈cs.map (·.1)++[(nm,hs)].map (·.1)))=[]:=dG
   rw[this,Yn];refine List.filter_congr tQ;have:z≠nm:=λ y=>no (y▸hz);simp[this]
  have J:=c.count r.mt snd hr;have al:ss.countP (Kp.tog room (nm::hs))=ss.length:=List.countP_eq_length.mpr λ s hs'=>zjE nm Zo (kc,@decide_eq_true_iff _ (_),all nm Tg,hs');have I:zif hs.length:=Jx.length_le_of_subset zWJ λx hx=>by
   have z:=c.has x hx;rw[r.dom j.1 x,Zy] at z;ext D9 iM
  rw[A,e,List.take_append_of_le_length dk]
theorem xsx {h:Nat}{ps:dL}{srt:dE} (wd:KP) (b:zqo) {n:Str} (hn:n∈nQ):xbc ps srt n=srt:=by
 ext jD p u hn;unfold xbc;cases e:ps.find? (λ z=>gk z.nm p.nm) with
 | none =>
  have:=JL.mp e p u;simp at this
 | some p' =>
  show(jE,j,c,a,wd p' (ZY e));refine List.filter_eq_self.mpr zE;have:=b s hs;unfold xb7;rw[j,c,a];simp
  lia
def xre {ps:dL}{srt:dE} (n:Str) (s:Seat) (h:s∈zZI):zzz:=by
 unfold xbc at h;ext Di
 .exact (zzU).1
 .ext RF
def xhz {h:Nat}{ps:dL}{srt:dE} (wd:KP) (nd:srt.Nodup) (b:zqo) (nn:(ps.map (·.nm)).Nodup) {so:fh}{ho:dQ}{cs:jg} (r:zgP):SX=(nQ).take srt.length :=
 r.first nd xre nn λ_ c=>xsx wd b c
noncomputable def tri (p:Pt):dz:=zLe
noncomputable def triK (p:Pt):iB:=[zvR,.inl p.x,.inl p.y]
noncomputable def triD (p:Pt):DV:=.tup zLe
def xtp {K:Zf}{H:Hp}{l:Addr}{ps:dL}{qs:dJ} (t:TL tri H ps qs) (e:uj):zjq (zei triD) :=
 .lst (SqL.of e) (ma Za Za t.1) λj x d h c=>by
  rw[Zd,Zg] at h c;ext iD q i h;ext iD p n c;show(dA,y,b,v,t.get i);ext fe n b b;exact .tup (fX v) rfl (RB,tri p)
def Wide.fr {h:Nat}{ps:dL} (wd:KP) {p:Pt} (hp:ut):fr h p=p:=by
 show(jE,c,b,a,wd p hp);obtain⟨nm,x,y,e,i,j⟩:=p;cases c;cases b;ext n8 a
def xrv {w:Nat}{ps ps2:dL}{srt:dE} (pm:ps2.Perm ps) (nn:(ps.map (·.nm)).Nodup) {T T2:Int} (a:xdx kM nQ T) (b:zrn ps2 T2):T2=T:=by
 have c:(ps2.map (·.nm)).Nodup:=(zxM).nodup_iff.mpr nn;have C:∀{qs rs:dL}{A B:Int},rs.Perm qs->(qs.map (·.nm)).Nodup->(rs.map (·.nm)).Nodup->(zrn qs A)->(zrn rs B)->B<=A:=λ pm n1 n2 a b=>a.le_of b λ f g=>by
  have z:=g.move n1 n2 id id (λ n hn=>let ⟨p,h,e⟩:=Zc.mp hn; Vd h) (λ p h=>(vD,pm.mem_iff.mpr h)) zxM (λ p h _ x j=>A9 j) zdO;exact(hD,iM,Int.le_of_eq rH)
 show(dy,x,C pm nn c a b,j,C pm.symm c nn b a)
 lia
inductive xvc (t:Adr) (vs:dz) (H:Hp) (Q:VK) (_:XK):Prop
 | mk (a lr lp dp do_:Addr) (w h:Nat) (ps:dL) (st srt:dE) (prs:d0) (qs:dJ) (T:Int) (e_:vs=[eQ,.ref lr,.ref lp,.int T]) (r_:(oU,Dr t H a dp do_ w h ps st srt,KP,Pict w h ps srt prs,eO lr (.lst (GV (xa6 w h ps srt prs))),eO lp m7,zg,zqz srt,prs.length=ps.length->ps.length<=srt.length/\xdx kM nQ T,O0 true))
def ok_a8 (T:dZ):FnOk true P w K mg base dS 14 t.f_a8 t.d_a8 zkc (xvc t):=by
 refine T.a8.F.okn (k:=13) sc_a8 (d7 H Q E h) (λ cdv A outer s H vs Q E hr h=>?_)
 .obtain ⟨a,lr,lp,dp,ai,J,h',ps,st,srt,prs,qs,T',rfl,_⟩:=h;rfl
 .obtain ⟨a,lr,lp,dp,ai,J,h',ps,st,srt,prs,qs,T',rfl,h⟩:=h;refine⟨_,xj (zgm (pC (xxe T) hr T.B_seen.g T.B_seen.F.kp T.B_seen.b nN) sc_a8.nd)
   (xj (xbw rfl (lF "_law_row" [] [] zjO s_a8) (VQ lm) lu kX i7 (λ_ _ _ _ _=>zPT) (j:=6) rfl oO)
   (xj (pS 7 sc_a8.nd (UO,xhw rfl,T.n_sorted,PyProof.Rows.Boot.«sorted»,DU "_law_row" zjO s_a8 ST zPT))
   (xj (EK (Gz (oJ zcH 5 (x9 (xhw rfl) rfl T.n_sorted PyProof.Rows.Boot.«sorted» CW)) (oJ zcH 6 yB)) Li)
   (xj (EK (Gz (Mz (V1 lm) (V1 fA)) (Mz (xab (pI (w6 4) (w6 4))) (xab (pI gB gB)))) Li)
   (zud (xbx xgf (GG CW) (GG (i3 (qI fA T.c_a T.c.m (ok_c T) fF T.c.b))) oW) (xbx xcb (zel (zCS L9)) jj oW)))))),?_⟩
  refine sq6 ?_; intros; obtain⟨dr,wd,o,be,aL,pl,⟨bb,lst,hQ⟩⟩:47:=h;show(qH,w1,o.w1,w2,o.w2,h1,o.h1,h2,o.h2);show(qH,aq,o.pok,bF,aq.le,bC,o.pal.len,gl,xd4 J h' (xbr J ps srt prs));refine mQ lr J znF (fQ,be,o.good,o.sees,λ H1 q b ar au lq ts es fs s1 _ _ _ _ sn=>EC q sn.q);show(gZ,O,sn.dr,gl,O);have ah:(FJ).Perm ps:=by
   refine (o.ens sn.pe).trans (JU.of_eq ?_);exact (ZT (g:=id) λ p D=>wd.fr D).trans (YF _)
  have bn:srtS J znF=srt:=by
   refine xbk xb9 ?_ O.lt dr.lt;refine (Qb (xep O.lt) (xep dr.lt)).mpr (gO s);show(tR,o.rim_in)
   .rintro ⟨_,z|⟨p,D,rfl⟩⟩
    .ext i4
    .exact bb p D
   .exact λ z=>⟨o.sok.2.2 s z,.inl z⟩
  rw[bn] at O;show(pJ,bw,bd,O.pic,⟨b,bw,_,rfl,bd,i8,b,ar,au,_,_,_,rfl,O.pic,λ H2 l2 ds s2 e2 aA=>GP l2 e2 l3 hl3⟩);show(GA,ae,FJ,ps.length,ah.length_eq);have bz:=aA.len;refine xbd (ef e2) on hl3 (zEj FJ) (λ j y H5 H6 tp ⟨q,s,e1,e2,e3⟩=>zpO e1) (BW hx) (ug H3 s3 e3)
  .ext Ke hx Z S;show(dA,p,D,hq,aA.get S);ext zQM zjh zAY
  ext p8 bz ae ly;obtain⟨bB,rfl,t3⟩:62:=TL.pick (H:=H3) (f:=tri) (as:=FJ) (ys:=ys) (fC ly ae) (λj y p hy D=>by
   show(hJ,q,s,e1,e2,e3,fy j y hy);ext UR D;ext eB q e1 e3)
  have L:=s2.trans s3;show(dy,a8,s1.trans L,aP,dr.same a8);show(pJ,bv,bc,aP.pic,⟨tO bv bc,dp,ai,_,_,_,rfl,aP.pic,λ H4 l4 bI s4 e4 a9=>GP l4 e4 l5 hl5⟩);have bx:=a9.len;refine xbd (ef e4) on hl5 (zEj ps) (λ j y H5 H6 tp ⟨q,s,e1,e2,e3⟩=>zpO e1) (BW hx) zMc
  .ext Ke hx Z S;show(dA,p,D,hq,a9.get S);ext zQM zjh zAY
  ext lE bx ly5;obtain⟨bA,rfl,t5⟩:62:=TL.pick (H:=H5) (f:=tri) (as:=ps) (ys:=ys) ly5 (λj y p hy D=>by
   show(hJ,q,s,e1,e2,e3,fy5 j y hy);ext UR D;ext eB q e1 e3)
  show(dy,a4,s4.trans s5,aS,a8.trans a4);refine xlc (f:=tri) (kf:=triK) (nm:=λ p=>p.nm) (sh:=shp (triK znS)) (as:=ps) t5.1 dk e5 (Vg,t5.get e) qD (λ_=>iP) iw dF aq.nn (λ l6 bs ub hl6 pb lb tb lt6=>?_);generalize M:upd H5 l6 (.lst (ub.map V.ref))=H6;ext zMC; have s6:=su_e hl6 M;show(dy,g6,ug_e M,ap,aS.trans s6);obtain⟨b9,bl,t6⟩:62:=TL.pick (H:=H6) (f:=tri) (as:=bs) (ys:=ub.map V.ref) (fC Za lb) (λj y p hy D=>by
   show(zDI,tb j Z S,sX hq))
  rw[bl] at g6;have bp:FJ=bs:=by
   refine xbk (R:=λ a b:Pt=>xay a.nm<xay b.nm) zTz (ah.trans pb.symm) ?_ ?_
   .rw [Z5];refine sn.le.imp λ{a b} z=>?_;show (zgq zjd)<(zgq zjc);ext fG xg2 xg2 z
   .ext zpN lt6;exact xpg (o.nms a (pb.mem_iff.mp ha)) (o.nms b (pb.mem_iff.mp hb)) z
  show xix [V.ref lp] H6 _;have aG:=pl.keep (Same.tups ap);refine xlc (f:=prV) (kf:=prK) (nm:=λ p=>ff) (sh:=shp (prK (znS,true,0))) (as:=prs) aG.len dk (ap _ _ aL) (Vg,aG.get e) qD (λ_=>iP) iw dF o.pal.nn (λ l9 bs9 ub9 hl9 pb9 lb9 tb9 lt9=>?_);generalize M:upd H6 l9 (.lst (ub9.map V.ref))=H9;ext rY s9 hl9 M g9;obtain⟨b8,bj,aW⟩:62:=PrsL.pick (H:=H9) (ss:=bs9) (ys:=ub9.map V.ref) (fC Za lb9) (λj y p hy D=>by
   show(zDI,tb9 j Z S,s9 _ _ hq))
  rw[bj] at g9;have bo:(zPE).map prD=bs9.map prD:=by
   have e:zPE=bs9.map λ p=>(fr h' eA,fM):=by
    refine xbk (R:=λ a b:Pr=>xay (lC a)<xay (lC b)) zTz ((o.fns sn.pf).trans (pb9.map _).symm) ?_ ?_
    .rw [Z5];show(zpN,sn.lf);ext zZZ y ey et ha;ext zZZ x ex es hb;rw[et,es];show (zgq,fH y)<(zgq hV);rw[xg2,xg2,ey,ex];ext i4
    .rw [Z5];ext zpN lt9;exact xpg (o.nmr a (pb9.mem_iff.mp ha)) (o.nmr b (pb9.mem_iff.mp hb)) z
   rw[e,Zr];rfl
  have aa:=(a4.trans s6).trans s9;refine⟨2,2,_,_,(sn.pr.keep (Same.tups (L.trans aa))).dv ((L.trans aa) _ _ sn.lp),(sx,aW.dv g9,qJ)⟩;refine ifN (zrq bo) ?_;show(fV,2,2,_,_,xtp (t3.keep (Same.tups aa)) (aa _ _ e3),(sx,xtp (t6.keep (Same.tups s9)) (s9 _ _ g6),Lj (zrq bp)));show(dy,a7,ap.trans s9,a5,L.trans aa);show(dy,af,O.same a5,I,dr.same a7);show(ve,bu,ac,af.pic);show(pJ,aO,C,I.pic,⟨b,bu,_,rfl,ac,i8,b,ar,au,_,_,_,_,rfl,af.pic,af.sts,λ ba ay aw aN a0 aE aI=>?_⟩);have bt:ay=srt:=xbk xb9 (aE.trans af.pm.symm) aI af.lt;generalize M:upd H9 ba (.lst (aw.map V.ref))=b5;have ao:=su_e aN M;show(dy,bi,ug_e M,I,I.same ao);refine⟨(zcP,aO,ao _ _ C),_,_,_,_,rfl,I.pic,I.sts,λ aZ ax av aM az aD aH=>?_⟩;have br:ax=srt:=xbk xb9 (aD.trans I.pm.symm) aH I.lt;generalize M:upd b5 aZ (.lst (av.map V.ref))=b4;have am:=su_e aM M;show(dy,bh,ug_e M,X,ao.trans am);refine⟨2,2,_,_,(a0.keep (Same.tups X)).dv (am _ _ bi),(sx,(qbj am).dv bh,Lj (by rw[bt,br,xbv]; decide))⟩;show(dy,ac,X _ _ ac,C,X _ _ C);show(fW,b,_,_,_,_,rfl,gT ac T.c_a T.n_a6 lkW ⟨b,_,_,_,_,rfl,ac,T.c_a,T.n_be,lkH,jV,dC aV aK⟩);generalize M:yd b4 aV ziT xL=b3;show(iR,a6,su_e aK M,bg,ug_e M,C,a6 _ _ C);show(mf,_,C,T.n_a6,lkW,⟨a,_,_,_,_,rfl,C,T.c_a,T.n_be,lkH,jV,dC aU aJ⟩);generalize M:yd b3 aU ziT xL=bJ;ext rY L aJ M bf;show(fV,1,1,_,_,IF (fX (L _ _ bg)) ziT xL,⟨44,IF (fX bf) ziT xL,dF,dF,Lj zfF⟩);show(iR,aj,X.trans (a6.trans L),Y,a7.trans aj,C,L _ _ C);show(dy,I,dr.same Y,aF,pl.len);refine(gK,lp,_,vm (Y _ _ aL),⟨tO aO C,dp,ai,_,_,_,rfl,I.pic,λ b2 aY b7 ak bq aB=>(gK,aY,_,vm bq,MD (λ lt=>hQ b2 (Y.trans ak)) (gO nl))⟩);have b0:=aB.len;rw[Za,Za,aF,b0,decide_eq_true_iff] at nl;have bE:prs.length<=ps.length:=by
   have:=(o.pal.nn.length_le_of_subset (l₂:=ps.map (·.nm)) λx hx=>by
    ext jD p D hx;show(Nc,eA,(o.pal.ok p D).mem))
   ext lE Za this;exact this
  obtain⟨le,aX⟩:=lst dk;have aQ:Wide h' FJ:=λ p D=>wd p (ah.mem_iff.mp D);show(gZ,ab,xhv o.good sn.pe,gl,ab);refine⟨b,ar,au,J,h',FJ,_,srt,rfl,(gT,O.same (a5.trans (aj.trans ak)),ab,w2,h2,λ b1 tp ln bD aC cs so ho aR bm bH b6 aT lf bG gp my cn=>(DG,tp,1,.int (totI J aC),(li,fX bm,rfl,?_)))⟩;rw[xhz aQ (xep dr.lt) (fH o.sok) ab.nn aT,ZA (by unfold xao; ext fG Za ae le)] at lf;rw[xrv ah aq.nn aX lf];have z:=hQ b1 (Y.trans (ak.trans aR));show(nY,rfl);show(dP,show zen (zvc T' T') from Oh,z)
def xst {ps:dL}{w h:Int}{p:Pr} (o:Ex):(SC (cel w p))=S3+1:=by
 ext Hw o;unfold cel Geo.cells Geo.upL Geo.upN Geo.lvL Geo.lvN xbe lenI;rw[Zn,Za,Zx,Za,Zx];ext znj
theorem xpj {w:Int}{ss:dE}:∀{prs:d0},(Mg prs)=[]->(∀ p∈prs,∀ p'∈prs,zcl=true)->(prs.flatMap (cel w)).Nodup
 | [],_,_=>Yh
 | wb,h,ex=>by
  obtain⟨D,C⟩:=List.append_eq_nil_iff.mp (jK,zqM++(Mg r),[],h);rw[Qz,ZE];refine(rG,Drw.nd_cells,xpj C λ a B b A=>ex a (Zm _ B) b (Zm _ A),eI c hc c' j e);show(dA,p',v,j,YC.mp j);have z:=List.filterMap_eq_nil_iff.mp D p' v;have y:zbA=none:=by
   cases k:zbA with
   | none=>rfl
   | some d=>ext js k z z
  unfold canO at y;rw[ex p Zo p' (Zm _ v),gq] at y;show(gZ,x,JL.mp y c hc,e,x);simp only[decide_eq_true_eq] at x;exact x j
def xvk {h:Nat}{ps:dL}{ss srt:dE}{prs:d0} (wd:KP) (pm:Ko) (b:zqo) (m:Pg) (ip:∀ p∈prs,eA∈ps) (p:Pr) (hp:S2) (p':Pr) (hp':p'∈prs):zcl=true:=by
 have one:∀ a∈prs,∀ c∈prs,mayB ss p5 ir=true:=λ a ha c hc=>by
  show(jE,q,n,j,wd p5 (ip a ha));have z:=(m c hc).1;have:=b _ z;unfold mayB xb7;rw[decide_eq_true (pm.mem_iff.mp z),q,n,j];simp
  lia
 unfold excB;rw[one p hp p' hp',one p' hp' p hp];rfl
def xrp {l:dE} (nd:l.Nodup):(l.map xz).Nodup:=Drw.nd_map (λ s t h=>by
 ext h8 a b s c d t;unfold xz at h;simp only[Yq.injEq,Jd.injEq,Qu.injEq,and_true] at h;ext lK f h;ext ua b d e;cases a<;>cases c<;>first|rfl|ext gz f dF) nd
theorem xsl {H:Hp}:∀{ps:dL}{ys:dz},(vE ps.length)->(∀(j:Nat) (y:V) (p:Pt),(xB,ps,p,∃ q q2,pG/\(yL (xW p.nm q2))/\(AF q2 p.x p.y)))->(zjy,Pt,Xc/\L.map (λ x=>hV)=ps/\∀ x∈L,(pq dM (xW,(hV).nm,fj))/\(AF,fj,(hV).x,(hV).y))
 | [],[],_,_=>zVK
 | MP,mS,l,f=>by
  show(hJ,q,q2,rfl,D,C,f 0 y p rfl rfl);show(zKO,xsl (ps:=ps) (ys:=ys) (by simpa using l) λ j y p h1 h2=>f lG y p Ib On,(q,q2,p)::L);rcases Ad with rfl|b
  .ext DB D C
  .exact v x b
noncomputable def Whr (H:Hp) (d:Addr) (ps:dL):Prop:=∃ kvs,Gi/\∀ p∈ps,∃ q,(zcW p.nm)=C0/\(MC p.x p.y)
def Whr.same {H H':Hp}{d:Addr}{ps:dL} (z:Whr H d ps) (s:fZ):Whr H' d ps:=let ⟨kvs,e,f⟩:=z; (dB,kvs,xQ,λ p c=>(E3,q,a,b,f p c,a,s _ _ b))
def x2c {α:Type} (f:MS) (xs:fc) (k:Nat):cutV (xs.map f) none (some ya)=(xs.take k).map f:=by
 unfold cutV;rw[HT.sIx_nat,HT.sIx_none,Za,<- QB,<- QA]
 ext me
 simp only[List.drop_zero,Nat.sub_zero];by_cases c:k<=xs.length
 .rw [Nat.min_eq_left c]
 .rw [zOI,Fk,UY]
noncomputable def FWay (w:Int) (prs:d0) (lz:Addr) (i:Nat) (ys:dz) (H:Hp):Prop:=∃ ws:dJ,ys=ws.map V.ref/\ws.length=i/\∀(j:Nat) l,(gU ws l)->l≠lz/\∃ p qs,(gU prs p)/\uj/\xal H Xs qs
def x0l (T:dZ):FnOk true P w K mg base dS 15 t.f_law t.d_law Eg (xmo K):=by
 refine T.F_law.okn (k:=14) xdi (d7 H Q E h) (λ cdv A outer s H vs Q E hr h=>?_)
 .ext Bp sc ns
 .ext BC sc ns;refine⟨_,xj (qe 1 xdi.nd (pC (ok_x T) hr T.B_x.g T.B_x.F.kp T.B_x.b pP))
   (xj (xbw rfl (lF "_law_row" [] [] ["_law_script", "_law_picture_here", "_law_names_here", "_law_where", "_law_pairs", "_law_steps", "_law_seats", "_law_ways", "_law_prices", "_law_due_here", "_law_cells", "_law_way", "_law_rows"] xe0) (VQ im) lu kX i7 zVh (j:=2) rfl oO)
   (xj (qe 3 xdi.nd (Ng (DU,"_law_row",["_law_script", "_law_picture_here", "_law_names_here", "_law_where", "_law_pairs", "_law_steps", "_law_seats", "_law_ways", "_law_prices", "_law_due_here", "_law_cells", "_law_way", "_law_rows"],xe0,VQ im,Nb xO (zgr (pI xO xO)))))
   (xj (zgm (zCS nN) xdi.nd)
   (xj (xbw rfl (qb zkH [] [] ["_law_script", "_law_picture_here", "_law_names_here", "_law_where", "_law_pairs", "_law_steps", "_law_seats", "_law_ways", "_law_prices", "_law_due_here", "_law_cells", "_law_way", "_law_rows"] xe0) Ui Vy Ij i7 (O8 zT) (j:=6) rfl oO)
   (xj (pS 2 xdi.nd (xgw xkt (pv 2) xib (xim (GG (i3 (V1 im))))))
   (xj (xe6 (EK (Gz (Mz (mh (qb zkH [] [] ["_law_script", "_law_picture_here", "_law_names_here", "_law_where", "_law_pairs", "_law_steps", "_law_seats", "_law_ways", "_law_prices", "_law_due_here", "_law_cells", "_law_way", "_law_rows"] xe0) Ui Vy Ij i7 fA) kC) (zDB ziN)) Li))
   (xj (zyp (Mz (mh (lF "_law_seat" ["_law_picture_here"] [1] ["_law_script", "_law_picture_here", "_law_names_here", "_law_where", "_law_pairs", "_law_steps", "_law_seats", "_law_ways", "_law_prices", "_law_due_here", "_law_cells", "_law_way", "_law_rows"] xe0) (yx 6) lu kX (zDa fA (V1 im)) fA) (xci (xh))) Li)
   (xj (xbw rfl (qb zkH ["_law_picture_here", "_law_where"] [1,3] ["_law_script", "_law_picture_here", "_law_names_here", "_law_where", "_law_pairs", "_law_steps", "_law_seats", "_law_ways", "_law_prices", "_law_due_here", "_law_cells", "_law_way", "_law_rows"] xe0) Ui Vy Ij i7 (λ_ _ _ _ _=>pC (ok_ba T) hr T.ba.g T.ba.F.kp T.ba.b (xa (DZ,w6 3) (xa (xb5 jx (pv 4) fA iw) zT))) (j:=7) rfl oO)
   (xj (pS 8 xdi.nd (pC (xoi T) hr T.B_least.g T.B_least.F.kp T.B_least.b zT))
   (xj (pS 9 xdi.nd (xu xa2 (Ny (xo4 rfl rfl T.n_list (Im 8))) (Ny (xon rfl rfl T.n_list (Im 8)))))
   (xj (xe6 (EK (xc9 (UL (pC (ok_a9 T) hr T.a9.g T.a9.F.kp T.a9.b ziO)) (xc9 (oJ zcH 5 Nk) (xc5 (Mz (Ny (DU,"_law_way",["_law_script", "_law_picture_here", "_law_names_here", "_law_where", "_law_pairs", "_law_steps", "_law_seats", "_law_ways", "_law_prices", "_law_due_here", "_law_cells", "_law_way", "_law_rows"],xe0,yx 7,UJ (x9 (r:=(UK,zHg (SqL K H p ys\/SqT K H p ys))) xbn rfl T.n_len Yg pP))) Nk)))) Li))
   (xj (SS 10 xdi.nd)
   (xj (C8 (yx 7) (pN 11 xdi.nd) (zCF (pv 10) (uK 11)))
   (xj (zyp (zDB (uK 10)) Li)
   (xj (pS 12 xdi.nd (zDk (lM 1 4)))
   (iz (xcp (xbx zsh (pv 12) (pC (ok_al T) hr T.al.g T.al.F.kp T.al.b (ji 1 (lM 7 4))) oW) (xc4 (pC (ok_a8 T) hr T.a8.g T.a8.F.kp T.a8.b (ji 1 (vQ 12 4 5))))))))))))))))))))),?_⟩
  ext uF hs n63;show(MM,sc,ns,hs,λ H1 a dp ai I h' ps st srt s1 dr Y wd=>?_);show(dy,w1,dr.pic.w1,w2,dr.pic.w2);show(qH,h1,dr.pic.h1,h2,dr.pic.h2,cU,Y.le,lo,xkq dk dk Y dr.ok dr.pm);show(fE,cm,OU,VZ,aC,∀ s∈srt,(Ty xL),(jM,(zzY).2 s (dr.pm.mem_iff.mp hs)),aW,zdx nQ,zND)
  show(pJ,dx,C,dr.pic,⟨tO dx C,dp,ai,_,_,_,rfl,dr.pic,λ H2 l2 ds s2 e2 bw=>En l2 e2 ln hln⟩);have cN:=bw.len;refine xbd (ef e2) on hln (zoW ps (MX p.nm)) Eb (BW O) (ug H3 s3 e3)
  .ext K5;show(dA,p,C,hq,bw.get ab);exact gW qa _ 0 zM rfl rfl zzC rfl zWx
  ext DK cN;have ey:ys=(nQ).map V.str:=xgc (fC ly aW) λ i y b hy hb=>by
   ext iD p C zeO;unfold xao at hb;ext IE C
  rw[ey] at e3;show(dy,a5,s2.trans s3,bQ,dr.same a5);show(pJ,cK,c3,bQ.pic,⟨tO cK c3,dp,ai,_,_,_,rfl,bQ.pic,λ H4 l4 de s4 e4 bv=>En l4 e4 l5 hl5⟩);have cM:=bv.len;refine xbd (ef e4) on hl5 (zjB,∃ q q2 p,d9 pG (gU ps p) (OV q (xW p.nm q2)) (OV q2 (jJ p.x p.y))) (λ j y H5 H6 tp ⟨q,q2,s,e1,e2,e3,e4⟩=>(eP,q,q2,s,e1,e2,zzg,o8 e4)) (BW O) zMc
  .ext K5;show(dA,p,C,hq,bv.get ab);have aY:=zhO;refine⟨qa,_,0,zM,rfl,rfl,zzD,rfl,qa,_,1,zxU,rfl,rfl,zzD,rfl,qa,_,2,zxT,rfl,rfl,zzD,rfl,jV,dC u hu⟩;show(NR,yd H5 u p.x p.y,hu);show(dO,jV,λ u2 b8=>lY (s6.trans (h9 b8)) (eP,u2,u,p,rfl,C,xi,(xt lH b8) _ _ g6))
  ext lE cM ly5;obtain⟨L,rfl,eL,fL⟩:63:=xsl (H:=H5) (ps:=ps) ly5 (λj y p hy C=>by
   show(CK,q,q2,p',e1,e2,e3,e4,fy5 j y hy);ext UR C;exact eY q q2 e1 e3 e4)
  have Ll:L.length=ps.length:=by
   show(zef,yq eL,Za)
  show(fV,l5,tN (dM,V.str (hV).nm,zxr),rfl,jw e5 Zr,rC C,dC d hd)
  .show(mU,x,O,Zc.mp C);exact (fL x O).1
  obtain⟨H6,b6,bg,e6,k6,v6,_⟩:85:=xkx (d:=d) (tN ((hV).nm,fj)) (xi:upd H5 d Gh d=some (.dK [])) (by rw[Za,Ll]; simp; lia);refine eY Gh H6 jr (by rw[Zr] at bg ⊢; exact bg) ?_;have s6:Same H5 H6:=(gC,k6 b u (xb e hd) zWR);have cc:Whr H6 d ps:=⟨b6,e6,λ p C=>by
   rw[<- eL] at C;ext tt O C;show(gG,fj,v6 ?_ ((hV).nm,fj) (Zc.mpr (A9 O)),(sX,(fL x O).2));have nn:=Y.nn;rw[<- eL,Zr] at nn;ext dP Zr nn⟩
  clear v6 k6 bg fL eL Ll fy5 ly5 e6;show(dw,aU,Same H3 H6,(Kr).trans s6,cR,zzF,(Vl a5).trans aU);show(dy,ao,dr.same (a5.trans aU),e3,aU _ _ e3);refine⟨a,dp,ai,I,h',ps,st,srt,rfl,ao,Y,dk,dk,λ H7 tp lp qs prs cs so ho s7 cE as pl aF lf ba gp my cn=>EC tp cE⟩;rw[zGX] at ba lf;show(dy,ql,pl.len,bu,gp.le);have cT:prs.length=min srt.length ps.length:=by
   have:=yq ba
   rwa [Za,Ji,aW] at this
  refine En lp as l8 c6;refine xbd (ef as) on c6 (zjB,∃ q p,zjD prs p (du,H5 q,.tup (xa4 fM))) (λ j y H5 H6 tp ⟨q,s,e1,e2,e3⟩=>eY q s e1 e2 zzg) (BW O) zLN
  .ext K5;show(dA,p,C,hq,pl.get ab);exact(eP,qa,_,rfl,zzC,rfl,jV,zaM (eY u p rfl C xi))
  ext lE ql ly8;obtain⟨cr,rfl,aT⟩:62:=xbm.pick (H:=H8) (ss:=prs.map (·.2)) (ys:=ys) (Ds ly8) (λj y p hy C=>by
   show(hJ,q,s,e1,e2,e3,fy8 j y hy);ext rK e2 C;ext Dc C q e1 e3)
  show(gZ,aG,aT.len,Za,aG);show(dy,bq,s7.trans s8,av,ao.same bq);show(pJ,cJ,b9,av.pic,⟨zcP cJ b9,_,_,_,_,rfl,av.pic,av.sts,λ l9 cg bj c5 cj cv cx=>?_⟩);have cI:cg=srt:=xbk xb9 (cv.trans av.pm.symm) cx av.lt;show(gZ,bm,cj.len,cI,bm);generalize eu:upd H8 l9 (.lst (bj.map V.ref))=H9;have s9:=su_e c5 eu;show(dy,g9,ug_e eu,bp,bq.trans s9);refine⟨l9,_,rfl,vm g9,SC (bj.map V.ref),rfl,ln,_,rfl,ef (bp _ _ e3),dC aq bH⟩;rw[Za,bm,x2c];generalize eu:upd H9 aq (.lst (((nQ).take srt.length).map V.str))=cQ;ext kQ ad bH bI;show(dy,bt,bp.trans ad,a8,(s8.trans (s9.trans ad)) _ _ as);show(dy,bz,pl.keep (Same.tups (s8.trans (s9.trans ad))),ax,aT.keep (Same.tups (s9.trans ad)));show(dy,bf,(s9.trans ad) _ _ e8,ci,gp.ns)
  show(VC,cQ,[Te,hU,Tc,vJ,xK,Ct,Td,none,none,none,none,none,none])
  .ext O3; refine En lp a8 cX bG;refine xbd (ef a8) on bG (zoW prs (MX ff)) Eb (BW O) (sS ca J e11 ly11 fy11)
   .ext K5;show(dA,p,C,hq,bz.get ab);exact(DG,qa,rfl,fX zhO,zWx)
   ext lE ql ly11;have bL:ys=((nQ).take srt.length).map V.str:=by
    rw[<- ba];show(N2,Ds ly11);show(iD,p,C,fy11 i y hy);ext IE C
   rw[bL] at e11;refine(OE,1,1,xs7 e11,xs7 (J _ _ bI),ifN zfF ?_);ext zJf bn;refine⟨l8,cr,(prs.map (·.2)).map xz,rfl,ef au,ma Za Za aG,eI i q ks h1 h2,dk,l8,_,rfl,vm au,0,0,_,_,.int,.int,dF,dF,_,rfl,ifN ?_ (vD J)⟩
   .show(j7,s,hs,e,bn.get h1);ext rK hs h2;cases h2;exact e
   .rw [xkc.mpr (xrp ci),Za,Za,Za,aG,xbv];decide
  rintro Z ca ⟨J,rfl⟩;ext zJf aL;show(dy,aQ,bt.trans J,a9,ao.same aQ);show(ve,bP,aR,a9.pic)
  show(VC,ca,[Te,hU,Tc,vJ,xK,Ct,Td,none,none,none,none,none,none])
  .ext O3; refine En l8 au cW bF;refine xei (ef au) (zae aG) bF zus (λ_ _ _=>True) (λ_ _ _ _ _ _=>trivial) (zdq j H5 O s5) (λ ys H13 a5 e13 ly13 _=>?_)
   .ext K5;show(dA,z,hz,hq,aL.get ab);have aI:=a9.same s5;refine⟨(zcP,bP,lA aR),_,_,_,_,rfl,aI.pic,aI.sts,λ c0 bo bl bE aM bx b3=>?_⟩;have be:bo=srt:=xbk xb9 (bx.trans aI.pm.symm) b3 aI.lt;rw[be] at aM;generalize eu:upd H5 c0 (.lst (bl.map V.ref))=bZ;ext kQ af bE cA;refine(OE,1,2,xqe (af _ _ (s5 _ _ hq)),(aM.keep (Same.tups af)).dv cA,?_);rw[gq,xuu];show(iD,p,C,Zc.mp (Zi hz));refine ifN (BR,decide_eq_true ((my p C).1)) (hM _ af rfl)
   have bK:ys=[]:=List.eq_nil_of_length_eq_zero (tT ly13);rw[bK] at e13;ext KN cz bD;generalize eu:DJ H13 cz=bY;ext kQ aE bD c9;refine⟨1,1,zha,zha,.lst (ef (aE _ _ e13)) rfl (RB []),.lst (ef c9) rfl (RB []),dF,dF,_,rfl,ifN zfF (vD,a5.trans aE)⟩
  rintro Z di ⟨X,rfl⟩;show(dy,az,aQ.trans X,aS,((ad.trans J).trans X) _ _ ((s8.trans s9) _ _ as));show(dy,cw,pl.keep (Same.tups (((zdb).trans (ad.trans J)).trans X)),bi,cc.same az);show(dy,bO,(J.trans X) _ _ bI,cL,ao.same az);show(ve,dd,c2,cL.pic);clear a8 bz ax au aL bf e8 aT a9 aR av b9 ly8 fy8 g9;refine En lp aS lw c4;refine xg6 (ef aS) (zae ql) c4 (FWay I prs lw) (λ H _=>(G0,[],rfl,UC l)) (λ i ys zs H5 H6 hl k ⟨ws,e1,e2,e3⟩=>(dY,ws,e1,e2,d8 j l hj)) (λ i x ys H5 O s5 e5 f N hN=>?_) (sS bZ af be ly14 f14)
  .obtain ⟨ne,p,qs,f1,f2,f3⟩:=e3 j l hj;exact(gm,ne,p,qs,f1,k _ _ ne f2,f3.keep (zuQ hl))
  .ext K5;show(dA,p,C,hq,cw.get ab);have aa:=zyj C;show(dA,cY,cH,cC,bi.same s5);show(dA,qw,cf,cG,cC eA aa.mem);show(gZ,bT,My ff cH,cf,bT);show(eZ,ws,rfl,aw,aA,f);show(jb,⟨qa,_,rfl,zzC,rfl,a,_,_,_,_,rfl,lA c2,T.c_a,T.n_a6,lkW,d,.ref qw,rfl,bT,?_⟩,⟨I,uP,yD,iT,nR,qw,rfl,cG,(dB,aa.xy.1,eE aa.xy,w2),⟨uT aa.xy,(jH,(fH aa.xy).2)⟩,⟨aa.r1,jH aa.r2⟩,λ H6 lc ct ah s6 am cO _=>lY s6 (dY,ws++[lc],ib Zt,jw Zn aw,d8 j l hj)⟩);have da:=s6 _ _ e5;rcases Y1 j ws.length with z|z
   .rw [ZL z] at hj;obtain⟨ne,p',cu,f1,f2,f3⟩:=aA j l hj;exact(gm,ne,p',cu,f1,sX f2,f3.keep (Same.tups s6))
   .rw [Jc z] at hj;have j0:j=ws.length:=by show(zsy,xU hj)
    rw[j0,Nat.sub_self] at hj;cases hj;exact(gm,λ y=>(by ext nS y e5 ah ah),p,ct,kc j0 aw C,am,cO)
  show(eZ,ws,rfl,aw,aA,f14);ext lE ql aw;have wl:zdZ bZ:=⟨aw,λ i l e=>(aA i l e).2⟩
  clear aA ly14;have ay:=az.trans af;show(dy,bS,ao.same ay,bN,af _ _ bO);show(dy,mt,aF.mt,dm,aF.dom Y.nn);show(fU,b1,((nQ).take srt.length).Nodup,(Ub).nodup Y.nn,⟨a,aq,dp,ai,I,h',ps,st,srt,(nQ).take srt.length,rfl,bS,Y,bN,dC nm hn,b1,zzn,dY so ho mt tQ,λ bY tp2 lp2 d_o d_r qs2 prs2 own rent so' ho' aE htp hlp2 pl2 en2 al2 ow rn lrun _ _ _ _=>?_⟩)
  .show(j7,p,C,e,Zc.mp (QE hn));ext eB p C e
  .rw [dm z];rw[<- zGX] at hz;obtain⟨h1,h2⟩:=zxz;rw[pE h1,h2];rfl
  have fit:=lrun.fit;show(Ff,aX,tight,fit.leastF lo b1 en2 (λ p C=>(al2 p C).2));have eT:Rx=(((nQ).take srt.length).map own).sum+(srt.map rent).sum:=by
   rw[<- tight];show(dy,h1,lf.le_of aX λ f g=>dB f g yC,h2,aX.le_of lf λ f g=>dB f g yC)
   lia
  obtain⟨nk,bM⟩:∃ nk,nk=(nQ).take srt.length:=iP
  rw[<- bM] at ow eT en2 fit lrun;have cV:nk.length<=12:=FY bM Ji
  clear tight aX al2 pl2 hlp2;refine⟨tp2,_,1,.ref d_o,rfl,rfl,fX htp,rfl,d_o,_,rfl,ow,dC b5 bC⟩;have eo:(nk.map λ n=>(zst,V.int (own n))).map (·.2)=(nk.map own).map V.int:=by
   rw[Zr,Zr];rfl
  rw[eo];generalize eu:upd bY b5 (.lst ((nk.map own).map V.int))=cP;ext kQ aV bC c8;ext zrE b5 c8
  .ext zec hn;show(vA,fit.ob z hz,fit.o0 z hz)
  refine⟨tp2,_,2,.ref d_r,rfl,rfl,fX (aV _ _ htp),rfl,d_r,_,rfl,aV _ _ rn,dC b4 bB⟩;have er:(srt.map λ s=>zOd).map (·.2)=(qat).map V.int:=by
   rw[Zr,Zr];rfl
  rw[er];generalize eu:upd cP b4 (.lst ((qat).map V.int))=bX;ext kQ cp bB c7;ext zrE b4 c7
  .ext zec hn;show(gV,fit.rb lo z)
  dsimp only [rI0,iV]
  rw[<- eT];clear fit lrun eT ow rn en2 eo er;have D:=aE.trans (aV.trans cp);have ae:zdZ bX:=⟨wl.1,λi l e=>by
   show(IC,wl.2 i l e);exact(eY,p,qs,f1,D _ _ f2,f3.keep (Same.tups D))⟩
  have aH:=D _ _ be
  show(VC,bX,[Te,hU,Tc,vJ,xK,Ct,Td,Cw,zxL,Ct,none,none,none])
  .ext O3; refine mQ Rx rfl true ?_;refine ifN dF ?_;show(jb,(OE,0,0,.int,.int,ifN zfF ?_),En lw aH cy bA);refine xbd (ef aH) (zae ae.1) bA (zoW prs (Da (xbe I p))) Eb (BW O) (sS bW ak e18 ly18 fy18)
   .ext Ke O l hl;show(IC,ae.2 j l hl);show(dy,ce,xst (zyj f1),cl,f3.len);show(MM,l,_,vm (lA f2),lY lH (kB p f1));show zvc ((SC rR)-1) (xbe I p);rw[Za,cl];unfold cel at ce;rw[ce]
    ext me
    lia
   show(lE,ae.1,ly18);have bJ:ys=(prs.map (xbe I)).map V.int:=xgc (Ds ly18) λ i y b hy hb=>by
    show(iD,p,C,fy18 i y hy);ext IE C
   rw[bJ] at e18;ext zrE cy e18
   .show(mU,p,C,Zc.mp hn);have ok:=gp.ok p C;ext zDS;ext zpR
   exact(OE,0,0,.int,.int,ifN (zrq (jK,(prs.map (xbe I)).sum,Rx,rfl)) (vD ak))
  rintro Z bW ⟨ak,rfl⟩;have bV:=xpj cn (xvk wd dr.pm aC my λ p C=>(gp.ok p C).mem);ext KN lc ah;generalize eu:DJ bW lc=aJ;ext qd; have co:=su_e ah eu;show(dy,aZ,ug_e eu,U,ak.trans co);have aj:zdZ aJ:=⟨ae.1,λi l e=>by
   show(IC,ae.2 i l e);exact(eY,p,qs,f1,U _ _ f2,f3.keep (Same.tups U))⟩
  have bd:=U _ _ aH;have b2:lw≠lc:=xb (ak _ _ aH) ah;have b0:(zRZ,l≠lc):=λ i l hl=>by
   obtain⟨p,qs,_,f2,_⟩:83:=ae.2 i l hl;exact xb (ak _ _ f2) ah
  have cB:=(ay.trans (D.trans ak)).free ah;show(fU,br,Same H6 aJ,ay.trans (D.trans U),(dY,lw,rfl,zjN bd,?_))
  let Pv (i:Nat) (Z:L2.St) (ac:Hp):Prop:=∃(aB:f7) (cq:dJ),(dN,Z=[Te,hU,Tc,vJ,xK,Ct,Td,Cw,zxL,Ct,dR lc,aB,none],(kL lc (du,aJ b,u) (du,ac b,u)),(du,ac lc,.lst (cq.map V.ref)),xal ac ((wT).flatMap (cel I)) cq,cq.length<=50*i)
  show(wf,ws.map V.ref,eP _ [] rfl Ka aZ .nil eV)
  .rintro i Z ac _ (⟨_,_,rfl,k,_⟩:83);show(nI,k _ _ b2 bd)
  .rintro i x Z ac O (⟨aB,cq,rfl,k,am,cl,cb⟩:85);ext BS O l hl;show(IC,aj.2 i l hl);have aa:=zyj f1;show(Ab,x1,x2,y1,y2,aa.xy)
   show(qH,r1,aa.r1,r2,aa.r2,df,xl8 (w:=I) (b:=nR) x1 x2 dk y1 dk r1 dk,cS,f3.len);have cZ:i<12:=Ao f1
   have cD:=k _ _ (b0 i l hl) f2;show(sK,kt,Tups ac (iQ ac lc (qbf++rR)),vC (dH,sD e am,e),c1,Tups aJ ac,zuQ aZ,⟨Eu am,lc,l,_,_,rfl,rfl,am,cD,?_,?_⟩)
   .rw [Za,Za];ext TM
   show(fW,_,cq++qs,rfl,lP n (gS,n,k b u n e),fC xi Zt,?_,xI);rw[ZC,f1];show xal _ ((wT++[p]).flatMap (cel I)) _;show(fG,YA,Q2,(cl.keep kt).append ((f3.keep c1).keep kt))
  rintro Z ac (⟨aB,cq,rfl,a7,am,cl,cb⟩:85);show(p8,aj.1,Fk,cl);show(lE,aj.1,cb);show(gL,bU,cl.len,b7,Same H6 ac,(gC,a7 _ _ (y9 cB e) (br _ _ e)))
  show(VC,ac,[Te,hU,Tc,vJ,xK,Ct,Td,Cw,zxL,Ct,dR lc,aB,none])
  .ext O3; refine⟨lc,cq,(prs.flatMap (cel I)).map ck,rfl,zzO,fC Za bU,eI i q ks h1 h2,dk,lc,_,rfl,vm am,0,0,_,_,.int,.int,dF,dF,_,rfl,ifN ?_ (vD lH)⟩
   .show(j7,c,hc,e,cl.get h1);ext rK hc h2;cases h2;exact e
   .rw [xkc.mpr (Drw.nd_map (Vj,xmw e) bV),Za,Za,bU,xbv];decide
  rintro Z bh ⟨a4,rfl⟩;show(dy,aP,b7.trans a4,bR,ao.same aP);have aN:kL lc (du,H7 b,u) (du,bh b,u):=(lP,n,zvi n ((((zdb).trans (ad.trans J)).trans (zmd U)) _ _ e));have n1:lp≠lc:=λ z=>by
   have y:=(((zdb).trans (ad.trans J)).trans (zmd ak)) _ _ as;ext nS z ah y y
  have ar:=aN _ _ n1 as;have a6:PrsL bh prs qs:=pl.keep λc xs e=>aN _ _ (λ z=>by
   have y:=(((zdb).trans (ad.trans J)).trans (zmd ak)) _ _ e;ext nS z ah y y) e
  have aK:zdZ bh:=⟨aj.1,λi l e=>by
   show(IC,aj.2 i l e);exact(eY,p,qs,f1,zvi (b0 i l e) f2,f3.keep λ c xs y=>zvi (ne_f y aZ) y)⟩
  have bb:=a4 _ _ (a7 _ _ b2 bd);show(sK,ch,SsOk xL srt,(dB,xep dr.lt,cm,aC),o,Pict I h' ps srt prs,(eP,dk,dk,dk,dk,Y,ch,dY gp.ok gp.ns gp.le gp.nn),⟨a,lp,dp,ai,I,h',ps,st,srt,prs,qs,rfl,bR,ar,a6,gp.ok,bu,eI dh lr ap db bc⟩);have aO:=aP.trans ap;refine⟨a,lw,lp,dp,ai,I,h',ps,st,srt,prs,qs,ws,rfl,ao.same aO,Y,ap _ _ bb,⟨aK.1,λi l e=>by
   show(IC,aK.2 i l e);exact(eY,p,qs,f1,ap _ _ f2,f3.keep (Same.tups ap))⟩,ap _ _ ar,a6.keep (Same.tups ap),gp.ok,bu,bV,gp.ns,λ dg lg aD dc cF=>(OE,1,1,xm5 (aD _ _ bc),xm5 cF,?_)⟩
  rw[if_pos (xbv _)];rw[xql o.w1 o.pok o.pal vw,xv5 o.one] at bc;have a0:=ap.trans aD;refine⟨a,lr,lp,dp,ai,I,h',ps,st,srt,prs,qs,Rx,rfl,ao.same (aO.trans aD),wd,o,aD _ _ bc,a0 _ _ ar,qbl a0,λ p C=>(my p C).1,gO e,λ H' _=>q H'⟩;have le:ps.length<=srt.length:=dk
  rw[ZA (dH aW le)] at lf;ext dO le lf
#check _
#check S94
-- the names of the twins of whole trees and heaps are xck here,so that the head makes no such twins (they are what makes its compiled file large); see NOTE.md
namespace PySem.W.Fast
#print"cw_rimnotes_k94_whole_least_and_apart_holds _47 tree_1 _22 tree_1 _14 tree_1 _21 tree_1 _21 tree_1 _21 tree_1 _21 tree_1 _21 tree_1 _21 tree_1 _14 tree_1 _21 tree_1 _21 tree_1 _21 tree_1 _21 tree_1 _21 tree_1 _21 tree_1 _21 tree_1 _22 tree_1 _42 tree_1 _49 tree_1 _54 tree_1 _53 tree_1 _51 tree_1 _28 tree_1 _145 tree_1 _79 tree_1 _40 tree_1 _53 tree_1 _79 tree_1 _21 tree_1"
#print"cw_rimnotes_k94_whole_least_and_apart_holds _43 o_1 _1 o_2 _2 o_1 _1 o_1 _1 o_9 _1 o_9 _1 o_5 _1 o_8 _1 o_5 _1 o_3 _1 o_11 _1 o_5 _1 o_3 _1 o_11 _1 o_5 _1 o_3 _1 o_11 _1 o_5 _1 o_3 _1 o_11 _1 o_5 _1 o_3 _1 o_11 _1 o_5 _1 o_3 _1 o_11 _1 o_5 _1 o_8 _1 o_5 _1 o_3 _1 o_11 _1 o_5 _1 o_3 _1 o_11 _1 o_5 _1 o_3 _1 o_11 _1 o_5 _1 o_3 _1 o_11 _1 o_5 _1 o_3 _1 o_11 _1 o_5 _1 o_3 _1 o_11 _1 o_5 _1 o_3 _1 o_11 _1 o_4 _1 o_3 _1 o_13 _1 o_5 _1 o_3 _1 o_6 _1 o_6 _1 o_6 _1 o_11 _1 o_5 _1 o_3 _1 o_6 _1 o_6 _1 o_6 _1 o_11 _1 o_6 _1 o_1 _1 o_4 _1 o_4 _1 o_4 _1 o_4 _1 o_6 _1 o_6 _1 o_6 _1 o_4 _1 o_6 _1 o_4 _1 o_3 _1 o_6 _1 o_6 _1 o_13 _1 o_4 _1 o_6 _1 o_4 _1 o_1 _1 o_7 _1 o_3 _1 o_4 _1 o_4 _1 o_6 _1 o_6 _1 o_13 _1 o_1 _1 o_4 _1 o_6 _1 o_6 _1 o_6 _2 o_1 _1 o_4 _1 o_3 _1 o_7 _1 o_6 _1 o_6 _1 o_6 _1 o_6 _1 o_6 _1 o_4 _1 o_6 _1 o_6 _1 o_6 _1 o_6 _1 o_4 _1 o_6 _1 o_6 _1 o_6 _1 o_6 _1 o_6 _1 o_4 _1 o_12 _1 o_4 _1 o_3 _1 o_7 _1 o_6 _1 o_6 _1 o_6 _1 o_6 _1 o_6 _1 o_4 _1 o_6 _1 o_6 _1 o_6 _1 o_1 _3 o_1 _1 o_1 _1 o_6 _1 o_4 _1 o_4 _1 o_6 _1 o_6 _1 o_4 _1 o_4 _1 o_3 _1 o_6 _1 o_6 _1 o_6 _1 o_4 _1 o_13 _1 o_4 _1 o_1 _1 o_6 _1 o_4 _1 o_6 _1 o_4 _1 o_6 _1 o_6 _1 o_6 _1 o_6 _1 o_4 _1 o_6 _1 o_6 _1 o_6 _1 o_1 _1 o_4 _1 o_4 _1 o_4 _1 o_3"
#print"cw_rimnotes_k94_whole_least_and_apart_holds _39 heap_1 _6 heap_1 _1069 heap_1"
#print"cw_rimnotes_k94_whole_least_and_apart_holds _49 sts_1 _36 sts_1 _21 sts_1 _21 sts_1 _21 sts_1 _21 sts_1 _21 sts_1 _36 sts_1 _21 sts_1 _21 sts_1 _21 sts_1 _21 sts_1 _21 sts_1 _21 sts_1 _21 sts_1 _22 sts_1 _42 sts_1 _49 sts_1 _54 sts_1 _53 sts_1 _51 sts_1 _30 sts_1 _226 sts_1 _37 sts_1 _53 sts_1 _79 sts_1"
#print"cw_rimnotes_k94_whole_least_and_apart_holds _39 view_1"
def tw7539259965997991381:=Nat
#check PySem.W.Fast
namespace S94
open PySem L2 XL
def walk {l:PySem.W.OpenLaw}{q:Program}{loose:dD}{XP:zsa}{YP:zpI}{d:DefRec}{K:Params->Zf} (hn:du l.most 63) (hdf:znd)
    (hY:(zKa,(zx).In h))
    (F:∀(w:World) (mg:Str->Option Value) (fa:Addr) (h:Heap),(zx).In h->DW->zqd ->
      ∃ fd:FuncData,(zkG "_law_script")/\(zbd,(zx).In base,FnOk true l.prog w zx mg base zrU 15 fa fd Eg zRY)) :
    zCW :=
  L2.walk_of (q0:=true) (n:=63) (k:=15) (x:="_law_script") (CX:=λ w=>zrU) (sp:=λ w=>zRY) hn dF hdf (dY qD dF dF rfl) hY F (λ_ _ a ns hl _ hS=>gm a ns rfl hS hl qD)
    λ w H s e s' z=>by obtain⟨_,_,_,_,_,_,_,_,_,_,_,_,_,_,q⟩:=z; exact q
def all_mk {l:PySem.W.OpenLaw}{w:World}{K:Zf}{h:Heap}{mg:iO}{fa:Addr} (hfa:vF "law" fa) (TT:∃ t,dZ) :
    ∃ fd:FuncData,(∀(s:Shared) (v:Value),zgC (uD [v]) [("_law_script",v)])/\(zbd,zvz,FnOk true l.prog w K mg base zrU 15 fa fd Eg (xmo K)):=by
  obtain⟨t,T⟩:=TT;have e:=hfa.symm.trans T.g_law;cases e;show(gG,t.d_law,zxu,λ base _ _=>x0l T);obtain⟨z,od,B,i,u,an,j,C,b,e,A,c⟩:=T.F_law.ex;rw[e];exact .of_eq rfl
#check S94
open PySem PySem.W PyProof.Rows
end
set_option maxRecDepth 100000 in
set_option maxHeartbeats 0 in
theorem PySem.Challenge.cw_rimnotes_k94_whole_least_and_apart_holds : PySem.Challenge.rw_rimnotes_k94_whole_least_and_apart.Holds := by
 w_on; o_law; k_head; (case hw=>w_witness2)
 k_fill
 refine S94.walk (l:=PySem.Challenge.rw_rimnotes_k94_whole_least_and_apart) rfl rfl (fun w h Y=>PySem.W.kIn_of Y) ?F
 case F =>
  intro w J K h D G A
  refine S94.all_mk (h:=h) A ?TT
  refine' S94.txt_mk (w:=w) D G ?g_bz ?g_o ?g_e ?g_n ?g_d ?g_a ?g_g ?B_a4 ?B_ao ?B_at ?B_ab ?B_ae ?B_ap ?B_w ?B_ac ?B_ax ?B_meeting ?B_total ?B_upright ?B_az ?B_exchangeable ?B_am ?B_exchanged ?B_uncrossed ?B_aq ?B_s ?B_h ?B_crowds ?B_fits ?B_bb ?B_kept ?B_a0 ?B_aj ?B_af ?B_y ?B_m ?B_least ?B_answer ?B_ak ?B_aw ?B_ar ?a_b ?l_b ?c_b ?k_b ?i_b ?t_b ?B_t ?B_c ?B_f ?B_k ?B_ai ?B_u ?B_q ?B_i ?B_v ?B_l ?B_j ?B_ad ?B_drawn ?B_bf ?B_ag ?B_a3 ?B_a5 ?B_av ?B_z ?B_aa ?B_ah ?B_ay ?B_seen ?B_a1 ?B_a2 ?B_bc ?B_as ?B_an ?B_r ?B_bd ?B_a9 ?B_a7 ?B_au ?B_bg ?B_x ?B_ba ?B_al ?B_a8 ?a_law ?F_law ?kc_o ?pg_o ?hd_o ?po_o ?sa_o ?mk_o ?a_LeftSide_init ?kc_e ?pg_e ?hd_e ?po_e ?sa_e ?mk_e ?a_RightSide_init ?kc_n ?pg_n ?hd_n ?po_n ?sa_n ?mk_n ?kc_d ?pg_d ?hd_d ?po_d ?sa_d ?mk_d ?kc_a ?pg_a ?hd_a ?po_a ?sa_a ?mk_a ?kc_g ?pg_g ?hd_g ?po_g ?sa_g ?mk_g ?cg ?ct ?n_bp ?n_bh ?n_be ?n_a6 ?n_bl ?n_bi ?n_bk ?n_bq ?n_bt ?n_bu ?n_bo ?n_br ?n_bm ?n_bj ?n_bn ?n_bw ?n_abs ?n_bool ?n_dict ?n_enumerate ?n_int ?n_isinstance ?n_len ?n_list ?n_min ?n_range ?n_set ?n_sorted ?n_str ?n_sum ?v_bx ?v_bs ?v_bv ?g_p ?l_p ?ns_p
  case g_bz|g_o|g_e|g_n|g_d|g_a|g_g|a_law|g_p=>delta S94.gI; k_is
  case B_ac|B_ax|B_meeting|B_total|B_upright|B_az|B_exchangeable|B_am|B_exchanged|B_uncrossed|B_crowds|B_fits|B_bb|B_kept|B_least|B_answer|B_ak|B_aw|B_ad|B_drawn|B_bf|B_ag|B_a3|B_a5|B_seen|B_a1|B_a2|B_bc|B_as|B_an|B_r|B_bd|B_a9|B_a7|B_au|B_bg|B_x|B_ba|B_al|B_a8=>constructor; delta S94.gI; k_is; exact L2.fun_mk (by k_is) (by k_is) (by k_is)
  case B_a4|B_ao|B_at|B_ab|B_ae|B_ap|B_w|B_aq|B_s|B_h|B_a0|B_aj|B_af|B_y|B_m|B_ar|B_t|B_c|B_f|B_k|B_ai|B_u|B_q|B_i|B_v|B_l|B_j|B_av|B_z|B_aa|B_ah|B_ay=>constructor; delta S94.fI; k_is; exact L2.fun_mk (by k_is) (by k_is) (by k_is); k_is
  case a_b|a_LeftSide_init|a_RightSide_init=>delta S94.fI; k_is
  case F_law=>exact L2.fun_mk (by k_is) (by k_is) (by k_is)
  case sa_o|sa_e|sa_n|sa_d|sa_a|sa_g=>delta S94.fB; k_is
  case n_bp|n_bh|n_be|n_a6|n_bl|n_bi|n_bk|n_bq|n_bt|n_bu|n_bo|n_br|n_bm|n_bj|n_bn|n_bw=>delta S94.fN; k_is
  case n_abs|n_bool|n_dict|n_enumerate|n_int|n_isinstance|n_len|n_list|n_min|n_range|n_set|n_sorted|n_str|n_sum=>delta S94.gN; k_is
  case l_b|c_b|k_b|i_b|t_b|kc_o|pg_o|hd_o|po_o|kc_e|pg_e|hd_e|po_e|kc_n|pg_n|hd_n|po_n|kc_d|pg_d|hd_d|po_d|kc_a|pg_a|hd_a|po_a|kc_g|pg_g|hd_g|po_g|cg|ct|v_bx|v_bs|v_bv=>k_is
  case mk_o|mk_e|mk_n|mk_d|mk_a|mk_g|l_p=>first|k_is|kernel_rfl
  case ns_p=>kernel_rfl
