import PyProof.Rows.All
import Wide.All
import OpenK.AllK
import PySem.Challenge.RW_rimnotes_k81_deeds_of_a_hand
set_option maxRecDepth 100000
set_option maxHeartbeats 4000000
set_option Elab.async false
set_option linter.all false
set_option genSizeOf false
set_option compiler.extract_closed false
open List renaming length_map→Za,getElem?_eq_getElem→Zc,getElem?_map→Zf,getElem?_eq_some_iff→Zi,mem_map→Zj,mem_cons_of_mem→Zm,mem_cons_self→Zn,mem_of_getElem?→Zo,mem_singleton→Zq,mem_cons→Zr,map_cons→Zs,length_append→Zt,map_append→Zv,range→Zx,lookup_cons→Zy,mem_append→Z3,mem_append_right→Z7,size_toArray→Z9,length_cons→ZB,mem_range→ZF,map_map→ZG,getElem_of_mem→ZH,nodup_cons→ZM,mem_append_left→ZP,nodup_append→ZT,length_range→ZU,mem_filter→ZV,length_singleton→ZZ,take_add_one→Ja,mem_of_find?_eq_some→Je,getElem?_append_left→Jf,find?_eq_none→Jh,lookup→Jj,pairwise_map→Jk,length_filter_le→Jl,getElem?_eq_none→Jo,Perm→Jy,take_length→Jz,not_mem_nil→J0,filter_cons_of_pos→JA,filter_cons_of_neg→JB,nodup_iff_pairwise_ne→JE,getElem?_append_right→JF,getElem?_range→JK,filterMap_cons→JL,any_eq_true→JR,take_of_length_le→JU,find?_cons→JX,length_take→JY,mem_filterMap→Ya,Pairwise→Yc,find?_cons_of_pos→Ym,getElem_mem→Yn,pairwise_cons→Yq,pairwise_iff_getElem→Yt,range_succ→Yw,any_cons→Y1,take_append_drop→YF,length→YI,nodup_nil→YK,getElem?_set_ne→YL,all_eq_true→YU,drop_eq_getElem_cons→YV,map_congr_left→YX,zip→YY,all_cons→YZ,Nodup→Qd,find?_cons_of_neg→Qq,eraseIdx_eq_take_drop_succ→Qs,perm_middle→Qy,map_take→Q2,map_drop→Q3,mem_iff_getElem→Q5,length_nil→QB,find?_some→QC,replicate→QK,filter_append→QM,filterMap_map→QN,contains_cons→QO,map_id→QQ,take_sublist→QW,ext_getElem?→QX,append_assoc→QY,cons→We,nodup_range→Wi,filter_cons→Wj,append_inj'→Wk,getElem?_replicate→Wo,range_succ_eq_map→Wx,getElem?_set_self→Wy,forIn_cons→W0,filter_map→W1,append_nil→W2,length_replicate→W5,mem_of_mem_take→WA,filter_sublist→WI
open PySem renaming wpAny_bind→Zb,wpAny_pure→Zh,Spec→ZJ,wpAny_mono→Ji,wpAny_field→Jn,wpAny_call_entry→Jt,wpAny_callSpecial?_slot→Ju,wpAny_holding→Jv,wpAny_dictEntries→J8,wpAny_setField_rec→JD,wpAny_loadPart_at→JM,wpAny_newObj_type→JS,mem_of_lookup→JW,wpAny_Call_Name_kw→JZ,wpAny_seqItems→Yd,wpAny_dictEpoch→Yj,wpAny_truthy_bool→Yx,wpAny_typeNameOfWhole_itemiter→Y4,wpAny_typeNameOfWhole_keyiter→Y6,tupleKind_room_in1→Y8,wpAny_isOneOf_itemiter→Y9,wpAny_passesOwn→YA,wpAny_attempt→YB,wpAny_setState_of→YG,wpAny_isSubtype_exc→YW,wpAny_call→Qc,sizeLine_eq→Qf,boot_len→Qh,codeAny_mono→Qi,call_meetsIn→Qj,Within→Qk,wpAny_setField→Qn,wpAny_notOrdered_dict→Qt,wpAny_isOneOf_keyiter→Qu,codeAny_call_builtin→Q4,wpAny_execs_nil→Q7,codeAny_builtin→Q8,wpAny_typeOf→QE,wpAny_loadPart→QJ,wpAny_pyIter_list→QT,wpAny_Call_method→QU,wpAny_Call_method0_late→Wl,wpAny_pyIter_keyiter→W8,wpAny_raiseNew_none→WE,evalArgs_none→WF,wpAny_standAt→WJ,wpAny_onRaise→WK,plainId_quiet→WL
open PySem.W renaming Frag→Zd,findIn→Zw,keepIn→ZC,hasDictIn→ZK,mroIn→ZN,mg_of→ZO,mg_none_of→Jb,fnOf→Jd,kia_one→JG,plainGet→JQ,emptyDict→JT,plainOver→Yg,makesIn→Yu,instObj→Yv,kitOne→Y3,codeIn→YJ,isFn→Ql,callWith_K→QL,nsIn→Ws,lookIn→W6,plainGet_of→WG,callWith_K0→WH
open PySem.Heap renaming get?_push_of_some→Ze,get?_push_size→Zp,lt_size→Zu,get?_update_self→ZW,SameBut→ZY,get?_update_other→Jm,size_push→Jp,get?_none_of_le→YM,MadeExcOf→W7
open Option renaming map_eq_some_iff→Zg,some→ZR,map_some→Q9,isSome_map→QV,bind_some→Wf,map→WO
open Nat renaming le_refl→Zk,lt_of_lt_of_le→Z4,le_trans→Z5,ne_of_lt→ZE,lt_trans→ZQ,zero_le→ZX,lt_of_le_of_lt→Jr,le_add_right→JH,ne_of_gt→Yb,le_of_lt→Yl,lt_irrefl→Y0,le_succ→Y5,lt_or_ge→YS,succ_pos→Qm,not_lt_zero→QA,lt_succ_self→Wg,le_of_not_lt→Wh,not_lt→Wr,mod_lt→WP
open PySem.Value renaming ref→Zl,none→Jg,bool→Yo,int→YR,builtin→Q0,str→Wc,type→Wp
open Ne renaming symm→Zz
open PySem.SeqAt renaming EqAt→Z0,RcNeAt→Z8,RcAt→ZL
open Bool renaming and_eq_true→Z1,false_ne_true→Z6,false_eq_true→ZD,eq_false_iff→Jw,true_and→JN,eq_iff_iff→JO,false_and→Ye,not_eq_true'→Yz,and_eq_true_iff→YO,and_false→Qo,not_true→Wa
open PySem.Str renaming ofString→Z2,empty→Wd
open Sum renaming inr→ZI,inl→Qz
open PySem.PassesOwn renaming never→ZS
open PySem.F renaming plainAttrs_list→Jc,type_list_append→J5,slot_list_append→J6,slot_dict_itemiterator_next→Yf,plainAttrs_dict→Yh,slot_dict_keyiterator_next→Yk,slot_dict_get→Ys,slot_tuple_iterator_next→YQ,called_set→YT,slot_dict_items→Qg,entry_dict_get→Qp,slot_dict_pop→Qv,slot_list_getattribute→Wb,type_list_clear→Wm,slot_list_clear→Wn,slot_zip_next→W4
open True renaming intro→Jq
open Array renaming length_toList→Js,getElem?_toList→J7,getElem?_eq_getElem→JJ,getElem?_eq_some_iff→JV,getD→Qx,getD_eq_getD_getElem?→QG,map→QI,mem_toList_iff→WC
open Classical renaming byContradiction→Jx
open PyProof.Rows renaming callWith_type1→J9,slot_tuple_getitem→Qr,strKind→W9
open Int renaming le_refl→JC,eq_ofNat_of_zero_le→Yi,toNat_natCast→Yy,add_assoc→Qa,add_zero→QF,emod_lt_of_pos→QP,mul_add→QR,mul_zero→Wt,le_trans→Wu,emod_nonneg→W3,sub_nonneg_of_le→WB,ofNat→WD,mul_assoc→WN,lt_or_gt_of_ne→WQ
open PySem.Calls renaming callWith_builtin→JI,spliced_cons→Yr,spliced_nil→YH,evalArgs_plain→YN
open False renaming elim→JP
open PySem.Obj renaming data_mapFields→Yp,mapSeq→Y7,isFreed_of_fields→YE,mapFields→Q1,dropNameByArray→QD,putSet→Wq,dropName_eq→Wz
open PySem.Paired renaming length→YC
open Or renaming inl→YD,inr→QZ
open ForInStep renaming yield→Qb
open PySem.Code renaming quiet_builtin→Qe
open LawfulBEq renaming eq_of_beq→Qw
open PySem.Around renaming under_plainId→Q6
open PySem.Data renaming cell→QH,fields→QS
open Exists renaming intro→Wv
open PyProof renaming noPylong_small→Ww
open PySem.NameKind renaming free→WM
theorem aRfl (h:True:=by rfl):True:=h
theorem aDec (h:True:=by decide):True:=h
theorem aSmp (h:True:=by simp):True:=h
set_option hygiene false
namespace Ab
open Lean
abbrev Tb:=Std.HashMap Name (Array Name×Syntax)
def sub (p:Array Name) (a:Array Syntax) (b:Syntax):Syntax:=b.rewriteBottomUp fun s=>if s.isIdent then (match p.idxOf? s.getId with|some i=>a[i]!|none=>s) else s
def put (t:Tb) (n:Syntax) (a:Array Syntax):Option Syntax:=if n.isIdent then (match t.get? n.getId with|some (p,b)=>if p.size==a.size then some (sub p a b) else none|none=>none) else none
def par (b:Syntax):MacroM Syntax:=if b.isIdent then pure b else return (← `(($(⟨b⟩)))).raw
def tac (b:Syntax):MacroM Syntax:=match b.find? (·.isOfKind `Lean.Parser.Term.byTactic) with|some x=>return (← `(tactic|($(⟨x[1]⟩):tacticSeq))).raw|none=>return b
def pat (s:Syntax):Syntax:=if s.isOfKind `Lean.Parser.Tactic.rintroPat.one then s[0][0] else s
def cat (s:Syntax):Syntax:=mkNullNode (mkSepArray (s.getSepArgs.flatMap fun a=>
 let b:=if a.isOfKind `Lean.Parser.Term.paren then a[1] else a
 if b.isOfKind `Lean.Parser.Term.anonymousCtor&&b[1][0].isStrLit?==some "" then (b[1].getSepArgs).extract 1 b[1].getSepArgs.size else #[a]) (mkAtom ","))
def step (t:Tb) (s:Syntax):MacroM Syntax:=do
 if s.isIdent then
  if let some b:=put t s #[] then return ←par b
  return s
 let k:=s.getKind
 if k==`Lean.Parser.Term.app then
  if let some b:=put t s[0] s[1].getArgs then return ←par b
 else if k==`Lean.Parser.Term.tuple then
  let a:=s[1]
  if let some b:=put t a[0] a[2].getSepArgs then return ←par b
 else if k==`Lean.Parser.Term.anonymousCtor then return s.modifyArg 1 cat
 else if k==`Lean.Parser.Tactic.show then
  if (s[1].find? (·.isOfKind `Lean.Parser.Term.byTactic)).isSome&&(s[1].isOfKind `Lean.Parser.Term.paren||s[1].isOfKind `Lean.Parser.Term.byTactic) then return ←tac s[1]
 else if k==`Lean.Elab.Tactic.Ext.ext then
  let a:=s[1].getArgs.map pat
  if let some b:=a[0]? then
   if b.isIdent then
    if let some b:=put t b (a.extract 1 a.size) then return ←tac b
   else if (b.find? (·.isOfKind `Lean.Parser.Term.byTactic)).isSome then return ←tac b
 return s
def rp (p:Syntax):TSyntax `rintroPat:=⟨mkNode `Lean.Parser.Tactic.rintroPat.one #[if p[1].isNone&&p[0][0].getNumArgs==1 then p[0][0][0] else mkNode `Lean.Parser.Tactic.rcasesPat.paren #[mkAtom "(",p,mkAtom ")"]]⟩
def nm (c:String) (s:Syntax):Term:=mkIdent (.mkSimple (c++toString (s.isNatLit?.getD 0)))
def un:Nat→Syntax→Syntax
 |n+1,p=>if p.isOfKind `Lean.Parser.Term.paren then un n p[1] else p
 |_,p=>p
def fn:Nat→Syntax→MacroM Syntax
 |0,s=>return s
 |n+1,s=>do
  let a:=s[1][0].getArgs.map (un 9)
  match a.findIdx? (fun p=>p.isOfKind `Lean.Parser.Term.anonymousCtor&&((p[1].getSepArgs[0]?.bind (·.isNatLit?)).getD 0)>1000) with
  |none=>return s
  |some j=>
   let i:=a[j]![1].getSepArgs
   let f:Term:=mkIdent (.mkSimple s!"j{i[0]!.isNatLit?.getD 0-1000}")
   let x:Array (TSyntax `Lean.Parser.Term.funBinder):=(i.extract 1 i.size++a.extract (j+1) a.size).map (⟨·⟩)
   let g←fn n (←`(fun $x*=>$(⟨s[1][3]⟩))).raw
   let p:Array (TSyntax `Lean.Parser.Term.funBinder):=(a.extract 0 j).map (⟨·⟩)
   return (←`(fun $p* zzz=>$f zzz $(⟨g⟩))).raw
def step2 (s:Syntax):MacroM Syntax:=do
 let k:=s.getKind
 if k==`Lean.Parser.Term.anonymousCtor then
  let a:=s[1].getSepArgs
  if let some n:=a[0]?.bind (·.isNatLit?) then
   if n>40&&n<1000 then
    let b:Array Term:=(a.extract 1 a.size).map (⟨·⟩)
    return (←`($(nm "n" a[0]!) $b*)).raw
 else if k==`Lean.Parser.Term.fun then return ←fn 9 s
 else if k==`Lean.Parser.Tactic.obtain then
  if (s[2][1].isNatLit?).isSome then
   let q:=s[1][0][0][0][1].getSepArgs.map rp
   let h:Term:=⟨s[3][1].getSepArgs[0]!⟩
   let f:=nm "i" s[2][1]
   return (←if h.raw.isIdent&&h.raw.getId.isAtomic then `(tactic|(revert $h:term;refine $f ?_;rintro $q*)) else `(tactic|(refine $f ?_ $h;rintro $q*))).raw
 else if k==`Lean.Parser.Tactic.rintro then
  let a:=s[1].getArgs
  if let some j:=a.findIdx? (fun p=>p.isOfKind `Lean.Parser.Tactic.rintroPat.binder&&(p[2][1].isNatLit?).isSome) then
   let f:=nm "i" a[j]![2][1]
   let q:=a[j]![1][0][0][1].getSepArgs.map rp++(a.extract (j+1) a.size).map (⟨·⟩)
   let p:Array (TSyntax `rintroPat):=(a.extract 0 j).map (⟨·⟩)
   return (←if j==0 then `(tactic|(refine $f ?_;rintro $q*)) else `(tactic|(rintro $p*;refine $f ?_;rintro $q*))).raw
 return s
end Ab
local macro_rules|`(mutual $cs* end)=>do
 let d:=cs[0]!.raw[1][3]
 unless d.isOfKind `Lean.Parser.Command.whereStructInst do Lean.Macro.throwUnsupported
 let mut t:Ab.Tb:={}
 let mut o:=#[]
 for f in d[1][0].getSepArgs do
  let f←f.rewriteBottomUpM (Ab.step t)
  t:=t.insert f[0][0].getId (f[1][0].getArgs.map (·.getId),f[1][2][2])
 for c in cs[1:] do
  if c.raw.isOfKind `Lean.Parser.Command.check then
   let e←if c.raw[1].isIdent then `(command|end $(⟨c.raw[1]⟩):ident) else `(command|end)
   o:=o.push e.raw
  else if let some s:=c.raw[1].isStrLit? then
   let l:=s.splitOn " "
   let mut i:=0
   for r in l.tail do
    let [k,n]:=r.splitOn "_"|Lean.Macro.throwUnsupported
    if k != "" then
     for j in [i:i+n.toNat!] do
      let d:Lean.Ident:=Lean.mkIdent (.mkSimple s!"tw{(((`PySem.Challenge).str l.head!).str s!"{k}_{j}").hash}")
      o:=o.push (←`(command|def $d:ident:=Nat)).raw
    i:=i+n.toNat!
  else o:=o.push ((←(←c.raw.rewriteBottomUpM (Ab.step t)).rewriteBottomUpM Ab.step2).rewriteBottomUp (·.setInfo .none))
 return Lean.mkNullNode o
mutual
def a where
eG a b c:=⟨a,b,c⟩
eA:=by lia
gY a b c d e f:=⟨a,b,c,d,e,f⟩
gF a b c d e:=⟨a,b,c,d,e⟩
iH a:=Option a
eC a b c d e f:=by have a:b:=c;have d:e:=f
eY a b:=by rw[a];exact b
gk a:=(a:Int)
l9 a b:=List (a × b)
fO a b:=(H a)=(some b)
iA a b:=a->(b->Prop)
eJ:=by decide
eE a b c d:=by obtain⟨a,b,c⟩:62:=d
fj:=pv 0
hB a b:=(eG _ a b)
eQ a b:=λ a b=>?_
eK a b c d:=by have a:=b;have c:=d
SF:=by decide +kernel
gH:=by ext SF
hV a b c d e f g:=⟨a,b,c,d,e,f,g⟩
pi a b c:=(a[b]?)=(some c)
iI a b c d e:=(gY a b c d rfl e)
eP a b:=by ext eY a b
fe a:=if_pos a
fh a b c d:=⟨a,b,c,d⟩
mW a b c:=Inv X a Z b c
fX a:=some (.ref a)
iC a b c d e f g h:=⟨a,b,c,d,e,f,g,h⟩
eB:=List V
ft a:=SqL.of a
fb a b c d e:=a/\(b/\(c/\(d/\e)))
hF a b:=xg a (xg b xj)
fV a:=((a).2).1
fK:=p.1
fH a:=if_neg a
fG:=pv 1
sG a b:=(mW pins a b)
fW a b c d e:=λ a b c d e=>?_
eS:=by simp
eF:=List Seat
eO:=List Str
fE:=.ref a
gR a b c d e:=a->(b->(c->(d->e)))
hR a:=decide a
fJ a b c:=λ a b c=>?_
BV a:=(sG H a)
gf a b:=(pi a i b)
eI:=List Pt
gz a:=(H a)=none
jr a:=((a).2).2
fY a b c d:=(gF 63 a b c d)
fU a b c:=by exact(eG a b c)
lK a:=(iA a Shared)
fA:=hmm hr
jK a:=.type a
fZ:=pv 2
eR:=(BV s)
oY:=λ_ _=>rfl
zI a b c d e:=wpAny a b c d e s
iu a b c d e:=(gY 45 a b c d e)
eV:=List Addr
iy a:=λ a=>?_
fc a b:=by exact⟨a,b⟩
oN a b c d e f:=(hV a b c d e rfl f)
h8 a:=(hB rfl a)
iW a:=⟨rfl,a⟩
eW:=CXo P w
gU a b c d e:=(gY 83 a b c d e)
eX:=Txt w K mg t
mw a:=Same H a
f7:=i+1
mT a b c:=(fh a b rfl c)
i3 a:=xg a xj
eZ:=(fW vs H Q E h)
gb a b c d:=a->(b->(c->d))
fS a b c d:=a/\(b/\(c/\d))
mr a:=⟨_,a⟩
sU a b c d e f g:=(iC 104 a b c d e f g)
wC a:=by show a;decide
gc a b c:=xz a b (xu c)
gZ:=.ref C
fQ a:=by refine (Zb a)
gE a b:=by refine a;refine b
gX a b c d:=(gF 44 a b c d)
iK a:=a=false
jk:=model prog w
gP a b c d e:=by obtain⟨a,b,c,d⟩:63:=e
fD:=List Value
wQ a b:=by obtain⟨a,rfl⟩:=b
U6 a:=(l9 Addr a)
fw:=Seat->(iH Str)
gG:=x.1
Dw a b c d e:=let a:=b; (let c:=d; e)
pP a:=(fO b a)
sE a b:=xaa x8 a b oY
rV:=model X.prog X.w
fR a b c d:=by have a:b:=c;refine d
sM a:=by exact a
vQ a:=(iA a Hp)
iF a b c:=by rw[a] at b;cases c
iQ a b c d e f g h i:=⟨a,b,c,d,e,f,g,h,i⟩
jt a b:={ cls:=(jK a),data:=b }
ij a b:=by obtain rfl:a:=b
jB a b:=by exact (absurd a b)
fC:=List Pr
um a:=["self", a]
fF:=.int i
gQ a b c:=by rw[a] at b;cases c
i9 a b:=(hR,a=b)
kG a b:=xo (xp a b)
lW a b c d e f g h:=λ a b ⟨1083,c,d,e,f,g⟩=>h
oa a b c d e f g:=(oN a _ b _ _ (iu c d e f g))
iZ a:=SqT.of a
pb a:=by refine(hB a ?_)
fM:=(lK Value)
fP:=(U6 Obj)
kf a b:=(H' a)=(some b)
jw a b:=(eG a rfl b)
ir a b c d e:=(gY 121 a b c d e)
gm:=xad fj rfl
ju a:=a<=sizeLine
gL a b c d:=(a=b)/\(c/\d)
f8:=Zk _
ji a:=(a:Str)
iL:=by subst e
lU:=Same.refl _
gM a b c d:=(gF 82 a b c d)
sP a b c:=(iI a _ b _ c)
gu:=(mw H')
zn a b c:=(zI a A b c E)
jA:=List Key
hU a b:=(pi a j b)
gB:=xap gH
jI a:=xq (x0 a)
jV a b c:=by refine(eG a b c)
kY a:=((a).1).nm
iw:=k+1
hZ a b:=by rw[a,b]
iP a:=by have:=a;lia
gS:=.ref l
gV:=pv 3
gW:=(fK).nm
Gq a b:=by intro a s Z H b I h
sL a b:=by rw[<- a];exact b
Dt a b:=["self", a, b]
gK:=List Int
iE a b c:=upd a b (.lst c)
iR a b c d e f:=λ a b c d e f=>?_
iG:=(fV x)
vA a b c:=⟨a,(eQ b c)⟩
gD:=(l9 Key V)
qcj:=rnd mask h r
ig a b c:=by rw[a,b];exact c
uJ a b:=.ins a dx b
h9 a b c d e f g h:=xag a b c d e f .nil g h
iU:=["self"]
jL a b c:=by obtain⟨a,b,_⟩:62:=c
hJ:=.str nm
lO a:=(hF fj a)
o9 a b c:=upd a b (.tup c)
iJ a b c d e f g h i:=thn a (lW b c d e f g h i)
rD a b:=xah (top a) b
gq a b c d e f g h i:=by have a:b:=c;ext eC d e f g h i
oB:=some dx
jN a:=some (.int a)
kX a:=(fO q a)
sD a b:=(iK,a == b)
Gx a b c d e:=Pic t a b dp do_ c d e
kO:=(gk h)
rK a b c:=(fY a rfl b c)
jh:=x.2
kK a b c d e:=(upd a b c d)=(some e)
jT:=(gk i)
gJ:=Str->(iH Seat)
lR:=(qcj).1
h7 a b c:=by rw[a] at b;exact c
Ep a b c d:=by rw[a,b] at c;cases d
rb:=(sM leS2)
gO:=_::_
ia:=pv 4
jo a:=(hB a rfl)
wV a b c:=xak a b c (xal _)
je a:=by exact (.inl a)
jj a b:=upd H a b
xI a b c d e f:=(sU a b c d rfl e f)
jq a:=by ext wQ t a
iz a b:=by ext sL a b
tY a b:=by obtain⟨a,q⟩:=b
jv a b:=(eG a b rfl)
rC a b:=(a == b)=true
kC:=(pP u)
jy:=(um "name")
zf b c d:=(Gx b a c d ps)
nS a b:=(a,.ref b)
jf a b c d:=(iI 83 a b c d)
vM:=(iy c)
hD:=Seat->Int
lA:=(mr rfl)
qY:=(sE fG xt)
qy a b c d e f g:=xam a b c d e f .nil g
jn a:=by rw[a];rfl
ip a:=by simp[a]
pj a b c d:=by ext Ep a b c d
ib a b c d:=λ a b c d=>?_
hX:=.int j
iY a:=by exact (.inr a)
kB:=(jr p)
im:=Str->(iH Value)
hW:=Str->Int
pL b:=(fO a b)
jp a b:=(eP,xo a,b)
kW a:=xab lU a
tI a c d:=∀ b u,((b≠a)->(c->d))
ie a b:=by rw [a];exact b
iX:=.ref p
kH a b c:=xg a (hF b c)
zxK a b:=(iI 45 rfl a rfl b)
mC:=by cases e
oZ a b c d:=if (a=b) then c else d
ku:=some v
jc:=.ref q
i5:=(iH Addr)
rJ a:=λ Z H Q=>a
pR a b c:=⟨a,b,c⟩
i7:=List α
lv a:=((a).isSome)=true
iM:=(iH V)
qI a b c d e f:=(hV 84 a b c d e f)
Gw a:=.str (xav a)
qw:=e::es
iB a b c d e f g:=GB K mg a b c d e f g
wP a b c d:=by show(eK,a,su_e b c,d,ug_e c)
vN a:=.builtin a
jJ:=p.2
SA a:=["picture", a]
nJ:=mask+1
oH:=(gk w)
iT:=(fe rfl)
jO:=.inl rfl
m7 a:=(kG e a)
kR a b:=by show(jV,a,b,?_)
Gv a b c:=(sP a 0 (zxK b c))
mh a:=⟨a,[]⟩
vL:=by rfl
kU a:=by rw[a]
iO:=pv 5
oG:=(ft j)
uu:=(ft C)
pQ a:=by ext Gq a Q
pT a:=a<cLine
mV a b:=(a-b).toNat
kh a:=(gk (a:Nat))
mZ:=P0 a
kT a b c d e f g:=(iC 47 a b c d e f g)
oF:=xa9 hr
mR:=P0 a b
mL:=P0 a b c
mI:=P0 a b c d
qN a b c d:=(o9 a b [c,d])
Pg a b c d:=(mT,_,_,.inl (xI _ _ a b c d))
kM a b c:=show (a=b) from c
Al a:=show a by decide
jD:=.ref b
BG a b c d:=(gF a b rfl c d)
oK a b c:=by show(eE,a,b,rfl,c)
nR a b:=(fJ a b e)
i8:=(gz b)
AR a:=.tup (xa6 a)
jQ a:=(zn jk a Q)
iD:=(l9 Str eO)
zzv a b c:=(iI a _ rfl (iZ b) c)
jF a:=⟨a,?_⟩
jb a b c d e f:=by obtain⟨a,b,c,d,e⟩:83:=f
Eu a b c d:=a->(b->(iA c d))
nB:=λ z=>(nomatch z)
lX a b c d e:=(gR,a,b,c,d,Q e H')
jg a:=ne_f e a
uE a b c d:=(gU a b rfl c d)
lB a:=xo (Zz a)
Gp a b:=xw a (xw b xaz)
wn a b c d f:=λ dx a=>(iW (sU e b oB rfl c d f))
j8:=λ_=>none
lF a:=by rw [a] at h
nF a b c d:=by obtain⟨a,b,c⟩:43:=d
mG a b c:=if (a=true) then b else c
nK a:=by obtain rfl:=a
ja a:=(xbf K a)=true
sA:=(vQ St)
lD a b:=absI (a-b)
zfL a:=itP y ss prs a
i0:=h.1
rQ a b c:=by refine(vA a b c)
jx a b c d e f:=(hV 46 a b c d e f)
AQ a:=way mask h a
iS:=Array Nat
Ht a b c:=(rK a (mr b) c)
uC:=(b,i)
pG:=xar ps
lY:=Zp _ rfl
oO a b:=(zzv a b ?_)
xF a:=xa5 I q a
jX:=h.2
kS a b c:=by have a:b:=(λ z=>c)
jY a b c d e f:=by obtain⟨a,b⟩:=c;obtain⟨d,e⟩:=f
kL a b c d e f g:=by obtain⟨a,b,c,d,e,f⟩:46:=g
rp:=I.tok _
i6 a b c d e f g:=by ext eC a b c d e f;refine g
uK:=Zl a
Os a:=Same H1 a
qM a b c d:=(gR a b c d C)
jH a b c d e:=(a=b)/\(c/\(d/\e))
i4:=(l9 jA V)
ro:=.tup xs
lS:=i<n
jM:=Array Value
jE a:=λ b u e=>a
nG:=.lst xs
qQ:=.lst (qs.map V.ref)
zr a:=Vals a us
mD a b:=(Zw K (.ref a) b)=(some none)
wR:=p.nm≠nm
nA:=(Dt "side" "row")
o6 a b c d e:=by obtain⟨a,b,c,d⟩:82:=e
jd:=by assumption
mX a b:=by by_cases c:(a=b)
vK:=List K
lQ:=ZX _
xM a:=(fO d a)
qD:=P1 a
oC a b c:=upd a b (.dK c)
qi:=P1 a b
p8:=P1 a b c
pX:=P1 a b c d
qE a b c d e:=(a=b)\/((c=d)\/e)
pA:=.dK kvs
Ri:=(l9 Seat Int)
Ap a b c:=IsTupleKey knd a b c
sS a b:=xan a b xac
wD a b:=show (a=true) from b
js:=by wp_step
lT:=by exact z
kQ a:=by ext wQ t' a
jW a:=ZO X G a
qL a:=by ext tY a h
j4:=(zf H pw ph)
RT a b c:=⟨(wC a),λ e b=>c⟩
j6:=⟨eJ,eJ⟩
ww a b:=(zI rV X.A a b X.xe)
rg a b:=by rw[a,b];rfl
jR a b c d:=by have a:b:=c;refine d
jG a b c:=by have a:=b;refine c
rB:=by split<;>lia
kI:=pv 6
ki:=.str sd
jS:=(fX a)
sr a:=(isNm a)=true
zir:=1<=1000
oA:=asked s
kE:=xu st
Eh a c:=λ b u a e=>c
lE a b c:=Dv K H a b c
zoj a b:=(ZN K a (.ref b))=(some true)
pK:=[fE]
jz:=by cases h
ve a:=by rw[a];decide
uR a c:=∀ b,(a->c)
kZ:={ s with heap:=h' }
vJ:=.ref d
jC:=.int _
Ma:=s.toks+1
sZ a b:=(pi a k b)
lZ:=(i3 fG)
mS a b c:=(gX rfl a b c)
yK a:=eval a X.env
Ug a:=(uJ t.C_i a)
jZ a b:=(mg a)=(some (.ref b))
uL a b c d:=cells w a b c d
li a:=(ZC K (.ref a))=true
L9 a:=(BG e _ xh a)
lH a b c d e:=xa8 (zs:=a) (ys:=b) (fr:=c) (N0:=d) (sc0:=(xu e)) gH rfl rfl rfl
jU b:=⟨a,b⟩
qK a:=by cases a;rfl
lP:=pv 7
mJ a:=(wC,(gk 0)<a)
lI:=(s.heap.get? b)=(some o)
oh:=Int × Int
sC a:=x9 xa0 a xt
jP:=Str->Ri
tR a b c:=by show(eE,a,b,rfl,Zg.mp c)
nI:=(Gw b)
wW a b c:=by have e:(a=b):=c;ext iL
zu a b:=Q (.bl a) b
nU:=s.2
uc a:=by rw[a];lia
mz a:=by rw [(fH a)]
j9 a:=show a by lia
kP:=by split at e
kg:=List Nat
mQ:=.ref x
j7:=(l9 κ V)
oE:=xbm gH
kD:=xaf s
zwk:=(sE fZ xt)
ue a b c d e f:=(iC 66 a rfl b c d e f)
Ff a b c:=xaw a (xaw b c rfl) rfl
lz:=RelV y u
mF a:=by show (wpAny _ _ a _ _ _)
qR:=tupleKeyHash knd k
lN a b:=Pic.same a b
uS:=c.1
mM a:=by ext iP a
BF a b:=by cases a;cases b
tX a b:=(H2 a)=(some b)
mY a b c d e:=(gY 64 a b c d e)
mf:=.int L
me:=.int O
p5:=(iH Int)
pF:=(gk n)
BU a:=(fO l a)
qH a:=(eQ b a)
vW:=P2 a
vI:=P2 a b
vp:=P2 a b c
vg:=P2 a b c d
l0 a:=λ b xs e=>a
kN:=xbc st
DE a:=x9 xbi a xt
Aw a b c d e f:=(Dw,a,tSeq b c,d,tSeq e a,f)
kJ b:=fun⟨a,h⟩=>b
MU a b c:=tSeq a (tSeq b c)
V0 a:=xao xa1 rfl T.n_isinstance boot_isinstance a
AF a:=by rw[a];simp
lG a:=by rw[(fH a)]
lM a b c:=by have a:=b;rw[c] at a
oX:=λ_ _ _ _ _=>xbk
mE:=.ref s.heap.objs.size
BT a:=s1 _ _ a
oP a:=s4 _ _ a
nw:=s.heap.objs.size+1
lC a b:=by show(eY,xo a,b)
mO:=(gk h')
vH:=(fV p)
Ds a b:=.inl ⟨a,b⟩
lw:=(l9 Str V)
BS a:=PE X e a
Eo a:=Thg H a d
uI a b:=(iE a b [])
qo a c:=λ b o a e=>c
nH:=2 ^ 62
yo a:=xq (x0 (xaq a))
C4 a:=runEnd mask a
NA:=(AQ n)
vz:=(Os H2)
AE a:=by refine(pR _ a ?_)
ID a b:=by exact(Pg false a vL (jw false b))
xr a:=⟨dx,a⟩
vV:=kv.1
mq a b c d e:=by have a:=b;have c:d:=e
ou a b:=by obtain⟨a,e⟩:=b
zzu a:=show a from gH
wj a b c:=[.str a,b,c]
m9 a:=M _ _ a
m4 a:=s2 _ _ a
m8:=n+1
BE a b c d:=(gF a b c rfl d)
mB:=by cases z
pI a:=(eP Za a)
lJ a:=(ZK K a)=true
mU:=.bl b
uQ a b:=x9 xbd a b
Bq a:=λ b o e=>a
G1 a:=(i9 p.nm a)
qv:=Zc lt
lL:=(xF eS)
zH a b:=absurd a b
zi a:=a<sizeLine
Ec:=by subst this
nM a b:=by refine⟨a,b⟩
nX:={ s with toks:=Ma }
tH a b d:=∀ c u,((c≠a)->(b->d))
mj:=by exact .nil
oz:=List Env
Eg a b:=(eG rfl a b)
uD a b:=by exact (.cons a b)
ma:=(fe c)
oJ a b c:=by have a:(b=false):=c
Hd:=bits h
qp a:=by show(jB,rfl,a)
NJ a b:=(h8,ite2 a b)
vw:=.dT kvs
sR a b c d e:=(qI a b rfl c d e)
mH a b c d:=(Ht a (ft b) (eQ c d))
yJ a b:=by refine' (xg a b rfl)
yj:=eval e X.env
tQ a b c d:=(Gp,pN a b,pN c d)
CK:=X.pn++pins
qS a b c d e:=by obtain⟨z,a,⟨b,c,d⟩⟩:43:=e
LN a:=way t.mask h a
zed a:=(RT zir I (L9 a))
nO:=Zn ..
tt a b c:=by rw[a,b,c]
yy a:=by show a;lia
on a b c d:=by obtain ⟨a,b,c⟩:62:=d
nh:=by exact q
nQ a b:=(eG a b ?_)
sJ:=.int R
oR:=j+1
qh:=.str x
mK a b:=λ z=>(pj z a b b)
ut:=(gz p)
Bo:=(jr x)
mP:=xbl st
sY a:=(kf l a)
Bn:=(AR s)
wU:=(fO c u)
Rt a b:=(starEach a X.env)=b
ul a b c:=by ext wP a b eu c
Ry a b c:=(Ug,putF (Z2 a) b c)
O5 a b:=backTo a (starEach b X.env)
wg:=c.2
rA a b c d:=by subst a;ext gQ b c d
By a c:=∀ b u,(a->c)
NI a b c d e:=by obtain⟨a,b,c,d⟩:44:=e
sN a c:=∀ b o,(a->c)
B2 a:={ s with heap:=h',toks:=a }
pZ a b c d e f g:=by ext eE a b c d;ext fU e f g
zyd a:=(H' b)=(some a)
qg:=(gz l)
U5 a:=(wC,a<1000)
n8:=nAt mask h r
pW a:=if_neg (λ z=>a)
nE a b c:=by show(eE,a,b,rfl,Zj.mp c)
nW a:=by ext pb a;refine (sq2 ?_);intros
nD:=(SA "pairs")
oQ a b c:=(uE a _ b c)
sO a b c d e f g:=(iJ a b c x d e f g ?_)
yD a b:=(Ap s.heap a b)
yM a b:=(fY _ a rfl b)
rW a b c:=wpAny rV X.A a b X.xe c
qT:=λ_ z=>(nomatch z)
nu a:=fB K a "__setattr__" "object.__setattr__"
uj a:=⟨a,rfl⟩
rT:=q.1
qX:=by simp;lia
xN a b c:=by have a:=(su_e b c)
ya:=by simpa using e
vn a b c d:=if (a<b) then c else d
o7 a b c d e f g:=by obtain⟨a,b,c,d,e,f⟩:84:=g
Hs a:=λ_ _ z=>a
pE:=.ref e
uH a b:=I.hok a _ b
BN:=P3 a
oM a b c d e f:=(hV 103 a b c d e f)
qu a b c d e f g h i:=(fb a b c d (fb e f g h i))
Bm:=P3 a b
oq:=(lK Unit)
AM:=P3 a b c
At:=P3 a b c d
oW:=(h.get? b)=(some o)
Bl:=(vQ V)
qC:=v::r
UX:=s∈al
Kq a:=(h.get? a)=(some o)
n7:=(l9 Int Int)
zC a:=(jv p a)
oy:=A0->Prop
vR:=by simp at e
Hy:=Pv f7
C1 a b:=.Call a b [] pos
NX a:=xay (pv a)
As:=(hF fG fZ)
og:=(iA A0 A1)
tW:=KV kvs vs
sy a b:=Outs t H a E b
uX a b c d e f:=xbo rfl a b c d e (λ_ _ _ _ _=>f)
wu a b:=by obtain ⟨a,b,rfl,h⟩:=h
wt a b:=by obtain ⟨a,b,rfl,_⟩:=h;rfl
nZ:=A0->(iA A1 A2)
nY:=(Eu A0 A1 A2 A3)
DD a:=ys.length=a
re:=λ_=>rfl
Oq a:=∃ t,(u=a)
Ef a b:=∀ n s,(a->b)
o5:=List Expr
qV a b:=(h.get? a)=(some b)
zuS a b:=(ps.find? a)=(some b)
wa a b:=(eG o a b)
sX a:=s5 _ _ a
uO a:=tp _ _ a
vU:=JC _
CJ:=(iH Value)
pB:=.str s
rS a b:=hN _ _ a b
rF a b c:=upd a b (.dT c)
rR a b:=(fJ a b q)
wT:=(iW rfl)
o8 a:=(mT rfl _ a)
vG a:=by show(pb,jI a)
pJ a b:=(hZ,Zc a,b)
DY:=s∈ss
DC a:=(zn rV a Q)
EK a:=(s.heap.get? a)=(some o)
pH a:=(rD 62 a)
pq:=Str->eF
Ui a b c d:=xao a rfl b c (i3 d)
Bt a b c d:=(oZ,a,b,some c,d)
ui a:=(Zi.mp a).1
sW a:=λ u e=>a
Bk a b:=(sS a (jI b))
pY:=Tups H H'
EB:=(X.env.cells.lookup x)=(some c)
vC a b c d:=(iR ys a b c ly d)
Dc:=Pv i Z H
yc:=itP w ss prs k
qU a b:=DGet.k (k:=(.inr a)) b
oU a b c d e f:=MB K a "__init__" "__init__" b c d e f
oS a b c d e:=MH K a "__init__" "__init__" b c d e
LR a b:=xa4 rfl (xw a b)
qm a:=λ D Z H=>a
zkq a:=HOk P w H a
Ee a b:=congrArg a b
qO:=J.1
pU:=by simpa using c
sQ a b:=by rw[a];ext fQ b
rX a b c d:=by obtain⟨a,b,c,_⟩:63:=d
HX:=(fK).y
vX a:=s3 _ _ a
rH:=.str _
qW:=X.calm=true
rq a b c d e f g:=by ext eC a b c d e f;refine g
DX:=(gk j)
qe a:=(mg a)=none
G0 a:=(so a)=none
DW:=room a
qz a b:=by refine (thn a b)
zwj:=xb8 fj rfl
uT a:=by ext iF e a a
qJ a b c d e f g h:=(iQ 86 a b c d e f g h)
qG a:=Jb X G a
qj a:=gb_2 X G a
tq a:=by ext Gq a D
sx a b c d e f:=by ext jL a b c;ext jL d e f
qF a:=(rD a 0)
yC a b:=.tup [a,.int b]
qb:=(zfL iw)
xE b:=vs=[fE,b]
rh:=(zr xs)
BC a b c:=(gU a H b c q)
zjQ:=(yK o)
zgN a:=.inr (.inl a)
wO:=valV kvs k
Ei a b c d e:=(MU a b (MU c d e))
rO a:=λ z hz=>a
Ua:=(C4 lR)
sv:=RelV v u
zkp a:=(pP a)->(zyd a)
tJ:=(gf kvs (k,x))
zwi a b:=by intro a s Z H b us Q I r h
pV:=xbs (xar ps) cs
qx a b:=Zz (xp a b)
E5 a:=by show(jB,wD false a,Z6)
zwh a b:=KasT.kasWp cmp a b s
AG a b:=by obtain⟨dx,a⟩:=b
KD a b c:=if a then (some b) else c
EZ a b c:=by obtain⟨⟨a,b⟩,_⟩:=(id c)
AY:=.ref hd
w4:=.ref q0
uB:=.bl _
tf a:=by ext eY a e
U4 a:=.str (kY a)
U3 a:=(H1 a)=none
BR a:=(eQ p a)
HN a:=(sG H' a)
vq a b c d:=(gb,a,b,c,Q d H')
uy a:=xq (xas a)
rE a b c d e f:=MB K t.C_a a a b c d e f
rP a b c d e:=MH K C_a a a b c d e
Go a b:=.tup [.str a,b]
tV:=(gf xs x)
rG:=XC K C
uN a:=(zu a H)
tF:=o.data=(.dict es ep)
BM:=pM 0
rN:=y::ys
zvj a:=valV kvs (.inr a)
Ct a b:=xba a (Al,(gk 0)<b)
rM:=w<=30
qP:=(sD x (ji "__debug__"))
rL:=h<=16
Bj:=xbv eJ
qZ a b:=xq (xan a b xac)
wB:=xau w ps srt
zpi a b:=xan (xa2 (V0 (lO a))) b xac
tK a:=a<s.heap.objs.size
xD a:=⟨q,a⟩
zh a:=⟨a,eA⟩
yU a b c:=by ext ig a b c
Dq a b:=by refine (Zb (m:=a) b)
uG a b c d:=by have a:b:=c;exact d
L8 a:=show a from r
yL a b c d e f:=by obtain⟨a,b,c,d,e⟩:45:=f
zSH a b:={ D with nx:=a,ct:=b,bk:=D.nx }
zV a b c d e f:=I.turned (t':=s.toks) a b c d e f
uM a b c:=by rw [a,b];exact c
uz:=by intros;rfl
uA a:=by refine (.inr a)
sK a b:=by show(eY,fH a,b)
F7:=.str p.nm
su a b:=if_neg (λ a=>b)
xO a b:=(mW a H b)
vF:=(fX l)
ux a:=(fV,(a).2)
zq a b:=by show(fU,a,rfl,b)
r8 a:=(xcj K a)=true
sI a b c d e f:=by ext gP a b c d e;refine f
Hf a b c d:=(upd a b c d)=none
Fm a:=(sD a sysModules)
xR:=i-1
yT:=iteT ?_
ub a:=Q (.int a) H
zG a c:=(mG b a c)
Gi:=.bl true
sj a:=(zoj a t.C_a4)
zbA:=.tup (k.map kV)
LM a:=(wV xbn a xaj)
L7:=(kf c u)
MT a:=ZQ (eA:a) eJ
rZ:=I.ok.hd hc
zgM a:=shO a crowd g
Gb a b c d e f g h:=⟨"",a,_,b,_,c,_,d,_,e,_,f,_,g,_,h,_⟩
tN a:=by show (zI _ _ a _ _)
sH:=(zkq h)
uf:=Hd % nJ
sV a:=by ext zwi a xs
xL a:=(zwh a G)
DB a:=λ σ' H'=>a
vv:=al++[s]
zpT:=(nS "lengths" I)
AL:=D.nx Z H
qci:=xcz (xb9 hr)
rY:=Tab t es L
si:=N->(iH S)
xV b c:=(oa a _ b T.c_a T.n_bo lkP c)
R5 a b:=lt (g p a) (g p b)
tP:=["picture"]
tM b c:=by subst b;show(ij,u=uK,c)
GT a b c d:=by obtain⟨a,b,c⟩:81:=d
Hc:=some 0
Nz:=some k
Ny a:=some (vN a)
yB a b:=(H1 a)=(some b)
Nx:=.str b
GZ a b c:=Inv X pins a b c
ud:=by refine (Zh ?_)
ur:=(fH c)
uP a b:=(fJ a b z)
Lw:=.inr pt.nm
w6 a b:=xo (ne_f a b)
uw a b c:=by show(gE,oO a b,c)
NW a:=(jw rfl a)
ziq:=.lst ys
uF a b:=(vA rb a b)
vO a b:=(0<=a)/\(a<=b)
CP a:=L.map (λ x=>a)
Ic a b:=(wV qci a b)
tG a:=fN K a "__getattr__"
tS a c d e:=(tI a c (kK d a e b u))
xX:=I.hok.fresh (Zk _)
tU:=x.d ρ μ
zXY a b:=s.heap.push (jt,a,.fields b)
FG:=(H' b)=none
yF:=RelV x v
vo:=RelV x u
uh a:=(zoj a C_a4)
Hr a b c:=by ext BF a b;exact c
wS:=ns++[nm]
wH:=(Bq,Ze _ e)
T9:=(G1 nm)
uq:=Gl X x
B1 a:=(tI,a,kC,(H' b)=(some u))
vb:=PrsL H prs qs
ua a:=λ(i:Nat)=>a
Ai:=SqL K H a xs
tL a b c d:=xbu ZS rfl a (pN b c) d
zsp:=Addr × Value
AK:=(LN m).j
uY a:=(ww,a,EP X pins Z Q)
tO:=K.In s.heap
vi a b c d:=by obtain⟨a,g,b,c,d⟩:=s
R9 a:=o.cls=(.type a)
ug a:=¬ (rC n a)
NV:=(s,l)
S8 a:=Nat->(Nat->a)
tD:=(iH,Int × (Str × Seat))
tZ a:=(gc iU iU a)
zQ:=(asked s)=(some a)
Ga a b c:=(gY a _ _ rfl b c)
SX a b:=∃ m',((m'<a)/\b)
Kg a:=by simp only[a,ZD,if_false]
tT:=S->(iH N)
uo a b c d e f:=(iC a b c d e f cg ct)
tz a:=fB K a "__class__" "object.__class__"
tw a:=fB K a "__getattribute__" "BaseException.__getattribute__"
zqK a b c:=X.blkG scope zs ys a b s H c
CA:=sp vs H Q E
qch:=([],0,.none)
yi:=Sts H do_ ss
tE a:=xq (xcd (hr.hd rfl) xae a)
zRs a:=Bf a ho name crowd al asked
zlO a b:=(zpi,xb0 (v:=(.ref _)) rfl a rfl,yo b)
zxJ a b c:=λ σ2 a=>(tb (zSH b c) σ2 a)
Xw:=λ l I=>(q _ l (kW I) I xh)
zQk:=by obtain ⟨L,M,rfl⟩:81:=(xc6 c)
tu a b:=by refine(mT _ _ (zgN (ir e _ od _ (ue,_,D,hod,xdx T J,rfl,(mT,xdb T J (j:=a) eJ,_,ite2 vM (iy b))))))
GY a:=a=ps.length
Ao a c:=if b then a else c
vE:=List G
zF a b:=eR->(a->b)
vm:=Jy.refl _
wf:=f+1
y9:=(gk k)
xK a:=(fO p a)
Op:=P4 a
xi:=(fX Y)
Nw:=P4 a b
yS:=xax P w
xb:=Jl _ _
L6:=P4 a b c
Lv:=P4 a b c d
zjP:=lno gH
DU:=(iy y)
we a:=by show(fc,_,a)
wb:=H b
vZ a c:=λ b a z=>c
va:=xax X.prog X.w
uZ:=Array DictEntry
uW:=(h'.get? b)=(some o)
NU:=own n
zE a b c d e f g h:=(iQ 105 a b c d e f g h)
vY a b:=(sP D a b)
vT:=p::r
zj:=(k,v)
vD:=2 ^ 64
vc:=(SA "names")
xa:=(zfL k)
SW:=.int 0 0
yW a c:=λ b o a c=>?_
Ag a:=(t.slot a)=.empty
yx a b c:=(atI a b)=(some c)
MS:=(DE zwk)
zzf:=F i y H'
vt:=(BS te)
Nv:=(Eo v)
vS a:=by ext yJ xt a
xQ:=a=b
zdk:=by show(ij,v=(Zl _),D)
zBi a b:=.hand a b asked s
vd:=frs X.stack
Vw a b:=leap mask a b
vk:=(eP e Jq)
zd a:=by ext wW b it a
B8:=es'.map (λ x=>(Zl iG))
B0 a b c d e:=⟨126,a,_,dx,_,rfl,b,c,d,(U5 e),?_⟩
wN:=Z.set i ku
vj:=PE X a ta
vP a b:=by ext nF a b q h
zfa a b:=(zzu (sD (ji a) b))
uU a:=by exact (xcq T.kits (i:=a) (Al,a<13) hj)
xZ:=shR rent asked g
wM:=xau M ps C
uV a b c:=by obtain⟨_,rfl⟩:=D;ext fU a b c
X5 a b c:=(bindArgs a (mh b))=(pure (YY c b))
zpS a b:=(xai dx 1 a)&&(xai dy 1 b)
OF a b c d:=λ_ _ _ _ _ a b=>(c:PG _ _ (gTup K d _))
zCL a:=(zed (wn,hdx,t.C_g,xh,T.mk_g,Z (.noSides _) a e _ (xa7 rfl rfl I hdx)))
IH:=Geo.upL pt.x pt.y r
zmO a b:=envOfC qual a s.heap.objs.size f b
zQj:=xat eJ (xat eJ xcl)
zlh a:=by ext zQk;show(eE,dx,D,C,O.dx (λ z=>(nomatch z)));exact a
Ie a:=pC (ok_l T) hr T.l.g T.l.F.kp T.l.b (hF zwk a)
zU:=Gvn H lg prs qs h
xH:=nd.2
zB a:=(jr a).2
NC a b:=by ext iF a b b
MY a b:=by rw[a,b];lia
zcJ a b:=if a then none else b
RS:=by simpa using this
wZ:=List DV
DT:=.ref t
wX:=(iH Er)
Bi:=(gk 1)
wG:=.str "both"
L5 a:=(X.mg a)=none
Vv:=own a
yR:=λ z=>?_
zA a b c d:=by have a:(b=c):=d;subst a
xG a b:=(fJ h' a b)
EX:=b≠X.env.locals
zw:=1<=i
Nu:=rent s
DA a:=(wC (ju a))
Sx:=Q .non H'
CZ:=(sM leS3)
yb:=(ju xs.length)
MR:=(kY p2)
MQ:=(kY p1)
Dp:=s _ _ e
ztv:=Int × Value
xC a:=(rD 52 a)
yA a b:=pS a sc_ak.nd b
BB a b c:=(1<=a)/\(b<=c)
DS a b:=by show(je,⟨a,b⟩)
UW:=Ze _ q
w8:=xds eA
xP:=x=y
BH:=by ext pQ c
Bs a b c d:=(lX a b c d .non)
xB:=x::xs
wL:=(gf X.N x)
yQ:=(sr nm)
xJ a:=(Eh R a)
HM a:=(Eh nb a)
zm a b d:=(kK a b d c u)
MP a:=(sZ crowd a)
wz:=[.str "done"]
GQ:=s _ _ h
zio:=rent gG
zsC a:=Run room a so ho cs
zaO a b:=Run (xbj ps a) b so ho cs
Fh:=(so z).isSome
zdQ:=XN e C none
RM:=.bool false
LL:=xeq scope
Mh a b:=(zuS,λ p=>a,b)
LK:=(uJ C fs)
wF:=Pl H ps kvs
yw a b c:=wpAny jk A a b E c
L4 a:=intD (.int a)
Ad a b:=OpR X (compareOp a) b
wK:=k _ _ jO e
zko a b:=GPr ps a b prs
T7:=(zvj nm)
xA:=q::qs
UV:=zs++ys
wJ:=(l9 jA zsp)
AJ:=(zgM own)
FH:=by simp at e;ext iL
F6:=(gf ys y)
wE:=N->(List S)
GX a:=xcs (xa2 a)
Bh a b:=xcw oF a b oY
Ar:=(NJ vM vM)
S7 a:=λ c u nc e=>a
wv a:=.inl (Eg _ (ft a))
Cj a:=∀ x c,(EB->(c≠a))
zOS a b:={ cls:=(jK a),dict:=none,data:=b }
EQ a b c d e:=(K.lookup a)=(some (fh b c d e))
Co:=es'.getD i qch
Lu a:=xaa xcc a xt oY
wp:=relabel scope X.env
yd a:=by ext mC;exact (tld1 gH a)
Rs a b:=.ask crowd asked a b
CY:=(l+r) / 2
zxI a b:=(Ui a T.n_len Qh b)
wm:=["self", "name", "x", "y"]
wA:=xb1 oH kO ps
Kh a b:=Sg t a p d1 d2 b so ho
qcg:=(lv oA)↔UX
KR:=(zqK C ex pn)
wI a b c:=λ i x a b c N hN=>?_
zsB a b c:=xc7 (v:=(.ty a)) rfl b c rfl
Fb a b:=by exact (JG a I.kIn b e nB h)
zMS a:=#[(.int lo t),(.int hi u),(.int a v)]
D0 a b c:=(a=(some b))->c
zeZ a b:=s.heap.IsTuple a b
Br a b:=by refine a;refine b
yI a b:=by obtain⟨e,a⟩:=b
ye a b c d e:=by obtain⟨a,b⟩:=c;ext fc d e
yG a b c d e f g:=by obtain⟨a,b,c,d,e,f⟩:103:=g
AO a c d:=∀ b o,(a->(c->d))
Dz a b c d e f:=by obtain⟨a,b,c,d,e⟩:64:=f
IB a:={ s with heap:=a,toks:=tk }
yh:=λ_ _=>False
xY:=by simpa using h
ziR a:=∀ H',(gu->a)
yE:=∀ s,qcg
Um a b c:=DGet.t (k:=a) b c
y8:=some i
yP:=.ref it
zv:=pv 8
zb a:=by exact (Zj.mpr a)
zin:=(fe hn)
zim:=(fe wc)
zil:=(fX pz)
MO:=(fV jh)
N2 a b:=a=(decide b)
zy a b c d e:=by have a:(b=c):=d;refine e
AX:=(lK CJ)
AW:=(iW ?_)
Nt:=lens n
zD:=by simp[ih]
y0:=YD rfl
Gh:=s1 _ _ e
yV a b c d e f:=MB K t.C_ag a a b c d e f
zk a b c d e:=MH K C_ag a a b c d e
zx a:=λ b e=>a
Fj a b:=(Zw K gZ a)=(some b)
yZ:=(jn e)
zp a:=λ p hp=>a
Ab b:=(h.get? a)=(some b)
yr a:=xq (x0 (pv a))
Et:=by ext pQ j
Aa a b:=(rJ,t Z H (λ a H1=>b))
BY a b:=by ext rQ rb a b
Bv:=by exact (Zu e)
Db:=(ve xbw)
zZ a:=(t.slot a)=(.live i)
zkn a:=a+(jT*(-1))
AV:=(BU qQ)
RL:=.Name x pos
ym:=ns++[pt.nm]
UU:=xaf uC
zo a:=λ s hs=>a
BQ a:=(yy,0<a)
F4:=hasN ps d
Hq a:=ag ρ μ a
xT:=by refine (gx ?_);refine (fq ?_);intros
xW:=by rw[Za];exact (xcx eA)
yY:=(EK d)
Da:=xba _ eJ
yu:=(G0 name)
zeI:=Same H2 H'
yO:=Arr n p
zg a:=λ i y H=>a
zt:=by ext E5 c
Bg a b:=(KD a b none)
yX:=(U3 l)
zik:=Q gS H2
Cb:=sIx items.size 0 lo
Cm a b:=xc0 X a (λ xs H Q=>b)
Ib a b:=PI X tg a b
zbk:=pyNext (.ref it)
zxH:=(tX l ziq)
Fu:=putK kvs k v
CL a b:=TyOf K H a (jK b)
yN:=(e,f,h)
yt:=a.lt _ eA
F8 a b c d:=(hV a b _ rfl c d ?_)
zwg a b:=Kp.Mt (xbg lens) a b
yH a:=(gc jy jy a)
yg:=by simp at h
yq:=Thg H x dx
BO a b c:=by ext wP a b C c
za a:=by ext tR o ho a
yk:=(c / 8) % 9
xS:=(Rt,qw,(false,yj)::(starEach es X.env))
zaA a:=(Gv D uu (h8,ifN gH a))
AZ a:=Z4 (Zu e) a
zcg a:=(zXY "range" (zMS a))
B7 a b:=by rw [Zf,Zg] at hx;ext oK a b hx
zbz:=1+((M / 8) % m)
zP a b:=Kp.Rch a b (.fin so' ho')
Fe a b c:=by obtain ⟨a,b,c,rfl,h⟩:=h
EO a b c:=by obtain ⟨a,b,c,rfl,_⟩:=h;rfl
yp a b:=xcm (xan a b xac)
Cs:=btw r1 y2 r2
Ah:=btw r2 y1 r1
xU a:=by show(ID,a,iteT (iteT (zCL,J rfl)))
OA a:=(qy,a,T.c_a,T.j.m,ok_j T,fA,T.j.b,xv)
Lz a b:=IsZip a z TI TO b
zll:=(zOS,"set",.set (#[]) 0 (.fresh 0 0 x))
Ca:=.Tuple elts x1 tpos
zbj:=tSeq t1 u2 d s H
zbJ a:=ha pos a s Z H _ I h
zJ:=["self", "name", "x", "y", "sides", "low", "high"]
Be a b:=((a).length)<=b
Cv a:=by simpa using a
Bz a b c d e f:=by have a:=b;ext eK c d e f
Au a b c d:=by obtain⟨a,b⟩:=c;exact d
Du a b c:=by obtain⟨i,a,b⟩:=c
Bp a b:=by rw [a] at b;cases b
LJ a:=show a from ry
KF:=by simp only[if_true]
HW:=#[v]
zW a:=["_law_cell_here", a]
zS a b c:=by obtain⟨⟨a,b⟩,_,_⟩:=(id c)
Ha:=some T
Bx a b:=a->(b->Bool)
Bd:=.ref T
GP:=.ref ln
Do:=.ref pz
BL:=pv 9
Bw:=pv 10
BP a:=s6 _ _ a
DR:=.int 1
Nr:=.int r
Ev a b:=(a&&b)=true
Ls:=.str pt.nm
DZ a b c d e f g h:=by ext eE a b c d;ext eE e f g h
Bu a b c d e:=by ext eK a b c d;refine e
Bc:=(fX D)
Nq:=(fV e)
HF a b:=(hR,a≠b)
Bb:=K.In h
UT:=(jr e)
AD:=(lK Bool)
Ba:=.inr x
CW:=model P w
GO:=(h8 ?_)
AI:=Array ztv
BK:=Zc c
AC:=(vQ Bool)
Ac:=(um "picture")
KQ a:=(X.mg x)=(some a)
R4:=Zq.mpr rfl
Eb:=toP p
D3 a:=(zn M a Q)
GN:=iteF ?_
E9:=(l9 Str Value)
A5:=by show(je,rfl)
zkm a b:=λ h' a=>(iW b)
BJ:=x=fE
OP:=(vN "object.__class__")
zdz a:=ps.find? (λ p=>a)
Cg:=names.length<=12
BX a b c d e f g h i:=⟨"",rfl,a,b,λ c d e f g h i=>?_⟩
BI:=x::l
AB:=y.d ρ μ
HE a c:=λ b o a g=>c
zfu:=.Name x p
A9:=xaq As
DQ:=(AF e)
MN:=(BT hk)
AN a:=by show(ID,a,iteF q)
AU:=(xr xh)
VB a:=(hR wR)&&a
Ea:=g i j
B9:=Kp.kstep room so ho
AA:=PE X o td
DP:=.dK []
zO a:=(rJ,ta Z H (λ x H1=>a))
C9:=(nR b u)
A8:=(NX 1)
zL a:=upd a d (.frz ob (.dK kvs))
Sw:=Sem Value
Af:=nxtP w ss prs
GW a:=∀ i,(lS->a)
Ae:=(l9 κ Value)
NH b c:=(gL x fE b c)
FF:=(ho s)=none
Ci a:=(jt,"tuple",.seq a)
zso:=(X.fn x)=true
MM a:=xct fj a rfl
HD a b:=(jf a H I b)
Az:=PA X qw t
ES:=Kp.upd1 asked s a
zxG a b:=call (.builtin a) b
zdy a b:=by rw[Zy,(zzu (rC (ji a) b))]
PL:=(so n)=(some s)
Iy:=ps.filter (λ p=>(hR wR))
Aq:=K w.params
Lr:=⟨rb,k⟩
RK:=Seat × Int
BW a b:=by have lt:(j<a):=b
A7:=s∉al
LA a b:=by rw [a,b] at e;cases e
An:=Vals dvs ds
AT a b:=SetT knd a d b
Av a:=(ir _ _ _ _ a)
AS:=(zsC ns)
zwf a b:=(SX,m,W f7 m' a b)
Am:=xbr ky ad i
zT:=by simp only[ZD,if_false]
BD a:=.n (.f a)
A4:=by exact (ih ya)
Ay:=(eQ z hz)
zM:=Array (Option Value)
RR a b c d e f g:=xcn a (LR,pN b c,tQ d e f g)
zY:=xb2 X.K fd ps ds
A6:=St->XK
D9:=Ua-lR
ztK a:=if a then 0 else 1
Aj a b c d e:=λ a b ⟨1062,c,d,e⟩=>?_
zX:=λ_ _ _ _ _ z=>z
zUB a:=by let Pm (σ':L2.St) (H':Hp):Prop:=a
zdj:=eval a X.env
Lq:=(hF fZ gV)
KP:=eval b X.env
BA a:=by ext iF a h h
zMb a b:=.Call (.Attribute o a apos) b [] cpos
NF a b c:=by show(o6,σ',H',a,b,c)
Ax:=.cons r t
zmN:=(uI O s2.heap.objs.size)
zN:=∀ b xs,(zkp ro)
AH a c:=λ i h st b a=>c
Ez:=∀ o' u',((X.H₀ d)≠(some (.frz o' u')))
Ak a:=by exact (gM _ _ rfl a)
IS a b d e f:=(gR,c≠a,c≠b,c≠d,e,f)
MX:=by have q:=(q no)
IF a b:=(Pg true a xcu (jw true b))
EM a b c d:=(BE Y ns a (gX,b,eJ,eJ,λ c=>d))
zR a b c d:=⟨a,a,_,_,b,c,eJ,eJ,_,rfl,d⟩
zK:=pC (ok_aq T) hr T.aq.g T.aq.F.kp T.aq.b (lO xt)
HV:=hn.1
C8:=T.size.2
HU:=(qcj).2
ziQ a:=by rw[a];simp only[]
En a b c d e f:=by have a:=b;ext fR c d e f
CC a b c d:=by obtain⟨a,b⟩:=c;refine d
Ho a b c:=by refine a;ext gE b c
Cl:=λ_ _ _=>False
IQ:=by simpa using hb
CI a b c d:=∀ h',(a->(b->(Q c d)))
Es:=(NA).j
Gu a b c:=DPut.k (k:=a) b c
zqJ a:=∀ b∈crowd,(b∈a)
Ed a b:=(decide a)=b
DO:=List N
T5:=.ref qs
EU a b:=(s.heap.get? a)=(some b)
Df a b:=(H9 a)=(some b)
U2 a:=a=(some er)
zxF:=.noSide _
Gt a:=.int ((a).sum)
Dn:=.int ph
DN:=b=true
D8 a b:=by show(eY,lB a,b)
Mg a b:=(fO,a,.tup b)
zBh:=(fe hs)
DM:=(fe q)
zBg:=(fX la)
Gn a b c d:=xg a (xg b (hF c d))
DL:=(fH q)
Dm:=(fH eA)
ML:=(BV s')
C7:=.inr rfl
C3 a:=(Yg K a)=true
C2 a:=(Yu K a)=true
DK:=b≠dp
Hx:=xbx e
D7:=xbh e
Gg:=er.cls t
D6:=vs=pK
US:=Q v H'
Ft:=names.take i
Oo:=Zx n
Dl:=(vQ eB)
D2 a:=gb_1 X G a
D1 a:=gb_3 X G a
Ex a:=by ext jB a eS
C6:=(um "x")
Gm a b:=(kf,a,.tup b)
Kf:=(ju kvs.length)
E8:=A.handled=none
EY a:=(h'.get? a)=(some o)
Hw:=Zh ?_
Cu a:=ha a s Z H _ I h
B4 a:=by ext pb a;refine (sq3 ?_);intros
Fx a b:=s.TypeIs (.ref a) b
DJ:=by show(iY,rfl)
E7:=prs.length<=12
DI:=(kh 0)
Ej a b c:=(ir a b _ _ c)
zij:=2<=1000
Uh a b:=by ext nK a;ext nK b
HS:=1+DX
On a:=(rg Zf a)
zBf:=Tp H H'
CV:=Str × eO
Dk:=(qH hb)
zec a:=valV kvs (xaf a)
CO a:=(Ds a trivial)
Dj:=(w+1)-x
B3 a:=by ext AE a;refine (sq2 ?_);intros
Cf:=Kp.Mt room so ho
C5 a b:=by rw[a,b] at z;ext lT
Fv:=by refine (Zb (Zh ?_))
DH:=.dT []
Di:=uC∈ss
MK:=(B2 t')
zSG:=([]:List Keyword)
CB a b c d e f:=by ext xN a b c;show(eK,d,ug_e c,e,f)
L3:=XD dx fs
Gk a b:=∃ o,(a/\(R9 b))
Cd:=(pT,X.A.units+1)
EG a:=upd a d (.frz ob (.dT kvs))
Em a:=(Ee YI a)
FO:=(gf prs p)
CU:=(kG q he)
FE:=blk0 Z fr n
Ko:=s.heap.push zll
D4 a b c d:=by ext EZ a b c;refine d
MJ:=(HN s')
Uf a b c d e:=(iu rfl a b c (eQ d e))
F9 a:=λ i j=>(.int a)
Ml a b:=by have:(a=b):=eA;ext Ec
El a:=λ x hx=>a
CH:=totI w prs
Np:=(Fm a)
Cz:=Room q0 k A
Dy a:=[.str a,v0]
CG a b:=by show(rQ,sM leS1,a,b)
zdx a b:=(uQ,xt,x9 xa0 a b)
CT:=(zRs room)
Cn a:=(zlO a (hF xaj zwj))
Om a:=λ j hj=>a
CF:=by exact (jo .non)
Ek a:=ZE (Zu a)
Dh:=Itl K a
Cr:=(gf crowd a)
Lp:=crowd++[h]
Cy:=(O5 pos es)
E2:=(gF h g d t os)
Ce:=Fun K x q st f fd
Sv:=ox.cls=gZ
CS:=w_ev x ..
Ck a b:=by refine (Ji a b (Hs z.elim))
Vu a b c d:=by show(gP,a,rfl,b,c,xcf d)
VA a:=(zxI xcg a)
DG:=xdw ry
Pu a b:=(findIn K gZ a)=(some b)
CN a:=(Bk (LM qY) a)
S6 a:=xb2 K fd a []
R3:=env::outer
PZ a:=∀ p∈CK,(fK≠a)
D5:=C x v
Dg a:=by show(jB,a,Y0 _)
B6:=o.setIfInBounds j Nz
Fw a b:=xdl xbn a b (xal _)
qcf:=(nS "own" D)
FS a b:=(mS (iZ a) rfl b)
DF:=by ext wt e v
Kt a:=by ext zUB a;show(kR,Pm,?_)
zii:=xd7 hdx
zih:=[a0,a1]
zLw a b:=∃ N:sA,((∀ σ' H',((N σ' H')->a))/\b)
zbi:=#[en.key,en.val]
zKp a:=[a, "_law_deed_here", "_law_short"]
Dd a b:=xab (o:=a) lU b
Cq:=(l9 vK Addr)
F3:=(gf qs q)
CQ:=PE X b tb
Cp:=(Dt "x" "y")
zeH:=start N vs
Ew a b c:=by ext NI a b c q h
Cw:=(lo+hi) / 2
Cc a:=(Gv u oG (h8,ifN gH a))
KU a b c d:=(oa pz dx a T.c_i b c d)
Ks a b c:=(hU ys y)->((hU a b)->c)
zcf a b:=Jn hz rfl (x:=a) rfl b
Dx a:=λ c xs q=>a
EF b c:=(oa a dx b T.c_a T.n_cc lkW c)
Fs:=xdz I.hok eb
CD:=(zwg so ho)
zeG:=[a0,a1,a2]
Ch a b c:=let d:=D; (Dw s Z a b c)
UR a b:=λ i H R _ a=>b
zrP a:=(h8,ifN gH (iteF a))
EC:=sIx items.size items.size hi
Pq:=(gX eA eA eA eA)
OO:=(y.2-(I b))-(C y.1)
BZ a b c:=by ext wu e v;show(pb,xq (xb6 fj fG rfl));ext qL j;exact(sR e a b c (Ds j q))
zcA:=[a0,a1,a2,a3]
LQ a c:=(iR b o e n a c)
zni a b c d:=(near a b c asked crowd)=(some (g,d,s))
zlk a:=.ListComp elt [(fh a iter ifs 0)] scope pos
B5:=BlkG X scope zs ys fr
EJ a:=X.s₀.heap.objs.size<=a
Hm a b c:=(a=(some b))/\c
Hl a:=⟨ob,a⟩
E1:=["_law_script"]
F2:=by ext vR
RP a:=by simp at a;lia
HL a b c:=by rw[a] at b;refine c
Hk a b c d e:=by refine a;ext fR b c d e
GV a b c:=by obtain⟨j,a,b⟩:=c
FQ:=by by_cases e:(fK=k)
Hj a b c d e f g:=by obtain⟨a,b,c,d,e,f⟩:65:=g
zdw a c d:=∀ b o,((b≠a)->(c->d))
He a b:=by have:=a;ext iP b
Hi a:=by have:=a;ext RS
FR a b:=by have:=a;rw[b] at this
FU a b c:=by obtain⟨a,b,_⟩:43:=c
GS a b c d e f:=by obtain⟨a,b,c,d,e⟩:102:=f
Fi a b:=by obtain⟨_,_,rfl⟩:a:=b
zcz:=∀ b∈fp,FG
znl a:=∀ b∈fp,(FpOk X pins a b)
FJ a b c d:=∀ x H',(a->(g x b c d))
SV:=∃ d,Nv
S5 a b c:=by rintro (⟨a,b,c⟩:62)
Gf:=(UV).Nodup
F1:=List Bool
FZ:=List Stmt
GM:=List vK
No:=.ref f
zBe:=.ref dq
zgL a:=a=(some true)
G9:=.int x
HK a:=(iA a eV)
MW:=by refine (Zb ?_)
G8:=(fX M)
GL:=(fX sc)
GK:=(fX a0)
HR:=ZH h
G7:=(gz e)
Ia a b:=by show(fU,a,b,rfl)
Fa:=by refine (iq ?_);intros
GJ:=Zr.mp b
Hh a b c:=PE X (zMb a b) c
HQ:=xo y
SU:=(i3 xaj)
HC a b c d:=(fS,a,b,1<=c,d)
NK a b:=by rw[a];exact (xdo b)
Rr:=crowd.take i
G6:=s∈DW
Fq:=Zx as.length
GI:=Zr.mp f
GU a:=x9 xbd a xt
GG:=(kX Bn)
G5:=.a x y
zgK a:=[("width",a)]
Hg a:=(sP D 0 a)
Hv:=(b,o)
RO a:=he a s Z H _ I h
FY:=Nat->Addr
GF:=Nat->sA
GE:=(pL pA)
G4:=(kU e)
NT:=i<=ph
HZ a b c d e f g h:=(kT a b c d e f ⟨g,h⟩)
zrO a:=(Ql K (.ref a))=true
Vt:=g p i
GD:=(zr vs)
G3:=b∉ch
GR a c d e:=(uR (Hf a c d b) e)
MI:=(uc Za)
FX:=xc5 kvs k
GC:=(BU nG)
zkl a:=cans w ss a
GA:=(BT hp)
Ol a:=(zH a eS)
K7 a:=(decide a)=false
FW:=PE X o to
zeF:=hasN ps hJ
HJ a:=(By kC a)
zig:=intD dl
K6:=X.clo scope
G2:=(Kq d)
FD:=xbb H cs qs
KC:=(Oq,YR i t)
FN:=I.pin p hp
EW:=(pT,A.units+1)
zby:=crowd.map V.str
LI:=(gf ps p)
Fp:=nxtP w ss yc
E6:=s.heap.push JT
Vb a:=by show(AG,a,k.ins)
Gz:=(BR hp)
Gy:=vs=[AY]
EV:=zp4 s.heap t1 t2
Hu:=a≠b
E4:=by refine (J8 hd hdat ?_)
E3:=by refine (Yj hd hdat ?_)
zBd:=p.nm=nm
Ge:=(NW rfl)
FV:=W i m Z H
EL:=h.Ns mainGlobals mg
zdi:=ns.map V.int
Hz a c:=λ b u a z=>c
zgJ a:=a->(iA Hp VK)
ER:=Loc X.env.scope x
HY b:=⟨"",a,b,_,rfl⟩
Gj a b:=Xat a e gZ od b
Kn a:=(kX,.tup (prV a))
Kv a b c d e:=(oN a b rfl (iz c d) false e)
EA a b:=by show(zlh,oN e _ dx _ L (kT D C a b lk_1 rb Xw))
HP:=L iw
ST:=.frz o u
Fy a:=(JQ K a Wd)=true
FT a:=ZY a s.heap h'
Ii:=s.heap.push (jt,"dict",.dict (#[]))
Gd:=name::hs
HI a b c:=(ir _ _ a b c)
FC:=Vals xs its
MG:=t Z H Q
FB:=(yM lY rfl)
FA:=(zaO srt pG)
Fl a:=(BC,.int a,rp,lA)
Gc:=(Rs i j)
Fk a:=by show(eE,p,a,e,Zj.mp m)
FP:=by rw[Zs,ZM] at nd
Fd a:=∀ p,(ut->(Q iX a))
Fo:=.str name tk
zqC a b c d:=(swapsWith a b c X.env)=(pure d)
Fg:=(zmO scope cd)
K5:=KT H kvs xs
FM:=xet CX X E
EE a b c:=by refine (xce (xs:=a) (Pv:=Pv) b c ?_ ?_)
Ey:=zso\/((X.env.scope.names.lookup x)=(some .local))
zaN a b:=ifN (decide_eq_false a) b
Pb a b:=by have a:(kvs.length=vs.length):=b
zsn:=names++[name]
Gs a:=(gc nA nA a)
HH a:=by ext iF a z z
HG a:=by ext gQ a b b
FL:=Thg H y dy
Fn:=PtsL H ps qs
Fz:=xai dr 1 ph
ED:=(rC apos.endLine cpos.line)
FK:=(mV hi lo)
Gr a:=lcg mask a i
X4 b c:=(oa a _ b T.c_a T.n_b6 lkH c)
EI b c:=(oa a _ b T.c_a T.n_cg lkO c)
IZ a:=by rw[Zf,a] at hb;ext qK hb
znt a b:=(Q σ' H')/\((σ'.length=a)/\b)
zQi:=("placed",V.ref dp)
zOR:=("opened",V.ref do_)
SE a b c:=(uX a b BM Bj oX c)
FI a b:=by refine (YA hp (thn a b))
ET a:=⟨"",rfl,uu,rfl,D,_,a,_,rfl⟩
zKo a b:=∃ W:(S8 sA),((∃ m,a)/\(∀ i m Z H,b))
Fc a:=(zLw (zwf σ' H') a)
zRr a:=xaa (r:=(rIxT K)) xcc a xt oY
EH a b:=(kstep room so ho a)=(some b)
V6 a:=(qy,a,T.c_a,T.n.m,ok_n T,fA,T.n.b,xv)
zMa:=λ e s'=>(R (.error e) s')
E0:=xcv (xat eJ zQj)
Xn a:=(attributeBase o a X.env zjQ)=zjQ
KA:=at2 dEq ds es
zpp a:=by refine (xf6 a (fW i y b hy hb))
VO a b:=⟨a,I.os,I.bare,I.base,I.loc,I.cell,I.free,I.freeC,b,I.hok,I.len⟩
OM a b:=∀ ys H2,(gR vz zxH (DD a) b zik)
Id:=X.blkG scope zs ys s3.heap.objs.size fp s3 zmN CK
EN:=pzF a dl d_o d_r p
zmt:=(Aw u3 t3 u4 u2 t2 zbj)
NS a:=(a:Shared)
NR a:=⟨h0,a⟩
Oj a:=⟨o,a⟩
zkk a:=⟨#[],a⟩
zjO:=[name]
Oi:=ok.1
Oh:=(Bo).2
Lo a:=by rw[<- a];rfl
La a b:=if a then _ else b
ziP a:=∃ vs,(tW/\a)
N5 a b:=by refine a;refine b
NZ a:=by have:=a;ext Ec
Ka a b:=by have:=a;ext iF b this this
IX:=by simpa using m
zbh:=by simpa using f
LP:=by by_cases q:(g=f)
NQ a b c d:=by obtain⟨a,b,c,d⟩:=o
L0 a b c d:=by obtain⟨a,b,_,c⟩:63:=d
LZ:=(pG).Nodup
SS:=by omega
Og:=(fK).x
T4:=some hJ
MF:=some Gi
T0:=.ref la
Mf a b:=(H5 a)=(some b)
ME:=.refl _
Of:=Yn _
Nn:=.int c
Nm:=.int n
Nl:=.int w
zif:=.int Bo
Nk:=.str a
UQ:=lens a
M0 a b:=by exact (congrArg a b)
Nj:=(fe e)
MD:=(fe c2)
Ni:=(fX C)
zie:=(fX q0)
MC:=(fX ln)
MA:=(fX T6)
zrN a:=(h'.get? b)=(some a)
Mz:=(fH c2)
Oe a:=(sG a s')
UP:=(gz a)
Od a:=ne_f a hx
TZ:=.inr nm
Nh:=Z1 _ _
zsm:=.noWindow _ _
zze:=P5 a b c
zwe:=P5 a b c d
Oc:=1<=x
Ob:=ho s
Ng:=isNm s
zdh:=i<kvs.length
NP:=i<len
KO:=i<es'.length
My:=(mw H5)
LY:=X.hand e
N4 a b:=by rw[a];exact (Zh b)
Oa:=ck c
Mx:=(pP zbA)
Ke:=(H' b)=(some u)
NO:=Zc hj
Mj a b:=by intro a s Z H Q I b
zgn:=L.take p
zgm:=L.drop p
zgl:=(k,x)::r
Nf:=(kY r)
IP:=Int × (gK × gK)
S4 a:=(uJ t.C_ag a)
Nd:=(jN w)
Mw:=(kX zbA)
N9:=kV k
zxE:=.noSide x
TY:=(jo lY)
N1 a b:=(wV xh2 a b)
Mi a b:=by ext jq a;ext kQ b
Nc:=Ze _ g
K4 a:=ho a s Z H _ I h
Nb:=2 ^ 63
LH:=Nat->Bool
Mv:=Nat->vK
Mu:=Nat->Bl
N8:=0<=i
Ms:=(pL vw)
TX:=(Gw vH)
K3 b:=(∃(a:A0),b)->C
IK c:=(∃(a:A0) (b:A1),c)->C
Iw d:=(∃(a:A0) (b:A1) (c:A2),d)->C
Il e:=(∃(a:A0) (b:A1) (c:A2) (d:A3),e)->C
Mr:=(m7 hp)
TW:=(m7 hx)
zpo a:=(Zw K gZ a)=(some none)
zkj a:=by refine (Zb (YB a))
Na:=ps[i]?
N3 a b c d:=(qN,a,b,c,.int d)
Mc a:=by ext lF a;cases h
KN:=[.str pt.nm]
Vs:=xs[j]
NB a:=by show(mF,a>>=_)
zgk:=F i y H2
zjN:=xaf iG
Km:=(zi xs.length)
zfK a b c:=(V0 (lO (zsB a b c)))
TV:=(sY qQ)
KM:=PrsL H ps qs
zeY a b:=(Rt a [(false,b)])
M9 a:=(O5 cpos a)
Lm:=.bool true
TU:=(k-1)-i
KL:=SqT K H a xs
IY a b c:=xbu ZS rfl a (xa4 rfl b) c
M8:=(Kq a)
KK:=OutL H cs qs
Su:=(nR b xs)
Me a b c d e f:=⟨"",a,b,_,rfl,c,gB,a,d,e,_,_,ps,f⟩
Rw a:=xq (xct fj a rfl)
NG a b:=(DC (zxG a b))
K2:=Sd H ps kvs
LG:=.str _ eJ
NN:=.f f0
LF:=MkOk mask
R1:=turns mask
Ly a b c:=by obtain⟨a,b⟩:=(Zi.mp c)
M7:=p∈ps
zki a:=pure (Qb a)
I0:=by exact ((L8 False).elim)
Lx a:=by exact (.inl (.inr a))
zzt:=by ext Kg if_true
K1:=s1.trans s2
LX:=(jj a o)
NM a:=λ c u e=>a
LW:=Pv 0 Z H
IW:=.unbar s r ds dr
Kl:=.bar s r ds dr
LE a:=(zxJ H2 N a)
IE:=Geo.lvL z pt.x true r
IA:=Geo.lvL z pt.x false r
M6:=x.d μ
N7:=n+30
PX:=x≠"__name__"
Lk:=λ_ _ q=>q
IM a:=by refine (io ?_);intros;refine a
Mq:=dEq d e
Md:=by ext jq r;rfl
UO:=(MP a)
MZ a b c d:=Un a b H c s.heap d
Kd:=(Eu V eB Hp VK)
Kk:=(S7 (jp nc e))
zbx:=AllBare s'.gens
Lj a:=.inl (SqL.of a)
N6 a:=Zh (Zh a)
OB:=(X.env.cells.lookup n)=(some c)
zsA a:=ty Z H1 (λ y H2=>a)
zkh a:=(zaA (zaA a))
Mp:=b::rest
M5:=us++ds
MV:=by exact (YD rfl)
zuR:=xs.getD k 0
LD:=XO e C od
Ss:=(zpS pw j)
LV:=(Kh H n)
M4:=xcb dx
TR a b:=by simp[a,JX,b]
Li:=(zqJ names)
zfJ a:=.bl (decide a)
ziO a:=(rK _ rfl a)
LC:=(jj e zdQ)
LO a:=by ext jq rx;exact a
NY a b c d e:=⟨"",rfl,a,T.c_a,b,c,d,e,_⟩
Kc:=(ho s)=(some h)
IL a:=by rw[(fH a)] at hm;ext qp hm
Rh:=Zj.mpr (zC b)
IV a:=.dT (al.map (λ s=>a))
Mo:=(zlk tg)
Lh:=97+i.toNat
M3:=a == b
zeE:=(i9 p.y y)
K0:=(jN,5+jT)
zUA:=[("picture",fE)]
ND:=by ext mX b v
zkg a b:=(gU a H I b h)
zdg:=(sC (DE fj))
KJ:=(oC H3 D [])
Rv a:=PE X (C1 zfu qw) a
IC a b c:=(oa a dx b T.c_ag T.n_cf hlkP c)
Kj:=X.tryc pins xe
zXX:=(GZ σ' H' s')
Iz:=["name", "side", "row"]
Pp:=bubble p k (k-m)
KE:=by cases (kM u uK rx)
zqb a:=Room q0 k (A.deeper a)
KZ a:=(zKo,W 0 m Z H,a)
Ih a:=⟨"",M,ae,_,rfl,a,oE,M,pa,dp,O,lg,w',h',ps,ss⟩
Vr:=Y8 hu
Vq:=[a,b]
zid:=[p0,p1]
Lg:=λ_ _ x=>x
KI:=λ_ _ h'=>h'
NL a:=λ_ H Q=>a
Vz a:=λ i y _=>a
zqa a:=∀ Z H,((Pv a Z H)->AL)
IG a:=∀ z,(((so' z).isSome)=a)
KY:=.int (lo+i)
Kr a b c:=PW X (.BoolOp a b pos) c
zbr a b:=ifP (decide_eq_true a) b
K8 a c d e f:=(gR,b≠a,c,b≠d,e,f)
LB:=PE X i ty
Kz:=(U6,V × V)
Lf:=Thg H s ds
Ix:=(Dt "askers" "asked_by")
LU:=Ord n lt
ztu:=.tup [vH,kB]
Ku a b c:=by show(ij,v=Jg,D);ext fU a b c
zgI a b:=BindsTo s fd a b
Ky a:=(wV xbn (sC a) xt)
K9 a:=(NJ (iy a) (iy a))
IN a b c:=by show(ij,v=(Yo _),D);ext fU a b c
KW:=putF f y fs
Ip:=["self", "name", "side", "row"]
KH:=(oC H1 I [])
Ik:=(fO,la,.lst (crowd.map V.str))
Ue a:=a::(vs++dvs)
IJ a:=(Gv u oG (h8,ifP gH a))
II a:=(Gv D uu (h8,ifP gH a))
IU:=(zxJ H2 Hy Hy)
Le:=(MY Zt ZZ)
LT:=(zko w h)
Ir:=["picture", "one", "other"]
Mn a:=(Um UU a g2)
Mb a b c:=(gY 102 o a b c r)
Kx:=xch ps nm x y
Ld:=xey ps d n
zpZ a:=InstAt s.heap x ox C a
Ru a:=(zI rV X.A a Q E)
Iv:=(kX,.tup (F7::(ptV p)))
Lc:=(Zl C)::bm
Rg:=(kH fG fZ gV)
Lb:=(jh-Vv)-zio
Io a:=xdp (by rw[Y.sz];exact (ZF.mp a)) none
IT a b:=by obtain⟨z,its,n,r,a,e⟩:=b
zeX a b:=xd0 a T w prs b cs
zrM a:=.shift n x y a dx dy
zQh a b:=λ i m Z H=>(gL,m,a-i,i<=b,Dc)
zWv a:=by rintro i m Z H (⟨rfl,a,p⟩:43)
Kw a:=λ_ _ _ H _ I h=>a
zuQ a b:=∀ l,((NV∈a)->(b=l))
zeD:=[p0,p1,p2]
Iq a b c d:=by obtain⟨⟨a,b⟩,⟨kvs,c,pl⟩,_⟩:=(id d)
zaz a b d e:=∀ c u,(gb,c≠a,c≠b,d,e)
IR a b c:=xeh (i:=a) b rfl (QZ rfl) c
zaF:=Kp.upd1 asked s b
zLv a:=backToKw a (keywordEach [] X.env)
zQg:=[("picture",fE),zpT]
Mm a:=(Bt g f u a)
Iu:=(behindInMarks op b)=false
WR:=(wj,pt.sd,.int pt.lo,.int pt.hi)
zrL a:=(zni lens own rent a)
IO:=AkD H da al asked
KG a b:=xfz Jc J6 J5 xcy a b
Im:=∀ f,(RelO (fs.lookup f) (mA f))
Ig:=∀ vs H Q E,(CA->(vs.length=ps.length))
zcy:=[p0,p1,p2,p3]
Ij:=∀ i y H H',(zBf->((F i y H)->zzf))
Kb:=picF w h dp do_
Ki:=Cmp n lt cmp s
ztJ:=by ext GT ok ov st st
VW a b:=xca (xdk rfl (xgg a)) rfl T.n_dict boot_dict (i3 b)
zQf:=notedBy jk A env zMa
Oy a:=pC (ok_a1 T) hr T.a1.g T.a1.F.kp T.a1.b (hF a gm)
znB a:=(iQ p M _ rfl D zjP _ rfl a)
zFg a:=(wn,D,t.C_v,xh,T.mk_v,L zxF a e _ (xa7 rfl rfl I D))
zXW:=by intro m y e M A u v Y P D
Sr:=λ_=>true
R8 a:=⟨o.slots,a⟩
Sq:=["thing"]
zic:=[pt.nm]
U8 a c:=by obtain⟨b,a⟩:=c
U7 a b:=by obtain⟨a,c⟩:=b
Po:=by simpa using b
zgH a:=show a from z
zfI a:=show a from hn
Rj a c d e:=∀ b u,(gb,a,b≠c,d,e)
Va:=by intro _;rfl
zwd a b:=∀ i Z H,(a->(Dc->b))
zaE:=by simpa using h1
Ta a:=by split at a<;>cases a
zwc:=(B8).toArray
S3 a b c:=by obtain⟨a,_,b⟩:62:=c
Pn:=by simpa using j
ziN a:=∀ n∈zsn,a
O0:=∀ p∈ps,(sr p.nm)
zpY a:=∀(i:Nat) (y:V),(F6->a)
zrt a b:=["_law_cell_here", a, b]
zar a b:=∀ p∈prs,(PrOk ps a b p)
zgG b:=∀ s a,(zQ->b)
zsl:=∃ p∈ps,zBd
UN:=some p
OV:=some s.heap.objs.size
SR:=List Row
zib:=.ref tp
zzd a b:=(asked a)=(some b)
VG a b c d:=(eG ⟨a,b⟩ c d)
zjM:=.int k
UM:=.int y
UL:=.int h
UK:=.int u
TQ:=.int hi
Rf:=h.objs.size+1
Vp a b:=(R5 a b)=true
zjL:=(gk U)
UJ:=.str y
TN:=.str gW
UI:=.own a
Tg:=by refine (xg3 ?_)
TM:=(fe eA)
U1 a:=(fe (kU a))
TL:=(fX ld)
UH:=(fV h)
U0 a:=(fV (jr a))
Re a b:=.inl (eG a b trivial)
zia:=(fH eJ)
zhZ:=(gz dx)
TK:=(gz dp)
UZ a:=(jr (jr a))
zzc:=(l9 V V)
zbW:=by refine (sq2 ?_);intros
TJ:=.tup hq
Vo:=b≠T
ziM a:=rnd mask h a
TH:=Zq.mp z
TF:=(i3 ia)
PV:=CXo X.prog X.w
SQ:=Nat->Int
TD:=(wC zir)
So:=ps.take i
TB:=(vQ It)
zWu a:=(s.heap.get? x)=(some a)
Tz:=.lst hq
Ty:=j _ _ e
Vn:=Zx nJ
UG:=(jN c)
UF:=.e x y
UE:=.Q x y
zdP:=.noCell x y
S9 a b:=by have z:=a;rw[b] at z
S2 a b c:=by have z:=a;ext h7 b z c
Ud a:=xbh (λ z=>a)
Tx a b:=h a s Z H _ I b
Px a:=pl.keep (Same.tups a)
Vm:=(b,r)
Vl a b c d:=by ext tY a b;ext fc c d
RN a:=hi a s Z H _ I h
OY a:=by ext pb a;refine (sq5 ?_);intros
Vy a:=fN K C_i a
S1 a:=fN K a "name"
VF a b:=by show(iY,⟨a,b⟩)
UD:=(pL o)
Tw:=(pL LK)
UC:=(kW J)
UB:=xcx eA
Vk:=Q v H
zzb:=Hp->Prop
SO:=i7->Prop
R7 b:=(H2 a)=(some b)
PU:=Zl q.objs.size
zBc:=(vN id)
Tv:=(m7 hl)
Sz a:=((a).length)<=12
PK:=fs.length<=1000
Tf a:=by ext lF a;cases h
RJ:=prs.drop f7
Uc a:=(mD t.C_i a)
S0 a:=(mD a "name")
Tu:=(xM pA)
UA:=b∉ex
SN a b:=(Ht a (ft b) ?_)
Uz:=(li f)
SM:=α->Bool
Ts:=V->Bool
Tq:=(uc Zt)
zdf:=.Name x pos'
Uy:=(Eo n)
Vj:=u::us
zwb:=λ x=>x.snd
zgF a:=(zH,a,QA _)
PJ:=(zi kvs.length)
OX a:=by ext AE a;refine (sq3 ?_);intros
qce:=(prS p)∈ss
zXV a:=(rJ,td Z H (λ x H1=>a))
To:=intD dx
Tn:=s<=mask
Rc:=ss.length<=32
Ux:=(uj t)
Uw:=(Hs z)
RI:=CrL H cs qs
zza a b:=(C1,.Name a p,b)
zqB a b:=(zuS,λ z=>(i9 z.nm a),b)
SD a b c:=wpAny jk A a b zQf c
SL:=Z3.mp hz
Vi:=r<=ph
Tm:=(vX g2)
Uv:=hf b D
Rq a b:=OpR X (binaryOp a) b
zaj:=blk0 Z fr zs.length
Uu:=xq xfq
RH:=srt.Perm ss
Rp:=(hF xaj xaj)
zde:=qs.map V.ref
Vh:=α->V
qcd:=(.inr n:Key)
PR:=(asked s)=none
Vg:=p::ps
Vf:=m % 4
Ut:=n∈LL
Se a:=by exact (.inl (.inl a))
Ro:=I.cell x c e
zMR:=base.Ns mainGlobals mg
UY a:=λ c xs e=>a
Ul:=by ext uD h ih
Te:=by ext uD GQ ih
Pf:=Vis X.env.scope x
PH:=(Ie (zdx MS gm))
Ve a b:=(zcJ,a,some b)
Tl:=Cls K C
Tk:=xs++[y]
Tj:=(HM ?_)
SC a:=by ext FH;ext zq a h
PQ:=(Eu V V Hp VK)
Sn a b:=EP X pins Z Q a b
SK a b:=ZV.mpr ⟨a,b⟩
Vx a:=eval a env
zgE a:=(ziR,Q a H')
zfH a b c d e f g:=(gc ["self", a, b, c, d, e] f g)
Sc a:=by show(fQ,Zh (Zb a))
Sb a:=by exact (.inr (.inr a))
zmW:=(xM,.frz o (.dK kvs))
XG:=(xM,.frz o (.dT kvs))
zdO:=acr w x1 b1
zdN:=acr w x2 b1
Sm:=Rch f a b
Rb:=Ze _ (Ze _ e)
zbV:=Ze _ (Ze _ ?_)
Ow a b c:=by ext zdk;show(gP,B,r2,C,O,I.list hb);have Q:=r2.length;ext fU a b c
Ov a b c:=by ext zdk;show(gP,B,r2,C,O,I.tuple hb);have Q:=r2.length;ext fU a b c
zjK:=(zbJ c)
PP:=DecidableEq κ
R0:=ss.map xaf
Pk:=srt.Pairwise xbz
Uk:=by rw[Zf] at hv
zkf a:=(eG H rp a)
zhY:=[(f,v)]
zmA:=by refine (gn ?_);refine (io ?_);intros
R6 a:=(uR,i8,b≠a)
RZ:=Up t.place
SZ a:=spX1 a "name"
RG:=α->(iH α)
Ra:=[("name",v0)]
RY:=below xs j
Us:=(zec s)
Sl:=Cls X.K C
zgj:=(R5 k j)
RX:=(Mh T9 pt)
RQ:=by show(Hr,a,b,.int)
OH:=(Ef,s∈(xbg lens n),DY)
OJ a b c:=by rw[Zy,(zfa a b)];show ((Jj (ji a) c)=_);ext zdy a a
Ti:=vs++dvs
zjJ:=(znl H)
V9:=(sc.names.lookup x)=(some .cell)
Ur:=(zrO f)
RF:=h.Ns1 dx mA
ziL a:=(qN H p a x)
zrs:=(tH do_ wU L7)
P9:=IntsAre vs ns
P8:=SqL K H1 a xs
PN:=Room q0 iw X.A
Sk:=hnF pa lg
Ub a:=λ x y H Q=>a
Rn:=mvP nm x y p
Xm a b:=Turn P w K tg a [it] it (λ i h=>b)
zhX:=(zRr fj)
SJ:=X.wish E
Vd:=s::ss
zke a:=o.getD a Hc
Uj a:=by refine (Jv (Zb a))
zjI:=i == j
zeb a:=∃ σ' H',(zXX/\a)
zhW:=Z7 _ R4
RE:=(i9 z name)
RD:=xbq H ss qs
zzs a:=(pI (MT,a<13))
SI a b:=Thg H a (.str b)
Sj:=PT X a tA
zeC:=Thg H' v d
O4:=(uL x2 y2 false r2)
zbI a c d:=by ext zpp a;show(oK,c,d,fy i y hy)
zaq a b c d:=λ σ' H' a=>(mY,b-f7,c,rfl,hlt,d)
Pa:=Value->(Value->Sw)
zdM:=(fJ x H' y)
SY b:=DGet H2 a y b
Pj:=⟨vU,ag_l jX⟩
Rm:=DGet H a y o
Uq:=xcv zQj
RC:=prs.map prS
PM:=X.env::X.outer
Uo:=uS::wg
Vc:=x2<x1
zhV:=(xn,rf)
Th:=rn≠rf
PY a:=∀ s',(a->(Q () s'))
O9:={ D with nx:=u D }
O3 a b:=∀ w' s',(a->(b->(Q w' s')))
Pe:=["word", "width"]
OD a b:=(us:i7)->(us.length=a)->(b->(P us))
Rl:=some (.bl I)
Si:=.cons _ t
RW:=(l9 TE TE)
RV:=(l9 Tr oh)
RB:=(iA Str RK)
SH:=acc++[x]
zoi a b:=(Ws K mainGlobals a)=(some b)
zeB:=.Name y py
zeA:=(i9 p.x x)
RU:=Thg H r dr
zxD:=kV kv.1
Rx a b:=by ext mC;exact (tld2 gH a b)
zea b:=kc _ _ (ne_f b a) b
Sa:=by show(mX,p.nm,nm)
VE a b c d:=Sg t a p y I b c d
PF:=de.pts sh kO ps
Td a b c:=(lH [a] [] [] b c)
RA:=xfp lens ss
ziK a b:=(yU a (m7 b) e)
Xf:=(jt,"list",.seq vs.toArray)
U9 a:=by ext eE u r l a
zdL:=(p2.1,p1.2)
zdK:=(p1.1,p2.2)
zuP a b:=by rw[Zy,a];show ((Jj m b)=none)
PD:=(zRs,xbg lens)
zdd:=(zBi so1 ho1)
Tc a b c:=(B0 v a T.c_i b c)
Pd:=relabel scope env
OU:=(Vw,(NA).i,(NA).pt).1
OE a b c:=by ext Gq a R;refine (Call_ (xd1 I hg hm b c))
OC:=J.push (jt,"tuple",.seq zbi)
OQ a:=λ Z H R=>(ta Z H (λ vs H1=>a))
OL:=iteF (zed (zFg,xc9 rfl))
Sh a b:=Told.pre k a k' b
P7 a:=by exact(gM _ false a rfl)
zdv a:=λ v k=>(NC a k)
Rk a b c:=xbe X.prog X.w a h' b c
zez:=(lE n x d)
zbU:=setI J pt.nm 0
XX:=λ σ' H3=>(te σ' H3 N)
zwa:=dEqs ds es
XU a b c d:=(eG,λ i H=>a,λ i H b H'=>c,λ i H=>d)
zbT:=(fO t (AR jJ))
Sy a:=Dv X.K H m a e
O8:=Kp.Mt room so' ho'
zph:=1+((m0 / 6) % ph)
OZ:=(YJ K cdv qual)=true
zWt:=(Go,MO,.ref iG)
O7 a c d f g h:=(zkm eb (zV (qo,a,eb b o a e) c d f g h))
Py a:=⟨"",_,rfl,rfl,oG,rfl,u,_,a⟩
VD a b c d:=JD a eS (fJ b c d)
zxC a b:=Kp.upd1 asked s a b
Ph:=(mT rfl rfl rfl)
zlN:=λ b H4=>(zG,te σ' H4 N,M H4)
zgD a b:=λ er a e H' z=>b
XT a b:=(zqC,a,some b,pos.line,false)
O2:=prs.map (exP p1 p2)
XF:=es.getD B.2 (0,.none)
OW a:=by simp only[Zr,J0,or_false] at a
OK:=["thing", "low", "high"]
Pc a:=by obtain ⟨a,rfl,_⟩:=h;rfl
zcI a:=by obtain ⟨a,rfl,h⟩:=h
OI:=∀ z,(N2,Fh,z∈names)
Rz:=kc _ _ qT y
zlH a:=A.under (.builtin "type.__call__" a)
zoh a b:=by show(kR,zQh a a,fY a eS lQ h0);ext zWv b
zdc:=btw rf yn rn
zqA a b:=((a<=v)/\(v<b))\/((b<v)/\(v<=a))
OG:=(Ry,"lengths",.ref I,zUA)
OR:=(Ry,"own",.ref D,zQg)
OS a b:=ad _ _ (ne_f a ae) (ne_f a ab) b
Sf:=exP C v p
zdZ a b:=kas_place p k a b r
SG a b:=Un fs ex H a h b
znA a:=(qE,a,"left",a,"right",a="both")
PB a b c:=(iQ 124 _ _ _ _ rfl a b c)
VC a b:=(RR a 3 b 4 b 5 b)
VQ:=(DB (znt,Z.length,∀ i,((n<=i)->((σ'[i]?)=(Z[i]?)))))
zmX:=by refine (JZ (xex I hg hm ?_ hdb))
Tb a:=by intro er a e H' z
X3 a b c d e:=xce (xs:=a) (Pv:=(λ i Z b=>c)) d e ?_ ?_
OT:=o.data=(.set es ep t)
Pw a b:=by have a:((QS _)=(QH v)):=b;cases a
zXU a:=Best own rent asked a f
zMQ:=[("picture",fE),zpT,qcf]
Oz b:=show (xbe X.prog X.w H s.heap a b) from (uH a ea)
zaM a c d e:=[zil,zBg,(fX da),a,some Nx,c,d,e]
VP a:=xcr (okT_an T) fA rfl T.an.g T.an.F.kp T.an.b .nil xae.pass a
O6 a:=(EQ,f,oc,od,.func a,osl)
Ox a b:=∃ t,((PSs a b t)/\(t { nx:=λ_ H'=>Sx,rt:=Q } zeH H))
zCb:=[(ZI "left",V.str "right"),(ZI "right",V.str "left"),(ZI "both",V.str "both")]
O1:=.dK (putK kl Lw zBe)
ztI a:=by ext yL a1 a2 a3 a4 a5 a
Ou:=(OF,ow,nd,xa4 rfl (Gp,pO 0 nd ow,pO 1 nd ow),2)
ON:=(gb V p5 p5 (iA Hp VK))
SB a b:=by intro a b s Z H Q I h
Xl a:=by obtain⟨_,_,r1,r2,x1,x2,y1,y2⟩:=a
Ot:=(jI (qy,fj,T.c_ag,T.al.m,ok_al T,fA,T.al.b,xae.pass))
zms:=(Aw u5 t5 u6 u4 t4 zmt)
zlj a b:=#[.none,RM,vJ,SW,(.int a 0),(.int b 0),.none,.none]
zBu a:=⟨ok.mod,ok.kind,ok.glob,ok.blt,ok.above,ok.inj,ok.has,ok.cab,a,ok.frames,ok.stk,ok.exf,ok.bs,ok.bsz,ok.noex,ok.exfs,ok.funs,ok.frf⟩
zdu a:=decide_eq_false a
zce a:=s.heap.objs.size<=a
zdb:=ZY.update ..
zjH:=λ_=>0
zkd a b:=⟨a,λ_=>b⟩
zay:=["_law_cell_here"]
zey:=["_law_e"]
zcx:=["_law_hand"]
zgi:=T.size.1
zdY a b:=if sh then a else b
zdt a b c:=if a then b else (some c)
zbH a:=s.heap.objs.size≠a
zfw:=by by_cases hb:(b=a)
zft:=(gG).isSome
zcd a b:=by have:=a;ext h7 b this this
V3 a b:=∀(pins:fP) (s:Shared) (Z:St) (H:Hp) (Q:a),b
zbg:=by simpa using q
zzr a:=by simp only[a,if_true]
zoJ a b:=RelO.some_of (v:=v) (o:=a) b
zpg:=by simpa using h2
zgq:=by unfold KV at r
ziJ a:=∃ kvs:gD,a
zBb a b:=∀ vs Z H Q,(a->b)
zyc a b c:=∀ p∈ps,(a/\(b/\c))
ziI a:=xg1 (i:=i) a
ztH:=by split<;>split<;>lia
ziH a:=∀ s∈a,UX
VY:=by unfold Geo.upL Geo.upN;rw[Za,ZU];ext rB
VX:=by unfold Geo.lvL Geo.lvN;rw[Za,ZU];ext rB
zrK a:=∀ H' v,(gu->(a->US))
XW:=by unfold acrI;ext rB
zBa a b:=∀ u,(a->(kf b u))
zcw:=∀ s∈al,DY
zfG a b:=by rintro _ a ⟨b,rfl⟩
zjG:=some _
zjF:=some e
zhU:=some zxE
zjE:=List F
zhT:=List β
zbS:=List DictEntry
XQ:=.ref s2.heap.objs.size
zAZ:=.ref da
zAY:=.ref l4
zhS:=.ref qa
zhR:=.ref qc
zex:=.noPoint _
zjD:=.int b
zhQ:=.int lo
zvi a:=.int (totI a prs)
zds a:=by exact (decide_eq_true a)
zhP:=F4=true
zAX:=zeF=true
zjC:=(gk R)
zbR:=(gk ns.length)
zda:=.str "right"
zgh:=.str "q"
zhO:=.str uS
zkc a:=(H' a)=none
zjB:=(fe h)
zAW:=(fe hd)
zhN:=(fX l3)
zhM:=(fX ly)
zhL:=(fX a')
zhK:=(fX lx)
zjA:=(fV y)
zhJ:=(fV p2)
zhI:=(fV p1)
zhH:=(fV Co)
zjz:=.inl i
zjy:=.inl k
zjx:=.inl e
zhG:=.inl j6
zAV:=.inl wT
zjw:=(fH h)
ztt:=(hR,c∈m)
zdJ:=(hR,0<=k)
zyZ:=ZR.inj h
zhF:=Zr.mp h
zgg:=SqT.of h
zhE:=(lK α)
zhD:=.inr gG
zuO:=(jK "list")
zjv:=.o _ _
zju:=QW _ _
zuN:=.noCell _ _
zeW a:=.lst (ps.map a)
zeV a:=(decide a)=true
zfs:=(h8,Zh h)
zjt:=(iW z)
zhC:=(iW eA)
zjs:=rent z
zuM:=i<xs.length
zhB:=(mw H1)
zhA:=(mw H2)
zax:=Str->(iH NameKind)
zbf:=decide_eq_true c
zyY:=l.take i
zaa:=X.env.cells.lookup n
zdX a:=(U6,Addr × a)
zkb a b:=(sE,xbp a,b)
zag a:=(bootBuiltins x)=(some a)
zhz:=Z3.mp j
zfr:=ns.take j
zbw:=(H1 b)=(some u)
zgC a b:=(jt,a,.fields b)
zhy:=.lst zs
zgf:=(jI xeo)
zhx:=T7=none
zyX:=I.kept f
zbq a:=(K.lookup a)=(some o)
zjr:=(jN m)
zhw:=(jN ph)
zhv:=(jN zbz)
zhu:=j.val k
zge:=q.push v
zcv:=(l9 Str Addr)
zgB a:=.ret (.ref a)
zaf a:=by ext pb a;refine (sq4 ?_);intros
zoL b:=(s.heap.get? a)=(some b)
zeU a:=xq (x0 (xbp a))
zbv:=(kh,sIx n 0 lo)
zht:=(jQ zbk)
zfq:=JU (Zk _)
zhs:=Zq.mp y
zjq:=(lB C)
zhr:=n<=1000
zbQ:=s.length<=1000
zbP:=fs.length<1000
zjp:=(ja C)
zaw:=.lst (D.map V.str)
zfp:=g.d ρ μ
zjo:=(zfL n)
zZX:=(zf H' pw ph)
zjn:=(Os H)
zuL:=(jE,Ze _ e)
ziG a:=(mD t.C_a a)
zhq:=(xM vw)
zka a b c d:=xaw a (Ff b c d) rfl
zgd:=.noRow r
zgc:=b∉X.fs
zjm:=(mJ 2)
zbe:=.tup (ks.map kV)
zew:=eval e env
WU a:=Zb (m:=(Builtin.Tuple.tupleExact _)) a
zpR:=(ft,Z _ _ el1)
zgb:=asked gG
zjl:=(AF q)
zjk:=(AF z)
zhp:=(oP hs)
zho:=(BS ty)
zgA a b:=T.keep _ _ _ a b
zaD:=.frz ob (.dK kvs)
zjj:=v=.non
zhn:=(xr Dp)
zji:=xaf s0
zts:=(v z).isSome
zae a:=by ext AE a;refine (sq4 ?_);intros
zcu:=Mt room so ho
zgz a:=.str "both" a
zdr a b:=by rw[a,b] at z;exact (g_at z)
zfo:=PE X o ta
zlw:=(sc.names.lookup x)=(some .local)
zeT a:=ite2 (iy a) (iy a)
zcZ:=ns.length<=n
zjZ a b c d:=k _ _ (ne_f a b) c d
zhm:=intD dy
zfF a:=((a).length)<=32
zjh:=z∈ns
zhl:=(zC hp)
zpX a:=(ww,a,TP X pins Z Q)
zjg:=(NX 2)
zct:=(Oq,Wc x t)
zga:=Sem Bool
zfZ:=V.int zbz
zAU:=de.ok H
zfE a b:=(fO c a)->(c≠b)
zhk:=(xE gS)
zdI:=xay (V6 fj)
zbO:=(l9 Key Value)
zhj:=(U4 p2)
zhi:=(U4 p1)
zjY a b:=(Ct,c / a,b)
zjf:=α->β
zje:=(xD x)
zgp:=by rw [(xo c)] at e
zAT:=eqV y x
zcs:=Room q0 k X.A
zfn:=n∈crowd
zHT:=(Ny "getset_descriptor.__get__")
zhh:=xbt w p
zfY:=acrI w p
zfX:=uprI w p
zhg:=(CP gG)
zfm:=PA X es t
zhf:=(B1 dp)
zXT:=upd1 asked s a
zdH:=I.cne x c e
zcr:=I.freeC x c e
zog:=.Attribute o m apos
zbG a c:=I.base.keep b o e n a c
zbF a c:=I.base.slot b o e n a c
zyW:=rawInt L
zev:=O.trans s2
zeu:=X.trans s4
zeS a:=(GY,(a).length)
zjS:=by exact (jo _)
zad a b:=by exact (absurd (decide_eq_true a) b)
zhe:=Ite K a
zxB:=(gf as a)
zet:=crowd++[x]
zgy a:=St->(iA Hp a)
zhd:=(Ag AK)
zav:=xq (xb6 fj fZ rfl)
zbd:=(gF h' g d t os)
Y2:=Fun K x qual st f fd
zjd:=y.d μ
zuK:=λ_ _ q=>UW
zjc:=(L5 x)
zdG:=putF f v fs
zcq:=Itkt d ob kvs
zcp:=Itit d ob kvs
zzq a b c d e:=(oN a b rfl (iz c d) true e)
zhc:=(Lu iO)
zfW:=X _ _ ho
zhb:=ps++[p]
zfD a:=by exact (.inr (.inl a))
zha:=(Hq gs)
zsz a:=tb Z H1 (λ y H2=>a)
zfl:=Rch f a c
zgx a:=cans a ss prs
zAS:=(OA lP)
zdW a:=(Lz a .ellipsis)
zbN:=DecidableEq α
zcY:=ps.length<12
zgZ:=(KQ gZ)
zcX:=Z.set j none
zco:=o.getD j none
zgY:=[(f,y)]
zmz:=by refine (nx ?_);refine (iq ?_);intros
Xc a:=(sN,(X.base.get? b)=(some o),a)
zes:=SsOk kO ss
zfV:=(MM xgs)
zgw a:=((IH).length)<a
zgv a:=((a).length)<33
zau:=(pt.x,pt.y+(jT*1))
zbc:=(pt.x,(zkn pt.y))
zfU:=da≠d_r
zfT:=λ_ q=>q
zbb:=λ_ q=>(nomatch q)
zer:=(eP Zv xh)
zgX:=hL x hx
zuJ:=(fH (ve b))
zjX a:=x9 xei xt a
zxA:=a.lt k eA
zfk:=upI w prs
ziF a b:=by refine (JM a ?_);rw[b]
ziE a b:=by refine (YW a ?_);rw[b]
zfS:=hidT h H
zba:=hidT s₁.heap H
zjW a:=xbb H5 IH a
ziD a:=xbb H5 a qs2
zgW:=(VA gV)
zgV:=(S6 ps)
Xy a b:=by show(eE,u,rfl,a,xdm r);show(ij,u=(Zl b),a)
zgo:=by subst hP hw hK
zeR a:=by subst hP a hK;ext ztJ
Xv:=(zKp "_law_picture_here")
zaZ:=(zKp "_law_hand")
zjb:=ptV pt
zfC a b:=HoD.keep a (sW b)
zaY:=L.length<=t.mask
zWs:=⟨gZ::us,kw⟩
zjV a:=(ZM.mp a).2
zdF:=wO=(some v)
zWr:=(lexK x y)=true
zmV:=(carriedByValue v)=true
zeQ a b:=upd a dx (XD dx b)
zrr:=Same.seqL s hs
zcW:=SqL K H p xs
zcn:=OutL H' cs qs
zcH a:=(jf,mE,_,a,q _ xX)
zcV:=MayA srt prs
zgU:=k b u q
zja:=(zgJ V)
zcG a:=xdt oF gm fG a rfl
zaX:=Rd H a (.dK kvs)
zgu a b:=xdq (xg7 oF a b)
zEX:=M.heap.push (jt,"dict_items",.fields (#[vJ]))
zbp a:=I.base.free b o e n a
zpQ:=.ask [nm] j8 0 0
ziC a:=(VO a I.pin)
zcm:=t.dummies=(#[])
zeq:=Nat × Nat
zep:=(un p J).2
zof:=(c.val k).isSome_eq
zxz:=(eQ d hd)
zfj:=(eQ nm h)
ziZ:=.r x j
zfR:=ss++[uC]
ziB a b c:=by show(fR,tp,Tups H a,b,c)
zeo:=atKey xs k
XE:=cu4.keep (Same.tups s5)
zfB a:=(wV xho a xdi)
ztr:=(lv,so2 z)
ziY:=(zpo f)
zsk:=a.lt (k-1) eA
zfv:=by refine (JM gC ?_)
ztq:=upd1 ho1 s a
zgT:=fq z hz
qcc:=λ b ob q=>UW
zfi:=D b o e y
ztp:=k it eS _ st
zen:=(zeZ t1 xs)
zaL a:=by show(ou,t,L8 a);ext mC;rfl
VR:=(By,(h.get? b)=(some u),(h'.get? b)=(some u))
zjR:=by ext LA c xh
zeP c:=IsPair c TO a b
zaW:=OwnTail h bmB bm
ziA a:=(zdw it lI a)
zcU:=SqL K H a zdi
zto:=upd1 so1 a s
zlF:=near lens own rent asked crowd
zem:=xe3 f y fs
zdq a:=shO own crowd g a
zgS:=(zrM dn)
zfh:=(zLv cpos)
zcB:=by ext gP kvs e l f s
ziX:=(zrL a)
zeO a:=by ext zXW;show(ij,u=a,P)
zfg:=ps.zip us
zdE:=s6.trans s7
zcT:=c1.append c2
ztG a:=tupleKeyHash knd a
ziW:=lo<=hi
zuI:=(Zi.mp e).1
zgR:=(x2,r1)
zgQ:=(x1,r2)
ziv:=by rw [Zf] at hx
zoI:=λ_ _ h=>(nomatch h)
zdV a b:=∀ i,(a->((i<m)->b))
qcb:=T7=(some jc)
zel:=(gf es en)
zyV:=zby++[qh]
zjU a b:=(fY [] a f8 b)
zcl:=PE X value tv
zgP:=xci p s
zgO:=(zWu ox)
zpP:=(ju,(Fu).length)
ziV:=.m j x
zvh a:=(jj,dx,XD dx a)
ziz a:=Sts H' do_ a
zdp a:=ak _ _ (ne_f a ap) a
zfQ:=(nR x c)
zff:=PS X st t
zfA a:=(xco o a)=true
zek:=(Eg eA eA)
ziy b c d e f:=j4/\(yi/\(fb b c d e f))
zeN a b:=(eG,a,b,q.keep tp)
zeM a b:=(F8,pz,a,b,xha gH)
zaV:=(pL,XO a C od)
zcc a:=(BE (mJ 8) rfl _ a)
zbM:=(Pu name none)
XM:=(fs.lookup f)=(some v)
zej:=xb1 w h ps
Xq:=(prs.map (λ p=>gW))=names
zfP:=y=(kV k)
zdD:=x.w (k*j) l
Xg a b c:=by obtain⟨⟨a,b⟩,_,w1,w2,h1,h2,_⟩:=(id c)
zbE a:=De.pts false kO ps a
zcb a b c e f:=(Dw d D s Z (Dw,a,b,c,tSeq e a,f))
ziU:=(zXU P)
zei:=(zBu ok.hd)
ziT:=xlc R3
zbL:=h.objs.size<=e
zdC:=(Wt v).symm
zfe:=⟨M,D⟩
zcF a:=by show (a=_);rw[hn]
zgt a:=by change (U2 a) at e
zXS:=("picture",fE)
zaU:=λ_ h=>(nomatch h)
zcS:=λ_ _ _ e=>e
zfd:=!(m == k)
zRq a:=∃ xs,(a/\(k=(! xs.isEmpty)))
zdU a b c:=by subst a b;ext MX;rw[c] at q
zca a:=∀{xs:eB}{us:fD},a
XJ:=by simp only[Z9]<;>lia
Xi:=∃ q,((h'.get? a)=(some q))
zbo a b:=∀ base:Heap,(a->(zMR->b))
zaT:=(way mask C m).j
zpn a b c:=Ju (name:=(Z2 "__next__")) a b c
Xp:=["_law_script", "_law_k"]
zbn a:=λ_ _ _ _ _ _ us j=>a
zpf:=pl.no (nm:=nm) ab
zdo a:=prs.find? (nmF a)
zjT b c d:=(gF 1063 a b c d)
zvZ:=(fO gG zWt)
zcR:=(iA Int Int)
zfO:=put a ha
zeh:=(hF qY qY)
ziS:=ks x B
zix a b c:=(oN a _ rfl b _ c)
zfz a b:=(gc (um a) (um a) b)
WV:=(jt,"list",.seq its.toArray n)
zvY:=(kf qs Bn)
zeg:=Thg H n dn
zdB:=Thg H lo dl
zbD a:=.ins a M (zgK,.int z)
ziu:=by show(iP,xgl u)
zaC:=(Dt "low" "high")
XV:=(Dt "width" "height")
zeL a:=x _ _ (ne_f a j) a
zap a b:=(qN H s.heap.objs.size a b)
zdn a:=s7 _ _ (s6 _ _ a)
zoe b c:=(oa a _ b T.c_a T.n_cc lkW c)
zvX:=valV kvs j
zfN:=Itr lo n
zqz:=.inr (.inr rfl)
zpO:=(mM,xb3 kvs k v)
ziw a:=(wj a v0 v1)
zdA:=StL H ps ts
zbZ a b:=by have a:=(s1.trans s2);refine b
zaK a:=(tt QO a Bool.or_true)
WW a:=∃ o,(a/\(∀ v,(o.data≠(.cell v))))
zfM:=(wa e c)
zod:=.Attribute o f pos'
zlz:=(fO,ln,.lst (names.map V.str))
XI:=(eP,xo (xej q e nB),q)
zai:=∀ b xs,(zkp nG)
zck:=xb6 fj fG rfl
zbu:=(pt.x+(jT*1),r)
zcj:=((zkn pt.x),r)
zuH a b:=[(false,a),(false,b)]
zvW:=(zBi so ho)
zac a b:=(zcJ,(gk a)<0,es[((b).toNat)]?)
zci:=PrOk ps w h p
zef:=(zeZ t2 ys)
zbt:=(Vw p.i p.pt).1
zcQ:=(Ib iter wi)
X2 a b c d:=PW.pt (xd2 (Ic a b) (xdj (Ic c d)))
zxy:=(MQ,MR,c)
zcP:=SoD H d n so
zcO:=HoD H d n ho
zcN:=λ b u _ q=>q
zcM:=λ c v _ q=>q
zoc:=tupleKind (xax P w)
Xh:=tupleKind (xax X.prog X.w)
znO a:=(xai dl 1 j)&&(xai a zig j)
zNT a:=(xai sJ 1 j)&&(xai a (L4 R) j)
zgs a b:=by rw[a,Za,Za,b]
zaJ a b:=by rw[Zf,Zg] at hx;ext oK a b hx
zab a b:=by obtain⟨d,rfl⟩:(∃ d,a):=(zh b)
zmM:=λ b u n1 _ e=>(M b u n1 e)
zaB:=10*(turns t.mask)
zao a b c:=SortSt.mk' general' a b c none
V8:=.tup (ptV { pt with x:=i,y:=j })
zgr a b c:=(kK a v b v (Ug c))
X1 a:=k7 _ _ (ne_f a hk) (s8 _ _ a)
Xs a:=by intro z;show(jB,(ZR.inj z).symm,a)
X9:=(kX (yC,.int uS,wg))
zaS:=(vC H2 s2 e2 fy)
zoH:=.hand v L asked s0
zoG b c d e:=(X4 hp (iQ b c d j rfl e _ rfl ?_))
zbB:=by intro m e h;ext qK h
zfy a:=xe9 t H4 p a z
zcE b:=λ a s Z H Q I h=>b
zbl:=by obtain⟨M,hs⟩:=(id X)
zaI a:=by show(eE,vs,a,da,xjd I e hep)
zee:=Itzt K a b
ztn:=λ i h h'=>eA
zpe:=Kp.kstep room v L
zxx a b c d:=(iQ 124 a _ _ _ rfl b c d)
zvg a:=by show(fQ,YG ho hd a ?_)
zcD a b c d:=by refine (q _ p6 (qs1++qs2) a b c d)
XB:=.Compare a [op] [b] pos
znz a b c:=(probe.go t hashAt h a b)=(some c)
Xa:=∀ a b,(((k a)=(k b))->(a=b))
zfc:=seF d1 d2
XA:=by show (ju 0);exact lQ
zGd:=(b∈X.ex)\/(X.s₀.heap.objs.size<=b)
zfx a:=∃ m,((m<n)/\a)
zeK a c:=λ b o _ _ a e _=>c
zrJ a:=by rw[<- a,<- l];exact (h _ rp)
VI a:=∀(cdv:Value) (A:Around) (outer:oz) (s:Shared) (H:Hp) (vs:eB) (Q:VK) (E:XK),((zqb (zmO kE cdv))->a)
X0 a b:=by generalize eu:a=H1;ext ul s1 b g1
zbs:=C.map (nowP ps)
zbY b:=(eG (jW H.a) H.F b)
zdm a b c d e:=(gY 1 1 a b c (gX d eJ eJ e))
zdT a:=by exact(Gv u oG (zrP a))
zcL:=(gc N ps st)
zbK:=Zx ((Ua+1)-lR)
zdl b:=(Gx H' a pw ph b)
zch:=(kH qY qY qY)
WX:=(rg Zy (zfa "across" "width"))
zKn:=(uR,UT=jD,¬ (yD k b))
X8:=(Ry "picture" fE [])
WY a b c:=by have:((gk (mV a b))=c):=eA;rw[this];congr 1;lia
Xz:=(Ry,"rent",.ref J,zMQ)
zdS a:=λ i h h' st k=>a
zan a:=kc _ _ (ne_f a y) (ne_f a v) a
zbm a:=(zlO a (kH xaj zwj zwj))
zeJ a b:=(gY 102 a A B b c)
zit:=by ext Fe e v p
zis:=by ext EO e v p
zaR:=gvB ss names prs
zam b c:=show (xbe P w H h a b) from c
zat:=(uL x1 y1 true r1)
zOQ:=valV (zCb:gD) (ZI sd)
V1:=["picture", "names", "pairs", "seats"]
zcC a:=(gY nm i j sd l a)
zaQ:=lvL w x1 true r1
zbX a b c:=by refine (Qj Ys q.typeIs Qp a b c)
Xe:=(vn,HX-kB,0,-(HX-kB),HX-kB)
zMP a:=(oa p D C T.c_aa T.n_cj lkSo a)
zaH a b:=by obtain ⟨its,a,pl,hz⟩:63:=b
XY:=by show(eK,ad,c1.len,ac,c2.len)
zXR a:=(fS a EX (Cj b) (PZ b))
XZ a b c:=(oa a dz b T.c_ag T.n_cf hlkP c)
Xb b:=(zXV,∃ a,(NH,IsD H1 a,zsA b))
X7:=[.int OO,Nx,.ref qk]
zfb:=I i j B C
zHS a:=by refine (.lst (ft e) (tt Za Za h.len) (fW j x d i a))
XH:=.ins t.C_ag dx (hnP j)
Xr a:=Env0 P w K mg base a outer s H
zcK:=upL x1 y1 r1
Xd:=by simp only[Wz,QD,j]<;>rfl
zpN a b:=#[vJ,SW,(.int a 0),(.int b 0)]
zah:=(way t.mask qR i).j
Xu:=Classical.em (p.d ρ μ)
zaP:=.inl (vA m dx j)
zqI a:=toP (way t.mask qR a)
Xo:=(hR qce)&&(xci fK (prS p))
zal a:=by show(NI,g,a,sz,f,xh6 I e hdat)
zdR a b c:=(sO a b s2 H2 I2 rx c)
VU a:=(hR,((((a).length)+((zSG).length))+(ztK,(zSG).isEmpty))<30)
zmk:=[("height",V.int h),zQi,zOR]
V7 a b c d:=(fS a zU b (sy,De.out false oH kO ps ss c,d))
Xk a b c:=(kK,H1,q1,.tup [me,mf,ki,sJ,a],b,c)
zkE a b:=λ Z H R=>(to Z H (λ x H1=>(∃ d kvs,(gL,x,vJ,yB d a,∀ ob,b))))
zkC:=by obtain⟨⟨k,x⟩,q⟩:(∃ y,((kvs[i])=y)):=lA;have hx:tJ:=(hZ qv q)
Xt:=ExcBaseFacts B ni ii bmB
Xx a:=∀ y,((y≠a)->((m' y)=(m y)))
zEw a:=∃ ox vs,(fS,a,Sv,ox.dict=od,ox.data=(.fields vs))
WT:=by simp only[YZ,List.all_nil,Z1,Yz] at e
WS:=by simp only[Zr,J0,or_false,not_or] at m
WZ:=⟨"",M,pa,dp,O,lg,w',h',ps,ss,D,prs⟩
V5:=.Call (.Name "set" p2) [a] [] pos2
V2 a:=by ext qL m;refine a;show(kS,u,dx≠e,pj z m j j)
zFB:=by show(NI,n0,nL,nC,nP,I.size_lt (Zk s.heap.objs.size))
VS:=pC (ok_bp T) hr T.bp.g T.bp.F.kp T.bp.b (i3 fZ)
zlY a:=by ext jb d kvs e1 e q a;subst e1;cases r1
zZW a:=xgn D I C asked none a
zak a b c:=IsItemIter a it d b c ep ok ov
VJ:=by obtain ⟨rfl,q⟩:=(Wk e rfl);cases q;show(nF,rfl,rfl,rfl,ih r0);have z:=(rc.det rfl rc0 rfl)
VM a b d:=by show(zlh,(oN e _ dx _ L (jx D C a b lk_1 ⟨e,_,dx,_,M,rfl,D,C,a,d,lk_2 gH,CZ,Xw⟩)))
zlS a:=by unfold xa3;rw[zin,zim,zBh,(fe ae),(fH ao),a]
VZ:=.inr (qI,dx,_,xh,jp u xh,U5 1,q dx j)
zas:=GH K g x q st f fd
zbC a:=(iB g x q st a f fd)
XR a:=(xes ph dx dr x r)=(some a)
zkM:=(ns.map (λ n=>(qcd,V.int (J n))))++[(Lw,.int 0)]
VT a:=by refine (xc2 (λ i=>a) Z eA (UR k Lr) (fW H5 qs2 s5 hu5 cu5))
VL b:=⟨a,dx,_,rfl,hp,gB,a,dp,U,z,ph,ps,nm,pt,b,r,rfl,S,hn,hf,r1,r2,(eQ H1 O)⟩
VN a b c:=I1.adopt n0 I.sz nL nC nP (fh,DA 2,a,.cons b (.cons c .nil),yM hp lA)
zaG a:=MB K C m x q st a f fd
X6:=MH K C m x q st f fd
zBV:=(RT zij I (Ga e xh (wn,hdx,t.C_f,zii,T.mk_f,Z zsm (ad bb) e _ (xd9 rfl rfl I hdx))))
VH:=(iI l1 l2 _ _ (Uf,sX hu4,hu5,by rw[Za,Za];exact (Yl (MT,(qs1.length+qs2.length)<100)),p6,J))
Xj g:=F.binds (λ a b c d e f us j=>g)
zJs:=by subst B x C;show(kL,O,M,U,L,J,D,q it eS)
zIm a b:=⟨p,M,_,rfl,D,zjP,_,rfl,pt.x,_,a,rfl,Pq,b⟩
V4:=Gap lens crowd asked own rent g a s
zsy a:=of_decide_eq_true a
zAR:=λ_=>?_
zyb a:=⟨a,trivial⟩
zxw:=by ext rB
zvV:=by cases e
zmL:=by unfold Kp.upd1;rw[iT]
ztF:=by rw[KasT.kasWp_bind]
ztE:=by rw[list_sort_plain]
zxv:=¬ (rT=k)
zrI:=by injection e with e1 _
zyU a b:=if a then b else i
zwz a:=a≠X.env.locals
zqH a:=∃(its:fD) (n:Nat),a
zxu:=(wO).isSome
zny a:={ s with heap:=a,toks:=t' }
zya a b c:=by obtain⟨a,_,_,b,_⟩:102:=c
zqy a b:={ s with heap:=(zXY a b) }
zpM:=by simpa using y
zpd:=by simpa using hu
zvU:=(Oo).toArray
zpL a b:=I.turnedL (t':=s.toks) a b
zpK:=by simpa using U
zpc:=by simpa using e1
znL:={ s' with heap:=h2 }
zxt:=∃ es,tF
zob:={ M with heap:=zEX }
ztm:=by size_fits
zZV:=∀ p∈ps,wR
zns:=∀ p∈ps,(fO fK ztu)
zxZ:=by unfold lexK at h
zpJ:=by simpa using a
zAQ a b:=∀ H',(a->(b->Sx))
ztD a:=λ_ _ _ _ _=>(xhp a)
zvT a b:=by unfold Kp.upd1;ext eY a b
zSF:=∀ nm∈names,zsl
zrH a:=∀{n:Nat},(a->(zi n))
zoF:=∀ v∈er.told,SV
zzp:=by exact (nomatch e)
zAP:=List iM
zrq:=List (iH Expr)
zUz:=.ref h.objs.size
zAO:=.ref sl
zAN:=.ref C'
zAM:=.ref lp
zAL:=.ref ld
zAK:=.ref jh
zvf a:=A.frames=(some a)
zyT:=.noRow _
zxs:=.int p.hi
zvS:=r.length+1
zAJ:=(iH oh)
zAI:=(gk w')
zyS:=if_neg a
ztl:=PlainAttrs T
zAH:=(fX T8)
zAG:=(ft xh)
zwy a b c:=λ z=>(if a then b else c)
zAF:=(fH c1)
zpb:=decide_eq_false h
zmr:=beq_eq_false_iff_ne.mpr h
zyR:=Wr.mpr h
zAE:=xbz a b
zAD:=(BV MK)
zyQ:=(lK Nat)
zuG:=(lK Result)
zsx:=by refine (sq3 ?_);intros
ztC:=by refine (io ?_);intros
zqx:=(jK "function")
zuF:=(jK "dict")
zzo a:=(xo4 K a)=true
ztk:=.oldSeat _ _
zuE:=.noSeat _ _
znK:=b≠s.heap.objs.size
zyP a b:=by refine (Yc.imp_of_mem a b)
zpa a b:=by refine (Qd.length_le_of_subset a b)
zAC:=.bool b
zwx a:=(kvs.any a)=true
zAB:=V.str s
zyO:=ZI.inj z
zAA:=Z3.mp z
zuD:=i<vs.length
zuC:=i<zs.length
zAz:=(mw H3)
zAy:=(i3 fj)
zAx:=(i3 fZ)
zyN:=ZR.inj e
zyM:=.error e
zAw:=V.ref e
zUy:=decide_eq_true e
zXQ:=f.symm.trans e
zrp:=Array GenState
zyL:=Jw.mpr c
zvR:=.noPoint n
zuB:=(pP (AR c))
zxr:=(sM leS1)
zAv:=(vQ zzc)
zAu:=Zr.mp j
zxq:=al.take j
zro:=(ju us.length)
zrn:=(ju ns.length)
zrm:=(ju ys.length)
zoE:=decide_eq_true rfl
zuA:=j<ns.length
zyK:=s4 _ _ e
zAt:=s∈xfb
zuz:=o.dict=none
ztB a:=assignEach a X.env
zrl:=Zx h.objs.size
ztj:=Zx bs.length
zAs:=Zq.mp f
zAr:=dEq x y
zuy:=as.filter q
zsj:=ls.eraseIdx k
zxp:=y.trans v
zAq:=(jo hz)
zxY a:=looks_clsIn X a
zpm a:=(jj s.heap.objs.size a)
zww a:=hv a s Z H _ I h
zAp:=(ip se)
zAo a:=λ p a=>((un p a).1)
zAn:=(kW hp)
zyJ:=Q .non H
zvQ:=(Gw s.1)
zux:=(SA "pair")
zvP:=(SA "out")
zpI:=crowd.length<=12
zti:=(pT A.units)
zAm:=(jF ?_)
znh:=.lst (crowd.map V.str)
zxo:=f.d ρ μ
zvO:=qs.drop f7
zuw:=(H1 b)=none
zyI:=RelV y v
zxX a:=.inr (SqT.of a)
zAl:=(sC MS)
zAk:=N->Bool
zyH:=Pt->Bool
zsi:=[.str "come"]
zAj:=(uc Z9)
zWq:=ZY.update _ _ _
zqw:=(H5 c)=(some u)
zqv:=(H3 c)=(some u)
zvN:=.noName v0
zuv:=.noSides v0
zth:=.oldPoint v0
zrk:=.sameColumn v0
zuu:=.sameRow v0
zut:=.noPoint v0
zvM:=.noSide v0
zxn:=.noRow v0
zoZ:=(eA:vs.length<=i)
zAi:=(oP af)
zvL:=(Zl e)::us
zus:=(Zl nw)::us
zAh:=(m4 g1)
zxm:=RelV v w'
ztg:=Gl X "range"
znx a:=(tI,a,kC,(H1 b)=(some u))
zxl:=XN e C od
zoD:=s.heap.objs.size+2
zsh:=(B2,s.toks+2)
zAg:=x b o e
zAf:=D b o e
zyG:=(LN k).j
zyF:=J.go i H
zmy:=by refine (gx ?_);refine (iq ?_);intros
znr:=by rw[Za];exact (aa eA)
znq:=by rw[Za];exact (a4 eA)
zxk:=K.In base
zyE:=h.push D
zxj:=Q false s
zAe:=hu p hp
zAd:=(ui hx)
zyD:=V.ref iG
zyC:=Zr.mp hz
zvK:=(kG q hdx)
zAc:=(xE GP)
zur:=blk0 Z fr 1
zuq:=ss'.Perm ss
zxi:=de.sts ss
zAb:=(zvj gW)
zxW a:=F.len _ _ _ _ a
ztf:=(l9 jA Addr)
zqu a b:=(xO a { s with heap:=b })
zup:=s2.trans s3
znJ:=d.params.defaults=[]
zKT:=(Ny "object.__setattr__")
zve a b c:=PE X (.BoolOp a b pos) c
zte:=(xf2 x)=true
zoa:=assignEach es X.env
zrG a:=I.base.there b o e a
zuo:=asked y.1
zAa:=(B1 hd)
zxV a b c:=k _ _ (ne_f a b) (ne_f a c) a
zxh:=(S8 Bool)
zxg:=pure true
zun:=C.map V.int
zum:=zs.length+k
zvd a:=((i9 a "left"),r)
zyB:=(jj x o)
zqt:=(so n)=(some t)
zul:=I.hok b u e
ztd:=(O5 cpos es)
zsg:=.noCell v0 v1
zqs:=.noWindow v0 v1
zrj:=.oldSeat v0 v1
zsf:=.noSeat v0 v1
zzZ:=(Ie ia)
ztc:=V.str "both"
zri:=h.objs.size<=a
zzY:=κ × V
zxf:=w_ev y ..
ztb:=(L5 "range")
zuk:=xs++[(k,a)]
zyA:=ne_f f v
zyz:=ne_f f j
zyy:=ne_f f z
zyx:=(jp R e)
zzX:=(g,a,s)
zuj:=s4.trans s5
zoC:=s.heap.objs.size+3
zoB:=c.heap.objs.size+3
zqr:=λ kv=>(i9 vV k)
zzW:=(IB h1)
zzn a:=(ziR (zu a H'))
zyw:=xs[i]' eA
zyv:=ys[i]' eA
zzV:=(OA fG)
zxe:=a∈crowd
zxd:=(eQ x hx)
zvJ:=p.getD k 0
zzU:=(zdz T9)
zmx:=by refine (nx ?_);refine (fq ?_);intros
zxc:=SsOk h ss
zvI:=(zpS pw ph)
zzT:=(ztK sb)
zyu:=(#[]:jM)
zzS:=(HW:jM)
zqq:=(iA World Heap)
zta:=(iA im Heap)
zxb:=(eQ y hy)
zui:=α->(iH β)
zxa:=a.lt k hk
zsZ:=(i9 b.1 k)
zxU b:=(pL,XN a C b)
zwZ:=ifN Db ?_
zqp:=below t.place j
zzR:=(On qv)
zuh:=xaq (lO fG)
zyt:=XC X.K C
zys:=λ c q=>q
zxT:=by show(Hr,a,b,.str)
zng:=(Ef,s∈(room n),DY)
zwY:=ZR.inj hx
zon a:=s.heap.FunFrames X.base a
zzQ:=t1≠TO
zzP:=t2≠TO
zlX:=(zp3 s.heap t1 t2).objs.size
zwX:=.str _ hs
zvH:=(fO dx L3)
zvG:=(fO lg qQ)
zzO a b:=RelV (o.getD a) b
zsY:=SqT K H p xs
zsX a b:=Lay mask hs.toList a b
zvF:=.rng lo hi
zzN:=A b _ z
zyr:=k b ob q
zvE:=(Bh gm fG)
zpH:=Rd H a (.dT kvs)
zvD:=Mk X.K C f
zrh:=.ask zjO j8 0 0
zwW:=(Xn name)
zqo:=Nat.succ.inj hl
znZ:=xs.length=ys.length
zoY:=(I.ok.bs b o e).1
zpG:=(zcg 1).objs.size
zpF:=(zcg d).objs.size
zsW a b:=a->(vz->(∀(N:Bl),b))
zwv a:=prs.map (uprI a)
zyq:=(eQ s v)
zoX:=(xs.all xf2)=true
zoW:=(xs.all scV)=true
zwV:=(hU DW s)
zvC:=k1 _ _ R e
zpE:=.str (Z2 "left")
zoV:=.str (Z2 "right")
znk a:=PySem.W.methodObj (.ref f) a
zrg:=(ft,j _ _ S)
zpD:=(ft,j _ _ hl1)
zUx:=ps.any (λ p=>T9)
znI:=ps.any (λ p=>(G1 s))
zwU:=k b o j e
zvc a:=(Cm (vN "len") a)
zug:=PA X [a] ta
zpC:=(xcb d)=(some b)
zmw a:=Builtin.Range.rangeSize lo hi a
zrf:=(zqa xs.length)
znY:=xda ph ss ds dr s r
znX:=xdc ph ss ds dr s r
zzM:=(zpZ od)
qca a b:=PS X (.Assign [a] e pos) b
znH a b:=PS X (.Assign [a] value pos) b
znW:=qs.length=cs.length
zvB:=λ_ _ e=>e
zsw a:=(cans y ss a).head?
zre:=(zkl prs).head?
zvA:=(iA α β)
zwT:=(gf Z ku)
zse:=(uJ t.C_a [])
zqn:=(so a)=(some s)
zyp:=(-pF)<=i
zsV:=(ZV.mp hs).1
zRp:=xa7 rfl rfl he hdx
zvz:=(rg xh Zv)
zwS:=(yD ks a)
zsv a:=td Z H1 (λ x H2=>a)
zzm a:=(zza "range" a)
zwR:=XN a C oB
zzL:=Yv C dx
znf:=(Fj "__init__" (fX f))
zuf:=(iE H l ys)
zsU:=(zdz (VB zeE))
zpW a:=by show(gP,its,r,pl,hz,I.list a)
zpV a:=ps.Pairwise (λ p q=>a)
zrd:=p.getD (k-1) 0
zrc:=(Ct,c / 8,9)
zsT:=xbr ky ad f7
zmU a b:=xb7 t H (upd a e (XO e C b)) e er
zsd:=SqT K H t2 ys
zue:=(zf H' w h)
zrb:=(zzs qs.length)
znV:=(way t.mask qR m).j
zvy:=(zeX H nms)
zrF a b c:=(VW hr (SE,a,b,xaq (lO c)))
zxS a:=QI zwb (arrOf a)
zvb a b c:=(zoi,a,some (.int b c))
zrE:=by simp only[kstep,e,e2]
zva a b c d e:=(iJ (zbJ a) us b vs c d r1 e ?_)
zzK:=(zlH zWs)
zqm:=xbe P w H h a o
zyo a b c d:=by ext ztI a;exact(iu a1 a2 b c d)
zoA:=s.heap.objs.size+4
zql:=20-crowd.length
zmd:=by rw[rangeSize_one];ext rB
zud:=jh == .free
zzJ:=MQ≠MR
zzI:=gW∈pG
zzH a b:=MJ/\(a/\(Q b H'))
zqk:=l.most=(some n)
zsS:=CXo l.prog w
zzG:=mir w c
zsR:=(jw [] .nil)
zuc:=o.getD j Hc
zra:=(jZ d.name fa)
zwQ:=(uI H1 l)
zqZ:=PrsL H' prs qs
zub:=h _ _ _ _ q
zmK:=s.heap.Ns X.env.locals m
zpB:=λ n h=>(nomatch h)
zua:=vs=[fE,x,r]
zqG a:=Kp.Crowd room so a hs
zlM:=["picture", "names", "pairs"]
zoU a b c d e f:=(gc ["picture", "pairs", a, b, c, d] e f)
zvx:=call gZ us
zvw:=(HD uB ?_)
zne:=λ σ' H3=>(tc σ' H3 zlN)
zwP:=x=(.bl c)
zsQ a b:=by show(Kt,(Same a H')/\(σ'=b))
zoz:=zeI->(zzf->(N y H'))
ztZ:=.ref (ad i)
zmc:=(zgL,PySem.W.takesIn K OP)
zoT:=(ZI a:Key)=(ZI b)
znU:=(pT,X.A.units+20)
zoS:=ite2 DU (λ_=>wT)
zlR a:=by show(wW,i,xs.length,eA);show(DS,a,hd Z H p)
zrD a:=Zr.mp (I.stkSub b a)
znd:=ts.map (λ t=>(Zl t.2))
zvv:=at' 0 ρ i
zRo:=Xat h' e cls od Ha
zuZ a:=kas_desc f p iw a
zyn:=(zxC b z)
zsc a c:=(gF a c k.pok k.b k.ne)
zwO:=xft K C f
zqY:=ZY a s.heap h'
zsP a b:=h.IsKeyIter a d i b ep
zsb:=RelV (kV k) u
znT:=(oZ vV k (vV,y) kv)
znG:=HOk X.prog X.w H' h'
zmJ:=xdg gH (xdg gH (xiz gH))
zoy:=Paired F l₁ l₂
qbZ:=k.pts M I pk
znS:=xi5 (ss:=ss) nx g k
zkS:=(PySem.W.specialIn K OP "__get__")=(some zHT)
zpA:=(fS P0 P1 P2 P3)
zoR:=xfx H dl da names
zqX:=(zEw (qV e ox))
zzF:=(zZW Rr)
znc:=ZA z TI TO i1 i2 t1 t2
zzE:=.cls cd
zsO:=mv.mono more
zqW:=T.filterMap so
zsa:=om.trans out3
zzD a b:=(∀ m,a)->(xL b)
zpl a:=s.heap.FunFrames base a
zym:=(k-1)-xR
zZU:=12<=ps.length
zyl:=Tr × oh
zqF a:=by rw[JO,a,decide_eq_true_iff]
zuY:=by cases rr;ext jq r
zzC:=[zQi,zOR]
zyk:=kv0++kvs
zoQ:=zgn++((j,h,x)::zgm)
zzB:=U / 416
ztY a:=if neg then (! a) else a
ztA a:=if a then 1 else 0
zzA:=x1≠x2
zlE:={ cls:=.none,data:=.fields ps }
zly:=∃ sl,(zrN { o with slots:=sl })
zqj:=(m name).isSome
zzz a b:=by have:=a;rwa [b] at this
zox:=∀ b∈ch,(zXR zGd)
zzl a:=by obtain ⟨v,hv⟩:=a
zkW a:=∀(i j:Int) (t u:Tok) (s:Shared) (Q:fM) (E:fM),a
zqE a:=∀ h',(a->(Q none kZ))
zqV:=I.type (M:=jk)
zlq:=∀ y∈scope.names,(y.2≠.cell)
zkB:={ J with heap:=J.heap.push (jt,"dict_items",.fields (#[vJ])) }
ztz a:=by change (wpAny _ _ a _ _ _)
ztX:=∀ s,(Nu<=0)
zoP:=["before", "now"]
zlc:=["_law_picture_here", "_law_cell_here"]
znF:={ p with x:=x,y:=y }
zKS a b:=∀(k:Nat) (I:Pt),((k<a)->((sZ Iy I)->b))
zSE a:=∀ p∈prs,((fK∈ps)/\a)
zsN a b:=by generalize eu:(o9 H4 a b)=H5
zrC a:=∀ t,((lv,ho t)->a)
zpk:=by rintro _ _ ⟨rfl,rfl⟩
zlQ a:=(scope.names.lookup y.1)=(some a)
zwu a b c:=operate a (getItem b c)
zoO:=ox.dict=(some dx)
zqU a b:=(seqIndex? i a)=(some b)
ztW a b:=by refine (xhj (c _ _ a b _ ?_))
ztV a b:=(fO,a,.tup (prV b))
zwN:=(eQ g hg)
zwM:=(eQ t ht)
zxR a:=by exact (wpAny_Name a hd)
zwt a:=.inl (mr,.inl a)
zws a:=.inl (jo (ft a))
zyj:=(gf L e)
zpz:=(notCls ox)=true
zvu a b:=(jI,xc8 a (xe5 b))
zyi:=hnF j ln
zuX:=by show(sL,ly,ui hy)
znR:=(Dt "name" "rooms")
zmb:=(Dt "asked_by" "free_seat")
znw a:=ps.find? (λ z=>(i9 z.nm a))
zmf a b c:=by rw[a];exact (pastItsLine_dict (Z5 b c))
zwL:=ZE (Wg _)
zrB a:=HT.sIx xs.length 0 a
zwK:=nowP ps p
zzy:=trk h H
zpj a:=(rJ,ty Z H (λ y H1=>a))
ztU:=adv mask NA
zwJ:=ifP vL ?_
zwI:=(ph+1)-zph
zwH:=.cons r _
zrZ:=SqT K H t1 xs
ztT:=b∈([]:eV)
zwG:=lo+(jT*d)
zsM:=(U / 8) % 26
zXP a b c:=(typeLookup (.type a) b)=(pure c)
zty a:=HOk X.prog X.w H a
zqT:=ite2 DU (iy y)
ztS:=al ρ μ fs
zsL:=putK kvs k y
zqS a b:=xb0 (v:=(.int a)) rfl b lA
ztR:=xau w' ps D
znN a:=by subst z;ext h7 a mu mu
zwF:=λ x y=>zWr
zSD a:=by rw[<- z];exact (SqL.of a)
zxQ a:=(xco o a)=false
zpy a b:=PE X (.Constant a j pos) b
zqi:=Ze _ (Zp _ rfl)
zxP a:=(Ga,U,xhc ai,a)
zsK:=IsPart vu hi
znp a b:=by subst ey;show(qS,a,vs,j,b,xfe I.hok e)
zpx:=(Ao,xn<xf,xf<xn)
zyh:=(zpS M O)
zwE:=Mut (H x)
zvt a b:=kF _ _ (Zz a) (m9 b)
znE b c:=(oa a dx b T.c_a T.n_bo lkP c)
znQ:=λ i=>(bs.getD i true)
zrY:=vs=[fE,nI,Nr]
zwD:=(Ad op r)
zvs:=(zko oH kO)
zlW:=p.map (λ i=>(vs.getD i .none))
zow:=λ z=>(e (f.trans z))
zSC a:=(tH,M,(H1 c)=(some u),a)
zmI:=Heap.ExtBut it s.heap h'
zsJ:=(hashAt i)=h
ztQ:=Itrs lo d n
zvr:=dEqs xs ys
zov:=s.TypeIs fE "dict"
zLZ:=setFlight (.ref e) none
zvq a b:=(EM,1,s2.seqL J,a,b)
zvp a b:=(KU a T.n_cq lkZo b)
zsu a b c:=(Ks,a,b,∃ q,((y=jc)/\c))
znv:=by exact (v p (by rw[e];simp[k]))
zwC:=v i eA eA
zrA a:=tSeq t2 (MU t3 t4 a)
zwr a:=(Gv D uu (zrP a))
zrz a:=l.map (λ n=>(k n,a))
zvo:=sIx n n hi
zzk a:=(OM a (zpY zgk))
zWp a:=P (.done (.ret .none)) a
zqh:=GOk zs.length g
zyg a b:=λ v a h1=>(thn h1 b)
zlD:=(eP dr.pm.length_eq (fV dr.ok))
zuW a:=(iI 83 _ _ rfl a)
zmT:=k b o (λ z=>(f (ip z))) e
ztP:=(zeY [a] zdj)
ztO a:=by ext rA hb xh a a;exact new
zrX a b:=by ext vG a;ext qL k;ext Vb b
zqR:=putK kvs fK jJ
zRn a b:=PW.pt (xd2 (GX a) (xdj (xdq b)))
zwq a:=λ j x d h1 h2=>a
zlC a b:=OpR X (compareOp a) (rI0 (λ i j=>(zfJ b)))
zyf:=(zkg v r)
zmH:=(jQ,setAttr mQ name v)
zLY:=λ f vs=>(PySem.call f vs)
zwp:=by simp at f;subst f
zMO a:=∀ k,(a->((k<xs.size)->(j<=zuR)))
zlv:=(zrt "_law_size_here" "_law_many")
zJr a b c:=(DD a)->(b->(∃ rs:eV,((ys=(rs.map V.ref))/\c)))
zye:=(zzd t n)
zou:=(clsV c)=(some cv)
zxO a:=by show(eE,od,J,a,I.look)
zuV:=by refine (.cons ?_ ih)
zWo:=(kX (Go gW DT))
zlL a b:=by show(tY,t,show a from rx);cases q;ext Fb b Jq
zvn:=(zqB gW fK)
zma:=h1.push (jt,"list",.seq zwc)
zkZ a c:=by subst ey;cases (LJ,u=(Zl b));show(qS,a,xs,j,c,xf7 I.hok e)
ztN:=(yx xs i v)
zlp:=(vn,v,0,(v+pF).toNat,min v.toNat n)
zLu a:=∀ j,((j<n)->(Ap,a,ky j,ad j))
zKR a:=by ext S5 i a e;rw[ZF] at a;injection e with e1 e2
zoN:=(valV kvs k)=none
zUw a:=(hU xs x)->((hU ys y)->a)
zmG:=sliceBounds lo hi none n
zpw:=(qN H1 q1 nI fF)
zLt:=.go own rent asked crowd
zqQ a b:=(iC 123 _ _ _ _ rfl a b)
znj a:=HT.sIx xs.length xs.length a
zzj:=by by_cases e:(fK=j)
zmj:=∃ u,((h'.get? e)=(some u))
zvm:=MtR X id r
zry a:=PE X a (tOp r ta tb)
zwB:=f 0 y rfl
znb:=(e=x)\/(fO,e,.own x)
zZT:=kas_rev p 0 k
zmq:=.frz ob (.dT (LnT (D b)))
zqg a b:=(n<=j)->((a[j]?)=(b[j]?))
zpv:=AkD H d al asked
zom a:=Sg t H' p d1 d2 a so' ho'
zvl a b:=ZW _ a (YE (Yp b _))
zwo a:=λ b u b1 b2 e=>a
zWn:=(c+(s*y9)) % 26
zlg:=["width", "height", "points", "seats"]
zlu:=Kf/\(Np/\(ziP,h.DictOf yS a vs))
zmF a b c:=(kM,(uL,(w+1)-a,b,true,c),_,xf1 w a b false c)
ztM a b:=by show(Dz,kvs,hk,a,nd,b,id st)
zlb:=∀ d,(D0,od,d,∃ fs,(xM,XD d fs))
zpu a b:=λ i x a hx b N M hN hM=>?_
zsI:=IsPart vl lo
zuU a:=by rw[<- Js,a,Za]
zst a:=by have:=a;ext uT this
zOP a b:=show ((its.toArray.any a)=b) by simp
zzx:=[a,b,c]
zle a:=∀(s:Shared) (u:Value),(zgI (mh [u]) [(a,u)])
zol a:=by simp only[shp,Zs,We.injEq] at a
zlV:=∃ ks' b,((y=jD)/\(yD ks' b))
zmi:=["pairs", "name", "other"]
zmh:=["before", "now", "seats"]
zna a b:=∃ tk,((mg a)=(some (.int b tk)))
qbY a b c:=λ_ _ _ _ ⟨1063,_,_,a,b⟩=>c
zot a b:=by generalize eu:a=H2;ext ul s2 b g2
znu:=by obtain ⟨_,k,A⟩:=(v s' q e)
zqP:=xdd (j:=0) rfl
zos a b:=by generalize eu:a=H6;ext ul s6 b g6
zsH:=(er.cls t)=C
zsG:=P0/\(P1/\P2)
qbX:=mZ/\(qD/\vW)
qbW:=mR/\(qi/\vI)
qbV:=mL/\(p8/\vp)
qbU:=mI/\(pX/\vg)
ztL:=SP X pins D
zvk:=ZW _ h rfl
zsF:=(o9 H2 X WR)
zrW:=M.pts I mO ps
zZS:=(m<i)/\(i<=k)
zuT a:=.cons rfl lA lA a
znP a b:=by show(kS,last,(rC (qC:fD) vErr)->a,b)
zqD a:=λ y=>(oZ y name ku a)
zqO:=ZY d s.heap h'
zli:=["self", "askers", "asked_by", "gap"]
zrV:=eOf X.K H m d
zmv a:=(xad a rfl:PE _ _ (tFld K _ _))
zqN:=(qN j p Ls w4)
zwA a b:=(oN n a rfl b _ ?_)
zqM:=kvs++[(zjN,zif)]
zzi a:=tSeq a u D Z H
zrU:=q B.1 B.2
zlo a c:=by have b:(rC g a):=(beq_iff_eq.mpr h);simp only[Jj,b,c]
zsE:=(fh 0 0 0 0)
zlZ:=(zsB "str" T.n_str boot_str)
zxN a b c d e:=(iQ a 1 b rfl c d true rfl e)
zqL:=Slot T name id
zpt:=f b _ q (λ z=>z)
zrT:=(vC H2 s e f)
zno:=ObjM s.heap x dx C mA
zzh a:=Moved a G s s2
zqf:=(uL xn yn b rn)
zqe:=(uL xf yf b rf)
zkR:=(qy,fZ,T.c_ag,T.aj.m,ok_aj T,fA,T.aj.b,xv)
ztx a b c:=(iC a _ _ rfl rfl b c ?_)
zps a c:=by refine (.tup a rfl (fW j x d c b))
zls:=["picture", "name", "side", "row"]
zUv a:=by show(kS,a,dx≠e,pj z xh hdx hdx)
zlU:=∀ C ex s H pn,(PE KR elt te)
zlK:=∀ C ex s H pn,(PIf KR ifs tc)
zmS:=(Ef PL (zuQ,Nt,NU+Nu))
zlT a b:=PW.pt (xd2 (GX a) (xdj (xcs (xa2 b))))
zmE:=λ f=>(jf,mU,H,I.tok f,q)
zNS:=A++(p1::(B++(p2::C)))
zxM a:=mir w (mir w a)
zrS:=KB H H' d1 d2
zNR c d:=(ww,zdj,λ v c=>(rW,KP,λ u s₂=>d,c))
zld a:=(h9,fj,T.c_a,T.ae.m,ok_ae T,fA,T.ae.b,xv,a)
zss a:=Hand room a so ho s
zla:=items.toList.drop (sIx items.size 0 lo)
zkJ a b c d:=by obtain⟨dz,a⟩:=k.ins;obtain⟨⟨b,c⟩,⟨kd,d,_⟩,_⟩:=(id k.dr.pic)
zor:=(zaz d_o d_r wU L7)
znD a d:=by show(zuP,c,[(a,V.ref d)]);rw[Zy,b];rfl
zmD:=lenI oH p.x p.y s.1 nU
zrR:=(znA sd)
zoq:=k _ _ (ne_f f e) f
zmu a:=IsPair a TI (.ref i1) (.ref i2)
znM a:=by show(kR,(DB,(H4=H')/\(σ'=a)),?_)
zkX a c d f:=(hV a (LQ c d) f (yW e d) I.base.tups I.base.frzs I.base.tbls)
zln a b:=Best own rent asked (λ a' x'=>((P a' x')\/a)) b
zmg:=xe2 pw ph ps d dx dy n x y
znC:=seqObj "list" (#[]) m8
zNQ:=(jT+((gk m)*1)).toNat
zkz:={ s3 with heap:=s3.heap.push (jt,"slice",.fields (#[B,vu,.none])) }
zlP a:=I.laid (t':=s.toks) (o:=a) qcc f8 ?_
zsr:=by intro so2 ho2 cs2 r2
zlr:=∀ H',(zeI->(((p i)=false)->(M H')))
zkI a:=∃ j e,(((t.slot a)=(.live j))/\((hU L e)/\((Nq=qR)->zKn)))
zmC:=∀ x∈Nt,((NU+zio)<=jh)
zky:=["_law_hand", "_law_picture_here", "_law_deed_here", "_law_short"]
zkw a:=∀(kV doc pm:Value) (an:i5) (cdv ct:Value) (a0:Value),(X5 a [a0] [p0])
zkx a:=∀(kV doc pm:Value) (an:i5) (cdv ct:Value) (a0 a1:Value),(X5 a zih zid)
zkv a:=∀(kV doc pm:Value) (an:i5) (cdv ct:Value) (a0 a1 a2:Value),(X5 a zeG zeD)
zkt a:=∀(kV doc pm:Value) (an:i5) (cdv ct:Value) (a0 a1 a2 a3:Value),(X5 a zcA zcy)
zmp:=xfg (st:=s_b) l_b c_b k_b
zmo:=xfg (st:=s_c) l_c c_c k_c
zlG a:=x9 (r:=(xk8 K)) xh0 (xaq (xg fj xj)) a
zoM a b:=by rintro Z _ (⟨a,rfl,rfl,b⟩:63)
zmn:=(Zw X.K gZ f)=(some none)
zxL a c d e f:=by show(eC,kk,a,HE c d,I1,e,f);ext zFB
zpr:=.s (.c y) (.c x)
zop:=s _ _ (ne_f x e) x
zwn a:=xev _ a hi p' ab
zUu:=(fS mZ qD vW BN)
zUt:=(fS mR qi vI Bm)
zUs:=(fS mL p8 vp AM)
zUr:=(fS mI pX vg At)
zmZ:=apply_ite (WO (mir w))
zrx a b c d e:=(iQ a b c d e z.n1 z.n2 z.n3 z.n4)
zrQ:=ErAt t H e er
zlf a c:=pC (ok_b2 T) hr T.b2.g T.b2.F.kp T.b2.b (hF a c)
zmm:=kvs.map (λ kv=>(zxD,kv.2))
znn:=(DC,setAttr fE f u)
zWm:=AkD H' da vv zaF
zme:=by ext B7 M I;show(eE,p,O,J,pl.get I)
zpq:=xau M ps C pt.nm
zrw:=by show(eE,A,b,z,h.get u)
zzg a:=by exact (g.ok p (D p a))
zkU:=by have nl:(((pG).length)=ps.length):=(by unfold xar;rw[Za])
zkL:=xas (h9,fj,T.c_a,T.e.m,ok_e T,fA,T.e.b,xv,lZ)
zzw a c:=tFor wi g b a c H
zkQ:=["pairs", "name", "other", "seats", "giver"]
zmR:=f (.int i t) (.int j u)
zkG:=(OF D C (LR,pO 0 C D,(Gp,pO 1 C D,pO 2 C D)) 3)
zsD:=(zqA y r)
zok a:=J9 a (hZ hs hs2) (jn hs2)
zku:=by rw[(kM,putF f v zgl,(oZ,k,f,zj::r,(k,x)::(putF f v r)),rfl)];by_cases hk:(k=f)
zqd:=[M,v1]++[v2,v3]
zwm a:=binT ha hb I h a
zkO:=(typeOf zBc)=(pure (.type "method_descriptor"))
zSB:=PIE X pins Z tg R
znm:=xhu w h ps ss srt prs
zlB:=s.heap.IsSliceOf sl vl vu .none
zwl a:=λ c u n1 n2 e=>a
zlA a:=if (vV=(.inr nm)) then (nS vV a) else kv
zrv a:=by obtain⟨z,its,n,r,e⟩:=a
zlx a:=by have:=a;rw[JE,Jk] at this;exact this
zqc:=[z,TI,TO,i1,i2]
zmY:=∀ s,(FF->((rent s)=0))
zkD:=∀ nm∈names,(∀ q,((∃ kvs,((fO dl pA)/\qcb))->(q≠da)))
zkH a:=∃ q qs s l,(jH y jc (kX (yC T5 l)) (fO qs Bn) (gf a NV))
zQe:=(fb mZ qD vW BN Op)
zQd:=(fb mR qi vI Bm Nw)
zQc:=(fb mL p8 vp AM L6)
zQb:=(fb mI pX vg At Lv)
zoK a:=xas (xmm Jc Wn Wm xio a)
zru a:=M1 X o a apos e cpos
ztw a b c:=(zE cs so ho a b gp my c)
zkV:=[(.inr (kY C),(U4 v)),(.inr (kY v),(U4 C))]
zkY a c:=pC (ok_an T) hr T.an.g T.an.F.kp T.an.b (kH a xt c)
zlt:=by ext NF I q h;exact(gM σ' H' I.unwish q)
zpU a:=FunD K x qual st T f a
zkP:=by show(o6,σ5,B,S,z,q5);exact (R S (λ U P=>(gM _ B P z)))
zCT a:=Kp.Rch (xfd a ho) (.go (setI own nm 0) rent j8 [nm]) (zBi own' rent')
zoo:=Five z TI TO i1 i2
zsq a:=λ c u n1 n2 n3 e=>a
zml c:=by rw [Zv,ZT];show(jV,c,eS,fW a i b f e)
zLs:=[zXS,zpT,qcf,(nS "rent" J)]
zkN a b:=by ext BH;ext zmX;refine (QL (h₀:=X.base) I.ok.mod.kin a b he hpl)
zNP:=look I C asked b f0 y
zmQ:=Apt hd dp do_ a dpa doa
zmB:=below.go xs j fuel lo hi
zlJ:=λ y H' s' f=>(h1 y H' s' rfl f)
zkK:=∀ x,((foldedSetIterable iter X.env x)=(pure x))
zQa a:=λ b u n1 n2 _ e=>(k2 _ _ n1 a)
zmP:=P0/\(fb P1 P2 P3 P4 P5)
zJN:=mZ/\(fb,qD,vW,BN,Op,P5 a)
zIW:=mR/\(fb,qi,vI,Bm,Nw,P5 a b)
zLX:=mL/\(fb p8 vp AM L6 zze)
zLW:=mI/\(fb pX vg At Lv zwe)
zkT:=by ext zHS c;rw[Zf] at i c;ext tR q u i;ext tR p y c
zHr a b:=by refine (wpAny_forIn_list _ (λ rest r s'=>a) _ ?_ ?_ _ _ b)
zEg:=(Aw u9 t9 u10 u8 t8 (Aw u7 t7 u8 u6 t6 zms))
zkF a:=[(fX p),some (.str name),(fX rm),(fX I),(fX U),(jN jT),a,v7]
zlI:=P0/\(P1/\(fb P2 P3 P4 P5 P6))
zkA a b:=a->(vz->(∀(N:Bl) (M:zzb),((∀ y H',(gb,zeI,(p i)=true,zzf,N y H'))->b)))
zkr b:=codeAny b callerA (.call (.ref fa) (mh pK)) (λ r s'=>(fS,r=(.ok (.ret (.bool true))),OldK s₁.heap s'.heap,s'.os=s₁.os,zbx)) s₁
zks b:=⟨a,dx,_,rfl,O _ _ hp,gB,a,dp,U,z,ph,ps,nm,pt,rfl,(lN O S),hn,hf,λ H2 q2 s2 Y=>(oO q2 b)⟩
zlm a:=by rintro i v Z _ hv (⟨a,rfl,rfl,no⟩:63);ext zmA
zBT:=["picture", "name", "side", "row", "x", "y", "toward", "down", "upright", "level"]
zOO a b:=Int.mul_le_mul_of_nonneg_right a b
zWl:=Int.mul_comm ..
zXO:=Int.neg_mul ..
qbT:=by ext qK h
zXN:=by rw[List.cons_lt_cons_iff]
qbS:=∃(a:A0),mZ
zUq:=∃(a:A0),(mZ/\qD)
qbR:=∃(a:A0),qbX
qbQ:=∃(a:A0),zUu
qbP:=∃(a:A0),zQe
qbO:=∃(a:A0),zJN
zPZ:=∃(a:A0) (b:A1),mR
zLV:=∃(a:A0) (b:A1),(mR/\qi)
zPY:=∃(a:A0) (b:A1),qbW
zPX:=∃(a:A0) (b:A1),zUt
zPW:=∃(a:A0) (b:A1),zQd
zPV:=∃(a:A0) (b:A1),zIW
zKm:=∃(a:A0) (b:A1) (c:A2),mL
zIF:=∃(a:A0) (b:A1) (c:A2),(mL/\p8)
zKl:=∃(a:A0) (b:A1) (c:A2),qbV
zKk:=∃(a:A0) (b:A1) (c:A2),zUs
zKj:=∃(a:A0) (b:A1) (c:A2),zQc
zKi:=∃(a:A0) (b:A1) (c:A2),zLX
zHq:=∃(a:A0) (b:A1) (c:A2) (d:A3),mI
zGn:=∃(a:A0) (b:A1) (c:A2) (d:A3),(mI/\pX)
zHp:=∃(a:A0) (b:A1) (c:A2) (d:A3),qbU
zHo:=∃(a:A0) (b:A1) (c:A2) (d:A3),zUr
zHn:=∃(a:A0) (b:A1) (c:A2) (d:A3),zQb
zHm:=∃(a:A0) (b:A1) (c:A2) (d:A3),zLW
zXM:=∃ o',(zrN o')
zZR:=(so n).isSome
qbN:=(Ko).objs.size
zON:=by simpa using I.len
zPU:={ s with heap:=Ko }
zPT:={ s with heap:=Ii }
zGm a:=∀(pins:fP) (s:Shared) (Z:St) (H:Hp) (Q:VK),a
zOM a:=∃(o:Obj) (its:jM) (n:Nat),a
zSA:={ D with nx:=Pv }
zRm:=∀ x∈P,(zlw\/V9)
zUp:=by simpa using Q
zSz:=by simpa using hv
zUo:=by simpa using P
zSy a b c:={ cls:=zuO,dict:=a,data:=b,slots:=c }
zHR a:=∀(w:World) (mg:im) (fa:Addr) (h:Heap),a
zUn:=λ_ _ _ _=>False
zPS:=λ_ _ _ _=>(h8 rfl)
zWk a:=by injection z with z;injection z with a a z a
zSx:=by simpa using hp
zUm:=by simpa using B
zUl:=by simpa using J
zPR:={ x with heap:=h' }
zSw a:=∀(j:Nat) (x y:DV),(zUw a)
qbM:=by unfold slot;simp only[]
zWj:=∀ v∈rest,zmV
zUk:=by simpa using A
zPQ:={ c with heap:=h' }
zJq:=by unfold absI;split<;>split<;>split<;>lia
zLU a:=by unfold acr;cases b1<;>simp at a ⊢<;>lia
zKQ:=∀ a∈T,((so a).isSome)
zKP:=λ_ _ _ _ _ _ _=>(h8 rfl)
zWi:=λ_ _ _ _ _=>fj
zWh:=λ_ _ _ _ _=>zhX
zXL b:=xh (H:=H) (a:=d) (o:=b)
zPP:=by unfold xfh;rw[h]
zNO a:=∀(k:Nat) (I:Pt),((sZ Iy I)->a)
zRl a:=∃ v5 v6 v7 Y X L J I:iM,a
zMN:=∀ z∈zs,(BB z z sz)
zSv:=by simpa using hi
zLT a:=∀(j:Nat) (s:Seat),((hU al s)->a)
zWg b:=∀(k:Nat) (a:Str),(UO->b)
zNN a b:=∀ H' l cs so ho,(lX gu qg a b gS)
zNM:=∀ v∈vs,(∃ d,zeC)
zSu:=.ref h1.objs.size
zRk:=beq_self_eq_true _
zZQ:=.sameColumn _
qbL:=(gk es.size)
zNL:=(fX s.heap.objs.size)
qbK:=(fV k.dr.ok)
zUj:=Nat.le_total a b
zUi:=Int.le_total a b
zNK:=(gz s.heap.objs.size)
zXK:=(lK PySem.Fin)
zJp:=PySem.F.args_tuple_add_2 _ _
zZP:=IsTup.new _ _
zJM:=PySem.F.args_dict_get_2 _ _
zWf:=List.filter _ _
zZO:=s.heap.get? b
zSt:=List.of_mem_zip b
zPO:=of_decide_eq_true e
zLr:=Bool.or_eq_true_iff.mp e
zPN:=(iK sc.isCoroutine)
zPM:=(iK sc.isGenerator)
zXJ:=(iK v.isFreed)
zWe:=(H' b)=(some o)
zIV:=(X.s₀.heap.get? b)=(some o)
zSs:=decide_eq_false c
zZN:=xs.eraseIdx i
qbJ:=l.eraseIdx i
qbI:=xjz mask h r
qbH:=xrg mask h r
qbG:=C.eraseIdx j
zZM:=(ju its.size)
zZL:=(ju z.length)
zXI:=(ji "picture")
qbF:=(ji "given")
qbE:=j<1073741824
zUh:=X.A.handled=none
zRj:=.lst (D.map V.ref)
zPL:=.lst (rs.map V.ref)
qbD:=Zx xs.length
qbC:=Zx ps.length
qbB:=Zx cs.length
zZK:=crowd.idxOf q
zSr:=(l9 Str NameKind)
zUg a b:=by rw[a];exact (T.srt.sublist b)
qbA a:=pr.keep (Same.tups a)
qbz a:=by ext pb a;refine (sq7 ?_);intros
qby a:=by ext pb a;refine (sq9 ?_);intros
qbx a:=by ext pb a;refine (sq6 ?_);intros
zXH a:=of_decide_eq_true ((a).1)
zZJ:=ps.length<=12
zZI:=ys.length<=12
zUf:=(pT A.in1.units)
zOL:=scope.names.lookup y
zWd:=(X.H₀ b)=none
zXG:=λ y=>(nomatch y)
zZH:=us.toArray[j]
qbw:=B.toArray[j]
zIU:=PySem.F.args_dict_get_3 _ _ _
zWc:=(H1 c)=(some u)
zWb:=(H7 c)=(some u)
zUe:=(ft,Y _ _ el1)
zZG:=kvs.length<13
zZF:=h.objs.size+2
zZE:=kvs.length<=n
zZD:=I.ok.bs b o e
zWa:=I.ok.noex b o e
zZC a:=(rJ,t Z H (λ x H1=>a))
zVZ:=itP w ss prs iw
qbv:=O.length<=32
zNJ:=by refine (gx ?_);refine (io ?_);intros
zNI:=by refine (gx ?_);refine (wq ?_);intros
zNH:=by rw[Za];exact (ar eA)
zXF:=xbs (xar ps) v
zVY:=by intro h;injection h with h
zJL:=(sD x (ji "__classdict__"))
zVX:=names.map V.str
zUd:=(l9 Value Value)
zOK a:=Heap.get?_update_ne _ _ _ _ a
qbu:=rs.map V.ref
zPK:=s.heap.objs.size<=b
qbt a b:=by rw[<- a];exact (Zj.mpr b)
zHQ:=decide_eq_false (λ z=>(nomatch z))
zSq:=Room q0 k callerA
zLS:=(Ny "object.__class__")
qbs:=(R9 "tuple")
qbr:=R.sg.same s4
zVW:=(GY kvs.length)
zXE:=(GY qs.length)
qbq:=V.str "left"
zZB:=V.str "right"
zPJ:=s.heap.objs.size<=a
zKh a:=(h'.get? s.heap.objs.size)=(some a)
zZA:=Itkd d ob kvs
zVV:=(Lu (sE zAS xt))
zXD:=AllBare s.gens
zXC:=λ e s'=>(E e s')
zUc:=ss'.Pairwise xbz
qbp:=ns.length<12
zRi:=Vals xs its.toList
zXB:=(zaO srt names)
zZz:=a<h.objs.size
zPI:=by cases h;exact vU
zZy:=(iA Nat Heap)
zRh:=(fs.lookup m)=none
qbo:=(R5,k,k-1)
zVU:=(Om (kU,YL eA))
zZx:=l.map (mir w)
zZw:=m.map (mir w)
zRg:=(Mh (G1 pt.nm) pt)
zPH:=o.data=(.fields vs)
zOJ:=oe.data=(.fields vs)
zNG a:=X.s₀.heap.FunFrames X.base a
zMM a:=V.str.inj (of_decide_eq_true a)
zVT:=(scal x y)=true
zUb:=s.heap.Ns1 dx mA
qbn:=CrL H' cs qs
zVS:=.noWindow lo hi
qbm:=(tH x wU L7)
zFS:=(bm.contains (jK "BaseException"))=true
zZv:=SqL K H' a xs
qbl:=Room q0 iw A
qbk:=mvP nm x y q
zOI a b:=Turn P w K Ca a [it] it (λ i h=>b)
qbj:=(Xn "items")
zPG:=xs.length=ds.length
zZu:=s₁.gens=(#[])
qbi:=(iA V Value)
zVR a:=scope.names.all (λ y=>a)
zUa:=(S4,hnF pa ln)
zXA a:=by rw[e];exact (Zj.mpr a)
zML:=(Ef,PL,s∈(room n))
zOH:=I.base.there b o e y
zDy:=(By,(s.heap.get? b)=(some u),(h'.get? b)=(some u))
zSp:=C.filter (xci pt)
zSo:=(xcb dx)=(some b)
qbh:=I2.hok d _ e
zSn:=OwnTail h vErr bm
zIT:=xkc lens own rent asked crowd
zVQ:=(zqa kvs.length)
qbg:=(Ru (yK RL))
zTZ:=by ext zXW;obtain⟨_,rfl⟩:=P
zPF:=standAt apos.atName
zGO:=Q0 "BaseException.__getattribute__"
zJo:=Q0 "object.__getattribute__"
zNF:=(Int.zero_add _).symm
zZt:=λ f=>(rawInt f)
qbf:=(ziN,0<=NU)
zTY:=["name", "self"]
zPE:=["name", "holders"]
zZs:=(zkl yc).head?
zXz:=(uJ t.C_aa [])
zTX:=(so a)=(some s1)
zZr a:=(jQ,pyIter (.ref a))
zRf:=xd9 rfl rfl he hdx
zSm:=(pW,e (ZI.inj z))
zRe:=(pW,e (b.trans z))
zNE:=Yv C s.heap.objs.size
zXy:=(CL fE "list")
zXx:=(CL fE "dict")
qbe:=(zdz (VB zeA))
zSl:=ys=(qs.map V.ref)
zPD a:=(Gk (Kq a) "tuple_iterator")
zTW:=.ok (.ret .none)
zVP:=(Ct,c / 8,30)
zVO:=xb7 t H H' e er
qbd:=SqT K H b ys
zOG:=sm fs ks (f.p.w k l)
zKg:=C.update a (Y7 (λ x=>(#[])))
zKf:=c.update a (Y7 (λ x=>(#[])))
zSk:=sc.kind=.function
zZq:=(ziM,13+m).1
zOF:=by subst h1;rw[iT];by_cases h2:(x=s)
zTV:=by subst h2;rw[iT];constructor
zOE:=(mN "__init__")=none
zZp:=.int i s.toks
zOD a:=(kf,a,.lst (qs'.map V.ref))
qbc:=(hZ ly fi.1)
zFf:=(X.env.scope.names.lookup n)=(some .local)
zVN:=itP pw ss prs k
zVM:=itP pw ss prs n
qbb:=c (ZI.inj z)
zZo:=.inr (.inl z)
zZn:=.inr (.inr z)
zMK:=Z5 I.ok.bsz I.ok.above
zTU:=Z5 I.ok.bsz I.sz
zPC:=(sY,.tup er.told)
zMJ:=(Oq,Value.bytes b t)
zMI:=(Oq,Value.float b t)
zVL:=(eP (kG q m) q)
zTT:=(eP (kG q hn) q)
zMH a:=(zF MG (zpX,isTrue e X.env a))
zSj:=Int.add_mul x y r
zZm:=(Gm C q.told)
zIE a:=(yw,Builtin.«type.__call__» a,Q,E2)
zTS:=λ h' j B=>(h _ ?_)
zTR:=λ h' m B=>(h _ ?_)
zZl:=RelV jJ q.2
zXw:=RelV jJ (jr q)
zVK:=Int->(Int->Int)
zZk:=Int->(Int->V)
zVJ:=DPut H d y v H'
zVI:=DPut H a y v H'
zND:=by ext Xl o;unfold xbt lenI;ext ztH
zSi:=by simp only [h,if_false]<;>lia
zTQ:=by simp only [h,if_true]<;>lia
qba:=(eG xs q f8)
zZj:=(eG xs zrr f8)
zTP:=(Zl e)::(us++ds)
zSh:=(Zl nw)::(us++ds)
zVH:=hr.make C us []
zVG:=W7 h h' e gZ []
zNC a b:=by show(rq,hz,ju vs.length,iz a z,C,zpP,zpO,b)
zPB:=keyKind' vs.toArray
zOC:=acc.length+xs.length
qaZ:=ss.length<32
zXv:=show KC from e
zTO:=λ_ e=>(nomatch e)
zHP:=(s.heap.push (itO t1)).objs.size
zZi:=∀ xs,(Ai->tV)
zRd a:=∀{l:fD},(((xgh l)=true)->a)
zNB:=∀ n∈LL,(∃ c,OB)
zVF:=(l.map f).Nodup
qaY:=(xf2 y)=true
zOB:=λ b c=>(Jm _ _ (Zz c))
zVE:=(ft,z _ _ hl)
zTN:=(H1 a)=(some LK)
zNA:=ps.map (λ p=>(.ref fK))
zRc:=I.base.tups b xs e
qaX:=sk _ _ eA eA
zXu:=.cons rfl .nil
zVD:=by ext mz h1;by_cases h2:(x=s)
zSg:=s.heap.IsCell c v
zKe:=fr.map (λ i=>((Z[i]?).join))
zZh:=λ b z=>(Ol z)
zRb:=(JQ K C name)=true
zSf:=(Lz s.heap .none)
zZg:=b.nodup mt sn
zLR:=if_pos (b.symm.trans e)
zPA:=by rw[z] at h;dsimp only at h ⊢
zSe:=(Qz a:Key)=(Qz b)
zMG:=λ b u n _ e=>(M _ _ n e)
zXt:=canO w ss p p'
zZf:=canF w ss p r
zTM:=(ZC X.K No)=true
zXs:=SqL X.K H a xs
zXr:=SqT X.K H a xs
zSd a b:=OpR X (binaryOp a) (rI0 (F9 b))
qaW a b c d:=(sO,ha a s Z H _ I h,v,b,c,d,r1,f)
zVC a b:=by refine (xd5 n (λ i xs a=>b) ?_ ?_ ?_ ?_)
qaV:=λ p:Pt=>p.nm
zZe:=Ents w es kvs
zSc:=(zkf (eP,xi4 r,q))
zZd:=(XT value zod)
zZc:=(zdZ,f,CY+1)
zZb:=mayB ss fK jh
zTL:=(mH l1 e1 l2 aj)
zEF:=λ_ _ _ _ _ st h=>(wpAny_pyIter_rangeiter st h)
zRa:=(VP (kH fZ xt gm))
zSb:=xs.foldl oneK acc
zTK:=xib s.heap I.big
zVB:=by refine (Jy.append_left _ ?_)
zOA a:=by rintro ⟨u,v⟩;rw[a,b,Prod.mk.injEq]
zVA:=k b o (R b D) L
qaU:=(zf H oH kO)
zMF:=(wD,(Zl T) != Jg,eS)
zZa:=f y (Zm _ hy)
zPz:=.Subscript o i pos'
zYZ:=xb1 oH kO ps1
zVz:=k b u (m b n) q
zTJ:=.hand so ho zXT s
zYY:=cs++[(nm,hs)]
zYX:=(e+(k*j),f,h)
zYW:=λ σ' H' z=>z
zNz:=(zSC,(L c)=(some u))
qaT:=(gM Z H I h)
zKd:=f f7 y (by simpa using hy)
zSa a:=(zgL,mroIn K C (.type a))
zDR:=(tI,e,(h.get? b)=(some u),(h'.get? b)=(some u))
qaS:=(zLu s2.heap)
zEq a:=by show(fQ,Zb (WK (Zb (m:=(Builtin.SmallTypes.nextOf (.ref i1))) a)))
zXq:=(Hf H e zdQ dx)
zTI:=by show(gP,its,B,p,hz,I.list y)
zQZ a b:=λ zs hz=>(eP,I.tuple_inj hz a,b)
zHl:=qs.map (λ q=>(V.ref q,V.bl true))
zYV a:=R.keep (λ z hz u e=>a)
zRZ:=(zQa,M _ _ n2 e)
zEn:=PySem.W.WalkO q loose XP YP l.row.toRowW d [] zLY
qaR:=T.free.mp em
zLQ:=SetTable.grown L.length
zYU:=fE::(u::more)
zOz:=s.toks+(knd.draws k)
qaQ a b:=List.getElem?_inj (pI a) b
zME:=sysModules<h.objs.size
zVy:=X.env.scope=sc0
zMD:=by rw[D];simpa using M
zLP:=by rw[J];simpa using cn
zOy a:=by rw[xdf];unfold Kp.upd1;by_cases zc:(z=a)
zJn a:=by rw[List.map_id''];exact a;exact re
zMC:=PL↔((ho s)=(some n))
zOx:=zyY++(c::(l.drop f7))
zVx:=∀(a:A0),(mZ->C)
zMB:=∀(a:A0) (b:A1),(mR->C)
zIS:=∀(a:A0) (b:A1) (c:A2),(mL->C)
zGx:=∀(a:A0) (b:A1) (c:A2) (d:A3),(mI->C)
qaP:=true == true
zQY a:=∀{xs:eB}{us:fD} (n:Nat),a
zTH b c:=show (s.heap.IsTuple a b) from c
zPy a b:=by refine(h8,wpAny_letOwnedTupleGo_items a b)
zXp:=λ_ _ _ _ n=>n
zQX a:=∀ s',(ML->(Q (.bool a) s'))
zFR a:={ s with heap:=s.heap.push (jt,"tuple",.seq a) }
zDx a:=∀(pins:fP) (s:Shared) (Z:St) (H:Hp) (D:Ends),(zF,t D Z H,a)
zXo a:=∃ i j,((xs=[fF,hX])/\a)
zCs a:=∀(pins:fP) (s:Shared) (Z:St) (H:Hp) (x y:V) (v u:Value) (Q:VK),(gb eR yF lz a)
zVw:=∃ xs x,(Ai/\tV)
zQW:=c.kept (t':=tk) wH
zOw a:=∀{H':Hp},(zcz->(∀ b∈fp,a))
zIl a c d:=∃ i σ' H',(fS,Inv X q σ' H' a,tn i c,zcz,d)
zOv:=by simp only[Z9];lia
zFQ b c d e:=I.laid (a:=s.heap.objs.size) (o:=b) (h':=c) (t':=s.toks) d f8 e
zHO:=∀ y∈sc.names,(y.2≠.free)
qaO a:=∀{binds:E9}{m:im},a
zVv:=([]:fD).toArray
zTG:=(vs++ws).toArray
zVu:=by rw[Z9]<;>lia
qaN a b:=I.laid (t':=s.toks) a f8 b
zVt a:=∃ ob,(a/\(ob.dict=none))
zLq a:=∀(w:World) (h:Heap),((YP w h)->a)
zES a:=∀(kV doc pm:Value) (an:i5) (cdv ct:Value) (us:fD),a
zYT a:=∀(f k:Nat),((1<=k)->a)
zOu a:=∀ h' e,((W7 h h' e gZ us)->a)
zYS a b:=I.laid (t':=L) hm.keeps a b
zRY:=by unfold clsIn at b;split at b
zMA:=by dsimp only at b;lia
zVs:=(prs.map f).sum
zTF:=by unfold KatGo;by_cases e:(a=c)
qaM:=by unfold XS.Cap at aa;lia
zTE:=by unfold upd1;by_cases h1:(n=a)
zTD:=by unfold upd1 at h;split at h
zVr:=["side", "row"]
zHN a:=by unfold Geo.upL Geo.upN Geo.dn;rw[zAW,a]
zFe a:=by unfold Geo.upL Geo.upN Geo.dn;rw[(fH hd),(fH a)]
zTC a b c:=∀{ss:a}{ys:eB},(zJr ss.length b c)
zJm:=.str _ (by cases b<;>decide)
zMz a:=by let Pv (i:Nat) (Z:L2.St) (H3:Hp):Prop:=a
zMy a:=by let Pv (i:Nat) (Z:L2.St) (H2:Hp):Prop:=a
zKO:=∀ p∈prs,(BB kB kB kO)
zEf b:=∃(qs:Addr) (s:Seat) (a:Str) (so1:gJ) (ho1:fw) (n1:Nat),b
zVq:=by unfold Kp.upd1 at e;ext kP
zJl a b c:=∀ H' l qs cs so ho,(gu->(qg->(lX TV a b c gS)))
zVp a:=let ⟨dx,e⟩:=z.ins; a
zMx:=∃ pt∈ps,(pt.nm=nm)
zVo a:=∀ H' l,(vq gu qg a gS)
zVn:=some (zqI,m+1)
zMw:=some (assign zeB X.env)
zLO a c:=((s₁.heap.get? b)=(some o))->(a->c)
zIk:=X.env.frame=(some X.env.locals)
zQV:=env.frame=(some L)
zVm:=.str ⟨#[c]⟩
zOt a:=(ps.find? (λ p=>(VB a)))=none
zYR:=(hB q (kU j))
zLp:=(hB,q.mapOf,h _ _ rp ?_)
qaL:=(eP a.sz hk)
zXn:=bs.getD i true
zXm:=(gf t.place j)
zYQ:=xg fZ (lO fG)
zXl:=(jr,hch c z)
zXk:=pre++[V.ref a]
qaK a:=.inr (eG k a trivial)
zXj:=(ZC K gZ)=true
zQU:=.lst (cs.map outD)
zTB:=nAt mask h (r+1)
qaJ:=xnf mask h n
qaI:=(xrs e)=true
zNy:=(t.fits es.size)=true
zJK:=s.heap.IsList p its.toArray
zPx:=es.getD k (0,.none)
zRX:=λ b ps e=>(zkk DQ)
zYP:=es'.getD j qch
zPw:=(Dt "before" "out")
zNx:=es.any (λ z=>(dEq z d))
qaH:=s.TypeIs v T
zNw:=X.keep (Same.tups s7)
qaG:=.ok (.ret _)
zIR:=dr.pm.nodup_iff.mpr dr.ok.1
zJk:=(s₁.heap.get? a)=(some Xf)
zMv:=ws.map (λ p=>(V.ref fK))
zRW a:=by refine (T.an.F.okn (k:=0) sc_an eZ a)
zRV a:=by refine (T.b5.F.okn (k:=0) sc_b5 eZ a)
zQT:=I.base.tbls b ps e
zFd:=(jQ,Builtin.SmallTypes.nextOf (.ref it))
zJJ:=(kvs.length+L.length)<=1000
qaF:=(JV.mp h3).1
qaE:=(t.put AK).1
zLo:=Obj.data_mapDictKeys q _
qaD:=absurd rfl h
zTA:=Z5 (xmg kvs k) z
zYO:=by simp[sliceBounds,HT.sIx]
zTz:=λ z h=>(nomatch h)
zVl a b:=by ext ou hi a;have:=b;exact (this e.symm)
zLN:=(Bq,ZE (AZ I.ok.above))
zQS:=by refine (wpAny_madeBy_exc gC ?_)
zJI:=(tI,d,kC,(H2 b)=(some u))
zTy:=(b,intD dr)∈ss
zQR:=λ(m:Nat)=>(xs[zNQ]?)
zLM:=(pW,u (c.trans z.symm))
zTx a b:=e8.extBut _ _ a (e7.extBut _ _ a b)
zKN:=oI.cls=(.type "function")
zYN:=PtsL H' ps qs
zYM:=(Go pt.nm w4)
zYL:=(xO c (B2 Q))
qaC a:=by exact (absurd (Zj.mpr a) nd.1)
zRU:=Option (Option V)
zYK:=xfo (.str sd)
zIQ a:=by show(fQ,wpAny_eqIsQuiet_tuple a ?_);ext Kg Wa
zXi a:=by ext zd zbh;exact(hB,st,λ v z=>a)
zLL:=vs=[fE,.ref o1,.ref o2]
zVk:=PrOk ps pw ph p
zNv:=by show(Fb,PySem.W.kitx_list,jo j)
zYJ:=.inl (.inl h)
zIP:=by refine (Zh (jF,WL F.xl_plain_dict_loop _))
zNu:=(Fj "__setattr__" zKT)
zJH a:=(Aa,xs,yb/\(∀ p,((U3 p)->(Q iX a))))
qaB a:=(Bg,a,.oldSeat x r)
zNt a b:=xca a rfl T.n_list boot_list (i3 b)
zXh a:=∀ j,((j<=ns.length)->a)
zVj:=(shp x)=(shp y)
zXg:=Zx (mV r pt.y)
zNs:=Zx (mV,pt.x,0+(-1))
zXf:=Zx (mV pt.y r)
zMu:=Zx (mV,(z+1)+1,pt.x)
zFP:=(sN,(X.s₀.heap.get? b)=(some o),EX)
zYI a b c:=(oa a dx b T.c_ag T.n_co hlkG c)
zTw:=by show(zdy,"picture","picture")
zFq:=(BC,.int ys.length,rp,⟨Ma,(hZ Z9 j)⟩)
zYH:=by show(ziQ,(zgH (zZ,(Eb).j)))
zVi:=λ m=>(xs[(i+m)]?)
zQQ:=srt.filter (xci p)
qaA:=x9 xei fZ fZ
zYG:=(Fx d "dict")
zTv:=valV mirD (ZI s)
zTu:=by ext mz c;by_cases d:(n∈as)
zQP:=by ext mz c;by_cases c2:(q.nm=nm)
zOs:=by rw[(fH z1)] at hm;by_cases f:Cs
zVh:=(xav a)=(xav b)
zTt:=De.out_perm pm M
zYF a b:=by show (xL a);refine b;by_cases z:(j=CY)
zTs a:=by rw[<- a,List.getElem_cons_drop,YF]
qaz:=(K7,I.x=x)
qay:=(qN H p x y)
zVg:=(Ct,U / 8,26)
zRT:=(zaN hd (jw 1 ?_))
zLn:=h1.extBut C.extBut D.i1z
zMt:=Zr.mp (I.mem_iff.mp q)
zLK:=Qc (codeAny_of_tree ?_)
zYE:=PSs X body tb
zTr:=xs.any (λ y=>zAT)
zRS:=l.find? (λ c=>ztt)
zYD:=(fJ i hi hi2)
zTq:=(iZ,s9 _ _ hl)
zTp:=(jp,A c _ q,q)
zVf:=by intro z;show(jB,z,g.no n)
zYC:=(rF H2 dq [])
qax:=(rF H7 J [])
zRR:=λ h' v sb=>(h _ ?_)
zID:=(kX (yC,.int (ux fK),zB fK))
zOr:=.hand so ho asked s0
zXe:=(Rv,tCB r t)
zOq a b d:=(zbr (kU c) (sP o 0 (iu rfl a rfl b d)))
zJG:=(jQ,getAttr mQ name expr)
zGN:=(Ff qY qY (Ff qY qY (Ff qY qY xj)))
zLJ:=z.sameBut D (cne y c e)
zGc a:=∀ o,(((h1.get? a)=(some o))->((h2.get? a)=(some o)))
zLI:=λ_ s'=>(zeb,Q σ' H')
zXd:=by simp[carriedByValue] at h
zQO:=(xpn cs)=(some cv)
zHM:=decide_eq_false (λ q=>(nomatch q))
zYB a:=fI K a "__init__" f_bj
zKc:=.ins C s.heap.objs.size []
zRQ:=.ins t.C_ag aO []
zVe:=(kX (Go uS gS))
zMs:=(jQ,pyNext (.ref z))
zLm a b:=(ww,yK iter,λ v a=>(rW,pyIter v,b,a))
zXc:=kb _ _ b1 b2 e
zKM:=upd (zvh zhY) e (XN e C oB)
zIj:=∀ j,((j<n)->(yD,ky j,ad j))
zGM a:=by ext tq j;refine (plainObj_wpAny_Assign_Attribute a hs)
zOp:=.Slice lo hi none p2
qaw a c:=by ext zbI a p c;unfold xar at hb;ext IZ c
zIC:=s1.trans (Y.trans (X.trans J))
zXb:=(zea g.hl)
zTo:=(qN H2 q3 nI fF)
zEE a:=xbe P w H (h.push (jt,"dict",.dict (#[]))) h.objs.size a
zYA:=(q0=true)->E8
zVd:=ixN xs.length i
zMr a b d:=by have C:=c.length;obtain⟨o,J,a,⟨n,b⟩⟩:63:=d
zIB:=show (∃ t',(v=(YR j t'))) from c
zYz:=λ_ p2 h2=>?_
zIi:=(zBb,t vs Z H Q,t vs Z H VQ)
zPv:=(zrK,FndV H' v zlF)
zYy:=(zBa (xM u) d)
zNr:=Q (.int Ea s.toks) nX
zRP:=(eP (kG MN Y) MN)
zOo:=.inl (iW (eQ l1 aa))
zOn:=.inr (iW (eQ l1 aa))
zHk:=(zoL,seqObj "list" vs.toArray n)
zRO a:=λ v H2=>((v=.non)/\(Q a H2))
zKL:=s.heap.IsTupleIter it t i
zVc:=Tbs X pins H tb
zYx:=(Ap h' gG jh)
zPu:=(qN,H2,p,fF,.ref o)
zTn a:=PI X Ca (zMb "items" []) a
zTm:=PE X RL (tVar i)
zXa:=PE X RL (tC v)
zHj a:=λ z=>(by rw[z,a] at e;ext mC;exact (nl _ rfl))
zLH:=O.map (λ s=>(s,(gk 0)))
zLG a:=λ r s'=>((r=w)/\(EP X a Z Q r s'))
zVb:=Lay mask hs k o
zGl:=(AO,tK b,lI,(h2.get? b)=(some o))
zMq:=(zwd,i<=xs.length,Ai)
zED:=(zwd,i<=kvs.length,(xM,.frz ob (.dT kvs)))
zGL a:=(D.get? s.heap.objs.size)=(some (Ci,#[a,u]))
zWZ:=Sts H1 do_ ss1
zCj:=by unfold Geo.lvL Geo.lvN Geo.wayI;ext zzt;rw[(kM,(pt.x+1).toNat,(mV,pt.x,0+(-1)),eA)]
zCi:=by unfold Geo.lvL Geo.lvN Geo.wayI;ext zzt;rw[(kM (mV,z+2,pt.x) (mV,(z+1)+1,pt.x) eA)]
zLl:=[("side",v0),("row",v1)]
zFO:=(ju y.length)/\(k=((gk y.length) != 0))
zGK:=(ju y.size)/\(k=((gk y.size) != 0))
zNq:=(lD yn rn)+(lD yf rf)
zNp:=(lD yn rf)+(lD yf rn)
zNo:=(xbt w p1)+(xbt w p2)
zNn:=(xbt w zdK)+(xbt w zdL)
qav a:=(znz,f,toP (LN n),a)
zRN:=by show(kL,U,T,f2,S,R,Q,A it eS)
zVa:=(zpN es.size ep)
zFA a:=by show ((bindL kindOf ((p,w)::(P.zip vs)) m a)=_);unfold bindL
zFz a:=by show ((bindC kindOf ((p,w)::(P.zip vs)) m a)=_);unfold bindC
zTl a:=Moved.trans wk.gtrans a B
qau:=by have m:=(w.shift mt sn p)
zRM:=by show (FndV L J zNP);unfold look
zYw b:=by obtain⟨_,a,_⟩:62:=b;exact a
zHL:=ts.Perm (es'.map (λ x=>(gG,iG)))
qat:=Sd H prs kvs
zTk a:=ss.filter (λ s=>(HF s a))
zWY:=(fJ itv s2 h2)
zYv:=zde++[.ref ac]
zQN:=(lK,Value × fD)
zPt a:=by show(gE,IF qh yT,iI 64 _ rfl a Ar)
qas:=(iE H9 Y zyV)
zNm a:=by refine (Z5 xb ?_);unfold xar;ext eY Za a
zER:=by rw[I.ok.glob];exact (I.mod.glob.keeps I.bk)
zYu:=(kH fj fG fZ)
zKb:=s.heap.IsTupleIter i1 t1 k
zIh:=(yo (hF (uQ xt zdg) (uQ xt zdg)))
qar:=g.iff n x h2
zLk:=QI (λ i=>(vs.getD i Jg)) p
qaq:=(GZ wN H s')
zQM a:=PE X (.Attribute e f pos) a
zQL:=λ n s z=>(nomatch z)
zYt a:=pS a sc_bv.nd (xaq SU)
zYs:=by show(ie,(lB,xp e2 e),e)
zEQ:=(GW,(g zZT i)=(if (i<k) then (g p TU) else Vt))
zHK a:=(qm,tv Z H (λ y H1=>(ta Z H1 (λ x H2=>a))))
qap:=Pv f7 xs' H'
zJF:=l1.extBut C.extBut D.a1.1
zJj a c:=xeb a (ok_bj T) fA rfl c T.bj.b .nil xv lZ
zPs:=(nS,.inr gW,t)::kvs
zHJ:=holding [ov] (getMethod ov m pl)
zWX a:=(iI qa _ 0 F7 (FS C a))
zTj:=vs=[fE,hJ,nI,Nr]
zJE:=(zyc,wR,p.x≠x,p.y≠y)
zTi:=(fY a8 aj I rfl)
zLF b c:=by obtain ⟨a,dp,b,w',h',ps,ss,c,rfl,_⟩:=h;rfl
zEC:=Q gS (jj,l,.lst (ts.map (λ t=>(.ref t.2))))
zKa a:=(XU,zmW/\zdh,v,a,zmW/\(kvs.length<=i))
zPr a b:=((c∈a)/\(c∈b))↔(zdc/\(c=zhV))
zFp a:=by ext zA eb b a IQ;exact (I3.fpOk f8 (I3.hok.fresh (Zk _)))
zTh a:=(zkE,vw,Ez->(R a (EG H1)))
zDq:=∃ d ob u,((tX,d,.frz ob u)/\(Ez/\(Q v (upd H2 d u))))
zLj:=(zSE,(so gW)=(some jJ))
zIO:=by show(eK,a1,tc_lookup,a2,tc_bind (.ref C))
zUZ:=xc5 kvs (xaf s)
zYr:=canO O ss J M
zHi a:=by ext wW b a IQ;exact (c.fpOk f8 (c.hok.fresh (Zk _)))
zGk b:=(zWp { s with heap:=sortedHeap s.heap a vs b })
zRL:=by ext zcI p;ext vG xt;exact h
zJi:=Kp.Rch B9 zpQ (.out (nm::hs))
qao a:=(sU _ _ _ rfl aj Y a)
zMp:=λ u j=>(hall u (Zm _ j))
zQK:=λ z=>(j _ Rh _ eS z)
zCB a b:=by rw[filter_all,ZU] at ly;refine (fin ys H2 s e ly (λ i y a=>(f i y i a ?_)));rw[filter_all,(JK (mM b))]
zLi:=s3.toks+(([]:E9).length)
zYq:=cellOf env gG
zRK:=De.sts_perm pm de
zLh:=(AQ n8)=(fh lR D9 lR HU)
zHI a:=(ev ρ μ (e.w k l))=((ev ρ μ l)+(k*a))
zEB:=⟨am.same (L.trans (X.trans J)),ak.same J⟩
zYp a:=by rw[Z9,<- a];exact O
zJZ:=by rw[e1,e2];simpa using c
zNl a:=(!(hR,a<[97]))&&(!(hR,[122]<a))
zGZ:=(SqL X.K H p ys)\/(SqT X.K H p ys)
zNk:=∀(a:A0),(mZ->(qD->C))
zJh:=∀(a:A0) (b:A1),(mR->(qi->C))
zGJ:=∀(a:A0) (b:A1) (c:A2),(mL->(p8->C))
zFc:=∀(a:A0) (b:A1) (c:A2) (d:A3),(mI->(pX->C))
zWW:=(hashAt i)≠h
zOm:=∀ b o u,(zkp ST)
zDa:=∀ b ps,((pP,.tbl ps)->(∃ more,(zyd,.tbl (ps++more))))
zHh a:=by refine(IF rH yT);ext zbW;refine (iq ?_);intros;refine a
zGj a:=by have:=a;unfold xco;revert this;cases (zke,lR+d)<;>simp
zPq a:=by unfold frs;ext ig JL c a
zKK:=∃ xs,(Ai/\(xs.length<=i))
zPp:=λ v _=>(v=(.bl true))
zOl:=by simp at h1 h2;subst h1;subst h2
zJY a b:=by obtain ⟨_,_,⟨a,_,c⟩⟩:43:=b;exact c.typeIs
zFb b c:=I.laid (a:=s.heap.objs.size) (o:=b) (t':=s.toks) zuK f8 c
zQJ a:=∀ j,(a->((j<k)->(zgj=true)))
zTg a b:=∀ h' T,(gb,a,b,zRo,Q () kZ)
zUY a:=looks_findIn (M:=jk) X a
zMo a:=by simp only[xai,Z1,decide_eq_true_eq] at a
zIg a c d:=∃ i xs H',(fS,Inv Id [] zaj H' a,tn i c,zcz,d)
zYo a b:=∀ n∈ns,((a<=n)/\(n<=b))
zUX b:=∀ H',(vq zrs zZX b .non)
zPo a:=by rename_i hm;exact ((hm _ (Y _ a)).elim)
zOk a b:=∀(i:Nat) q ks,(F3->((gf a ks)->b))
zWV a:=by rename_i h1;rw[h1,<- a];exact ra
zEe:=∃ dx,((fO,e,XO e Gg oB)/\(fO,dx,XD dx er.fs))
zHH a:=by unfold picF;rw[Zy,(zfa a "width")];show ((Jj (ji a) zmk)=_)
zNj:=∀ p∈ws,(tX fK ztu)
zJg:=by unfold xes;rw[h];simp[h2]
zJD:=by unfold xd4;rw[wx,wy];rfl
zKJ:=∀ x∈L,(fO gG (AR iG))
zIA a c d e:=∃(v3':V) (X U S:iM),(jH a (zaM,some v3',X,U,S) c d e)
zPn:=(N.take P.length)=P
zUW:=xrm (B.cells I)
zTf:=xlh (K w.params)
zYn:=(eG ?_ C9 xh)
zGY a:=(hB,.cons lA (.cons lA (.cons rfl .nil)),a)
zLE a:=I.type.andThen (looks_mroIn X a)
zWU:=by exact (.of_refs q both.1)
zJX:=(fe (wD,true&&true,rfl))
zWT a:=isInstance mQ (.type a)
zJW a:=(PySem.W.takerIn K C a)=(some none)
zLg b c d:=(fS,zf b w ph,Sts b do_ st,st.length<=c,d)
zRJ:=(kG,km x hx,fr)
zKI a:=by ext iL;show(eE,u,rfl,a,xdm r1);show(ij,u=(Zl l),a)
zWS a:=(sP o a (zxK (iZ S) GO))
qan:=(vA MI n hn)
zRI:=(jN,1+(c4 % 5))
zIz:=ta Z H (λ x H1=>(zsz,R x y H2))
zRH:=xok I ha (eQ d e)
zJV a b e:=Heap.IsTuple (Shared.heap (gF a g d c m)) b e
zQI:=XG/\(i=kvs.length)
zMn:=by rw[l];exact (j.val k)
zLD:=call (.ref fI) (pE::us)
zYm:=ih nd.1 c f
zWR:=shR r1 asked g
zTe:=.frz o (.lst xs)
zYl:=(oC H1 d kvs)
qam:=(oC H4 I zkM)
zYk:=vs=[Do,T0,zAZ]
qal:=(l0,s b _ e)
zCZ a d f:=by refine (wpAny_pyIter_range (IsRange.new ..) a ?_);show(fR,c,BV (IB (zcg d)),I.kept wH,f)
zIf:=(x'.2-(own a'))-(rent x'.1)
zYj a b c d:=(layClean.free mask o a b c)=(some d)
zFy a:=xbu PassesOwn.leaving rfl (NX 4) (pN 5 sc_p.nd) a
zUV:=Kp.Rch zpe zoH zdd
zOj:=(Ry "seating" iX zLs)
zHg a:=(qy,a,T.c_a,T.ax.m,ok_ax T,fA,T.ax.b,xv)
qak:=excB ss p p'
zWQ:=by rw [(fe,ZP _ d),(fe d)]
zYi:=xz N ps scope
zWP b:=(DC,compareOp b u fE)
zTd:=.hand AJ xZ ES s
zQH a:=(Ui xly T.n_abs boot_abs a)
zTc:=(gX eJ eJ eA eA)
zRG:=a.inj _ _ eA eA e
zDp a:=(us.length=ps.length)->((bindArgs a (mh us))=(pure (ps.zip us)))
zUU:=by show(uM,xo nb,kG Gh Y,Gh)
zNi a:=λ b ps q=>(zkk,by rw[a,q];simp)
zUT a:=PE X (.Dict [] [] pos) a
zLf:=(CP (V.ref gG,V.int Bo))
zOi:=(uY (zxG,id,v::us))
zPm:=by rw [Zf,Zg] at v;ext oK qa J v
zUS:=ZY C s'.heap h2
zRF:=xnh ((Da).1) ((Da).2)
zRE:=λ q=>(pj q e z z)
zJU:=by subst ey;show(qS,j,vs,c,x,xfe I.hok e)
zKH:=λ a xs h=>(eP (w6 h e) h)
qaj:=ae nm (Zo J)
zKG:=Kp.kstep (xbg lens) so ho
zWO:=xbj ps X pt.nm
zLC:=.cons rfl (r.append hd)
zEd:=SetT knd h2 s.heap.objs.size (xbr ky ad its.size)
zIy a c:=(h9,a,T.c_a,T.af.m,ok_af T,fA,T.af.b,xv,c)
zKF:=by show(Fb,PySem.W.kitx_dict,wa j m.1)
zOh a:=by show(Br,zaN eA ?_,a);have cl:=(xfa out3)
zTb a:=compEnvC scope K6 a X.env
zLe a b c:=(eG,let ⟨dx,e⟩:=g.ins; a,b,g.ho.keep c)
zQG:=upd H1 aO (.own M)
zUR:=(gb P0 P1 P2 C)
zIe a:=by ext Et;refine (PySem.W.methodCall_KW (pl:=pl) a ht)
zQF:=(wj,gW,TX,.int kB)
zJT a:=xca xk0 rfl T.n_int boot_int (i3 a)
zPl:=Mod X.K X.mg X.base
zQE:=PA X qw (xtu te t)
zTa:=.inl (xqj eJ eJ)
zPk a:=(zI,CW,X.A,zbk,λ r s1=>a,E)
qai:=(uL x y b r)
zPj:=.hand zto ztq asked l
zPi:=by ext Ml lo hi;ext fU hs h1 h2
zEP:=(qy,fZ,T.c_ag,T.b1.m,ok_b1 T,fA,T.b1.b,xv)
zEO:=(qy,fZ,T.c_ag,T.ap.m,ok_ap T,fA,T.ap.b,xv)
zPh:=(k*(a / k))+(a % k)
zQD:=(n1+(J a))<=(n+20)
zQC:=by exact (Zu (show (Ab _) from x))
zOg a:=r.drop (HT.sIx xs.length 0 a)
zWN:=Dv X.K H n x d
zGw:=xbr (λ i=>(xs.getD i [])) ad xs.length
zRD b:=by rw[b];refine (xhj (c _ _ zxA zsk _ ?_))
zMm:=br (gs.getD i (.f t0))
zQB:=by ext mz h2;exact (g.iff n x h2)
zEN:=(qy,fj,T.c_ag,T.aj.m,ok_aj T,fA,T.aj.b,xv)
zEM:=(qy,fj,T.c_ag,T.b0.m,ok_b0 T,fA,T.b0.b,xv)
zQA:=HOk P w H' s'.heap
zYh a b:=(lH ["at"] [a] [b] zBT s_bx)
zNh:=(Vz,∃ p,(LI/\(y=F7)))
zPg:=λ y b=>(h y (Zm _ b))
zWM:=xe9 t H' p b n
zGv:=by show(wW,i,kvs.length,SS);show(DS,uj q,hd Z H p)
zIN a b c:=by refine (xd5 a (λ i ys H2=>(fS vz zxH (DD b) c)) ?_ ?_ ?_ ?_)
zKE a:=Srt.g_at (by rw[<- J7];exact (Zc a))
zKD a:=(fO e zdQ)/\(∀ dx,(zhZ->(Q .non a)))
zFo a b:=(zRq a)\/((zRq b)\/(∃ kvs,((xK pA)/\(k=(! kvs.isEmpty)))))
zPf:=by subst c;rw[(fe zhW),iT,(fH nb)]
zOf:=(zgG (zuQ,UQ,Vv+Nu))
zJf a:=by ext pQ a;refine (JZ (xd1 I hg hm hv ?_ hn hdb))
zFx a:=(h9,fj,T.c_a,T.B_as.m,ok_as T,fA,T.B_as.b,xv,a)
zId a b:=(uy (h9,a,T.c_a,T.m_b,xn1 T,fA,T.b_b,xv,b))
zEv:=by subst ey;cases (LJ,u=(Zl b));show(qS,j,xs,c,x,xf7 I.hok e)
zIx:=(vn,v,0,max (v+pF) 0,min v pF)
zQz:=sm fs ks (0,[],[])
zIw:=lenI (gk M) pt.x pt.y s.1 nU
zIv:=g.pl.keep (l0,kc _ _ (jg a) e)
zJC:=cellsFrom nw scope.names []
zJS:=s.heap.IsTupleIter i2 t2 k
zMl a c:=by have y:(a<=b):=c;exact (A.fpOk y (A.hok.fresh y))
zHG:=by change (uN,(hR,j<=i)&&(hR,i<=z)) at q
zLB a b c:=by obtain⟨d,rfl,q⟩:=a;cases r1;exact (Yx (eG b c q))
zGi:=by intro m f;obtain⟨k,rfl⟩:(∃ k,(m=iw)):=(zh,m-1)
zNg:=by rw [zia,xq0] at c;dsimp only at z
zQy:=by obtain⟨v,b,_,_⟩:63:=c.mro
zJe a b d e:=by obtain⟨c,a,hc,b,_⟩:83:=d;exact(zzv qa e (rS lU (jv c hc)))
zIc a:=(a<=xs.size)/\((∀ k,((k<a)->(zuR<j)))/\(zMO,a<=k))
zKC:=eq0 (congrArg Nat.cast h)
zWL a b:=(fS,a,v=iX,ut,H'=(ziL b))
zIM a:=(zn,M,a,λ_ s'=>(wpAny M A zLZ Q E s'))
zEA:=(zn,jk,Builtin.«list.sort» { pos:=pK },P)
zDf:=by show(ig,(show (es=ds) by injection ed with z;exact z.symm),xe4,Z0.same _)
zWK a b:=by have z:=(Zp (h.push a) b);rwa [Jp] at z
qah:=Jn D H h1 ?_
zLA a b c d:=by show(lF,fe h1);have e:(a=j):=zyZ;exact(gX (hZ b e) eA c d)
zUQ:=xdr _ (nv x nO)
zJd a:=by show(oJ,bb,znO a,jn wl);exact (iteT (iteT zBV))
zLd a:=by show(oJ,bb,zNT a,eP wl wh);exact (iteT zBV)
zKB:=λ(k:Nat)=>(V.str (ltr zWn))
zWJ:=Meth X.K C m f
zFn a:=(Ui,xj5 rfl,T.n_sum,PyProof.Rows.Boot.«sum»,a)
zIL a:=by ext zmz;show(Uh,tx.str_of,tr.int_of);ext BY q1 a
zLc a b:=sp (Ue mQ) (upd a x (uJ C [])) b (E Z)
zQx:=by show(fU,o,e,λ v z=>(NC d z))
zSZ a:=by ext gQ y1 C C;exact (hE _ a e H' z)
zJB a b:=by have:=r.un;show (((a+(16*b))+200)<_);lia
zLb a b:=by have:=r.dp;show (((a+(3*b))+5)<_);lia
zBL a b c d e:=by unfold pyNext;show(zkj,Ju a Yf ?_);refine (Jt Yf a F.entry_dict_itemiterator_next ?_ (F.args_dict_itemiterator_next_1 _));ext vi b c d e
zJR:=(names.take f7)=(Ft++[nm])
zBQ a:=by refine (Q8 F.xl_entry_dict_loop ?_);rw[(Q6 F.xl_plain_dict_loop _)];show (zI,_,A.in1,zbk>>=_,_,_);ext fQ a
zCG a:=by refine (Q8 F.entry_set_update_loop ?_);rw[(Q6 F.plain_set_update_loop _)];ext Dq zbk a
zGu:=by show(kL,U,T,f2,S,R,O,C it eS);show(Pb,B,j.length)
zPe:=putSet_of es' t' hd
zHF:=no q D (λ y=>(u (c.trans y.symm)))
zKA:=by cases y<;>exact (zH (wD false c) Z6)
zQw a:=[.ref l1,(zvi a),.ref l3,zAY]
zSY:=by rintro (⟨h,rfl,rfl⟩:43)
zNf:=by unfold xd4 at o1;ext iF z o1 o1
zPd a b:=FO/\((y=a)/\(Mg,b,xa6 (prS p)))
zIK:=(eG,z.1,ht _ _ (fV z),jr z)
zGI:=valV (l.map (λ n=>(k n,f n))) (k a)
zNe:=(kf,T,.tup [Gi,gS])
qag a:=by ext jq B;obtain⟨J,j⟩:a:=e
zYg a b d:=by show(jR,bt,tH j wU (zm H3 j a),S7 b,d)
zQv:=(Rt Vq (zuH zdj KP))
zSX a b:=(vq,a,b,Told H H' tp lg',zib)
zFw a:=(h9,gV,T.c_a,T.B_as.m,ok_as T,fA,T.B_as.b,xv,a)
zJQ:=(D3,storeName X.env x u)
zWI:=by cases h1;ext fU q' h2 h3
qaf:=⟨"",z,L,D,h',ps,ss,v,prs⟩
zQu:=λ n s=>⟨nB,nB⟩
zKz:=(qca,zdf,tAsg te (xc4 i))
zDQ a b:=by obtain⟨its,_,r,_⟩:63:=a;obtain⟨c,_,q,_⟩:63:=b;exact ((xkz r q).elim)
zHf a c d:=(uy (h9,a,T.c_a,T.o.m,xme T,fA,T.o.b,xv,hF c d))
zMk a:=(jE,s6 b u (xp e hx) (ziK TW a))
zYf:=k j Vs e qv b
zUP:=(zxx J k4 e4 ?_)
zWH:=Zh (h _ ?_ zWq)
zOe:=(fY o g c ⟨n,d⟩)
zSW:=by ext lM q zof QV;ext zrJ q
zJc:=(zXP T "__getitem__" (Ny id))
zEm:=(xV ah (oQ dp (Gu TZ am (MT,kvs.length<12)) ?_))
zWG:=by show(jV,x,?_,ib p m z k)
qae a:=(zRn,a,xee oF fG gm)
zMj:=by ext zKR c;show(fU,e2.symm,eA,eA)
zLa a:=(oa pz aT aJ T.c_i T.n_ck lkZs a)
zOd:=kas_place p k f l CY
zGX:=(zNR s₁ (rW,f v u,Q,s₂))
zOc:=by show(o6,σ7,C,B,P,K);exact (z B P)
zLz:=CE outer P w H s Q u s'
zGW:=xrz (zfK "bool" T.n_bool boot_bool)
zUO:=Pic.but hk bt D
zUN b c:=⟨λ g a s e=>b,λ a x p=>c⟩
zKy:=∀(a:A0),(gb mZ qD vW C)
zHE:=∀(a:A0) (b:A1),(gb mR qi vI C)
zFN:=∀(a:A0) (b:A1) (c:A2),(gb mL p8 vp C)
zEu:=∀(a:A0) (b:A1) (c:A2) (d:A3),(gb mI pX vg C)
zWF:=by subst ex;show(ij,ov=uK,rx)
zQt:=∃ u,((us=[u])/\vo)
zKx:=by obtain⟨_,_,_,q⟩:82:=D;exact (JP q)
zGb:=show (s.heap.IsTuple b B.toArray) from C
zYe a:=λ w' s3 a q=>(gU v _ a q M)
zFM:=∀ x:Str,(PX->((mb x)=(bootBuiltins x)))
zCY:=by have:((X.env.scope.names.lookup x)=(some .free)):=j;ext iF k this this
zFm a:=∃ od,(a/\(∀ name,((W6 name od)=(some (mA name)))))
zJA:=∀ u s',(ML->(sv->(Q u s')))
zNd a:=by obtain⟨a,O,r,_,_,_⟩:65:=(xhn I.hok e)
zHe a b:=∀ p,(((H2 p)=none)->(R (.ref p) (qN H2 p a b)))
zDw a:=∀{P:eO}{vs:fD}{i:Nat}{m:im},(gb P.Nodup (gf P x) (gf vs v) a)
zBS a:=∀(pins:fP) (s:Shared) (Z:St) (H:Hp) (x:V) (xs:eB) (v:Value) (us:fD) (Q:VK),(gb eR yF rh a)
zUM a:=looks_find (M:=jk) X I a
zCa:={ J with heap:=J.heap.push (jt,"dict_itemiterator",.fields (zlj vs.length Q)) }
zFL:=∀ p∈ps,(wR->((p.x≠x)/\(p.y≠y)))
zNc:=by obtain⟨⟨old,A⟩,J⟩:=(id st)
zGV a:={ heap:=a,gens:=g,drawn:=d,toks:=K,os:=os }
zDY:=∀(j:Nat) (x:V) (d:DV),((hU xs x)->((hU ds d)->zez))
zCo a b:=∀(j:Nat) (h1:(j<its.toArray.size)) (M:(j<B.toArray.size)),(Z0 A.in1 s (its.toArray[j]) a b)
zGU:=λ z=>(by rw[<- (ask s),e] at z;ext mB)
zGH a:=xh1 (v:=e.1) (by rw[T.at_,(Zc eA),<- M,a];rfl)
zRC a:=by rintro ⟨r1,r2⟩ s' ⟨a,rfl,_⟩
zGh a:=by rename_i met hm;cases (hm.symm.trans (Y _ a));simp only[]
zCh:={ D with heap:=D.heap.push (jt,"dict_itemiterator",.fields (zlj U.size Y)) }
zCR:=["_law_cell_here", "_law_many", "_law_letters", "_law_step"]
zNb:=by unfold xa3;rw[zin,zim,(fH (ve e))]
zDP a:=∃ A p1 B p2 C c,(gL,prs,zNS,(canO w ss p1 p2)=(some c),a)
zOb a:=∃ p q t,(fS,a,y=jc,zWo,zbT)
zJz a b:=∀ x∈L,(fb,iG≠l2,gG≠l2,zvZ,a,b)
zFK:=∀ n∈names,((n∉crowd)->(NU<=1200))
zHD:=by rename_i p hf;show(yd,xhc (nmk _ (Je hf)))
zEl a:=∀ s∈st,((1<=nU)/\((nU<=DX)\/((nU=HS)/\((ztK s.1)<a))))
zJP a:=by generalize C:(iE H6 q7 a)=H7;ext BO L ae g7
zGt:=by generalize U:(upd aZ bt (.lst (aI.map V.ref)))=aj
zSV a:=(xfd lens ho zLt)=(some a)
zQs:=J (mv.mono more) C
zQr:=toP (adv t.mask p)
qad:=(fh n r x y)
zFl:=.inr (znB,.inr (zIm,1,.inl (iW (eQ l2 Z))))
zQq:=xcb (.str (xav b))
zFJ:=λ p aa=>⟨ab p aa,cl p aa (ab p aa)⟩
zSU a b:=a/\(fb zlz zSF names.Nodup Cg b)
zFI a:=λ v hv=>(let ⟨d,z⟩:=(th v hv); ⟨d,z.same a⟩)
zUL:=PG X RL (xc4 i)
zST:=(qM P0 P1 P2 P3)
zGG:=(uR,(J b)<=(J a),(so1 b)=(v b))
zKZ:=live.map (λ B=>(B.1,XF))
zPc:=⟨"",a,dz,_,rfl,J,gB,D,_,1,_,rfl⟩
zGg:=(l0,k3 _ _ (jg hh) (jg a7) (jg a4) e)
zDX a:=pC (xfl T) hr T.B_total.g T.B_total.F.kp T.B_total.b (lO a)
zHd a:=(V0 (hF a (zsB "bool" T.n_bool boot_bool)))
zUK:=.ask Lp zXT i oR
zNa:=(DC,getAttr fE f b)
zGa a:=(Bk,PW.pt (xhh (LM qY) (xgj (xa2 (pv 2)))),a)
zDI:=(HN { s with heap:=h',gens:=g',drawn:=d',toks:=t' })
zHc a:=by rw[(fe z)] at hm;have m:(Ah\/Cs):=a;unfold acr;ext zzt
zWE:=(fW j d e f b)
zWD:=(fW j z k A q)
zMZ:=Xat h' e gZ none none
zYd a b:=by show ((adv mask a)=_);rw[b];unfold adv
zJb a:=by show(eE,u,x,a,(zoJ,q f,by rw[<- l];exact (r f)))
zWC a:=(hV _ _ rfl rfl _ a ?_)
zDo:=by show(zd,by simpa using p);ext gP o1 Y c1 d1 st;exact(hB Y (zdv d1))
zMi:=⟨"",C,S,_,rfl,O,oE,u,_,1,_,rfl,rfl⟩
zRB a b c:=by exact(gF o.nm a b c (gX o.x1 o.x2 o.y1 o.y2))
zYc a b:=xgn lens own rent asked a b
zUJ:=J.yld i H2 v H3
zMY:=λ b z=>(absurd z (D b))
zRA a:=by ext Et;refine (xne hb (thn (RO j) a))
zPb a:=(∀ y H',a)->(g x FE H2 XX)
qac a:=by show(Du,B,M,Q5.mp q);rw[a] at B
zYb:=hG k f8 eA ztn
zOa:=⟨"",_,rfl,.inl y,z Y (L.trans J)⟩
zDl:=(GW,(g Pp i)=(oZ,i,m,g p k,if zZS then (g p xR) else Vt))
zIb:=(attributeBase e f X.env yj)=yj
zSS a:=by exact (no d a (of_decide_eq_true z))
zDv:=xas (h9,fj,T.c_a,T.e.m,okT_e T,fA,T.e.b,xae.pass,lZ)
zDu:=xas (h9,fj,T.c_a,T.h.m,okT_h T,fA,T.h.b,xae.pass,As)
zDe:=xas (h9,fj,T.c_a,T.ab.m,okT_ab T,fA,T.ab.b,xae.pass,Lq)
zDt:=xas (h9,fj,T.c_a,T.p.m,okT_p T,fA,T.p.b,xae.pass,Rg)
zGT a c:=xeb a (ok_bj T) fA rfl c T.bj.b .nil xae.pass lZ
zCn:=by have A:=zuI;rw[Zt,ZZ] at A;show(Ml,j,al.length);rw[(JF (Zk _)),Nat.sub_self] at e;ext mC
zUI:=.go AJ xZ ES Lp
zEW:=by ext MW;show(tN,forIn c _ _);rw[<- Array.forIn_toList]
zUH a:=(valV a j)=(Bt j k y zvX)
zKw a:=by show(NK,a,hG l eA lo (λ j h b=>(hi j eA b)))
zRz a:=tSeq t2 (Ei t3 t4 t5 t6 a)
zEc:=⟨"",a,dz,_,rfl,J,gB,D,_,1,_,rfl,rfl,uu,rfl,D,_,2,_,rfl,rfl,uu⟩
zSR:=by show(jb,i,j,rfl,rfl,q,xo2 h)
qab a b:=LRun wB names own rent a b
zIa b c:=by have e:b:=x;show ((h'.get? a)=(some c));exact (k a _ jO e)
zPa:=(jp,A c _ q zoI,q)
zDW a b c:=by refine (Qj Qg a PySem.F.entry_dict_items (PySem.F.args_dict_items_1 _) b (jF c))
zGS a:=(refuseLoop self "__setattr__" a)=(pure ())
zEp:=xas (h9,fj,T.c_a,T.h.m,ok_h T,fA,T.h.b,xv,Lq)
zFv a:=xeb T.k_a (ok_a8 T) fA rfl T.g_a T.a8.b .nil xv a
zWB d e:=(iJ (RO a) v d x f c r1 b e)
zIJ:=by ext gP kvs e l r s;exact(fY kvs e eA r)
zDO a:=by refine (fY its.toList r a ?_);have e:=r.length;simp only[Js] at e;lia
zFH:=A++((p1.1,p2.2)::(B++((p2.1,p1.2)::C)))
zEt:=["self", "name", "askers", "asked_by", "seat"]
zEk:=by refine (.inl (znB,.inl (znB,.inl (zIm,-1,.inr (iW (eQ l2 Z))))))
zSQ:=PG KR RL (xc4 i)
zYa:=PC X op a b t
zFZ:=by show(ig,(zOP,eqU x,its.any (eqU x)),xj4 r fs,q)
zBU:=pC (xeg T) hr T.B_exchangeable.g T.B_exchangeable.F.kp T.B_exchangeable.b (lO fZ)
zHC:=Kp.Hand room (λ z=>zts) so1 ho1 s
zDC:=(OF U C (LR,pO 0 C U,(Gp,pO 1 C U,pO 2 C U)) 3)
zLy:=(iC 1123 _ _ _ _ _ z _)
zGs:=by change (Q (.bl (isNm x)) H) at q;unfold isNm at q
zCA:=by obtain⟨fs,A⟩:=(hd d e);obtain⟨_,_,⟨o,_,_,B,_⟩,_⟩:=(xle I A);ext fc o B
zNZ:=by obtain⟨c,rfl,f⟩:=f;cases r1
zNY a:=layClean.free mask a R1 uf Hd
zJa a b:=by exact (rS,sa.trans sb,(xI,p,q2,a,b,xh,sb _ _ xh))
zQp:=x.above y c (JW h)
zWA:=q X S zmM qbZ pk
zKv a b:=(ys=(CP,V.ref gG))/\(gL L.length i a b)
zMh a b:=(fS,lE m y a,n<=9,m<=9,uN b)
zEL:=(Bt s "left" true (Bt s "right" false none))
zDd:=pC (xht T) hr T.B_kept.g T.B_kept.F.kp T.B_kept.b (i3 fj)
zGF a c:=(h9,Oy a,T.c_m,T.ao.m,ok_ao T,fA,T.ao.b,xv,c)
zSP:=xes ph dx dr x r
zSO a:=Fit lens a so ho own rent
zBy a:=by have oo:(a=(some (.noName n))):=(by unfold xa3;rw[hn];rfl);exact (iteT (zed (wn,hdx,t.C_ah,xh,T.mk_ah,Z (.noName _) oo e _ (xa7 rfl rfl I hdx))))
zMg a:=(iQ 86 _ _ a rfl rfl rfl eS zAV)
zCu:=by ext ziQ Z;refine (Zb (Jv (wpAny_eqBool_tuple hu H hk ?_)));ext zvg hf;ext mX k' k
zQo:=by cases e2;show(fU,ob,g,fV ex)
zDV:=by ext gQ y1 U U;exact (Z _ (by unfold xa3;rw[hn,y1];rfl) e H' z)
zII:=λ j y s h1 h2=>(k oR y s zaE zpg)
zEs:=(h9,fj,T.c_i,T.aw.m,ok_aw T,fA,T.aw.b,xv,Lq)
zJy:=[zil,zBg,(fX J),(jN g),v4,v5]
zHB:=[(fX p),(fX d3),zie,some U,v4,v5]
zBw:=by unfold pyNext;show(zkj,Ju st.typeIs Yk ?_);refine (Jt Yk st.typeIs F.entry_dict_keyiterator_next ?_ (F.args_dict_keyiterator_next_1 _))
zUG a b:=(cn*(lD yn a))+(cf*(lD yf b))
zFa:=(zdO+(lD y1 r1))+((acr w x2 b2)+(lD y2 r2))
zEZ:=((acr w x1 b2)+(lD y1 r2))+(zdN+(lD y2 r1))
zEj:=((a<=b)/\((min a b)=a))\/((b<=a)/\((min a b)=b))
zEi:=((a<=b)/\((max a b)=b))\/((b<=a)/\((max a b)=a))
zDB a:=by show(zoh,xs.length,a);have q:=(hl i Z H a p);by_cases hlt:zuM
zDk a:=by show(zoh,kvs.length,a);have q:=(hl i Z H a p);by_cases hlt:zdh
zOZ b:=opI (λ i j _ _ _ _ _ a q=>b)
zHA:=by have e':=Gh;show(ig,w6 e' MN,kG e' Y,e')
zBX a:=by refine AW;refine (codeAny_call_builtin_at (Qe _ gH) entry_typeCall (wpAny_check_type_call_sub gC a))
zIu a b:=by obtain ⟨kz,aa,_⟩:62:=a;rw[<- b,hl] at aa;cases aa
zCF:=∃ so2 ho2,((Kp.Mt (xbg (xau w ps srt)) so2 ho2)/\(∀ z∈wS,ztr))
zSN:=ZQ lt (Z4 hn eJ)
zIH a:=Sts H' do_ (ss.filter (λ s=>(HF s a)))
zEK a b c:=(fb a b (fO,ld,.lst de.vs) zAU (sy,de.out sh oH kO ps ss,c))
zSM:=by show(gP,its,U,p,aa,I.list Q)
zWz d:=λ x b c H Q=>(∃ a xs,d)
zBB a:=by rw[(decide_eq_false c)];ext Kg Qo;rw[sm];ext KF;ext ziQ liv;ext ziQ Z;refine (Zb (wpAny_isSame_ref_self ?_));ext Fv;ext KF;exact a
zKu:=Geo.cells C D.x D.y b2 r2
zEV a:=by exact (hB,a,λ v k=>(nomatch (show ((Data.seq _ _)=(QH v)) from k)))
zRy a b c d:=⟨126,crowd,al,asked,_,C,a,rfl,b,c,d⟩
zEY a:=by show(uA,(fh (gM,xs,xs[i],q,ip hlt) Hy (zaq a xs.length eA a) zdM))
zCX:=(Y3 K (.ref (cs.getD i 0)) (.ref (cs.getD j 0)))=(some zjI)
zMX a:=wk.frame _ s2 _ _ D (JH _ _) a
zFG:=(iQ 124 q qs s l z1 (uO z2) (uO z3) z4)
zDH a:=b.congr (λ a' x'=>⟨.inl,λ h=>(h.elim id (λ z=>(nomatch a)))⟩)
zRx:=(L2.upd H p o)=H'
zJx:=PassesOwn rV X.A X.env X.xe
zRw:=xpq X.w X.K D kvs
zUF:=at2 dEq ds es j
zJO:=∀(a:A0),(qM mZ qD vW BN)
zHb:=∀(a:A0) (b:A1),(qM mR qi vI Bm)
zFu:=∀(a:A0) (b:A1) (c:A2),(qM mL p8 vp AM)
zEo:=∀(a:A0) (b:A1) (c:A2) (d:A3),(qM mI pX vg At)
zGf:=by obtain⟨_,_,⟨_,_,o,_,_,e,_⟩⟩:43:=x;ext Bv
zFY:=by have:(x≠n):=(by rintro rfl;exact (h v Zn));simp[this]
zDG a b:=∀ whole,(a=(do let v <- whole; (standAt b); (holding [v] (truthy v))))
zIt:=∃ xs,(K5/\(h.DictOfH zoc a xs))
zFt:=by obtain⟨_,_,⟨_,_,o,_,_,e,b,_⟩⟩:43:=(uH p hk)
zHZ:=[zil,some Ls,xi,(fX da),(fX qs)]
zUE:=by unfold mroIn;rw[h,Wf,zuJ,a]
zJw:=by obtain ⟨j,_,g,_⟩:82:=x;ext fc j g
zJv d:=fun⟨1043,a,b,c⟩=>(eG a b (Om d))
zSL:=by rintro i ys H2 lt ⟨s,_⟩
zGE:=∀(i:Nat) (a:α),(zxB->((p i)=(q a)))
zEJ a:=∃ ds,((Vals (wj "both" DR .non) ds)/\(xb2 K a zJ ds))
zQn a b:=∀ c u,((c≠I)->(IS X da Y a b))
zKY:=by unfold xa3;rw[zin,zim,zBh,(fH (ve e))]
zCz a b c:=∃(i:Nat) (crowd:eO) (al:eF) (asked:fw) (v6 v7:iM),(jH,a+i,13,i<=crowd.length,b,c)
zFF a b c:=by rintro i Z a _ (⟨_,_,_,_,⟨_,_,rfl,b,_⟩⟩:121);exact (SqL.of c)
zCc a:=∃(crowd:eO) (al:eF) (asked:fw) (o1:hW) (r1:hD) (g:Int) (b:Str) (s:Seat) (qs:Addr),a
zGR a b:=a/\((fS,(-nH)<=i,i<nH,(-nH)<=j,j<nH)/\b)
zNX:=B.free y (B.ysf y L)
zFE a b:=by show(eY,a,xni (f:=(λ p:Pr=>gW)) (k:=ZI) re (λ_ _ e=>(ZI.inj e)) b)
zOY:=(fb P0 P1 P2 P3 P4)
zIs:=(gb P0 P1 P2 (qM P3 P4 P5 P6))
zNW d:=(Dw,a,a,b,b,tIfS c a b d s H)
zEI:=by show(fR,af,lv zOQ,hs,(gF,.inr sd,rfl,false,jn af,GN))
zHY:=.ins t.C_a ac (picF pw j dp aj)
zKt a:=(mT,_,_,.inl (xI ty _ bb ht hk a))
zRv:=OutF H H' l cs qs
zDA a:=wpAny rV X.A (pyIter (.ref s.heap.objs.size)) zSB E (IB (zcg a))
zKX:=(iR ys H5 s5 el5 ly5 f5)
zHz:=by ext rA d J hp' hp';exact (decide_eq_false c)
zHy a:=by ext rA hj hi K K;show(gQ,Wy Y,e2,e2);ext fU u r a
zIr a:=(rJ,to Z H (λ x H1=>((tyV K T x H1)/\a)))
zOX a b:=xq (xn9 oF gm a gV b (by ext uz))
zHx:=by exact(gU so0 ho0 a1 a2 (rO,ZP _ (a3 z hz)))
zFX:=by rw [(fe h2)];exact(gU,zjM,H,zyX,lA,q k eA eA eA zqz)
zFk a c d:=(yA,a,pC (ok_be T) hr T.be.g T.be.F.kp T.be.b (kH c d ia))
zNV:=P0->(qM P1 P2 P3 P4)
zRu a b:=by rintro a rest r s' (⟨b,rfl,hall⟩:43)
zFD b c:=by ext Vu R l1 l2 wl;show(nK,tl.int_of);refine (iteF (zoG b c R ak))
zCJ:=xcr (okT_b5 T) fA rfl T.b5.g T.b5.F.kp T.b5.b .nil xae.pass lZ
zEU a:=(eG,λ i _=>lS,λ i H x H'=>((H'=H)/\(x=a)),λ i _=>(n<=i))
zFj:=(v=r)/\(Ao,vO u x,(x<=u)/\(u<=(w+1)))
zCC:=by rw[(decide_eq_true c)];show(zzr,Bool.and_self);exact (Zh (yes (BE,_,Zo le,b,c▸H)))
zCg:=(Rw (Lu,pC (xkh T) hr T.B_answer.g T.B_answer.F.kp T.B_answer.b (i3 gm)))
zIq:=by ext NF J z q;exact(gM σ' H' J.untryc z)
zFi a b:=λ e he=>(L9 (wn,hdx,a,xh,b,hE _ oo e _ (xb7.pre X zRp)))
zKs a:=by ext jL o e a;exact (ZE (Z4 (Zu e) (JH _ 3)))
zEb c:=by ext tq a;refine (wpAny_execs_cons (thn (h1 a s Z H c I h) (rR f b)))
zGD a b:=(zfH "askers" "asked_by" "gap" "asker" "seat" a b)
zGr a b:=(Xm,a,IsRangeIter h it (lo+((i:Nat)*b)) (pF-(i:Nat)) b)
zCQ:=Kp.Rch (xfd wM ho) (.go zbU aa j8 zic) (.go o1 r1 asked crowd)
zEz:=by rw [(decide_eq_true (show ((C.1,C.2)∈ss) from R)),JN] at c
zOW a b:=let ⟨l,h1,h2⟩:=a; (eG l b h2)
zCI d e:=by show(eC,c,sD op CmpOp.In,d,a,sD op CmpOp.NotIn,e);cases b<;>simp[behindInMarks,c,a]
zDN:=by show (_=(xch ps (xe1 (.str nm)) (L4 O) (L4 L)));show(zlS,fH c12)
zFW:=by show(rQ,wa e b.1,a,m);cases m;show(fU,o,e,fV b)
zJu:=LRun lens ns own rent so ho
zKW:=Fit wB ns so ho own rent
zCP b c:=(iu rfl zpR b j6 ⟨a,_,_,_,_,rfl,aq _ _ hp,T.c_a,T.n_b6,lkH,(BQ c),?_⟩)
zMW b:=(zoe C (mT b v (fW I Y S j J)))
zGC a d:=by show(eC,c,rT=k,zXQ,b,a=(some q.2),TR d c);ext ig Hx b i
zDM:=λ i h h' ⟨1062,o1,Y,r⟩ k=>(eG,o1,k it eS _ Y,r)
zEy:=λ i h h' ⟨1081,ok,ov,st⟩ k=>(eG ok ov ztp)
zDn a:=by obtain⟨R,k'⟩:=(k.stv I Y a);exact (q X R (λ b u _ n2 e=>(M b u n2 e)) k' L)
zDs:=by change (Ev,isNm nm,zUx);rw[(zfI yQ),JN];exact (JR.mpr (eG p aa zUy))
zCO:=by simp only at q m;subst q m;unfold Builtin.«dict_keyiterator.__next__»
zBH a:=by show(fR,A,(x m.heap.objs.size)=none,v.hok.fresh (Zk _),(jf,.ref m.heap.objs.size,a,v.laid (t':=m.toks) zuL f8 ?_,q _ A))
zBn a:=by show(Dq,Builtin.SmallTypes.ownedTupleIsFree (.ref z),?_);show(sQ,Builtin.SmallTypes.ownedTupleIsFree,zcf .none Hw);ext KF;show(fQ,wpAny_rule (Zb (zcf,.ref TO,Zb (JD hz eS a))))
zCy a b:=(fb,σ'=a,C'=(q.cls t),(De.out I zjL mO ps ss M)=(some q),xb7 t H H' e q,b)
zHX b:=j4/\(fb AV vb (zar pw ph) E7 (zgE (Gt b)))
zCm b c:=(hV,65,_,b,fY _ xh ?_ yR,λ a u na h=>(jp na h),c,λ a h=>(eP,xo (λ z=>(pj z e h h)),h))
zLx a:=λ x hx qq ⟨1062,kv,y1,y2⟩=>a
zSK:=by refine (xrw (s:=nX) X c I ?_)
zBI:=by ext gQ e b b;rw[d] at d';injection d' with d1 _;have:(its=its'):=(Cv (Ee Array.toList d1));ext Ec;exact (r.inj c)
zDz a:=by show(eE,q,e,b,k 0 y s rfl rfl);show(pZ,rs,v,r,a,q::rs,rg e v,.cons b r)
zMf a:=λ H1 l1 cs so ho s1 f1 e1 a=>?_
zCE:=by ext zUv a;rw[(xo a)] at hdx;subst hc hf;show(nM,rR y o,.inr (fh hn dx xh ?_))
zSJ a b:=by show(zHr,(gL,r.1,none,s'=s,a),NW b)
zQm a:=(xe9 t H p false n)/\(ub a)
zGB:=⟨Vr,(gU,k,xs,Fs,q,h _ _ rp ?_)⟩
zXZ a:=xpo (xc4 i) t vs Z H a
zGq a:=xtz a x1 x2 y1 y2 (λ p J hne=>(xfa cl p J hne))
zCW:=by refine (zaN,λ z=>(c (V.int.inj z)),ziO (ib k I O hp'));by_cases d:(k=i)
zBK a b:=by refine (zMP (rK y (Ds,k1,.inl O) (nQ a b)));show(gE,zMP (uE y H2 as ?_),oa p D ac T.c_aa T.n_ch lkHo (uE I H3 ar ?_))
zHW a:=callWith pos f first (O5 pos a) (zLv pos)
zIp:=∀(a:A0),(mZ->(qM qD vW BN Op))
zGe:=∀(a:A0) (b:A1),(mR->(qM qi vI Bm Nw))
zWy a b:=compPost rV X.A X.xe U R a b
zEH:=∀(a:A0) (b:A1) (c:A2),(mL->(qM p8 vp AM L6))
zDL:=∀(a:A0) (b:A1) (c:A2) (d:A3),(mI->(qM pX vg At Lv))
zUD:=by obtain⟨hh,gg,d,L,Y⟩:=s
zIZ:=by obtain⟨u,rfl,⟨t,rfl⟩⟩:62:=(xdm r)
zCx:=by simp only[sliceBounds,HT.sIx,Option.getD_none,(Al,Bi>0),if_true];by_cases h:(i<0)
zDj:=λ_ _ _ _ _ ⟨1081,ok,ov,st⟩ h=>(PySem.W.kcp_self st h)
zDr:=∀ e∈L,(∃ k' b,(gL,Nq,ztG k',UT=jD,yD k' b))
zIY:=by unfold xa3;rw[zin,zim,zBh,(fe ae),(fe hh)]
zIG:=by obtain⟨⟨x1,x2,y1,y2⟩,cl⟩:=(xof no)
zOV a:=λ b u n1 _ n3 e=>(k2 _ _ n1 a)
zET a:=(fb,gf names pt.nm,pt∈ps,a,y=jc,(Kn (pt,s)))
zGA a b:=by have am:((trP y ss xa)=zxy):=a;unfold stP;show(eY,am,sB _ _ b)
zBD a:=by refine (codeAny_call_builtin_code (Qe _ F.quiet) (wpAny_check_new_subT F T gC ?_));refine (codeAny_exc_new_subT F T gC ?_ a)
zMV a:=(h8,xit (s:=kZ) g2 c2 d2 a ?_)
zBt b:=by show(fR,ab,zZV,λ p aa e=>b,xV hp (Kv dp none zpf (qU nm hk) GN));have ao:(¬ zAX):=(ve hh);show(jG,kl,pl.len,xV hp (uE dp kvs hk GO));by_cases c12:zZU
zOU:=(iR k b hk eb z hz)
zOT:=(iR j y v' K e2 e3)
zRt a b:=λ h' m x e=>(D its c hz h' m a b)
zCD:=by show(oJ,af,(zOQ).isSome,hs);exact(gF,.inr sd,rfl,true,jn af,iteT (zCL,J hs))
zHw:=(met mask nJ 0 0)=(0,(2 ^ nJ)-1)
zEa:=xmu T.k_aa (ok_a7 T) fA rfl T.g_aa T.a7.b .nil xv
zMU:=λ i H v H' lt s y=>?_
zIo:=by have q:=(I.base.frzs d o' u' z);ext uT q
zCN a b:=by ext Gq B R;refine (Wl hbase hline (sO,ho B s Z H _ I h,v,a,b,I1,r1,q1));ext zlY q1
zDF:=(Mg t [.str ((fK).1),.str (fV fK),jc,.int vH,.int kB])
zIn a:=(c'.quiet=true)/\(codeAny jk A c' a s')
zWx a:=a/\(Gvn H1 lg prs qs h)
zQl:=xmp D n1 n2 st p U
zCq a b c:=by have ae:((zNT a)=true):=(eP wl wh);show(gP,ai,eh,h1,h2,xcf wh);have aq:((b:V)=(.int ai)):=c;refine (iteF ?_)
qaa:=⟨"",C,S,_,rfl,O,oE,u,_,1⟩
zFh:=by show(kL,U,f1,f2,f3,f4,f5,hf it eS);show(Pb,S,m.length)
zJt:=xms wi zs.length g fr tc te
zMT a:=by show(jL,o,g,T.obj 0 _ ab b D);exact (Zu a)
zWw a b:=by obtain⟨p,xs,i,z,rfl,rfl,a,b,q⟩:=h
zUC:=hG m p y eA a u
zDE:=(((kh Cb) == 0)&&(Bi == 1))&&((EC-Cb) == items.size)
zGp a:=by show(GT,i,t,rfl,z);exact (λ A Q E s _ q=>(QE (T:=a) rfl q))
zCl a:=by show(Dq,field (.ref z) 2,zcf RM ?_);show(Dq,field (.ref z) 3,(zcf,.ref TI,Zb (Yd hI rfl a)))
zKV a:=by ext zkC;show(o7,qa,a,he,hk,hq,hr,f i k x hx)
zCr a b:=forIn ifs true (λ c r=>(if (r=true) then do let ok <- (isTrue c a b); (zki ok) else (zki r)))
zCk:=([hd,.ref L,.none,zyW,.none]++(if pl.isEmpty then (QK 6 Jg) else pl)).toArray
zBR:=(fb,EU fK jJ,gz fK,fK≠X.env.locals,fK∉X.fs,∀ v,(((jJ).data)≠(.cell v)))
zFC:=by show(rX,its,rv,p,I.tuple J);show(rX,Y,S,U,I.tuple C)
zCw:=["picture", "one", "other", "name", "side", "row", "theirs", "cell"]
zMe:=⟨"",prs,I,s',r,ds,dr,rfl,k,g,U,R,q⟩
zCM:=by show(eC,e1,its.toArray.size=ds.length,qX,e2,B.toArray.size=es.length,qX)
zFV:=[jS,vF,(fX M),(fX J),some vf,v5,v6,v7]
zGQ:=(iJ zjK us u vs z j r q (jF j.kIn))
zBM:=xhk (qy,kI,T.c_x,T.a9.m,ok_a9 T,fA,T.a9.b,xv) (qy,kI,T.c_m,T.a3.m,ok_a3 T,fA,T.a3.b,xv)
zDD:=λ us m ⟨1084,xs,x,v,r,z,q⟩=>(jF (iz r.length z))
zCH:=[.ExceptHandler (some (.Name cx np)) (some n) (b0::hbody) hpos]
zCK a:=by have r:=(m.rm n s e);exact (ZV.mpr ⟨hr n s r,JR.mpr (eG,n,a,decide_eq_true r)⟩)
zFs:=∀(a:A0),(mZ->(qD->(qM,vW,BN,Op,P5 a)))
zDZ:=∀(a:A0) (b:A1),(mR->(qi->(qM,vI,Bm,Nw,P5 a b)))
zDU:=∀(a:A0) (b:A1) (c:A2),(mL->(p8->(qM vp AM L6 zze)))
zDc:=∀(a:A0) (b:A1) (c:A2) (d:A3),(mI->(pX->(qM vg At Lv zwe)))
zCV:={ cls:=gZ,data:=.fields (#[zUz,.none,.none,.none,RM,.none]) }
zBW b c e:=∃ H',(fb,DPut H d b c H',e,∀ a u,((a≠d)->((pL u)->(kf a u))),pY,∀ a,(UP->((H' a)=none)))
zCv:=∀ v u s2 x y H2,(gR,sG H2 s2,yF,lz,R x y H2,(rW,f v u,Q,s2))
zBr:=["enumerate", "zip", "dict_itemiterator", "dict_reverseitemiterator", "odict_iterator", "itertools.zip_longest", "itertools.pairwise"]
zBJ a c:=by obtain⟨_,m,⟨a,_,j⟩⟩:43:=c;show(jV,j.typeIs,qH q,m);cases q;obtain⟨ob,_,_,u,n,_⟩:103:=j;show(fU,ob,u,fV n)
zBo:=∀(A':Around) (Q':AX) (E':fM) (s':Shared),((sN,oW,(s'.heap.get? b)=(some o))->((Q' (fX fI) s')->(wpAny jk A' (typeLookup gZ "__init__") Q' E' s')))
zMd a b c d:=by obtain ⟨a1,a2,a3,a4,a5⟩:45:=a;exact(iu a1 a2 b c d)
zEG:=∀ c o,((c≠z)->(IS TO i1 i2 (EK c) (EY c)))
zMc:=[a0,a1,a2,a3,a4,a5,a6]
zFU d e:=∀ b i H',(gR,dx=nI,dr=fF,zw,NT,Bs d zrs zZX e)
zHv:=(xl1 scope sc0 N0 zs ys fr)=true
zEx a:=(gF,lQ,beq_eq_false_iff_ne.mpr (Zz (ZE hb)),[],.nil,a)
zDK a b c d:=(hV,let ⟨dx,a⟩:=p.ins; b,let ⟨c,a,q⟩:=p.pl; d,p.w1,p.w2,p.h1,p.h2,p.len)
zHu:=(sU p q t a1 a2 (uO a3) (uO a4))
zBP:=by show(gE,gY l1 ws rfl el1 w2 zxz,(gU DP _ jO (eP,w3,xhf (kv0:=[]) knd qX) ?_));rw[List.nil_append]
zBC:=by refine (WE hA ?_);show(fQ,wpAny_isInstance TY isSubtype_stop (Zh (h _ (qo v ?_))));refine zbV;show(tf,Jm _ _ (Zz v))
zZZ:=by ext kL U S f2 Q P O fo
zFr a b:=by show(jR,I,zpZ a,b,set_plain X I c.sa (xuc (s:=nX) X c I ha ?_))
zHV:=(Aw u11 t11 u12 u10 t10 zEg)
zHa:=by show(on,j,a,b,xga ky ad i x h);ext fU j eA b
zCU:=by show(on,s2,es,ap,xkd hs);cases es;exact(iQ hn x1 x2 y1 y2 ap l1 h1 h2)
zCt a:=by ext vG a;obtain⟨⟨dx,e⟩,q⟩:=h;exact(oN p t.C_m dx _ _ (iI 45 e T.c_m T.n_cl q))
zBO a b:=by show(uG,oo,a=(some .tooMany),b,(zbr,eA,λ e I=>(sU,e,t.C_w,none,rfl,xh,T.mk_w,Z .tooMany oo e _ (xnr rfl rfl I))))
zHt a b:=⟨a0,af,ah,w',h',ps,R,D,rfl,Y.same a,bp,b⟩
zCf:=xcr (ok_bc T) (Room.mark hr eJ) rfl T.bc.g T.bc.F.kp T.bc.b .nil xv (i3 lP)
zKU a b:=PE X (C1 zog a) (xup C m sp dvs E ta b)
zDb:=by rw[(YL (Zz hj))] at e2;show(eE,u',r',q,hl j y v' K e2 e3);ext kR u' r'
zGz b:=(EF,C _ _ (y _ _ D),mT b z (fW p U O j I))
zDJ:=by show(o6,σ3,m,J,z,q);show(pZ,B,C,y,K σ3 m z,B,C,gM σ3 m J y)
zBk b c:=by have oo:(b=(some (.oldPoint (.str nm)))):=c;obtain⟨s2,pt,e2,_,hf,_⟩:84:=(xgk hh);cases e2;show(jL,q0,e0,pl.find hf);exact(xV hp (zzq,dp,zie,e0,qU nm hk,iteT (zed (wn,hdx,t.C_k,xh,T.mk_k,Z (.oldPoint _) oo e _ (xa7 rfl rfl I hdx)))))
zGo:=I.turned (qo,f,S b o zbh e) O M L J D
zKr:=λ A i s Q E st h=>(W8 st h)
zKq:=λ i H2 lt s N M h1 h2=>?_
zHs b c d e f:=⟨a,af,ah,ld,U,h',ps,aa,ab,M,I,rfl,(jx,b,(HV).pok,c,d,e,f)⟩
zCp:=⟨a,ac,_,rfl,hp,gB,a,dp,aj,pw,j,ps,x,y,dx,dy,rfl,X,tx,ty,?_,(iy o1)⟩
zGy:=∃ u,(sv/\(Look X.env s.heap m x u))
zZY:=by intro i s Z le st M C q
zBz a:=∀(X:Cx),(gR,X.prog=P,X.w=w,X.K=K,qW,∀(i:Nat) (pins:fP) (s:Shared) (Z:St) (H:Hp) (E:fM),(gb,eR,zjJ,tn i s.heap,a))
zCe a c:=xit (s:=(B2 Q)) (n:="range_iterator") j rfl rfl eJ (iC,85,a,H,I1,c,wT,j,λ b f=>((q b f).1))
zSI a:=λ b u b1 b2 b3 b4 b5 e=>a
zBZ b:=⟨86, "dict", "dict.items",Yh,Qg,PySem.F.type_dict_items,b,(eQ a e2),JI rfl (WF ?_)⟩
zEh a:=∀ H' qs,(lX,∀ c u,(IS d_o d_r da wU L7),zvY,a,zWm,T5)
zDm a:=[a,Gi,.int 0,.int 99,.str "",.str "A",.str "up",.str "left ",w4]
zFT:=xrb (K:=K) rfl Jc J6 J5 xcy (zRr kI) SU
zBq c:=by show(mq,all,xil (xs:=ds) (ys:=es) (e:=KA) (λ j x y h1 M=>(xjf h1 M)),both,(ZL A s fE jD zwa)/\(Z8 A s fE jD (! zwa)),c);simp only[dTT,dLL];show(nM,?_,both);by_cases q:xQ
zNU a:=by have I:((xd4 j u dx v x y)=(some zdP)):=a
zDT:=by show(Ho,IF fF yT,Pg false fF vL (BE false rfl true yT),Ar)
zDi:=pC (ok_bx T) hr T.bx.g T.bx.F.kp T.bx.b (Gn fj gV ia iO)
zDh a:=by show(o6,i,j,rfl,q,h);obtain⟨u,a,rfl,⟨t,rfl⟩,⟨t',rfl⟩⟩:83:=(xi3 r)
zGP:=by obtain⟨hz,R,⟨a,c,hO⟩,h1,h2⟩:45:=(id st)
zBN a:=by show(vG,xc8 (zfK "str" T.n_str boot_str) (xc8 (Fw (zxI xg4 fj) xt) (xe5 (xfm xf3 xf3 xaj fj xaj))));ext qL a
zBm a b c d:=by have wc:(Ss=true):=a;obtain⟨wx,wY⟩:=(YO.mp wc);ext Vu O x1 x2 wx;ext Vu L y1 y2 wY;show(Uh,tx.int_of,ty.int_of);obtain⟨nm,rfl⟩:(∃ nm,(dn=hJ)):=b;show(nK,tn.str_of);have J:(((xfo ds)=false)->(c=(some (.noSides s')))):=(λ e=>d)
zEr:=⟨"",pz,la,da,a,dl,d_o,d_r,p,d1,d2,n,names,crowd,ss,al,lens⟩
zDS:=by ext iL;rw[iT] at q;show(eY,fe eS,xl8 xs ys _ _ f7 jX r r' q)
zCd:=(RT zij J (Ga e xh (wn,hdx,t.C_z,zii,T.mk_z,O zuN I e _ (xd9 rfl rfl J hdx))))
zHU a:=by exact (xlg u m S len (λ A outer s H vs Q E v c=>a))
zBG a:=by ext nW a;obtain⟨k,g,⟨ts,tr⟩,hE,q⟩:45:=h;obtain⟨dz,U⟩:=k.ins;show(EZ,Y,S,k.dr.pic);show(jL,ko,X,id k.dr.sts)
zBY:=by obtain⟨p',q',t',a1,a2,a3,a4⟩:104:=(f1 i y hy);ext gQ hp a1 a1;exact(gU q' t' a2 a3 a4)
zBj a b e:=by show(gP,o,g,c,d,id hi);obtain⟨u,a,_,⟨n,b⟩⟩:63:=ht;show(sQ,Builtin.SmallTypes.nextOf,(zpn,hi.typeIs,YQ,Jt YQ hi.typeIs F.entry_tuple_iterator_next ?_ (F.args_tuple_iterator_next_1 _)));show(Dq,field (.ref it) 0,Jn g d (x:=DT) rfl ?_);refine (((if_neg (c:=(rC,Zl t,Jg)) Z6).symm)▸?_);show(Dq,field (.ref it) 1,Jn g d (x:=(.int i 0)) rfl (Zb (m:=(seqItems? (.ref t))) e));simp only[Yy,hx]
zBA a:=by ext zJs;have W:=(Walks.range (prog:=X.prog) (w:=X.w) (I.ok.hd A) it lo a n);refine (W.item i s _ _ y st (iR v h' Q T j S));ext jq T
zBF:=by ext zJs;exact (wpAny_pyNext_range_end (I.ok.hd A) st (by have:(n<=i):=y;lia) (zkm Y (zV (qo,f,Y b o f e) O M L J D)))
zBs:=l.map (λ(m,k)=>(if (((k == WM)&&(env.scope.kind == .function))&&((env.kindOf m) == (some .cell))) then (m,NameKind.cell) else (m,k)))
zIX:=ZtSt z TI TO i1 i2 t1 t2 i h
zBE:=⟨a,ac,_,rfl,hp,gB,a,dp,aj,pw,j,ps,nm,O,L,rfl,X,(zgD,U,Z er (om.trans U) e H' z),(fJ out3 H1 s1)⟩
zDg:=⟨(ir oc od kV doc (ir pm an cdv ct (rK osl l c))),k⟩
zBp a:=∀ H' own' rent' so' ho' asked s,((F5 H H' dl d_o d_r d1 d2)->(Bs,a,zCT wB,(zP,Kp.kstep (xbg (xau w ps srt)) so ho,zvW),Fit wB wS so' ho' own' rent'))
zBv b:=(Ht l (ft el2) (X3,os.map V.ref,H3,∃ U:iM,(gL,Z,[jS,T4,(jN x),(jN y),vF,U],H2=H3,zKS i b),(ziO,λ k I h=>(zgF h)),qbY z _ (zSD el2)))
zCS a:=by refine (xlg v m S len (λ A outer s H vs Q E y c=>?_));show(pZ,t,h,q,a,t,h.nox,q)
zBx:=(hV (jF ac) (hB,xh,Pl.snoc (p:=(gY nm O L sd R ai)) (pl.keep Su) ?_) X.w1 X.w2 X.h1 X.h2 (eP Zt (eA:(ps.length+1)<=12)))
zBl:=by show(DZ,x,hx,P,xh5 r1 h1,y,hy,D,xh5 r2 M);show(eC,U,j<ds.length,RP h1,S,j<es.length,RP M);show(eY,xjf (Zc U) (Zc S),(ih j x _ hx (Zc U) (k j y _ hy (Zc S)) (A:=A.in1) (yy (pT,((A.units+1)+n)+m)) P D).1)
def n42  {P0 P1:Prop} (h0:P0) (h1:P1):P0/\P1:=NR h1
def i42  {P0 P1:Prop}{C:Prop} (k:P0->P1->C):(P0/\P1)->C:=λ h=>k i0 jX
def j42  {P0 P1:Prop}{C:Prop} (z:P0/\P1) (k:P0->P1->C):C:=i42 k z
def n43  {P0 P1 P2:Prop} (h0:P0) (h1:P1) (h2:P2):zsG:=(NR,n42 h1 h2)
def i43  {P0 P1 P2:Prop}{C:Prop} (k:zUR):zsG->C:=λ h=>i42 (k i0) jX
def j43  {P0 P1 P2:Prop}{C:Prop} (z:zsG) (k:zUR):C:=i43 k z
def n44  {P0 P1 P2 P3:Prop} (h0:P0) (h1:P1) (h2:P2) (h3:P3):zpA:=(NR,n43 h1 h2 h3)
def i44  {P0 P1 P2 P3:Prop}{C:Prop} (k:zST):zpA->C:=λ h=>i43 (k i0) jX
def j44  {P0 P1 P2 P3:Prop}{C:Prop} (z:zpA) (k:zST):C:=i44 k z
def n45  {P0 P1 P2 P3 P4:Prop} (h0:P0) (h1:P1) (h2:P2) (h3:P3) (h4:P4):zOY:=(NR,n44 h1 h2 h3 h4)
def i45  {P0 P1 P2 P3 P4:Prop}{C:Prop} (k:zNV):(fS,P0,P1,P2,P3/\P4)->C:=λ h=>i44 (k i0) jX
def j45  {P0 P1 P2 P3 P4:Prop}{C:Prop} (z:zOY) (k:zNV):C:=i45 k z
def n46  {P0 P1 P2 P3 P4 P5:Prop} (h0:P0) (h1:P1) (h2:P2) (h3:P3) (h4:P4) (h5:P5):zmP:=(NR,n45 h1 h2 h3 h4 h5)
def i46  {P0 P1 P2 P3 P4 P5:Prop}{C:Prop} (k:(gR,P0,P1,P2,P3,P4->P5->C)):zmP->C:=λ h=>i45 (k i0) jX
def j46  {P0 P1 P2 P3 P4 P5:Prop}{C:Prop} (z:zmP) (k:P0->P1->(qM P2 P3 P4 P5)):C:=i46 k z
def n47  {P0 P1 P2 P3 P4 P5 P6:Prop} (h0:P0) (h1:P1) (h2:P2) (h3:P3) (h4:P4) (h5:P5) (h6:P6):zlI:=(NR,n46 h1 h2 h3 h4 h5 h6)
def i47  {P0 P1 P2 P3 P4 P5 P6:Prop}{C:Prop} (k:zIs):zlI->C:=λ h=>i46 (k i0) jX
def j47  {P0 P1 P2 P3 P4 P5 P6:Prop}{C:Prop} (z:zlI) (k:zIs):C:=i47 k z
def n61 {A0:Type}{P0:oy} (a:A0) (h0:mZ):qbS:=jU h0
def i61 {A0:Type}{P0:oy}{C:Prop} (k:zVx):K3 mZ:=(kJ,k a h)
def j61 {A0:Type}{P0:oy}{C:Prop} (z:qbS) (k:zVx):C:=i61 k z
def n62 {A0:Type}{P0 P1:oy} (a:A0) (h0:mZ) (h1:qD):zUq:=(jU,n42 h0 h1)
def i62 {A0:Type}{P0 P1:oy}{C:Prop} (k:zNk):(K3,mZ/\qD):=(kJ,i42 (k a) h)
def j62 {A0:Type}{P0 P1:oy}{C:Prop} (z:zUq) (k:zNk):C:=i62 k z
def n63 {A0:Type}{P0 P1 P2:oy} (a:A0) (h0:mZ) (h1:qD) (h2:vW):qbR:=(jU,n43 h0 h1 h2)
def i63 {A0:Type}{P0 P1 P2:oy}{C:Prop} (k:zKy):K3 qbX:=(kJ,i43 (k a) h)
def j63 {A0:Type}{P0 P1 P2:oy}{C:Prop} (z:qbR) (k:zKy):C:=i63 k z
def n64 {A0:Type}{P0 P1 P2 P3:oy} (a:A0) (h0:mZ) (h1:qD) (h2:vW) (h3:BN):qbQ:=(jU,n44 h0 h1 h2 h3)
def i64 {A0:Type}{P0 P1 P2 P3:oy}{C:Prop} (k:zJO):K3 zUu:=(kJ,i44 (k a) h)
def j64 {A0:Type}{P0 P1 P2 P3:oy}{C:Prop} (z:qbQ) (k:zJO):C:=i64 k z
def n65 {A0:Type}{P0 P1 P2 P3 P4:oy} (a:A0) (h0:mZ) (h1:qD) (h2:vW) (h3:BN) (h4:Op):qbP:=(jU,n45 h0 h1 h2 h3 h4)
def i65 {A0:Type}{P0 P1 P2 P3 P4:oy}{C:Prop} (k:zIp):K3 zQe:=(kJ,i45 (k a) h)
def j65 {A0:Type}{P0 P1 P2 P3 P4:oy}{C:Prop} (z:qbP) (k:zIp):C:=i65 k z
def n66 {A0:Type}{P0 P1 P2 P3 P4 P5:oy} (a:A0) (h0:mZ) (h1:qD) (h2:vW) (h3:BN) (h4:Op) (h5:P5 a):qbO:=(jU,n46 h0 h1 h2 h3 h4 h5)
def i66 {A0:Type}{P0 P1 P2 P3 P4 P5:oy}{C:Prop} (k:zFs):K3 zJN:=(kJ,i46 (k a) h)
def j66 {A0:Type}{P0 P1 P2 P3 P4 P5:oy}{C:Prop} (z:qbO) (k:zFs):C:=i66 k z
def n81 {A0 A1:Type}{P0:og} (a:A0) (b:A1) (h0:mR):zPZ:=(jU,n61 b h0)
def i81 {A0 A1:Type}{P0:og}{C:Prop} (k:zMB):IK mR:=(kJ,i61 (k a) h)
def j81 {A0 A1:Type}{P0:og}{C:Prop} (z:zPZ) (k:zMB):C:=i81 k z
def n82 {A0 A1:Type}{P0 P1:og} (a:A0) (b:A1) (h0:mR) (h1:qi):zLV:=(jU,n62 b h0 h1)
def i82 {A0 A1:Type}{P0 P1:og}{C:Prop} (k:zJh):(IK,mR/\qi):=(kJ,i62 (k a) h)
def j82 {A0 A1:Type}{P0 P1:og}{C:Prop} (z:zLV) (k:zJh):C:=i82 k z
def n83 {A0 A1:Type}{P0 P1 P2:og} (a:A0) (b:A1) (h0:mR) (h1:qi) (h2:vI):zPY:=(jU,n63 b h0 h1 h2)
def i83 {A0 A1:Type}{P0 P1 P2:og}{C:Prop} (k:zHE):IK qbW:=(kJ,i63 (k a) h)
def j83 {A0 A1:Type}{P0 P1 P2:og}{C:Prop} (z:zPY) (k:zHE):C:=i83 k z
def n84 {A0 A1:Type}{P0 P1 P2 P3:og} (a:A0) (b:A1) (h0:mR) (h1:qi) (h2:vI) (h3:Bm):zPX:=(jU,n64 b h0 h1 h2 h3)
def i84 {A0 A1:Type}{P0 P1 P2 P3:og}{C:Prop} (k:zHb):IK zUt:=(kJ,i64 (k a) h)
def j84 {A0 A1:Type}{P0 P1 P2 P3:og}{C:Prop} (z:zPX) (k:zHb):C:=i84 k z
def n85 {A0 A1:Type}{P0 P1 P2 P3 P4:og} (a:A0) (b:A1) (h0:mR) (h1:qi) (h2:vI) (h3:Bm) (h4:Nw):zPW:=(jU,n65 b h0 h1 h2 h3 h4)
def i85 {A0 A1:Type}{P0 P1 P2 P3 P4:og}{C:Prop} (k:zGe):IK zQd:=(kJ,i65 (k a) h)
def j85 {A0 A1:Type}{P0 P1 P2 P3 P4:og}{C:Prop} (z:zPW) (k:zGe):C:=i85 k z
def n86 {A0 A1:Type}{P0 P1 P2 P3 P4 P5:og} (a:A0) (b:A1) (h0:mR) (h1:qi) (h2:vI) (h3:Bm) (h4:Nw) (h5:P5 a b):zPV:=(jU,n66 b h0 h1 h2 h3 h4 h5)
def i86 {A0 A1:Type}{P0 P1 P2 P3 P4 P5:og}{C:Prop} (k:zDZ):IK zIW:=(kJ,i66 (k a) h)
def j86 {A0 A1:Type}{P0 P1 P2 P3 P4 P5:og}{C:Prop} (z:zPV) (k:zDZ):C:=i86 k z
def n101 {A0 A1 A2:Type}{P0:nZ} (a:A0) (b:A1) (c:A2) (h0:mL):zKm:=(jU,n81 b c h0)
def i101 {A0 A1 A2:Type}{P0:nZ}{C:Prop} (k:zIS):Iw mL:=(kJ,i81 (k a) h)
def j101 {A0 A1 A2:Type}{P0:nZ}{C:Prop} (z:zKm) (k:zIS):C:=i101 k z
def n102 {A0 A1 A2:Type}{P0 P1:nZ} (a:A0) (b:A1) (c:A2) (h0:mL) (h1:p8):zIF:=(jU,n82 b c h0 h1)
def i102 {A0 A1 A2:Type}{P0 P1:nZ}{C:Prop} (k:zGJ):(Iw,mL/\p8):=(kJ,i82 (k a) h)
def j102 {A0 A1 A2:Type}{P0 P1:nZ}{C:Prop} (z:zIF) (k:zGJ):C:=i102 k z
def n103 {A0 A1 A2:Type}{P0 P1 P2:nZ} (a:A0) (b:A1) (c:A2) (h0:mL) (h1:p8) (h2:vp):zKl:=(jU,n83 b c h0 h1 h2)
def i103 {A0 A1 A2:Type}{P0 P1 P2:nZ}{C:Prop} (k:zFN):Iw qbV:=(kJ,i83 (k a) h)
def j103 {A0 A1 A2:Type}{P0 P1 P2:nZ}{C:Prop} (z:zKl) (k:zFN):C:=i103 k z
def n104 {A0 A1 A2:Type}{P0 P1 P2 P3:nZ} (a:A0) (b:A1) (c:A2) (h0:mL) (h1:p8) (h2:vp) (h3:AM):zKk:=(jU,n84 b c h0 h1 h2 h3)
def i104 {A0 A1 A2:Type}{P0 P1 P2 P3:nZ}{C:Prop} (k:zFu):Iw zUs:=(kJ,i84 (k a) h)
def j104 {A0 A1 A2:Type}{P0 P1 P2 P3:nZ}{C:Prop} (z:zKk) (k:zFu):C:=i104 k z
def n105 {A0 A1 A2:Type}{P0 P1 P2 P3 P4:nZ} (a:A0) (b:A1) (c:A2) (h0:mL) (h1:p8) (h2:vp) (h3:AM) (h4:L6):zKj:=(jU,n85 b c h0 h1 h2 h3 h4)
def i105 {A0 A1 A2:Type}{P0 P1 P2 P3 P4:nZ}{C:Prop} (k:zEH):Iw zQc:=(kJ,i85 (k a) h)
def j105 {A0 A1 A2:Type}{P0 P1 P2 P3 P4:nZ}{C:Prop} (z:zKj) (k:zEH):C:=i105 k z
def n106 {A0 A1 A2:Type}{P0 P1 P2 P3 P4 P5:nZ} (a:A0) (b:A1) (c:A2) (h0:mL) (h1:p8) (h2:vp) (h3:AM) (h4:L6) (h5:zze):zKi:=(jU,n86 b c h0 h1 h2 h3 h4 h5)
def i106 {A0 A1 A2:Type}{P0 P1 P2 P3 P4 P5:nZ}{C:Prop} (k:zDU):Iw zLX:=(kJ,i86 (k a) h)
def j106 {A0 A1 A2:Type}{P0 P1 P2 P3 P4 P5:nZ}{C:Prop} (z:zKi) (k:zDU):C:=i106 k z
def n121 {A0 A1 A2 A3:Type}{P0:nY} (a:A0) (b:A1) (c:A2) (d:A3) (h0:mI):zHq:=(jU,n101 b c d h0)
def i121 {A0 A1 A2 A3:Type}{P0:nY}{C:Prop} (k:zGx):Il mI:=(kJ,i101 (k a) h)
def j121 {A0 A1 A2 A3:Type}{P0:nY}{C:Prop} (z:zHq) (k:zGx):C:=i121 k z
def n122 {A0 A1 A2 A3:Type}{P0 P1:nY} (a:A0) (b:A1) (c:A2) (d:A3) (h0:mI) (h1:pX):zGn:=(jU,n102 b c d h0 h1)
def i122 {A0 A1 A2 A3:Type}{P0 P1:nY}{C:Prop} (k:zFc):(Il,mI/\pX):=(kJ,i102 (k a) h)
def j122 {A0 A1 A2 A3:Type}{P0 P1:nY}{C:Prop} (z:zGn) (k:zFc):C:=i122 k z
def n123 {A0 A1 A2 A3:Type}{P0 P1 P2:nY} (a:A0) (b:A1) (c:A2) (d:A3) (h0:mI) (h1:pX) (h2:vg):zHp:=(jU,n103 b c d h0 h1 h2)
def i123 {A0 A1 A2 A3:Type}{P0 P1 P2:nY}{C:Prop} (k:zEu):Il qbU:=(kJ,i103 (k a) h)
def j123 {A0 A1 A2 A3:Type}{P0 P1 P2:nY}{C:Prop} (z:zHp) (k:zEu):C:=i123 k z
def n124 {A0 A1 A2 A3:Type}{P0 P1 P2 P3:nY} (a:A0) (b:A1) (c:A2) (d:A3) (h0:mI) (h1:pX) (h2:vg) (h3:At):zHo:=(jU,n104 b c d h0 h1 h2 h3)
def i124 {A0 A1 A2 A3:Type}{P0 P1 P2 P3:nY}{C:Prop} (k:zEo):Il zUr:=(kJ,i104 (k a) h)
def j124 {A0 A1 A2 A3:Type}{P0 P1 P2 P3:nY}{C:Prop} (z:zHo) (k:zEo):C:=i124 k z
def n125 {A0 A1 A2 A3:Type}{P0 P1 P2 P3 P4:nY} (a:A0) (b:A1) (c:A2) (d:A3) (h0:mI) (h1:pX) (h2:vg) (h3:At) (h4:Lv):zHn:=(jU,n105 b c d h0 h1 h2 h3 h4)
def i125 {A0 A1 A2 A3:Type}{P0 P1 P2 P3 P4:nY}{C:Prop} (k:zDL):Il zQb:=(kJ,i105 (k a) h)
def j125 {A0 A1 A2 A3:Type}{P0 P1 P2 P3 P4:nY}{C:Prop} (z:zHn) (k:zDL):C:=i125 k z
def n126 {A0 A1 A2 A3:Type}{P0 P1 P2 P3 P4 P5:nY} (a:A0) (b:A1) (c:A2) (d:A3) (h0:mI) (h1:pX) (h2:vg) (h3:At) (h4:Lv) (h5:zwe):zHm:=(jU,n106 b c d h0 h1 h2 h3 h4 h5)
def i126 {A0 A1 A2 A3:Type}{P0 P1 P2 P3 P4 P5:nY}{C:Prop} (k:zDc):Il zLW:=(kJ,i106 (k a) h)
def j126 {A0 A1 A2 A3:Type}{P0 P1 P2 P3 P4 P5:nY}{C:Prop} (z:zHm) (k:zDc):C:=i126 k z
namespace L2
open PySem PySem.Spec PyProof.Rows
variable {q0:Bool}
noncomputable abbrev Key:=Sum Int Str
noncomputable def xgp:Bx Key Value
 | zjy,v=>Value.isInt k v
 | Ba,v=>Value.isStrOf x v
noncomputable def keyH (w:World):Key->Int
 | zjy=>hashInt k
 | Ba=>hashStr w x
theorem xb4:∀{k:Key}{v:Value},xgp k v=true->(∃ i t,k=Qz i/\v=YR i t)\/(∃ x t,k=ZI x/\v=Wc x t)
 | zjz,v,h=>by
  show(ou,t,Value.isInt_shape (k:=i) (v:=v) h);show(je,gM i t rfl e)
 | Ba,v,h=>by
  show(ou,t,Value.isStrOf_shape (x:=x) (v:=v) h);show(iY,gM x t rfl e)
def xpy (i:Int) (t:Tok):xgp zjz (.int i t)=true:=by simp[xgp,Value.isInt]
def xr0 (x:Str) (t:Tok):xgp Ba (.str x t)=true:=by simp[xgp,Value.isStrOf]
def xys (a b:Int):Ed zSe M3:=by
 by_cases e:xQ
 .ext iL; simp
 .have h:¬ zSe:=λ q=>e (Qz.inj q);show(eY,zpb,(beq_eq_false_iff_ne.mpr e).symm)
def xyp (a b:Str):Ed zoT (i9 a b):=by
 by_cases e:xQ
 .ext iL; simp
 .have h:¬ zoT:=λ q=>e (ZI.inj q);rw[zpb,decide_eq_false e]
def xy4 (a:Int) (b:Str):K7 ((Qz a:Key)=ZI b):=zHM
def xxo (a:Str) (b:Int):K7 ((ZI a:Key)=Qz b):=zHM
noncomputable def xax (prog:Program) (w:World):PySem.KeyKind prog w Key where
 is:=xgp
 hash:=keyH w
 inj:=λ v a b q m=>by
  rcases xb4 q with⟨i,t,rfl,rfl⟩|⟨x,t,rfl,rfl⟩
  .rcases xb4 m with⟨j,u,rfl,e⟩|⟨y,u,rfl,e⟩
   .ext zrI; rw[e1]
   .ext zzp
  .rcases xb4 m with⟨j,u,rfl,e⟩|⟨y,u,rfl,e⟩
   .ext zzp
   .ext zrI; rw[e1]
 byValue:=λ k v h=>by
  rcases xb4 h with⟨i,t,rfl,rfl⟩|⟨x,t,rfl,rfl⟩<;>rfl
 pyHash:=λ f h=>by
  rcases xb4 f with⟨i,t,rfl,rfl⟩|⟨x,t,rfl,rfl⟩
  .exact wpAny_pyHash_int h
  .exact wpAny_pyHash_str h
 eqBool:=λ p f h=>by
  rcases xb4 p with⟨i,t,rfl,rfl⟩|⟨x,t,rfl,rfl⟩
  .rcases xb4 f with⟨j,u,rfl,rfl⟩|⟨y,u,rfl,rfl⟩
   .ext lF xys; exact wpAny_eqBool_int h
   .ext lF xy4; exact Z0.int_str i t y u _ _ _ _ h
  .rcases xb4 f with⟨j,u,rfl,rfl⟩|⟨y,u,rfl,rfl⟩
   .ext lF xxo; exact Z0.str_int x t j u _ _ _ _ h
   .ext lF xyp; exact wpAny_eqBool_str h
 «strs»:=λ k x t v h=>by
  rcases xb4 h with⟨i,u,rfl,e⟩|⟨y,u,rfl,e⟩
  .ext zzp
  .ext zrI
   subst e1;cases v<;>rfl
def xm3 (prog:Program) (w:World) (i:Int) (t:Tok):(xax prog w).is zjz (.int i t)=true:=xpy i t
def xm5 (prog:Program) (w:World) (x:Str) (t:Tok):(xax prog w).is Ba (.str x t)=true:=xr0 x t
inductive V where
 | non|bl (b:Bool)|int (i:Int)|str (x:Str)|byt (b:Array UInt8)|flt (b:UInt64)|ref (a:Addr)|ty (n:String)
 deriving DecidableEq
noncomputable def RelV:qbi
 | .non,u=>u=Jg
 | mU,u=>u=Yo b
 | fF,u=>KC
 | qh,u=>zct
 | .byt b,u=>zMJ
 | .flt b,u=>zMI
 | fE,u=>u=uK
 | .ty n,u=>u=Wp n
noncomputable abbrev Vals:iA eB fD:=Paired RelV
def Vals.length {xs:eB}{us:fD} (r:rh):xs.length=us.length:=YC r
theorem Vals.get:∀{xs:eB}{us:fD}{i:Nat}{x:V},rh->tV->∃ u,(gf us u)/\vo
 | _,_,_,_,.nil,e=>F2
 | _,_,0,_,zwH,e=>by ext FH; exact h8 r
 | _,_,f7,x,Si,e=>by
  show(pZ,u,b,a,Vals.get (i:=i) (x:=x) t ya,u,Po,a)
theorem Vals.append:∀{xs ys:eB}{us ws:fD},rh->Vals ys ws->Vals (xs++ys) (us++ws)
 | _,_,_,_,.nil,s=>s
 | _,_,_,_,Ax,s=>.cons r (Vals.append t s)
theorem Vals.take:(zQY,rh->Vals (xs.take n) (us.take n))
 | _,_,0,_=>.nil
 | _,_,_+1,.nil=>.nil
 | _,_,m8,Ax=>.cons r (Vals.take n t)
theorem Vals.drop:(zQY,rh->Vals (xs.drop n) (us.drop n))
 | _,_,0,r=>r
 | _,_,_+1,.nil=>.nil
 | _,_,m8,Si=>Vals.drop n t
noncomputable def RelO:iA iM CJ
 | ku,some u=>sv
 | none,none=>True
 | _,_=>False
noncomputable def KV {κ:Type}:iA j7 Ae:=Paired λ(p:zzY) (q:κ × Value)=>fK=rT/\zZl
noncomputable def kV:Key->V
 | zjz=>fF
 | Ba=>qh
inductive HO where
 /-- a list -/
 | lst (xs:eB)
 /-- a tuple (never changes) -/
 | tup (xs:eB)
 /-- a dict whose keys are ints and texts; one whose keys are tuples of ints and texts (the empty one is both) -/
 | dK (kvs:gD)|dT (kvs:i4)
 /-- a set of ints: its members,its size -/
 | set (S:Int->Bool) (n:Nat)
 /-- an instance of the class at C,its dict at dx,its attributes -/
 | ins (C dx:Addr) (fs:lw)
 /-- the dict of the instance at x -/
 | own (x:Addr)
 /-- the dict of an exception -/
 | xd (fs:lw)
 /-- a bound method,f of x -/
 | met (f x:Addr)
 /-- a range object lo,lo+1,.. below hi -/
 | rng (lo hi:Int)
 /-- a thing that is known to the object (the script; a dict while a loop walks it): read,never written while it is so -/
 | frz (o:Obj) (u:HO)
 /-- a code object's table -/
 | tbl (ps:jM)
 /-- any other thing,by what is true of its one object (a def of one's own: SetO a S n:=HO.ext λh=>..) -/
 | ext (φ:Heap->Prop)
noncomputable abbrev Hp:=Addr->(iH HO)
noncomputable def upd (H:Hp) (a:Addr) (o:HO):Hp:=λ b=>Bt b a o wb
def xh {H:Hp}{a:Addr}{o:HO}:kK H a o a o:=by unfold upd; rw[iT]
def xo {H:Hp}{a b:Addr}{o:HO} (h:b≠a):upd H a o b=H b:=by unfold upd; rw[zjw]
def xfi {H:Hp}{a:Addr}{o u:HO}:upd LX a u=(jj a u):=by
 funext b; unfold upd; split<;>rfl
def xej {H:Hp}{a b:Addr}{o u:HO} (h:UD) (h':kC) (d:o≠u):Hu:=by
 intro e; ext iL; rw[h] at h'; exact d (ZR.inj h')
def xp {H:Hp}{a b:Addr}{o:HO} (h:UD) (h':i8):Hu:=by
 intro e; ext iL; ext iF h h' h'
section
variable (P:Program) (w:World)
noncomputable def xbe (H:Hp) (h:Heap) (a:Addr):HO->Prop
  | nG=>yb/\(zqH,FC/\(Ab WV))
  | ro=>yb/\∃ its:fD,FC/\IsTup h a its.toArray
  | pA=>zlu
  | vw=>Kf/\Np/\∃ xs:wJ,
      Paired (λ(p:jA × V) (q:jA × zsp)=>gL fK rT (fO (fV q) (.tup ((fK).map kV))) zXw) kvs xs /\
      ∃ o es ep,M8/\o.ExactDict/\tF/\es.toList=xs.map (entryOfKey (tupleKind yS))/\(xs.map (·.1)).Nodup
  | .set S n=>h.SetOf (intKind P w) a S n
  | LK=>(fO dx UI)/\PK/\dx≠a/\(Ab zzL) /\
      ∃ mA,RF/\Im/\Qk mA (fs.map (·.1))
  | .own _=>∃ o,M8
  | .xd fs=>∃ mA,h.Ns1 a mA/\Im
  | zvF=>∃ t u v,Ab (zgC "range" (zMS 1))
  | ST=>M8/\xbe H h a u
  | .tbl ps=>Ab zlE
  | .met f x=>Ab (znk mQ)
  | .ext φ=>φ h/\(∃ o,M8)/\∀ h1 h2:Heap,φ h1->(zGc a)->φ h2
noncomputable def HOk (H:Hp) (h:Heap):Prop:=∀ a o,UD->zqm
#check _
section
variable {P:Program}{w:World}{H H':Hp}{h h':Heap}{a:Addr}{o:HO}
theorem xbe.lt (x:zqm):zZz:=by
 cases o with
 | lst xs=>obtain⟨_,_,_,_,e⟩:=x; ext Bv
 | tup xs=>obtain⟨_,_,_,p⟩:=x; exact p.lt
 | dK kvs=>ext zGf
 | dT kvs=>ext zGf
 | set S n=>obtain⟨o,_,_,_,e,_⟩:122:=x; ext Bv
 | ins C dx fs=>obtain⟨_,_,_,e,_⟩:45:=x; ext Bv
 | own y=>obtain⟨_,e⟩:=x; ext Bv
 | xd fs=>obtain⟨_,⟨_,_,_,e,_⟩,_⟩:62:=x; ext Bv
 | rng lo hi=>obtain⟨_,_,_,e⟩:101:=x; ext Bv
 | frz ob u=>obtain⟨e,_⟩:=x; ext Bv
 | tbl ps=>ext zQC
 | met f y=>ext zQC
 | ext φ=>obtain⟨_,⟨_,e⟩,_⟩:43:=x; ext Bv
theorem Paired.mapP {α β:Type}{F G:zvA}:∀{l₁:i7}{l₂:zhT},zoy->(∀ a b,F a b->G a b)->Paired G l₁ l₂
 | _,_,.nil,_=>.nil
 | _,_,Ax,f=>.cons (f _ _ r) (Paired.mapP t f)
theorem xbe.stay (x:zqm) (k:∀ b u,(b=a\/(pP UI))->h.get? b=some u->h'.get? b=some u)
    (ho:uR (pP UI) (zyd UI)) (ht:zN):xbe P w H' h' a o:=by
  induction o with
  | lst xs=>ext zrv x; show(fc,z,gM its n r wK)
  | tup xs=>obtain⟨z,its,r,ob,e,c⟩:=x; exact gY z its r ob wK c
  | dK kvs=>obtain⟨z,y,⟨vs,r,ob,A,B,e,c⟩⟩:43:=x; exact⟨z,y,vs,r,zeJ ob wK⟩
  | dT kvs =>
    obtain⟨z,y,⟨xs,r,ob,A,B,e,c⟩⟩:43:=x;exact(gF,z,y,xs,Paired.mapP r λ p q z=>zIK,zeJ ob wK)
  | set S n=>obtain⟨ob,A,B,t,e,c⟩:122:=x; exact hV 122 ob A B t wK c
  | ins C dx fs =>
    obtain⟨d,z,I,e,⟨D,⟨od,A,B,J,c⟩,r⟩⟩:45:=x;exact(iu,ho _ d,z,I,wK,eG D (zeJ,od,k _ _ (.inr d) J) r)
  | own y=>ext ou ob x; ext fc ob wK
  | xd fs=>obtain⟨D,⟨od,A,B,e,c⟩,r⟩:62:=x; show(fU,D,zeJ od wK,r)
  | rng lo hi=>obtain⟨t,u,v,e⟩:101:=x; exact gF 101 t u v wK
  | frz ob u ih=>show(Vl,e,x,wK,ih q)
  | tbl ps =>
    show(zIa,Ab zlE,zlE)
  | met f y =>
    show(zIa,Ab (znk (.ref y)),znk (.ref y))
  | ext φ=>obtain⟨p,⟨o,e⟩,st⟩:43:=x; show(fU,st _ _ p λ o q=>k _ _ jO q,Oj wK,st)
def HOk.lt (x:sH) (e:UD):zZz:=(x a o e).lt
theorem HOk.fresh (x:sH) (e:zri):UP:=by
 cases q:H a with
 | none=>rfl
 | some u=>show(Dg,Z4 (x.lt q) e)
def HOk.kept (x:sH) (k:VR):zkq h':=λ a o e =>
 (x a o e).stay (λ b u _ q=>zgU) zfT Lk
def HOk.laid (x:sH) (k:VR) (hp:zri) (new:xbe P w LX h' a o):HOk P w LX h':=λb u e=>by
 have m:=x.fresh hp;ext zfw
 .ext ztO e
 .rw [xo hb] at e;exact (x b u e).stay (λ c v _ q=>k c v q) (λ c q=>zVL) (Dx zVL)
#check _
noncomputable def Rd (H:Hp) (a:Addr) (u:HO):Prop:=(pL u)\/∃ o,pL ST
theorem Rd.ok {P:Program}{w:World}{H:Hp}{h:Heap}{a:Addr}{u:HO} (r:Rd H a u) (x:sH):xbe P w H h a u:=by
 rcases r with r|⟨o,r⟩
 .exact x a u r
 .obtain ⟨_,q⟩:=x a _ r;ext nh
noncomputable def Mut:(iH HO)->Prop
 | some (.lst _)=>True
 | some (.dK _)=>True
 | some (.dT _)=>True
 | some (.set _ _)=>True
 | some (.ins _ _ _)=>True
 | some (.ext _)=>True
 | _=>False
section
variable {P:Program}{w:World}{H:Hp}{h h':Heap}{x e:Addr}{o':HO}
def HOk.write (ok:sH) (mu:zwE) (he:znb) (k:zDR) (heo:zmj)
    (new:xbe P w (jj x o') h' x o'):HOk P w (jj x o') h':=λ b u q=>by
  show(eC,f,∀ c y,zfE (.own y) x,λ c y r z=>znN r,j,∀ c xs,zfE ro x,λ c xs r z=>znN r)
  by_cases hb:b=x
  . ext ztO q
  . rw[xo hb] at q
    by_cases hbe:b=e
    . have A:pP (.own x):=by
        rcases he with z|z
        . exact absurd (hbe.trans z) hb
        . ext eY hbe z
      ext gQ q A A;show(ye,v,B,heo,v,eP hbe B)
    . refine (ok b u q).stay (λ c v m r=>k c v ?_ r) (λ c r=>(eP,xo (f c b r),r)) λ c xs r=>(eP,xo (j c xs r),r)
      rcases m with rfl|m
      . exact hbe
      . rintro rfl
        rcases he with z|z
        . exact f c b m z
        . ext gQ m z z; exact hb rfl
#check _
structure Un (fs ex:eV) (H H':Hp) (h h':Heap):Prop where
 keep:∀ b o,(gR,oW,i8,b∉fs,UA,uW)
 slot:∀ b o,(gR,oW,i8,b∈fs,UA,zly)
 free:∀ b o,gb oW i8 UA FG
 there:AO oW UA zXM
 tups:zN
 frzs:zOm
 tbls:zDa
section
variable {fs fs' ex ex':List Addr}{H H1 H2:Hp}{h h1 h2 h':Heap}{a x e:Addr}{o:HO}
def Un.any (u:SG H1 h1) {b:Addr}{ob:Obj} (q:h.get? b=some ob) (n:i8) (hx:UA):∃ sl,h1.get? b=some { ob with slots:=sl }:=by
 by_cases hb:b∈fs
 .exact u.slot b ob q n hb hx
 .exact ⟨ob.slots,u.keep b ob q n hb hx⟩
def Un.kept (k:VR):SG H h' :=
 ⟨λ b ob q _ _ _=>zyr,λ b ob q _ _ _=>⟨ob.slots,zyr⟩,λ_ _ _ n _=>n,λ b ob q _=>Hl zyr,Lk,λ_ _ _ q=>q,λ_ ps q=>zkk zjl⟩
def Un.refl:SG H h:=Un.kept Lk
def Un.laid (k:VR) (hp:zri) (hn:UP):SG LX h' where
 keep:=λ b u q _ _ _=>zgU
 slot:=λ b u q _ _ _=>⟨u.slots,zgU⟩
 free:=λ b u q n _=>(eP,xo (ZE (Z4 (Zu q) hp)),n)
 there:=λ b u q _=>⟨u,zgU⟩
 tups:=λ b xs q=>zTT
 frzs:=λ b u xs q=>zTT
 tbls:=(zNi,kG q hn)
def Un.write (mu:zwE) (he:znb) (k:zDR) (heo:zmj):SG zyB h':=by
 have j:R6 x:=(vZ,n,znN n)
 have m:R6 e:=λb n z=>by
  subst z;rcases he with r|r
  .exact j b n r
  .ext Bp n r
 have f:∀ b u,kC->¬ Mut (some u)->b≠x:=λ b u q nm z=>by subst z; rw[q] at mu; exact nm mu
 refine⟨λ b u q n _ _=>zVz,λ b u q n _ _=>⟨u.slots,zVz⟩,λ b u q n _=>(eP,xo (j b n),n),λ b u q _=>?_,
  λ b xs q=>jp zpt q,λ b u xs q=>jp zpt q,(zNi,xo zpt)⟩
 by_cases hbe:b=e
 .subst hbe; exact heo
 .exact ⟨u,k b u hbe q⟩
#check _
noncomputable def trk (h:Heap) (H:Hp):eV:=(zrl).filter λ a=>(H a).isSome
noncomputable def hidT (h:Heap) (H:Hp):Heap:=PySem.W.hideAll h (trk h H)
def xrl (h:Heap) (H:Hp):(zfS).objs.size=h.objs.size:=PySem.W.hideAll_size _ _
def xsx {h:Heap}{H:Hp}{b:Addr}{o:Obj} (e:oW) (n:i8):(zfS).get? b=some o :=
 PySem.W.hideAll_get _ e λ a=>by
  have q:lv wb:=(ZV.mp a).2;rw[n] at q; simp at q
theorem xvr {h:Heap}{H:Hp}{b:Addr}{o:Obj} (e:(zfS).get? b=some o):oW/\i8:=by
 show(fR,a,oW,PySem.W.of_hideAll zzy e,jF a);cases q:wb with
 | none=>rfl
 | some x =>
  show(eC,c,b∈zzy,(SK,ZF.mpr (Zu a),ip q),z,(zfS).get? b=none,PySem.W.hideAll_none zzy c);ext iF z e e
noncomputable def xv4 (g h:Heap) (L:Addr):fP:=(zrl).filterMap λ a=>(zcJ,a=L\/(lv (g.get? a)),(h.get? a).map λ o=>(a,o))
noncomputable def rest (g h:Heap) (L d:Addr):fP:=(xv4 g h L).filter λ p=>hR (fK≠d)
structure Mod (K:Zd) (mg:im) (base:Heap):Prop where
 kin:zxk
 glob:zMR
 blt:∃ mb,base.Ns builtinsNs mb/\zFM
 nolimit:base.NoLimit
structure Cx where
 prog:Program
 w:World
 K:Zd
 mg:im
 base:Heap
 A:Around
 N:eO
 s₀:Shared
 H₀:Hp
 env:Env
 outer:oz
 stack:oz
 ex:eV
 fn:Str->Bool
 calm:Bool
 pn:fP
 xe:fM
noncomputable def frs (l:oz):eV:=l.filterMap (·.frame)
noncomputable abbrev Cx.fs (X:Cx):eV:=frs X.outer
noncomputable def Vis (sc:Scope) (x:Str):Prop:=zlw\/V9\/sc.names.lookup x=some .free
noncomputable def Loc (sc:Scope) (x:Str):Prop:=zlw\/V9
noncomputable def Look (env:Env) (h:Heap) (m:im) (x:Str) (u:Value):Prop :=
 (env.kindOf x=some .local/\m x=some u)\/((env.kindOf x=some .cell\/env.kindOf x=some .free)/\∃ c,env.cells.lookup x=some c/\h.IsCell c (some u))
structure Cx.Ok (X:Cx):Prop where
 mod:zPl
 kind:X.env.scope.kind=.function
 glob:X.env.globals=mainGlobals
 blt:X.env.builtins=builtinsNs
 above:EJ X.env.locals
 inj:∀ x y c,EB->X.env.cells.lookup y=some c->xP
 has:∀ x,(X.env.kindOf x=some .cell\/X.env.kindOf x=some .free)->∃ c,EB
 cab:∀ x c,zso->EB->(EJ c)
 hd:qW->zUh
 frames:X.A.frames=some X.stack
 stk:X.stack=X.outer\/(X.stack=PM/\zIk)
 exf:∀ b∈X.ex,EX/\(Cj b)
 bs:(Xc,zIV/\zWd)
 bsz:X.base.objs.size<=X.s₀.heap.objs.size
 noex:(Xc,b∉X.ex)
 exfs:∀ b∈X.ex,zgc
 funs:zNG X.outer
 frf:∀ b∈X.fs,zWd
structure Inv (X:Cx) (pins:fP) (Z:zAP) (H:Hp) (s:Shared):Prop where
 ok:X.Ok
 os:s.os=X.s₀.os
 bare:zXD
 base:Un X.fs X.ex X.H₀ H X.s₀.heap s.heap
 loc:∃ m,zmK/\∀(i:Nat) (x:Str) (v:V),wL->zwT->Pf->zGy
 cell:∀ x c,EB->∃ v,zSg
 free:gz X.env.locals
 freeC:∀ x c,EB->(gz c)
 pin:∀ p∈CK,zBR
 hok:zty s.heap
 len:Z.length=X.N.length
section
variable {X:Cx}{pins:List (Addr × Obj)}{Z:List (Option V)}{H H':Hp}{s:Shared}{h':Heap}
def Cx.Ok.nofr (ok:X.Ok) {b:Addr}{o:Obj} (e:X.base.get? b=some o):zgc:=λ c=>by
 show(zst,(ok.funs.mem c).1)
def Inv.bs (I:eR):(Xc,lI/\i8):=λ b o e =>
 ⟨I.base.keep b o zoY (zZD).2 (I.ok.nofr e) zWa,I.base.free b o zoY (zZD).2 zWa⟩
def Inv.bk (I:eR):Xc lI:=(Bq,(I.bs b o e).1)
def Inv.mod (I:eR):zPl:=I.ok.mod
def Inv.kIn (I:eR):X.K.In s.heap:=I.ok.mod.kin.keeps I.bk
def Inv.fr (I:eR):∃ m,Fr X.base X.env.locals s.heap m :=
 let ⟨m,hn,_⟩:=I.loc
 fh m hn I.bk zMK
def Inv.lt (I:eR):tK X.env.locals:=let ⟨_,hn,_⟩:=I.loc; hn.lt
def Inv.sz (I:eR):EJ s.heap.objs.size:=Z5 I.ok.above (Yl I.lt)
def Inv.nofs (I:eR) {a:Addr} (h:zPJ):a∉X.fs:=λ q=>by
 obtain⟨_,o,c,_⟩:=I.ok.funs.mem q;show(Dg,Z4 (Zu c) (Z5 I.sz h))
def Inv.cne (I:eR):Cj X.env.locals:=λ x c e z=>by
 ext o6 v o h i Ro;obtain⟨m,⟨j,q,r,b,f,_⟩,_⟩:62:=(I.loc)
 rw[z,b] at h; cases h; ext iF f i i
theorem Inv.funs (I:eR):zon X.outer:=by
 have all:∀(l:oz),(∀ b∈frs l,b∈X.fs)->(zNG l)->(zon l):=by
  intro l
  induction l with
  | nil=>intro _ _; trivial
  | cons env r ih =>
   intro q B;obtain⟨C,⟨L,o,c,A,y,D⟩,v⟩:43:=B;have j:L∈X.fs:=q L (zPq Zn);show(ou,J,I.base.slot L o y (I.ok.frf L j) j λ z=>I.ok.exfs L z j)
   show(fU,C,qI L _ c A e D,ih (λ b i=>q b (zPq,Zm _ i)) v)
 exact all X.outer (λ_ i=>i) I.ok.funs
def Inv.stack (I:eR):zon X.stack:=by
 rcases I.ok.stk with e|⟨e,q⟩
 .show(ie,e,I.funs)
 .rw [e];show(jL,m,j,I.loc)
  refine .cons (ve I.ok.kind) q j ?_ I.funs;exact YM zMK
def Inv.stkSub (I:eR):∀ b∈vd,b∈X.env.locals::X.fs:=λ b h=>by
 rcases I.ok.stk with e|⟨e,i⟩
 .ext lF e; exact Zm _ h
 .ext lF e;unfold frs at h;rw[JL,i] at h;exact h
def Inv.stkFree (I:eR):∀ b∈vd,i8:=λ b h=>by
 rcases zrD h with e|h
 .show(ie,e,I.free)
 .obtain ⟨_,o,j,_⟩:=I.ok.funs.mem h;exact I.base.free b o j (I.ok.frf b h) λ z=>I.ok.exfs b z h
def Inv.step {g':zrp}{t':Nat}{d':Drawn}{ch:eV} (I:eR)
    (hch:zox)
    (keep:sN EX (gR zgc G3 lI i8 uW))
    (slot:sN EX (gR,b∈X.fs,G3,lI,i8,zly)) (free:∀ b o,gb G3 lI i8 FG)
    (there:AO G3 lI zXM)
    (tups:zN) (frzs:zOm) (tbls:zDa)
    (ns:∀ m,zmK->h'.Ns X.env.locals m) (hok:znG) (hg:AllBare g') :
    zDI:=by
  have M:zFP:=zLN;have D:(AO,zIV,b∉X.ex,G3):=λ b o e y K=>by
    rcases (hch b K).1 with z|z
    . exact y z
    . show(Dg,AZ z)
  have B:∀ x c,EB->∀ v,zSg->h'.IsCell c v:=λ x c e v ⟨1062,o,L,Q⟩=>by
    show(kS,A,c∉ch,(zXl).1 x c e rfl);by_cases hc:c∈X.fs
    . show(tY,sl,slot c o zdH hc A L zcr)
      exact hB q Q
    . exact(pR,o,keep c o zdH hc A L zcr,Q)
  refine⟨I.ok,I.os,hg,⟨LQ K y,LQ K y,fW b o e n y,yW e y,(l0,tups b xs zRc),(qo,xs,frzs b o xs (I.base.frzs b o xs e)),nR b ps⟩,?_,zfQ,?_,zfQ,Gz,hok,I.len⟩
  . exact keep b o (M b o e) K zfi (zbG K y) (zbp y)
  . show(jY,sl,J,zbF K y,P,O,slot b _ (M b o e) K zfi J (zbp y));ext fc P O
  . obtain⟨o',J⟩:=zOH
    exact free b o' zfi J (zbp y)
  . obtain⟨o',J⟩:=zOH
    exact there b o' zfi J
  . show(jY,U,J,zQT,T,O,tbls b _ J);show(fc,U++T,hZ O Array.append_assoc)
  . show(eE,m,Y,hl,I.loc)
    show(jV,m,ns m Y,iR i x v J O e3);show(U9,hl i x v J O e3);ext kR u r;rcases l with l|⟨k,c,e,z⟩
    . ext je l
    . show(iY,(fh,k,c,e,B x c e _ z))
  . show(ye,v,z,Ro,v,B x c e v z)
  . obtain⟨m,⟨o,_,_,L,_⟩,_⟩:62:=(I.loc)
    exact free _ o (λ z=>(hch _ z).2.1 rfl) L I.free
  . ext o6 v o L Q Ro
    exact free c o (λ z=>(zXl).1 x c e rfl) L zcr
  . ext yL e n S R d FN
    show(kS,A,fK∉ch,(jr (hch fK z)).2 p hp rfl);exact(iu,keep fK jJ S R A e n,free fK jJ A e n,S,R,d)
def Inv.un {t':Nat} (I:eR) (u:MZ X.fs [] H' h') (hok:znG):HN MK:=by
 obtain⟨m,⟨o,D,J,v,r⟩,_⟩:62:=id I.loc;obtain⟨B,A⟩:=u.any v I.free eS;exact I.step (g':=s.gens) (d':=s.drawn) (ch:=[]) qT (λ b o _ hb _ e n=>u.keep b o e n hb eS) (λ b o _ hb _ e n=>u.slot b o e n hb eS) (λ b o _ e n=>u.free b o e n eS) (λ b o _ e=>u.there b o e eS) u.tups u.frzs u.tbls (λ m' hm=>by
  ext GS C j q i x hm;ext gQ v i i;exact gY 102 _ j q A x) hok I.bare
def Inv.call {g':zrp}{t':Nat}{d':Drawn}{ch:eV} (I:eR) (u:MZ vd ch H' h') (hok:znG) (hg:AllBare g')
    (hch:zox) :
    zDI:=by
  obtain⟨m,⟨o,P,Q,J,r⟩,_⟩:62:=id I.loc;obtain⟨M,B⟩:=u.any J I.free λ z=>(hch _ z).2.1 rfl
  exact I.step (ch:=ch) hch (λ b o B L q e n=>u.keep b o e n (λ z=>(zrD z).elim B L) q) (λ b o _ _ q e n=>u.any e n q) (λ b o q e n=>u.free b o e n q) (qo,q,u.there b o e q) u.tups u.frzs u.tbls (λ m' hm=>by
    ext GS O C D A K hm;ext gQ J A A;exact gY 102 _ C D B K) hok hg
def Inv.turned {t':Nat}{it:Addr} (I:eR) (k:ziA uW) (hn:gz it) (hL:zwz it)
    (h1:it∈X.ex\/(EJ it)) (h2:Cj it) (h3:PZ it):zAD:=by
  have A:(HJ,b≠it):=(Hz,e,pj z hn e e)
  refine I.step (g':=s.gens) (d':=s.drawn) (ch:=[it]) (qH D) (zeK f zmT) (zeK,f,R8 zmT) zXp
    (qo,f,Oj zmT) zvB zcS zRX (eQ m C) C9 I.bare
  . show(zd,by simpa using D);exact gX h1 hL h2 h3
  . ext GS o J K B r C
    exact(Mb,J,K,k _ o (Zz hL) B)
  . refine (zul).stay (λ c v f q=>k c v ?_ q) zfT Lk
    rcases f with z|z
    . show(eY,z,A b u e)
    . exact A c _ z
def Inv.tok (I:eR) (t:Nat):BV { s with toks:=t }:=I.un (h':=s.heap) (t':=t) Un.refl I.hok
def Inv.kept {t':Nat} (I:eR) (k:zDy):zAD:=I.un (Un.kept k) (I.hok.kept k)
def Inv.laid {a:Addr}{o:HO}{t':Nat} (I:eR) (k:zDy) (hp:zPJ) (new:Rk LX a o) :
    sG LX MK:=I.un (Un.laid k hp (I.hok.fresh hp)) (I.hok.laid k hp new)
def Inv.write {x e:Addr}{o:HO}{t':Nat} (I:eR) (mu:zwE) (he:znb) (k:(tI,e,s.heap.get? b=some u,h'.get? b=some u)) (heo:zmj)
    (new:Rk zyB x o):sG zyB MK:=I.un (Un.write mu he k heo) (I.hok.write mu he k heo new)
def Inv.weak {σ':zAP} (I:eR) (hl:σ'.length=Z.length) (w:∀(i:Nat) v,(gf σ' ku)->zwT):GZ σ' H s :=
 ⟨I.ok,I.os,I.bare,I.base,let ⟨m,hn,hl'⟩:=I.loc; (eG,m,hn,λ i x v u q j=>hl' i x v u (w i v q) j),I.cell,I.free,I.freeC,I.pin,I.hok,hl.trans I.len⟩
def Inv.pins_of {pins':fP} (I:eR) (h:∀ p∈pins',zBR):xO pins' s :=
 (VO,I.ok,λ p j=>(zhz).elim (λ z=>I.pin p (ZP _ z)) (h p))
def xij {N:eO} (hN:N.Nodup) {i j:Nat}{x:Str} (a:gf N x) (b:hU N x):i=j:=by
 show(jY,q,f,Zi.mp a,h,c,Zi.mp b);exact (List.getElem_inj hN).mp (f.trans c.symm)
def xk3 {M:Model}{A:Around}{E:fM}{i:Nat}{x:Str}{v:V}{u:Value}{Q:oq} (I:eR) (hN:X.N.Nodup) (hi:wL) (hx:ER) (r:sv)
    (h:∀ s',qaq->(∃ a,ZY a s.heap s'.heap/\(a=X.env.locals\/X.env.cells.lookup x=some a))->Q () s') (hf:Ey:=by first|ext A5|ext DJ|ext jd):zJQ:=by
  show(eE,m,hn,hl,id I.loc);show(eC,aa,iK (X.env.scope.kind == .class||(X.env.scope.kind == .module&&X.env.locals != X.env.globals)),jn I.ok.kind,Y,i<Z.length,(eP,I.len,ui hi))
  have cne:=I.cne;have J:∀{a:Addr}{h':Heap},(∃ o,(EK a)/\UP)->zqY->(zty h'):=λ{a h'} ha D b ob e=>by
    obtain⟨_,_,O⟩:62:=ha;refine (I.hok b ob e).stay (λ c w' L q=>(D.2 c ?_).trans q) zfT Lk;rintro rfl;rcases L with rfl|L
    . ext iF O e e
    . ext iF O L L
  rcases hx with P|P
  . refine wpAny_storeName_local P hn (xG ad D) aa
    show(zya,oL,ac,id hn);refine h _ ⟨I.ok,I.os,I.bare,(zkX,LQ S hx,S,hx,I.base.free),hB ad zOT,nR y c,I.free,I.freeC,Gz,J (eG oL ac I.free) D,zON⟩ (hB D jO)
    . exact (D.2 b (ZE (AZ I.ok.above))).trans (zbG S hx)
    . show(ye,sl,K,zbF S hx,sl,(D.2 b (ZE (AZ I.ok.above))).trans K)
    . show(ye,o',K,zrG hx,o',(D.2 b (ZE (AZ I.ok.above))).trans K)
    . by_cases hj:j=i
      . show(zHy,Ds P eS)
      . ext zDb;rcases q with⟨k,e⟩|⟨k,c,e,z⟩
        . refine .inl (jF k)
          have:y≠x:=λ e=>hj (xij hN K (e▸hi));simp[this,e]
        . show(iY,fh k c e zLJ)
    . show(ye,w',z,I.cell y c e,w',zLJ)
    . ext yL e n ne nf d FN
      exact(iu,(D.2 fK ne).trans e,n,ne,nf,d)
  . have R:zso:=by
      rcases hf with z|z
      . ext lT
      . ext iF z P P
    show(jY,c,L,I.ok.has x (.inl P),w',z,I.cell x c L);refine wpAny_storeName_cell I.ok.kind P L z (xG ab D);show(eE,oc,U,T,id z);refine h kZ ⟨I.ok,I.os,I.bare,(zkX,LQ S hx,S,hx,I.base.free),(eG,m,hn.sameBut D (Zz (cne x c L)),zOT),nR y c',I.free,I.freeC,Gz,J (eG,oc,U,I.freeC x c L) D,zON⟩ (eG,c,D,.inr L)
    . exact (D.2 b (ZE (AZ (I.ok.cab x c R L)))).trans (zbG S hx)
    . show(ye,sl,K,zbF S hx,sl,(D.2 b (ZE (AZ (I.ok.cab x c R L)))).trans K)
    . show(ye,o',K,zrG hx,o',(D.2 b (ZE (AZ (I.ok.cab x c R L)))).trans K)
    . by_cases hj:j=i
      . show(zHy,.inr (fh,.inl P,c,L,ab))
      . ext zDb;rcases q with q|⟨k,c',e,z'⟩
        . ext je q
        . show(uA,(fh,k,c',e,z'.sameBut D ?_))
          rintro rfl;exact hj (xij hN K (I.ok.inj _ _ _ e L▸hi))
    . by_cases hcc:c'=c
      . subst hcc; ext we ab
      . show(ye,w2,z2,I.cell y c' e,w2,z2.sameBut D hcc)
    . ext yL e n ne nf d FN
      refine(iu,(D.2 fK ?_).trans e,n,ne,nf,d);intro q;rw[q,U] at e;have q':oc=jJ:=zyN;exact d w' (iz q' T)
def xgo {M:Model}{A:Around}{E:fM}{i:Nat}{x:Str}{v:V}{u:Value}{Q:oq} (I:eR) (hN:X.N.Nodup) (hi:wL) (hx:ER) (r:sv)
    (h:PY qaq) (hf:Ey:=by first|ext A5|ext DJ|ext jd):zJQ :=
  xk3 I hN hi hx r (λ s' b _=>h s' b) hf
def Inv.call' {s':Shared}{ch:eV} (I:eR) (ho:s'.os=s.os) (u:MZ vd ch H' s'.heap) (hok:HOk X.prog X.w H' s'.heap) (hg:zbx)
    (hch:zox):MJ:=by
  obtain⟨h',g',d',t',f⟩:=s';show(wW,f,s.os,ho);exact I.call (g':=g') (t':=t') (d':=d') u hok hg hch
#check _
noncomputable abbrev XK:=Addr->(vQ Addr)
noncomputable abbrev St:=zAP
noncomputable abbrev VK:=Bl
noncomputable abbrev TE:=zgJ St
noncomputable abbrev TT:=zgy AC
noncomputable abbrev TA:=zgy Dl
structure Ends where
 nx:sA
 rt:VK
 bk:sA:=yh
 ct:sA:=yh
noncomputable abbrev TS:=Ends->sA
noncomputable def EP (X:Cx) (pins:fP) (Z:St) (Q:VK) (u:Value) (s':Shared):Prop:=∃ v H',MJ/\sv/\US
noncomputable def TP (X:Cx) (pins:fP) (Z:St) (Q:AC) (b:Bool) (s':Shared):Prop:=∃ H',MJ/\Q b H'
noncomputable def AP (X:Cx) (pins:fP) (Z:St) (Q:Dl) (us:fD) (s':Shared):Prop:=∃ vs H',zzH GD vs
noncomputable def SP (X:Cx) (pins:fP) (D:Ends) (f:Flow) (s':Shared):Prop :=
 match f with
 | .next=>(zeb,D.nx σ' H')
 | .brk=>(zeb,D.bk σ' H')
 | .cont=>(zeb,D.ct σ' H')
 | .ret u=>∃ v σ' H',zXX/\sv/\D.rt v H'
noncomputable def PE (X:Cx) (e:Expr) (t:TE):Prop :=
 (zGm,zF MG (uY yj))
noncomputable def PT (X:Cx) (e:Expr) (t:TT):Prop :=
 (V3,AC,zMH yj)
noncomputable def PW (X:Cx) (e:Expr) (t:TT):Prop :=
 ∀(whole:Sw) (pins:fP) (s:Shared) (Z:St) (H:Hp) (Q:AC),zMH whole
def PW.pt {X:Cx}{e:Expr}{t:TT} (h:PW X e t):PT X e t:=h _
noncomputable def PA (X:Cx) (es:o5) (t:TA):Prop :=
 ∀(pos:Pos) (pins:fP) (s:Shared) (Z:St) (H:Hp) (Q:Dl),zF MG (ww (spliced Cy) (AP X pins Z Q))
noncomputable def PS (X:Cx) (st:Stmt) (t:TS):Prop :=
 zDx (ww (exec st X.env) ztL)
noncomputable def PSs (X:Cx) (st:FZ) (t:TS):Prop :=
 zDx (ww (execs st X.env) ztL)
def thn {α:Type}{t:Sem α}{Q Q':zhE}{M:Model}{A:Around}{E:fM}{s:Shared} (h:D3 t) (hQ:∀ a s,Q a s->Q' a s):zn M t Q':=Ji h hQ Lg
section
variable {X:Cx}
def bin {a b:Expr}{ta tb:TE} (ha:vj) (hb:CQ) {pins:fP}{s:Shared}{Z:St}{H:Hp}{R:V->Bl} (I:eR) (h:zIz)
    {α:Type}{Q:zhE}{f:Value->Value->Sem α}
    (hf:zCv) :
    zGX:=by
  show(qz,Cu pins,lW v c x H1 q r1 j ?_);show(qz,hb pins c Z H1 _ q j,lW u s2 y H2 m r2 i ?_);exact hf v u s2 x y H2 m r1 r2 i
@[reducible] def oV:iA zRU (V->Prop)
 | some ku,k=>k v
 | _,_=>False
theorem x0g:∀{o:zRU}{k:V->Prop},oV o k->∃ v,(Hm,o,ku,k v)
 | some ku,_,h=>jw v h
@[reducible] def iV:V->(iA V zcR)
 | fF,hX,k=>k i j
 | _,_,_=>False
theorem xo2 {x y:V}{k:zcR} (h:iV x y k):∃ i j,(gL,x,fF,y=hX,k i j):=by
 cases x with
 | int i =>
  cases y with
  | int j=>exact BG i j rfl h
  | _=>exact h.elim
 | _=>exact h.elim
@[reducible] def lV:iA eB (iA V eB)
 | qC,k=>k v r
 | [],_=>False
theorem xt0:∀{l:eB}{k:iA V eB},lV l k->∃ v r,l=qC/\k v r
 | qC,_,h=>gM v r rfl h
@[reducible] def nV:iA eB Prop
 | [],p=>p
 | gO,_=>False
theorem xui:∀{l:eB}{p:Prop},nV l p->l=[]/\p
 | [],_,h=>iW h
@[reducible] def tVar (i:Nat) (Z:St) (H:Hp) (Q:VK):Prop:=oV Z[i]? λ v=>Vk
@[reducible] def tC (v:V):TE:=NL Vk
def xy5 {i:Nat}{x:Str}{pos:Pos} (hN:wL) (hv:Pf) (hd:autoParam (qP) aDec._auto_1) (hcd:autoParam (zJL) aDec._auto_1):zTm:=by
 ext Et;show(DZ,v,e,h,x0g h,m,q,y,I.loc)
 show(U9,y i x v hN e hv);have f:EP X j Z Q u s:=zyf
 rcases l with⟨b,hm⟩|⟨b,c,hc,hcell⟩
 .show(zxR,wpAny_loadName_local I.ok.kind b q hm f)
 .rcases b with b|b
  .show(zxR,wpAny_loadName_cell I.ok.kind b hc hcell f)
  .show(zxR,wpAny_loadName_free I.ok.kind b hc hcell f hcd)
def xt {i j pos}:zpy fF (tC (.int i)):=(Kw,wpAny_Constant_int (gU fF H rp lA h))
def xeo {b j pos}:zpy zAC (tC (.bl b)):=(Kw,Constant_bool (HD mU h))
def xdi {j pos}:PE X (.Constant .none j pos) (tC .non):=(Kw,Constant_none (HD .non h))
def xaj {x j pos}:zpy qh (tC (.str x)):=(Kw,Calls.Constant_str ⟨83,qh,H,rp,lA,h⟩)
noncomputable def Gl (X:Cx) (x:Str):Prop:=X.env.kindOf x=some .globalImplicit
def xex {E:fM}{pins:fP}{s:Shared}{Z:St}{H:Hp}{x:Str}{u:Value}{pos:Pos}{Q:fM} (I:eR) (hg:uq) (hm:KQ u) (h:Q u s)
    (hd:autoParam (qP) aDec._auto_1):qbg :=
  Calls.Name_function_global I.ok.kind hg (Calls.loadGlobal_global zER hm h) hd
def xd1 {E:fM}{pins:fP}{s:Shared}{Z:St}{H:Hp}{x:Str}{u:Value}{pos:Pos}{Q:fM} (I:eR) (hg:uq) (hm:zjc) (hv:zag u) (h:Q u s)
    (hn:autoParam (PX) aDec._auto_1) (hd:autoParam (qP) aDec._auto_1):qbg:=by
  show(eE,y,q,j,I.mod.blt)
  exact Calls.Name_function_global I.ok.kind hg (Calls.loadGlobal_builtin zER hm (by rw[I.ok.blt]; exact q.keeps I.bk) ((j x hn).trans hv) h) hd
def xb0 {x:Str}{v:V}{u:Value}{pos:Pos} (hg:uq) (hm:KQ u) (r:sv) (hd:autoParam (qP) aDec._auto_1):zXa :=
 (Kw,xex I hg hm zyf hd)
def xc7 {x:Str}{v:V}{u:Value}{pos:Pos} (hg:uq) (hm:zjc) (hv:zag u) (r:sv) (hn:autoParam (PX) aDec._auto_1) (hd:autoParam (qP) aDec._auto_1):zXa :=
 (Kw,xd1 I hg hm hv zyf hn hd)
variable {a b:Expr}{ta tb:TE}{pos:Pos}
noncomputable def PC (X:Cx) (op:CmpOp) (a b:Expr) (t:TE):Prop :=
 ∀(pins:List (Addr × Obj)) (s:Shared) (Z:St) (H:Hp) (Q:VK),eR->MG ->
  (zNR,c,rW (compareOp op v u) (EP X pins Z Q) s₂)
def xmj (b:Expr) {op:CmpOp} (h:op≠.In) (h2:op≠.NotIn):Iu:=by
 show(zCI,(by cases op<;>first|rfl|ext qp h),by cases op<;>first|rfl|ext qp h2)
inductive tB_i (x:V) (H1:Hp) (Q:AC):Prop
 | mk (c) (e_:zwP) (r_:Q c H1)
noncomputable def tB (t:TE):TT:=(zZC,tB_i x H1 Q)
def xw8 {op:CmpOp}{t:TE} (h:zYa) (h1:Iu:=by first|exact xmj _ eJ eJ|rfl):PE X XB t:=λ c s Z H Q I f=>wpAny_Compare1 (h c s Z H Q I f) h1
def xdq {op:CmpOp}{t:TE} (h:zYa) (h1:Iu:=by first|exact xmj _ eJ eJ|rfl):PT X XB (tB t):=by
 ext Mj f i;refine wpAny_isTrue_Compare1 (thn (Tx f i) (zyg,j,λ u s2 h2=>sO h2 c s3 H1 I1 r1 q1)) h1;ext zLB q1 H1 I1
def xa2 {e:Expr}{t:TE} (h:BS t) (he:(zDG,isTrue e X.env whole,e.pos):=by ext Va):PT X e (tB t):=by
 ext Mj a c;refine isTrue_plain (sO (Tx a c) v j i f r1 b) (he _);ext zLB b i f
variable {tA tB':TT}{rest:List Expr}
noncomputable def tAnd (t u:TT):TT:=Aa c (mG,c,u Z H1 Q,Q false H1)
noncomputable def tOr (t u:TT):TT:=Aa c (mG,c,Q true H1,u Z H1 Q)
noncomputable def tNot (t:TT):TT:=(Aa,c,Q (! c) H1)
theorem xgj (ha:Sj):Kr .And [a] tA:=by
 ext SB f b;refine isTrue_and (thn (ha b s Z H Q I h) (nR c i));cases c with
 | true=>exact isTrue_and_nil e
 | false=>exact e
theorem xdj (ha:Sj):Kr .Or [a] tA:=by
 ext SB f b;refine isTrue_or (thn (ha b s Z H Q I h) (nR c i));cases c with
 | false=>exact isTrue_or_nil e
 | true=>exact e
theorem xhh (ha:Sj) (hb:Kr .And Mp tB'):Kr .And (a::Mp) (tAnd tA tB'):=by
 ext SB m e;refine isTrue_and (thn (Cu e) (Aj c q j i f));cases c with
 | true=>exact hb m e q Z j Q i f
 | false=>ext fU j i f
theorem xd2 (ha:Sj) (hb:Kr .Or Mp tB'):Kr .Or (a::Mp) (tOr tA tB'):=by
 ext SB m e;refine isTrue_or (thn (Cu e) (Aj c n j i f));cases c with
 | true=>ext fU j i f
 | false=>exact hb m e n Z j Q i f
def xcs (ha:Sj):PT X (.UnaryOp .Not a pos) (tNot tA):=by
 ext pQ b;exact isTrue_not (ha b s Z H (λ c e=>Q (! c) e) I h)
inductive xuy (tb:TE) (Z:St) (x:V) (H1:Hp) (Q:VK):Prop
 | mk (c) (e_:zwP) (r_:(mG,c,tb Z H1 Q,zu false H1))
noncomputable def x0k (ta tb:TE):TE:=(zO,xuy tb Z x H1 Q)
inductive xwu (x:V) (H1:Hp) (Q:VK):Prop
 | mk (c) (e_:zwP) (r_:zu (! c) H1)
noncomputable def x0x (ta:TE):TE:=(zO,xwu x H1 Q)
def xe5 {op}{t:TE} (h:PE X a t):zve op [a] t:=λ b s Z H Q I c=>BoolOp_one (h b s Z H Q I c)
theorem xc8 (ha:vj) (hb:zve .And Mp tb):zve .And (a::Mp) (x0k ta tb):=by
 ext pQ e;refine BoolOp_and (qaW e m j i);ext zNZ;refine Yx ?_;cases c with
 | true=>exact hb e m Z j Q i f
 | false=>exact(jf,.bl false,j,i,f)
def xrz (ha:vj):PE X (.UnaryOp .Not a pos) (x0x ta):=by
 ext pQ e;refine UnaryOp_ (qaW e m j i);ext zNZ;exact not_of (Yx (jf,.bl (! c),j,i,f))
noncomputable def tIf (t:TT) (ta tb:TE):TE:=Aa c (mG,c,ta Z H1 Q,tb Z H1 Q)
theorem xik {c:Expr} (hc:PT X c tA) (ha:vj) (hb:CQ):PE X (.IfExp c a b pos) (tIf tA ta tb):=by
 ext pQ e;refine wpAny_IfExp (thn (hc e s Z H _ I h) (Aj d i n m j));cases d with
 | true=>exact ha e i Z n Q m j
 | false=>exact hb e i Z n Q m j
#check _
noncomputable def SqL (K:Zd) (H:Hp) (a:Addr) (xs:eB):Prop :=
 Rd H a (.lst xs) \/
  (zOM,(zbq a)/\(fb,R9 "list",zuz,o.data=.seq its n,zZM,zRi))
noncomputable def SqT (K:Zd) (H:Hp) (a:Addr) (xs:eB):Prop :=
 Rd H a (.tup xs) \/
  (zOM (fb,zbq a,qbs,o.data=.seq its n,zZM,zRi))
noncomputable def absV:Value->(iH V)
 | .none=>some .non
 | zAC=>some mU
 | .int i _=>some fF
 | .str x _=>some qh
 | .bytes b _=>some (.byt b)
 | .float b _=>some (.flt b)
 | fE=>jS
 | jK n=>some (.ty n)
 | _=>none
theorem RelV.abs {x:V}{u:Value} (r:vo):absV u=some x:=by
 cases x with
 | non=>ext qK r
 | bl _=>ext qK r
 | int _=>ext Md
 | str _=>ext Md
 | byt _=>ext Md
 | flt _=>ext Md
 | ref _=>ext qK r
 | ty _=>ext qK r
def RelV.inj {x y:V}{u:Value} (r:vo) (q:lz):xP:=ZR.inj (r.abs.symm.trans q.abs)
theorem Vals.inj:∀{xs ys:eB}{us:fD},rh->(zr ys)->xs=ys
 | _,_,_,.nil,.nil=>rfl
 | _,_,_,Ax,.cons r' t'=>(hZ,r.inj r',Vals.inj t t')
section
variable {X:Cx}{pins:List (Addr × Obj)}{Z:St}{H:Hp}{s:Shared}{a:Addr}{xs ys:List V}
def SqL.of {K:Zd} (h:pL nG):Ai:=zYJ
def SqT.of {K:Zd} (h:pL ro):KL:=zYJ
def Inv.list (I:eR) (h:zXs):∃ its:fD,FC/\PlainL s.heap a its.toArray/\yb:=by
 rcases h with h|⟨o,its,n,j,q,m,c,hz,r⟩
 .obtain ⟨z,its,n,r,e⟩:=h.ok I.hok;exact(fY,its,r,oN 84 _ n e rfl rfl,z)
 .show(zDO,(qI,o,n,I.kIn a o j,q,m,pU))
def Inv.tuple (I:eR) (h:zXr):∃ its:fD,FC/\IsTup s.heap a its.toArray/\yb:=by
 rcases h with h|⟨o,its,n,j,m,c,hz,r⟩
 .obtain ⟨z,its,r,p⟩:=h.ok I.hok;exact fY its r p z
 .show(zDO,(fY,o,I.kIn a o j,m,⟨n,pU⟩))
def Inv.list_inj (I:eR) (h:zXs) (h':SqL X.K H a ys):xs=ys:=by
 obtain⟨its,r,⟨o,n,e,_,_,d⟩,_⟩:63:=I.list h;obtain⟨its',c,⟨f,m,b,_,_,d'⟩,_⟩:63:=I.list h';ext zBI
def Inv.tuple_inj (I:eR) (h:zXr) (h':SqT X.K H a ys):xs=ys:=by
 obtain⟨its,r,⟨o,e,_,n,d⟩,_⟩:63:=I.tuple h;obtain⟨its',c,⟨f,b,_,m,d'⟩,_⟩:63:=I.tuple h';ext zBI
#check _
noncomputable abbrev Cx.wish (X:Cx) (E:fM):Cx:={ X with xe:=E }
noncomputable abbrev Cx.nox (X:Cx):Cx:=X.wish yh
def Cx.Ok.wish {X:Cx} (ok:X.Ok) (E:fM):(SJ).Ok :=
 zei
def Cx.Ok.unwish {X:Cx}{E:fM} (ok:(SJ).Ok):X.Ok :=
 zei
section
variable {X:Cx}{pins:List (Addr × Obj)}{Z:St}{H:Hp}{s:Shared}{E:Value->Shared->Prop}
def Inv.wish (I:eR) (E:fM):Inv SJ pins Z H s:=(ziC,I.ok.wish E)
def Inv.unwish (I:Inv SJ pins Z H s):eR:=ziC I.ok.unwish
theorem SP.unwish {D:Ends}{f:Flow}{s':Shared} (h:SP SJ pins D f s'):SP X pins D f s':=by
 cases f with
 | next=>ext zlt
 | brk=>ext zlt
 | cont=>ext zlt
 | ret u=>show(yG,v,σ',H',I,r,q,h); exact oM v σ' H' I.unwish r q
def PSs.nox {st:FZ}{t:TS} (h:PSs X.nox st t):PSs X st t:=λ a s Z H D I b =>
 Ji (h a s Z H D (I.wish _) b) (λ_ _ q=>q.unwish) (Hs,JP z)
#check _
section
variable {X:Cx}{st:Stmt}{rest:List Stmt}{t u:TS}{e:Expr}{te:TE}{pos:Pos}
noncomputable def xz7:TS:=qm AL
noncomputable def tSeq (t u:TS):TS:=(qm,t O9 Z H)
def xac:PSs X [] xz7:=λ_ _ Z H _ I h=>Q7 qaT
theorem xk (h1:zff) (h2:PSs X rest u):PSs X (st::rest) (tSeq t u):=by
 ext zEb O9;cases f with
 | next =>
  ext NF c q q;exact h2 a b σ' H' D c q
 | ret v=>ext nh
 | brk=>ext nh
 | cont=>ext nh
theorem xq (h1:zff):PSs X [st] t:=by
 ext zEb D;cases f with
 | next=>exact Q7 q
 | ret v=>ext nh
 | brk=>ext nh
 | cont=>ext nh
def Inv.quiet {pins:fP}{Z:St}{H:Hp}{s:Shared} (I:eR):interactive X.env=false:=by simp[interactive,I.ok.kind]
noncomputable def x05 (te:TE):TS:=(qm,te Z H λ_ H1=>D.nx Z H1)
def xas (he:vt) (hs:autoParam (zqC e none pos.line false) aRfl._auto_1):PS X (.Expr e pos) (x05 te):=by
 ext tq a;exact wpAny_Expr_any (zWB,j,gM Z f c b) I.quiet hs
noncomputable def tRet (te:TE):TS:=(qm,te Z H D.rt)
def x0 (he:vt):PS X (.Return zjF pos) (tRet te):=by
 ext tq a;exact wpAny_Return_some (zWB,i,oM x Z f c r1 b)
noncomputable def tIfS (c:TT) (t u:TS):TS:=(qm,c Z H λ b H1=>(zG,t D Z H1,u D Z H1))
theorem xan {c:Expr}{a b:FZ}{tc:TT} (hc:PT X c tc) (ha:PSs X a t) (hb:PSs X b u):PS X (.If c a b pos) (tIfS tc t u):=by
 ext tq e;refine wpAny_If (thn (hc e s Z H _ I h) (Aj d i n m j));cases d with
 | true=>exact ha e i Z n D m j
 | false=>exact hb e i Z n D m j
noncomputable def xxm:TS:=Cl
def xfq:PS X st xxm:=λ_ _ _ _ _ _ h=>h.elim
#check _
noncomputable abbrev TG:=Eu V St Hp sA
noncomputable abbrev TGs:=Eu eB St Hp sA
noncomputable def PG (X:Cx) (target:Expr) (t:TG):Prop :=
 ∀(pins:fP) (s:Shared) (Z:St) (H:Hp) (v:V) (u:Value) (Q:sA),Inv X pins Z H s->sv->t v Z H Q ->
  (ww (assign target X.env u) zLI)
noncomputable def PGs (X:Cx) (ts:o5) (t:TGs):Prop :=
 ∀(pins:fP) (s:Shared) (Z:St) (H:Hp) (vs:eB) (us:fD) (Q:sA),eR->GD->t vs Z H Q ->
  wpAny rV X.A (assignInOrder ((ztB ts).map (·.2)) us) zLI X.xe s
noncomputable abbrev TIp:=PQ
noncomputable def PIp (X:Cx) (op:Operator) (t:TIp):Prop :=
 ∀(pins:List (Addr × Obj)) (s:Shared) (Z:St) (H:Hp) (x y:V) (v u:Value) (Q:VK),Inv X pins Z H s->RelV x v->RelV y u->t x y H Q ->
  (uY (inplaceOp op v u))
section
variable {X:Cx}{pos:Pos}
@[reducible] def xc4 (i:Nat):TG:=λ v Z H Q=>Q wN H
def xjy {i:Nat}{x:Str} (hN:X.N.Nodup) (hi:wL) (hx:ER) (hf:Ey:=by first|ext A5|ext DJ|ext jd):zUL:=by
 intro b s Z H v u Q I r h;exact wpAny_assign_Name (xgo I hN hi hx r (λ s' j=>gM _ H j h) hf)
@[reducible] def gNil:TGs:=λ vs Z H Q=>nV vs (Q Z H)
@[reducible] def xpo (t:TG) (u:TGs) (vs:eB) (Z:St) (H:Hp) (Q:sA):Prop:=lV vs λ v r=>t v Z H (DB,u r σ' H' Q)
def xaz:PGs X [] gNil:=by
 ext zwi a vs;show(yI,h,xui h);ext iL;cases r;exact assignInOrder_nil qaT
theorem xw {e:Expr}{es:o5}{t:TG}{u:TGs} (h1:PG X e t) (h2:PGs X es u)
    (hs:autoParam ((ztB qw).map (·.2)=assign e X.env::(zoa).map (·.2)) aRfl._auto_1):PGs X qw (xpo t u):=by
  ext zwi b vs;show(o6,v,vr,i,h,xt0 h);subst i;cases r with
  | cons r rr =>
    rw[hs];refine assignInOrder_cons (thn (h1 b s Z H _ _ _ I r h) λ_ c ⟨1082,σ1,q,j,f⟩=>?_);exact h2 b c σ1 q _ _ Q j rr f
inductive gTup (K:Zd) (n:Nat) (t:TGs) (v:V) (Z:St) (H:Hp) (Q:sA):Prop
 | mk (a xs) (e_:v=fE) (r_:KL/\xs.length=n/\t xs Z H Q)
def xa4 {es:o5}{k:Nat}{t:TGs}{n:Nat} (hc:qW) (h:PGs X es t)
    (hn:autoParam ((zoa).length=n) aRfl._auto_1) (hst:autoParam ((zoa).findIdx? (·.1)=none) aRfl._auto_1):PG X (.Tuple es k pos) (gTup X.K n t):=by
  intro j s Z H v u Q I r q;obtain⟨a,xs,D,B,C,q⟩:=q;subst D;cases r;show(gP,its,y,A,hz,I.tuple B);refine assign_Tuple_tuple rZ A (by simp[hn,<- C,y.length]) hst (eQ h' z);show(uG,J,xO j kZ,I.kept (t':=s.toks) (Bq,z b o (Ek e) e),h j _ Z H xs _ Q J zpM q)
noncomputable def tAsg (te:TE) (g:TG):TS:=(qm,te Z H λ x H1=>g x Z H1 D.nx)
def xcn {tg e:Expr}{te:TE}{g:TG} (he:vt) (hg:PG X tg g) (hs:autoParam (swapsWithSole [tg] e pos.line X.env=pure false) aRfl._auto_1) (hw:autoParam (swappedStores [tg] e X.env=pure none) aRfl._auto_1)
    (h1:autoParam ((ztB [tg]).map (·.2)=[assign tg X.env]) aRfl._auto_1):qca tg (tAsg te g):=by
  ext tq b;refine wpAny_Assign_stores (sO (he b s Z H _ I h) v c r j r1 f) hs hw;show(eY,h1,thn (hg b c Z r x v _ j r1 f) λ_ u q=>q)
def xeh {i:Nat}{x:Str}{e:Expr}{te:TE}{pos':Pos} (hN:X.N.Nodup) (hi:wL) (hx:ER) (he:vt) (hs:autoParam (XT e zdf) aRfl._auto_1) (hf:Ey:=by first|ext A5|ext DJ|ext jd) :
    zKz:=by
  ext tq b;refine wpAny_Assign_Name (iJ (RO b) v J y B z r1 j ?_) hs;exact xgo z hN hi hx r1 (λ C q=>gM _ B q j) hf
noncomputable def tAug (i:Nat) (te:TE) (ti:TIp):TS:=(qm,∃ x,(gf Z (some x))/\te Z H λ y H1=>ti x y H1 λ z H2=>D.nx (Z.set i (some z)) H2)
def xx7 {i:Nat}{x:Str}{e:Expr}{te:TE}{op:Operator}{ti:TIp}{pos':Pos} (hN:X.N.Nodup) (hi:wL) (hx:ER) (he:vt) (ho:PIp X op ti) (hf:Ey:=by first|ext A5|ext DJ|ext jd) :
    PS X (.AugAssign zdf op e pos) (tAug i te ti):=by
  ext tq b;show(DZ,v,O,h,h,m,L,M,I.loc)
  have q:Pf:=by rcases hx with k|k; exact zjy; ext zfD k
  show(U9,M i x v hi O q);refine wpAny_AugAssign_Name ?_;have B:ww yj (λ w s₂=>rW (inplaceOp op u w) (λ r s₃=>rW (storeName X.env x r) (λ_=>SP X b D .next) s₃) s₂):=by
    show(qz,RO b,lW w C y T R r1 K ?_);show(qz,ho b C Z T v y u w _ R r r1 K,lW z s2 U S Q r2 J ?_);exact xgo Q hN hi hx r2 (λ Y P=>gM _ S P J) hf
  rcases l with⟨j,hm⟩|⟨j,c,hc,hcell⟩
  . exact wpAny_loadName_local I.ok.kind j L hm B
  . rcases j with j|j
    . exact wpAny_loadName_cell I.ok.kind j hc hcell B
    . rcases hx with k|k
      . ext zCY
      . ext zCY
#check _
section
variable {X:Cx}{pos:Pos}
noncomputable def xhb (c:TT) (tb:TS):TS:=λD Z H=>∃ W:GF,(∃ m,W m Z H)/\∀ m Z H,W m Z H ->
 c Z H λ b a=>(zG,(zLw,(SX,m,W m' σ' H'),tb (zSH N N) Z a),D.nx Z a)
theorem xgu {c:Expr}{body:FZ}{tc:TT}{tb:TS} (hp:zJx) (hc:PT X c tc) (hb:zYE):PS X (.While c body [] pos) (xhb tc tb):=by
 ext tq a;obtain⟨W,⟨m0,Q⟩,j⟩:62:=h;refine wpAny_While (codeAny_whileLoop (λ n s'=>∃ σ' H',Inv X a σ' H' s'/\W n σ' H') ?_ m0 (gM Z H I Q));rintro n S (⟨σ1,O,T,P⟩:82);show(FI,hc a S σ1 O _ T (j n σ1 O P),Aj b R M L u);cases b with
 | true =>
  ext eE N K u u;rw[iT];show(FI,hb a R σ1 M _ L u,rR f U);cases f with
  | next =>
   ext zDJ
  | cont =>
   ext zDJ
  | brk=>ext nh
  | ret v=>ext nh
 | false =>
  rw[fH Z6];exact Q7 (gM σ1 M L u)
#check _
structure It where
 go:vQ Nat
 yld:Nat->Hp->Bl
 stop:vQ Nat
noncomputable def FpOk (X:Cx) (pins:fP) (H:Hp) (b:Addr):Prop :=
 i8/\(fb EX zgc zGd (Cj b) (PZ b))
def Inv.fpOk {X:Cx}{pins:fP}{Z:St}{H H':Hp}{s:Shared}{b:Addr} (I:eR) (hb:zPK) (hn:FG):FpOk X pins H' b:=by
 refine(jx,hn,Yb (Z4 I.lt hb),I.nofs hb,.inr (Z5 I.sz hb),ib x c e z,uP p hp)
 .obtain ⟨v,q⟩:=Ro;show(Dg,Z4 q.lt (eP z hb))
 .show(Dg,Z4 (Zu (FN).1) (eP z hb))
structure Turn (P:Program) (w:World) (K:Zd) (tg:Expr) (J:It) (fp:eV) (it:Addr) (tn:zZy):Prop where
 mem:it∈fp
 obj:∀ i h,tn i h->∀ b∈fp,(WW oW)
 keep:∀ i h h',tn i h->(∀ b∈fp,∀ o,oW->uW)->tn i h'
 item:∀(X:Cx),X.prog=P->X.w=w->X.K=K->X.calm=true->∀(i:Nat) (pins:List (Addr × Obj)) (s:Shared) (Z:St) (H:Hp) (E:Value->Shared->Prop),Inv X pins Z H s->(∀ b∈fp,FpOk X pins H b)->tn i s.heap->zyF ->
  wpAny (model P w) X.A (pyNext (.ref it)) (λr s1=>∃ u,r=some u /\
   wpAny CW X.A (letOwnedTupleGo tg yP u) (λ_ s2=>∃ x H',(fb,HN s2,vo,J.yld i H x H',tn f7 s2.heap,zcz)) E s1) E s
 done:∀(X:Cx),X.prog=P->X.w=w->X.K=K->X.calm=true->∀(i:Nat) (pins:List (Addr × Obj)) (s:Shared) (Z:St) (H:Hp) (E:Value->Shared->Prop),Inv X pins Z H s->(∀ b∈fp,FpOk X pins H b)->tn i s.heap->J.stop i H ->
  (zPk,r=none/\(BV s1))
 self:∀(A:Around) (i:Nat) (s:Shared) (Q:fM) (E:fM),tn i s.heap->Q yP s->(zn CW (pyIter (.ref it)) Q)
noncomputable abbrev TI:=zgy TB
noncomputable def PIE (X:Cx) (pins:fP) (Z:St) (tg:Expr) (R:TB) (itv:Value) (s2:Shared):Prop :=
 ∃(it:Addr) (fp:eV) (tn:zZy) (J:It) (H':Hp),itv=yP/\(fb,HN s2,Turn X.prog X.w X.K tg J fp it tn,tn 0 s2.heap,znl H',R J H')
noncomputable def PI (X:Cx) (tg iter:Expr) (wi:TI):Prop :=
 ∀(pins:fP) (s:Shared) (Z:St) (H:Hp) (R:TB),eR->wi Z H R ->
  (zLm a zSB)
def xit {M:Model}{A:Around}{E:fM}{s:Shared}{tg:Expr}{it:Addr}{u:Value}{o:Obj}{n:String}{vs:jM}{Q:oq} (ho:EK it) (hc:R9 n) (hd:zPH)
    (hn:(zBr).contains n=false) (hQ:Q () s):D3 (letOwnedTupleGo tg yP u):=by
  unfold letOwnedTupleGo;cases tg<;>first
    | exact Zh hQ
    | (cases u<;>first
        | exact Zh hQ
        | (show(fQ,wpAny_load ho ?_)
           rw[hc,hd];show D3 (mG ((zBr).contains n&&vs[0]? == some (rawInt _)) _ _);show(N4,fH (by intro h; ext Ep hn Ye h h),hQ)))
noncomputable def Itl (K:Zd) (a:Addr):It :=
 (XU,zVw,x,H'=H/\zZi,zKK)
noncomputable def Itr (lo:Int) (n:Nat):It:=zEU KY
def xrp {P:Program}{w:World}{K:Zd}{tg:Expr} (a it:Addr):(Xm,Dh,h.IsListIter it a i) where
 mem:=eS
 obj:=λi h st b m=>by
  ext zd IX;ext gP o e c d st;ext zQx
 keep:=(zdS,st.at λ o e=>k it eS o e)
 item:=by
  intro X M D O Y i f s Z H E I A st J;subst M D O;ext o6 xs x y C J;ext zTI;show(eE,u,hu,ru,B.get C);ext zRN;refine wpAny_pyNext_list_item st p.isList (x:=u) zpd (xG q sb);have I1:xO f kZ:=zV (qo,m,(sb.2 b m).trans e) U T S R Q;show(gP,o,e,c,d,id q);show(zq,u,xit (s:=kZ) e c d eJ (iC,85,x,H,I1,ru,(iW,λ ys hy=>(eP,I.list_inj hy y,C)),q,λ b m=>(A b m).1))
 done:=by
  intro X M D O Y i f s Z H E I A st J;subst M D O;ext eE xs y C J;ext zTI;ext zRN;have hl:=B.length;exact wpAny_pyNext_list_end (I.ok.hd Y) st p.isList qX (O7 m U T S R Q)
 self:=λ_ _ _ _ _ st h=>wpAny_pyIter_listiter st h
def xo9 {P:Program}{w:World}{K:Zd}{tg:Expr} (it:Addr) (lo:Int) (n:Nat):zGr zfN 1 where
 mem:=eS
 obj:=λi h st b f=>by
  have e:b=it:=by simpa using f
  subst e;exact⟨_,st,λv z=>by
   ext Pw R z⟩
 keep:=zdS ztp
 item:=by
  intro X B x C A i c s Z H E I q st y;show(zBA,1);show(fR,I1,zYL,zGo,h8 (zCe,KY,jF t));rw[Int.mul_one]
 done:=by
  intro X B x C A i c s Z H E I q st y;ext zBF
 self:=zEF
section
variable {X:Cx}{tg:Expr}
noncomputable def x0o (K:Zd) (tl:TE):TI:=λ Z H R=>tl Z H λ x H1=>∃ a,(NH,(∃ xs,P8),R Dh H1)
def xay {l:Expr}{tl:TE} (hl:PE X l tl):Ib l (x0o X.K tl):=by
 ext Gq c R;show(qz,hl c s Z H _ I h,lW v m x A n r1 u ?_);obtain⟨a,e,⟨xs,y⟩,q⟩:63:=u;ext iL;cases r1;show(gP,its,B,p,hz,n.list y);refine QT p.isList ?_;refine Ej m.heap.objs.size [m.heap.objs.size] (ue,A,n.kept (t':=m.toks) wH,xrp a _,FB,Dk,q);show(wW,b,m.heap.objs.size,IQ);exact n.fpOk f8 (n.hok.fresh (Zk _))
def xmn {pins:fP}{Z:St}{H:Hp}{s:Shared}{R:TB}{E:fM}{lo hi:Int}{t u v:Tok}{tk:Nat} (I:eR) (h1:-nH<=lo) (h2:lo<nH) (h3:-nH<=hi) (h4:hi<nH)
    (q:R (Itr lo FK) H):zDA 1:=by
  refine wpAny_pyIter_range (IsRange.new ..) (small_one h1 h2 h3 h4) ?_;have c:Inv X pins Z H { s with heap:=s.heap.push { cls:=.type "range",data:=.fields #[.int lo t,.int hi u,.int 1 v] },toks:=tk }:=I.kept λb o e=>Ze _ e;refine⟨121,zpG,[zpG],_,_,⟨66,H,rfl,
    zQW,xo9 _ lo FK,?_,Dk,q⟩⟩
  . show(eC,x,lo+DI*1=lo,eS,m,(kh FK)-DI=(zmw 1),zmd)
    show IsRangeIter _ _ (lo+DI*1) ((kh FK)-DI) 1;ext ig x m lY
  . ext zHi zpG
noncomputable def xz6 (ta:TA):TI:=(OQ,∃ j:Int,(jH,vs,[hX],-nH<=j,j<nH,R (Itr 0 j.toNat) H1))
noncomputable def xzx (ta:TA):TI:=(OQ,∃ i j:Int,(zGR,vs=[fF,hX],R (Itr i (mV j i)) H1))
theorem xf9 {a:Expr}{ta:TA}{p pos:Pos} (hg:ztg) (hm:ztb) (ha:zug) (hs:autoParam (ztP) aRfl._auto_1):Ib (zzm [a]) (xz6 ta):=by
 show(OE,b,boot_range,J9 (zva b u x i c) hs rfl);ext Dz j e c f q c;ext iL;cases r1 with
 | cons r rr =>
  ext zuY;exact call_range_1 (xmn i eA eA c f zbg)
theorem xkt {a b:Expr}{ta:TA}{p pos:Pos} (hg:ztg) (hm:ztb) (ha:PA X Vq ta) (hs:autoParam (zQv) aRfl._auto_1) (hs2:autoParam (zeY [b] KP) aRfl._auto_1) :
    Ib (zzm Vq) (xzx ta):=by
  show(OE,c,boot_range,zok (iJ zjK us A vs B z r1 f ?_));obtain⟨i,j,e,⟨f,y,x,u⟩,q⟩:83:=f;ext iL;cases r1 with
  | cons r rr =>
    cases rr with
    | cons r' rr =>
      ext zuY;ext kQ r';exact call_range_2 (xmn z f y x u q)
noncomputable def tFor (wi:TI) (g:TG) (tb:TS):TS:=λD Z H=>wi Z H λ J H1=>∃ W:Nat->Nat->St->Hp->Prop,(∃ m,W 0 m Z H1)/\∀ i m Z H,FV ->
 (J.stop i H/\AL)\/(J.go i H/\(Fc (FJ,J.yld i H x H',Z,H',zxJ a N N)))
noncomputable def xg9 (fp:eV) (h:Heap):fP:=fp.filterMap λ b=>(h.get? b).map λ o=>Hv
def xep {fp:eV}{h:Heap}{b:Addr}{o:Obj} (hb:b∈fp) (e:oW):Hv∈xg9 fp h:=Ya.mpr (eG b hb yZ)
theorem xqp {fp:eV}{h:Heap}{p:Addr × Obj} (hp:p∈xg9 fp h):fK∈fp/\(qV fK jJ):=by
 show(eE,b,a,e,Ya.mp hp);cases q:h.get? b with
 | none=>ext iF q e e
 | some o =>
  rw[q] at e;ext zA c Hv p zyN;ext fc a q
def Inv.pinned {pins:fP}{Z:St}{H:Hp}{s:Shared}{fp:eV} (I:eR) (hf:zjJ) (ho:∀ b∈fp,(WW lI)):xO (pins++xg9 fp s.heap) s :=
 I.pins_of λ p r=>(Z3.mp r).elim (λ z=>I.pin p (Z7 _ z)) λ z=>by
  show(ou,j,xqp z);obtain⟨y,x,u,_⟩:44:=hf fK j;show(eE,o,q,d,ho fK j);ext gQ e q q;exact iu e y x u d
def Inv.unpinned {pins pl:fP}{Z:St}{H:Hp}{s:Shared} (I:xO (pins++pl) s):eR:=I.pins_of λ p a=>I.pin p (Z7 _ (ZP _ a))
def xbu {iter:Expr}{body:FZ}{wi:TI}{g:TG}{tb:TS}{pos:Pos} (hp:zJx) (hc:qW) (hi:zcQ) (hg:PG X tg g) (hb:zYE)
    (hs:zkK:=by ext Va):PS X (.For tg iter body [] pos) (tFor wi g tb):=by
  ext tq q;refine wpAny_For (thn (RN q) (zyg s1 zWY)) hs;obtain⟨it,fp,tn,J,⟨H2,e,I2,T,S,f2,W,⟨m0,w0⟩,M⟩⟩:121:=h2;ext iL
  -- what stays true of the iterator's objects through the loop
  show(jR,y,(zOw,FpOk X q H' b),λ hn b hb=>⟨hn b hb,(f2 b hb).2⟩,codeAny_forLoop_any (λ n s'=>(zIl,s',s'.heap,W i n σ' H')) ?_ m0 (sU,0,Z,H2,I2,S,λ b hb=>(f2 b hb).1,w0));rintro n s3 (⟨i,σ3,R,I3,O,Q,w3⟩:104);rcases M i n σ3 R w3 with⟨stop,qn⟩|⟨go,N,hN,step⟩
  . show(FI,T.done X rfl rfl rfl hc i q s3 σ3 R X.xe I3 (y Q) O stop,λ r s4 ⟨1042,Y,I4⟩=>?_)
    subst Y;exact Q7 (gM σ3 R I4 qn)
  . show(FI,T.item X rfl rfl rfl hc i q s3 σ3 R X.xe I3 (y Q) O go,Aj r s4 u Y h4)
    subst Y;show(FI,h4,λ_ s5 ⟨1085,x,H5,I5,r5,y5,L,aa⟩=>?_);have ab:=I5.pinned (y aa) (T.obj _ _ L);show(FI,hg _ s5 σ3 H5 x u _ ab r5 (step x H5 y5),λ_ s6 ⟨1082,σ6,H6,I6,q6⟩=>?_);show(FI,hb _ s6 σ6 H6 _ I6 q6,fJ f U K);have z:∀{σ7:St}{C:Hp},Inv X (q++xg9 fp s5.heap) σ7 C U->N σ7 C->(zfx (zIl,U,U.heap,W i m σ' H')):=λ{σ7 C} B P=>by
      show(eE,m',hm,w7,hN σ7 C P);show(jV,m',hm,sU f7 σ7 C B.unpinned (zgA,L,λ b hb o e=>(B.pin Hv (Z7 _ (Z7 _ (xep hb e)))).1) Dk w7);show(eE,o,e,d,T.obj _ _ L b hb);exact fV (B.pin Hv (Z7 _ (Z7 _ (xep hb e))))
    cases f with
    | next=>ext zOc
    | cont=>ext zOc
    | brk=>show(o6,σ7,C,B,K,K); exact gM σ7 C B.unpinned K
    | ret v=>show(yG,x7,σ7,C,B,r7,K,K); exact oM x7 σ7 C B.unpinned r7 K
#check _
def xce {K:Zd}{a:Addr}{xs:eB}{g:TG}{tb:TS}{D:Ends}{Z:St}{H:Hp} (Pv:GF) (h0:LW) (hl:zMq)
    (hs:∀ i x Z H,tV->Dc->g x Z H IU) (hd:zrf) :
    ∃ W:Nat->Nat->St->Hp->Prop,(∃ m,W 0 m Z H)/\∀ i m Z H,FV ->
      ((Dh).stop i H/\AL)\/((Dh).go i H/\(Fc (FJ,(Dh).yld i H x H',Z,H',LE N))):=by
  ext zDB c
  . ext zEY b
    ext yI y y;ext iL;exact hs i x Z _ (y xs q) p
  . ext zlR qba
def xf8 {lo:Int}{n:Nat}{g:TG}{tb:TS}{D:Ends}{Z:St}{H:Hp} (Pv:GF) (h0:LW)
    (hs:(zwd,lS,g KY Z H IU)) (hd:zqa n) :
    ∃ W:Nat->Nat->St->Hp->Prop,(∃ m,W 0 m Z H)/\∀ i m Z H,FV ->
      ((zfN).stop i H/\AL)\/((zfN).go i H/\(Fc (FJ,(zfN).yld i H x H',Z,H',LE N))):=by
  refine(pR,zQh n n,⟨63,n,eS,lQ,h0⟩,?_);ext zWv b;by_cases hlt:lS
  . show(uA,(fh,hlt,Hy,zaq a n eA a,zdM))
    ext yI y y;subst e y;exact hs i Z _ hlt p
  . ext wW i n eA;show(DS,f8,hd Z H p)
noncomputable abbrev R2:=PQ
noncomputable def OpR (X:Cx) (f:Pa) (r:R2):Prop :=
 ∀(pins:List (Addr × Obj)) (s:Shared) (Z:St) (H:Hp) (x y:V) (v u:Value) (Q:VK),Inv X pins Z H s->RelV x v->RelV y u->r x y H Q ->
  (uY (f v u))
noncomputable def UnR (X:Cx) (f:Value->Sw) (r:zja):Prop :=
 ∀(pins:fP) (s:Shared) (Z:St) (H:Hp) (x:V) (v:Value) (Q:VK),Inv X pins Z H s->yF->r x H Q ->
  (uY (f v))
noncomputable def xc0 (X:Cx) (f:Value) (r:zgJ eB):Prop :=
 ∀(pins:fP) (s:Shared) (Z:St) (H:Hp) (xs:eB) (us:fD) (Q:VK),Inv X pins Z H s->rh->r xs H Q ->
  (uY (call f us))
noncomputable def TruR (X:Cx) (r:V->(iA Hp AC)):Prop :=
 ∀(pins:fP) (s:Shared) (Z:St) (H:Hp) (x:V) (v:Value) (Q:AC),Inv X pins Z H s->yF->r x H Q ->
  (zpX (truthy v))
noncomputable def tOp (r:R2) (ta tb:TE):TE:=zO (zsz,r x y H2 Q)
noncomputable def tUn (r:zja) (ta:TE):TE:=(zO,r x H1 Q)
@[reducible] def rI (C:zcR) (g:zZk) (x:V) (y:V) (H:Hp) (Q:VK):Prop:=iV x y λ i j=>C i j/\Q Ea H
@[reducible] def rI0 (g:zZk) (x:V) (y:V) (H:Hp) (Q:VK):Prop:=iV x y λ i j=>Q Ea H
noncomputable def rU (g:Int->V):zja:=λ x H Q=>∃ i,x=fF/\Q (g i) H
section
variable {X:Cx}{a b c:Expr}{ta tb tc:TE}{pos:Pos}
def binT (ha:vj) (hb:CQ) {pins:fP}{s:Shared}{Z:St}{H:Hp}{R:V->Bl} (I:eR)
    (h:zIz) {Q:fM}{f:Pa}
    (hf:zCv) :
    zGX:=by
  show(qz,Cu pins,lW v c x H1 q r1 j ?_);show(qz,hb pins c Z H1 _ q j,lW u s2 y H2 m r2 i ?_);exact hf v u s2 x y H2 m r1 r2 i
def x9 {op:Operator}{r:R2} (ho:Rq op r) (ha:vj) (hb:CQ):zry (.BinOp a op b pos):=by
 ext BH;exact wpAny_BinOp (zwm,λ v u e x y z m j f q=>ho c e Z z x y v u Q m j f q)
def xug {op:UnaryOp}{r:zja} (ho:UnR X (unaryOp op) r) (ha:vj):PE X (.UnaryOp op a pos) (tUn r ta):=by
 ext pQ b;exact UnaryOp_ (iJ,Cu b,v,c,x,i,f,r1,e,ho b c Z i x v Q f r1 e)
def opI {f:Pa}{C:zcR}{g:zVK}
    (rule:(zkW,C i j->zNr->(Ru zmR))) :
    OpR X f (rI C (F9 Ea)):=by
  intro a s Z H x y v u Q I c b h;show(o7,i,j,rfl,rfl,e,q,xo2 h);ext Mi c b;exact rule i j t t' s _ _ e (Fl Ea)
def opI0 {f:Pa}{g:zVK}
    (rule:(zkW,zNr->(Ru zmR))) :
    OpR X f (rI0 (F9 Ea)):=by
  intro a s Z H x y v u Q I c b h;ext zSR;ext Mi c b;exact rule i j t t' s _ _ (Fl Ea)
def opB0 {f:Pa}{g:Bx Int Int}
    (rule:(zkW,Q (.bool Ea) s->(Ru zmR))) :
    OpR X f (rI0 λ i j=>.bl (g i j)):=by
  intro a s Z H x y v u Q I e c h;ext zSR;ext Mi e c;exact rule i j t t' s _ _ (HD,.bl (g i j),q)
noncomputable def CDiv (i j:Int):Prop:=0<j/\qbE
noncomputable def CMul (i j:Int):Prop:=(-vD<i/\i<vD)\/(-vD<j/\j<vD)
def CMul.ok {i j:Int} (h:CMul i j):IntMulOk i j:=by
 rcases h with⟨h1,h2⟩|⟨h1,h2⟩
 .exact .of_left (intBits_le_64 h1 h2)
 .exact .of_right (intBits_le_64 h1 h2)
def xbd:zSd .Add (i+j):=opI0 λ_ _ _ _ _ _ _ q=>add_int q
def xfr:zSd .Sub (i-j):=opI0 λ_ _ _ _ _ _ _ q=>sub_int q
def xei:Rq .Mult (rI CMul (F9 (i*j))):=opI λ_ _ _ _ _ _ _ a q=>mul_int q a.ok
def xbi:Rq .FloorDiv (rI CDiv (F9 (i / j))):=opI λi j _ _ _ _ _ a q=>by
 show(eC,c,(gk 0)<j,a.1,b,qbE,a.2);exact floordiv_int eA (eP,Int.fdiv_eq_ediv_of_nonneg i eA,q) (.inl (Ww eA))
def xa0:Rq .Mod (rI (λ_ j=>0<j) (F9 (i % j))):=opI λi j _ _ _ _ _ a q=>by
 have b:(gk 0)<j:=a;exact mod_int' eA (eP,Int.fmod_eq_emod_of_nonneg i eA,q)
def xvz:OpR X (inplaceOp .Add) (rI0 (F9 (i+j))):=opI0 λ_ _ _ _ _ _ _ q=>iadd_int q
def unI {f:Value->Sw}{g:Int->Int}
    (rule:∀(i:Int) (t:Tok) (s:Shared) (Q:fM) (E:fM),Q (.int (g i) s.toks) nX->(Ru (f (.int i t)))) :
    UnR X f (rU λ i=>.int (g i)):=by
  intro a s Z H x v Q I b h;show(eE,i,rfl,q,h);ext jq b;exact rule i t s _ _ (BC,.int (g i),rp,lA)
def xrn:UnR X (unaryOp .USub) (rU λ i=>.int (-i)):=unI λ_ _ _ _ _ q=>neg_int q
#check _
noncomputable def scal:Bx V V
 | .non,.non=>true|.non,jC=>true|jC,.non=>true|.non,uB=>true|uB,.non=>true|.non,rH=>true|rH,.non=>true
 | jC,jC=>true|uB,uB=>true|rH,rH=>true|.byt _,.byt _=>true
 | jC,rH=>true|rH,jC=>true|uB,rH=>true|rH,uB=>true
 | _,_=>false
noncomputable def rEq:R2:=(Ub,zVT/\Q (zfJ xP) H)
noncomputable def rNe:R2:=(Ub,zVT/\(uN (!(i9 x y))))
def xnv {i j:Int}:Ed (V.int i=V.int j) zjI:=by
 rw[JO];simp
def xr6 {i j:Bool}:Ed (V.bl i=V.bl j) zjI:=by
 rw[JO];simp
def xnp {i j:Str}:Ed (V.str i=V.str j) zjI:=by
 rw[JO];simp
def xod {i j:Array UInt8}:Ed (V.byt i=V.byt j) (i.toList == j.toList):=by
 rw[JO];ext BF i j;simp
section
variable {X:Cx}{a b c:Expr}{ta tb tc:TE}{pos:Pos}
def xa5 {pins:fP}{Z:St}{H:Hp}{s:Shared}{Q:VK}{k k':Bool} (I:eR) (q:uN k) (e:k=k'):Sn (.bool k') s:=by
 ext iL;exact(HD,.bl k,q)
theorem xbn:Ad .Eq rEq:=by
 intro m s Z H x y v u Q I f a h;ext qL c;cases x with
 | non =>
  cases f;cases y with
  | non=>cases a; exact PySem.EqNone.eq_none_none lL
  | bl j=>cases a; exact PySem.EqNone.eq_none_bool lL
  | int j=>ext kQ a; exact PySem.EqNone.eq_none_int lL
  | str j=>ext kQ a; exact PySem.EqNone.eq_none_str lL
  | _=>ext zt
 | bl i =>
  cases f;cases y with
  | non=>cases a; exact PySem.EqNone.eq_bool_none lL
  | bl j=>cases a; exact eq_bool (xF xr6)
  | str j=>ext kQ a; exact PySem.EqMixed.eq_bool_str lL
  | _=>ext zt
 | int i =>
  ext jq f;cases y with
  | non=>cases a; exact PySem.EqNone.eq_int_none lL
  | int j=>ext kQ a; exact eq_int (xF xnv)
  | str j=>ext kQ a; exact PySem.EqMixed.eq_int_str lL
  | _=>ext zt
 | str i =>
  ext jq f;cases y with
  | non=>cases a; exact PySem.EqNone.eq_str_none lL
  | bl j=>cases a; exact PySem.EqMixed.eq_str_bool lL
  | int j=>ext kQ a; exact PySem.EqMixed.eq_str_int lL
  | str j=>ext kQ a; exact eq_str (xF xnp)
  | _=>ext zt
 | byt i =>
  ext jq f;cases y with
  | byt j=>ext kQ a; exact PySem.W.eq_bytes (xF xod)
  | _=>ext zt
 | _=>ext zKA
theorem xzp:Ad .NotEq rNe:=by
 intro m s Z H x y v u Q I f a h;ext qL c;cases x with
 | non =>
  cases f;cases y with
  | non=>cases a; exact PySem.EqNone.ne_none_none lL
  | bl j=>cases a; exact PySem.EqNone.ne_none_bool lL
  | int j=>ext kQ a; exact PySem.EqNone.ne_none_int lL
  | str j=>ext kQ a; exact PySem.EqNone.ne_none_str lL
  | _=>ext zt
 | bl i =>
  cases f;cases y with
  | non=>cases a; exact PySem.EqNone.ne_bool_none lL
  | bl j=>cases a; exact ne_bool (xF (Ee not xr6))
  | str j=>ext kQ a; exact PySem.EqMixed.ne_bool_str lL
  | _=>ext zt
 | int i =>
  ext jq f;cases y with
  | non=>cases a; exact PySem.EqNone.ne_int_none lL
  | int j=>ext kQ a; exact ne_int (xF (Ee not xnv))
  | str j=>ext kQ a; exact PySem.EqMixed.ne_int_str lL
  | _=>ext zt
 | str i =>
  ext jq f;cases y with
  | non=>cases a; exact PySem.EqNone.ne_str_none lL
  | bl j=>cases a; exact PySem.EqMixed.ne_str_bool lL
  | int j=>ext kQ a; exact PySem.EqMixed.ne_str_int lL
  | str j=>ext kQ a; exact ne_str (xF (Ee not xnp))
  | _=>ext zt
 | byt i =>
  ext jq f;cases y with
  | byt j=>ext kQ a; exact PySem.W.ne_bytes (xF (Ee not xod))
  | _=>ext zt
 | _=>ext zKA
def xh2:zlC .Lt (i<j):=opB0 λ_ _ _ _ _ _ _ q=>lt_int q
def xhy:zlC .LtE (i<=j):=opB0 λ_ _ _ _ _ _ _ q=>le_int q
def xzg:zlC .GtE (j<=i):=opB0 λ_ _ _ _ _ _ _ q=>ge_int q
theorem xlx:Ad .Is (Ub,y=.non/\Q (zfJ (x=.non)) H):=by
 intro c s Z H x y v u Q I a e h;show(qL,rfl);ext mC;refine is_none_gen (xF ?_);cases x<;>first
  | (ext qK a)
  | (ext jq a; rfl)
theorem xho:Ad .IsNot (Ub,y=.non/\(uN (!(i9 x .non)))):=by
 intro f s Z H x y v u Q I a j h;show(qL,rfl);cases j;refine isnot_none_gen (xF ?_);cases x<;>first
  | (ext qK a)
  | (ext jq a; rfl)
noncomputable def isObj:HO->Bool
 | .lst _=>true
 | .ins _ _ _=>true
 | _=>false
def xal (b:Expr) {op:CmpOp} (h:autoParam (op≠.In) aDec._auto_1) (h2:autoParam (op≠.NotIn) aDec._auto_1):Iu:=by
 show(zCI,(by cases op<;>first|rfl|ext qp h),by cases op<;>first|rfl|ext qp h2)
def xdl {op:CmpOp}{r:R2} (ho:zwD) (ha:vj) (hb:CQ) (hm:Iu):zry XB:=by
 ext BH;exact wpAny_Compare1 (zwm,λ v u f x y z n j i q=>ho c f Z z x y v u Q n j i q) hm
inductive xwn (x:V) (H':Hp) (Q:AC):Prop
 | mk (k) (e_:x=.bl k) (r_:Q k H')
noncomputable def x0r (t:TE):TT:=(rJ,t Z H λ x H'=>xwn x H' Q)
def xak {op:CmpOp}{r:R2} (ho:zwD) (ha:vj) (hb:CQ) (hm:Iu):PT X XB (x0r (tOp r ta tb)):=by
 ext pQ f;refine wpAny_isTrue_Compare1 (thn (Cu f) λ v i ⟨1083,x,J,B,r1,q⟩=>thn (hb f i Z J _ B q) λ u s2 ⟨1083,y,H2,I2,r2,q2⟩ =>
  (iJ,ho f s2 Z H2 x y v u _ I2 r1 r2 q2,c,K,z,D,A,j,eG k e n,?_)) hm
 ext iL;cases j;exact Yx (eG D A n)
noncomputable def xxk (r r':R2) (ta tb tc:TE):TE:=λZ H Q=>ta Z H λx H1=>tb Z H1 λy H2=>r x y H2 λ z H3=>∃ k,z=.bl k /\
 (mG,k,tc Z H3 λ a c=>r' y a c Q,zu false H3)
theorem xfm {op op':CmpOp}{r r':R2} (ho:zwD) (ho':Ad op' r') (ha:vj) (hb:CQ) (hc:PE X c tc)
    (hm:lastMarks [op,op'] [b,c]=false:=by with_unfolding_all rfl):PE X (.Compare a [op,op'] [b,c] pos) (xxk r r' ta tb tc):=by
  ext pQ f;refine Compare_chain (thn (Cu f) λ v J ⟨1083,x,T,R,r1,O⟩=>chain_link (thn (hb f J Z T _ R O) λ u s2 ⟨1083,y,H2,I2,r2,q2⟩ =>
    (iJ,ho f s2 Z H2 x y v u _ I2 r1 r2 q2,d,D,z,n,j,L,fh 1062 k e i,?_))) hm
  ext iL;cases L;refine Yx ?_;cases k with
  | false=>exact ite_ff (jf,.bl false,n,j,i)
  | true=>exact ite_tt (chain_last (iJ,hc f D Z n _ j i,A,B,q,S,P,K,M,ho' f B Z S y q u A Q P r2 K M))
noncomputable def TruV (K:Zd) (x:V) (H:Hp) (k:Bool):Prop :=
 match x with
 | .non=>iK k
 | mU=>k=b
 | fF=>k=(i != 0)
 | UJ=>zFO
 | .byt y=>zGK
 | iX=>zFo zcW zsY
 | _=>False
def xo7 {κ:Type}{kvs:j7}{vs:Ae} (r:tW):(! vs.isEmpty)=! kvs.isEmpty:=by
 cases r<;>rfl
def xi4 {xs:eB}{its:fD} (r:FC):(! its.toArray.isEmpty)=! xs.isEmpty:=by
 cases r<;>simp
def xgf:(sizeLine:Nat)<Nb:=ve Qf
theorem xyf:TruR X (λ x H Q=>∃ k,TruV X.K x H k/\Q k H):=by
 intro C s Z H x v Q I B h;ext eE k e q h;have S:=xgf;have R:sizeLine=16777216:=Qf;cases x with
 | non =>
  cases B;ext oJ j k e;subst j;exact truthy_none (eG H I q)
 | bl b =>
  cases B;ext zA j k b e;exact Yx (eG H I q)
 | int i =>
  ext jq B;show(zA,j,k,i != 0,e);exact PySem.P.truthy_int (eG H I q)
 | str y =>
  ext qag zFO;subst j;exact PySem.P.truthy_str eA (zkf q)
 | byt y =>
  ext qag zGK;subst j;exact PySem.W.truthy_bytes eA (zkf q)
 | ref p =>
  cases B;have j:(zFo,SqL X.K H p xs,SqT X.K H p xs):=e;rcases j with⟨xs,hx,j⟩|⟨xs,hx,j⟩|⟨kvs,hx,j⟩
  .subst j;ext zpW hx;have A:=r.length;exact wpAny_truthy_list pl.isList zOv zSc
  .subst j;show(gP,its,r,pl,hz,I.tuple hx);have A:=r.length;exact truthy_tuple pl zOv zSc
  .subst j;obtain⟨hz,M,vs,r,m⟩:Kf/\(Fm p)/\(ziP,s.heap.DictOf va p vs):=uH p hx;show(Pb,A,YC r);exact wpAny_truthy_dict M m eA (zkf (eP,xo7 r,q))
 | _=>exact (show False from e).elim
def xmd (ha:vj) (he:(zDG,isTrue a X.env whole,a.pos)) :
    PT X a (rJ,ta Z H λ x H'=>∃ k,TruV X.K x H' k/\Q k H'):=by
  ext pQ b;exact isTrue_plain (iJ,Cu b,v,c,x,j,i,r1,f,xyf b c Z j x v Q i r1 f) (he _)
theorem xdm {x:V}{us:fD} (r:zr [x]):zQt:=by
 cases r with
 | cons r1 r2=>cases r2; exact h8 r1
theorem xi3 {x y:V}{us:fD} (r:zr [x,y]):∃ u w',(gL,us,[u,w'],vo,RelV y w'):=by
 cases r with
 | cons r1 r2 =>
  cases r2 with
  | cons r3 r4=>cases r4; exact oQ _ r1 r3
def xly:(Cm,vN "abs",∃ i,xs=[fF]/\(ub (zyU,i<0,-i))):=by
 ext sV a;show(eE,i,rfl,q,h);ext zIZ;exact call_abs_int λ u c=>Fl (zyU,i<0,-i)
def xqu (hc:qW):(Cm,vN "min",zXo (ub (zyU,j<i,j))):=by
 ext sV f;ext zDh v;refine min_two_ints (I.ok.hd hc) λ h' x k=>(BC,_,I.kept k,?_)
 by_cases hj:j<i
 .rw [fe hj,fe hj]; show(we,rfl)
 .rw [fH hj,fH hj]; show(we,rfl)
def xk0:(Cm,jK "int",(∃ i,xs=[fF]/\Q fF H)\/∃ k,xs=[.bl k]/\(ub (ztA k))):=by
 ext sV c;rcases h with⟨i,rfl,q⟩|⟨k,rfl,q⟩
 .obtain ⟨u,rfl,⟨t,rfl⟩⟩:62:=xdm r;exact call_int_int (BC fF I lA)
 .show(on,u,rfl,r1,xdm r);cases r1;exact call_int_bool (Fl (ztA k))
#check _
structure ObjM (h:Heap) (x dx C:Addr) (mA:im):Prop where
 obj:h.get? x=some zzL
 ns:RF
 ne:dx≠x
def xkg {h:Heap}{dx:Addr}{mA:im} (n:RF):zFm (qV dx od):=by
 obtain⟨o,c,C,u,A,x,_,v⟩:105:=n;show(jV,o,u,iy name);have e:=v name;unfold nsFind findBy at e;rw[<- Array.find?_toList] at e;unfold W6;rw[A]
 dsimp only
 split
 .rename_i y q
  rw[q] at e;ext M0 some e
 .rename_i q
  rw[q] at e;have a:c.toList.any (·.refKey)=false:=by
   rw[List.any_eq_false];intro y j;show(GT,z,t,b,x y (WC.mp j));simp[DictEntry.refKey,b]
  have B:¬ c.toList.any (·.refKey)=true:=eP a Z6
  show(sK,B,congrArg some e)
def ObjM.look {h:Heap}{x dx C:Addr}{mA:im} (I:ObjM h x dx C mA):(zFm,PySem.W.InstAt h x zzL C (some od)) :=
 let ⟨od,ho,hl⟩:=xkg I.ns
 (eG,od,mT I.obj rfl ho,hl)
section
variable {prog:Program}{w:World}{A:Around}{E:Value->Shared->Prop}{s:Shared}{K:Zd}{x dx C f:Addr}{mA:Str->Option Value}{name:Str}{v:Value}
def xuz {expr:Bool}{Q:fM} (X:tO) (I:zno) (hg:zRb) (hh:lJ C)
    (ha:zpo name) (hv:mA name=some v) (hv':PySem.W.handedIn v=true) (h:Q v nX) :
    zJG:=by
  ext zxO c
  exact PySem.W.get_value X J (WG hg).1 (PySem.W.findObj_own hh ha rfl (hZ c hv)) hv' h
def xtr {pl:zga}{Q:zQN} (X:tO) (I:zno) (hg:zRb)
    (hf:Fj name (fX f)) (ht:Ur) (hv:mA name=none) (h:Q (No,[mQ]) s) :
    jQ (getMethod mQ name pl):=by
  ext zxO b
  exact PySem.W.method_fn X J (WG hg).1 (WG hg).2 hf (beq_iff_eq.mp ht) (by show (W6 name od).map (·.isSome)=some false; rw[b,hv]; rfl) h
def xvj {ns:eO}{Q:oq} (X:tO) (I:zno)
    (hs:zNu) (hp:C3 C) (ht:zJW name) (hh:lJ C)
    (hw:Qk mA ns) (hsz:zrn)
    (h:(CI,ObjM h' x dx C (zqD,mA y),FT dx,(),zsh)) :
    zmH:=by
  ext zxO U
  refine PySem.W.set_plain X J hs (PySem.W.osa_open (s:=nX) (r:=none) X J hp ht (iy b));show(eE,Y,P,H,PySem.W.any_some hh);have O:zWu (fh,gZ,oB,.plain,#[]):=I.obj;refine Zb (Zh (Zb (Zb (QJ O (Zb (PySem.W.Looks.here (s:=nX) (PySem.W.looks_clsIn X P) ?_))))));rw[H];refine Zh (a:=oB) (Zb (Zh (Zb ?_)));refine wpAny_nsSet1 (s:=nX) I.ns (rR h' z);show(yG,T,R,S,B,D,M,z.count (Qk.cons name v hw));show(fQ,wpAny_lookBehind B (zmf D M (uc ZB)) ?_);exact Zh (h _ (eG,(q.2 _ (Zz I.ne)).trans I.obj,z,I.ne) q)
def xsl {R:zuG}{vs:fD}{kw:E9} (X:tO) (hm:C2 C)
    (hi:znf) (hf:PySem.W.typeIn K No=some zqx)
    (h:codeAny jk (zlH ⟨gZ::vs,kw⟩) (.call (.ref f) ⟨.ref nw::vs,kw⟩) (PySem.W.InitBack nw R)
      { s with heap:=(E6).push (Yv C s.heap.objs.size) }) :
    codeAny jk A (.call gZ ⟨vs,kw⟩) R s:=by
  ext vi x d t v;exact PySem.W.make_core (PySem.W.makes_of X hm) (PySem.W.looks_findIn X hi) (λ q=>PySem.W.bind_fn X q hf) jO h
#check _
noncomputable def putF (f:Str) (v:V):lw->lw
 | []=>zhY
 | (g,x)::r=>(oZ,g,f,(g,v)::r,(g,x)::putF f v r)
theorem xgd (f g:Str) (v:V):∀ fs:lw,(zdG).lookup g=(oZ,g,f,ku,fs.lookup g)
 | []=>by
  show Jj g zhY=_;by_cases h:g=f
  .ext zlo f zjB
  .show(oJ,b,g == f,zmr);simp only[Jj,b,zjw]
 | zgl=>by
  have c:=xgd f g v r;ext zku
  .rw [fe hk];by_cases h:g=k
   .show(zlo,k,if_pos (h.trans hk))
   .show(oJ,b,g == k,zmr);simp only[Jj,b,fH (λ e:g=f=>h (e.trans hk.symm))]
  .ext mz hk;by_cases h:g=k
   .show(zlo,k,fH (λ e:g=f=>hk (h.symm.trans e)))
   .show(oJ,b,g == k,zmr);simp only[Jj,b];exact c
theorem xe3 (f:Str) (v:V):∀ fs:lw,f∈(zdG).map (·.1)/\∀ g,g∈fs.map (·.1)->g∈(zdG).map (·.1)
 | []=>⟨ip putF,λ g h=>yg⟩
 | zgl=>by
  obtain⟨j,b⟩:=xe3 f v r;ext zku
  .rw [fe hk];subst hk;show(fc,eS,λ g h=>xY)
  .ext mz hk;show(rQ,?_,g,h)
   .show(ie,Zs,Zm _ j)
   .rw [Zs] at h ⊢;rcases zhF with e|e
    .exact Zr.mpr (.inl e)
    .exact Zm _ (b g e)
theorem xgc (f:Str) (v:V):∀ fs:lw,(Be,zdG,fs.length+1)
 | []=>ip putF
 | zgl=>by
  have a:=xgc f v r;ext zku
  .rw [fe hk,ZB,ZB]; lia
  .rw [fH hk,ZB,ZB]; lia
theorem RelO.some_of {v:V}{o:CJ} (r:RelO ku o):∃ u,Hm o u sv:=by
 cases o with
 | none=>ext I0
 | some u=>ext zq u r
theorem RelO.none_of {o:CJ} (r:RelO none o):o=none:=by
 cases o with
 | none=>rfl
 | some u=>ext I0
theorem xkw {v:V}{u:Value} (r:sv):PySem.W.handedIn u=true:=by
 cases v with
 | non=>show(qK,kM u Jg r)
 | bl b=>show(qK,(L8,u=Yo b))
 | int i=>ext zaL KC
 | str x=>ext zaL zct
 | byt b=>ext zaL zMJ
 | flt b=>ext zaL zMI
 | ref a=>show(qK,kM u uK r)
 | ty n=>show(qK,(L8,u=Wp n))
section
variable {P:Program}{w:World}{H H':Hp}{h h':Heap}{a C dx:Addr}{fs fs':List (Str × V)}
def xhn (hok:sH) (e:Tw):∃ mA,ObjM h a dx C mA/\Im/\Qk mA (fs.map (·.1))/\PK/\(fO dx UI):=by
 obtain⟨d,z,b,ob,⟨mA,n,r,q⟩⟩:45:=(zam,LK,hok a _ e)
 exact(hV,65,mA,eG ob n b,r,q,z,d)
#check _
structure Cls (K:Zd) (C:Addr):Prop where
 pg:Fy C
 hd:lJ C
 po:C3 C
 sa:zNu
def Cls.get {K:Zd}{C:Addr} (c:Tl) (f:Str):JQ K C f=true:=c.pg
noncomputable def xft (K:Zd) (C:Addr) (f:Str):Prop:=ziY
def xft.taker {K:Zd}{C:Addr}{f:Str} (n:zwO):zJW f:=by
 unfold PySem.W.takerIn;rw[show ziY from n];rfl
structure Meth (K:Zd) (C:Addr) (m:Str) (f:Addr):Prop where
 at_:Fj m (fX f)
 fn:Ur
 kp:Uz
section
variable {X:Cx}{pins:List (Addr × Obj)}{Z:St}{H:Hp}{s:Shared}{a C dx:Addr}{fs:List (Str × V)}{f:Str}{v:V}{A:Around}{E:Value->Shared->Prop}
def xpp {b:Bool}{Q:fM} (I:eR) (e:Tw) (c:Sl) (n:xft X.K C f) (l:XM)
    (h:zJA):zNa:=by
  ext zNd q;ext zJb j;exact xuz I.kIn O (c.get f) c.hd n x (xkw j) (h u _ rp j)
def xis {m:Str}{g:Addr}{pl:zga}{Q:zQN} (I:eR) (e:Tw) (c:Sl) (k:Meth X.K C m g) (l:zRh)
    (h:Q (.ref g,pK) s):DC (getMethod fE m pl):=by
  ext zNd b;show(uG,j,b m=none,RelO.none_of (by rw[<- l]; exact r m),xtr I.kIn O (c.get m) k.at_ k.fn j h)
def xow {y:V}{u:Value}{Q:oq} (I:eR) (e:Tw) (c:Sl) (n:xft X.K C f) (hl:zbP) (ry:lz)
    (h:PY (Oe (jj a (uJ C KW)))):znn:=by
  obtain⟨D,O,r,B,_,J⟩:65:=xhn I.hok e;have hz:(fs.map (·.1)).length<=sizeLine:=MY Za Qf
  refine xvj I.kIn O c.sa c.po n.taker c.hd B hz zRR;show(jR,L,∃ o,EY dx,let ⟨o,_,_,e',_⟩:=v.ns; Oj e',I.write (x:=a) (e:=dx) vk (.inr J) (λ b q M z=>(sb.2 b M).trans z) L ?_);refine(iu,jp O.ne J,?_,O.ne,v.obj,(fY,_,v.ns,iy g,zwN))
  . show(iP,xgc f y fs)
  . show RelO ((KW).lookup g) (Mm,D g)
    rw[xgd];ext LP
    . ext ig DM DM ry
    . rw[DL,DL]; exact r g
  . ext LP
    . show(eY,q,(zem).1)
    . refine (zem).2 g (B g λ z=>hg ?_)
      show (Mm,D g)=none;ext sK q z
def Inv.made (I:eR):Inv X pins Z (upd (upd H s.heap.objs.size (.own nw)) nw zKc)
    { s with heap:=(E6).push (Yv C s.heap.objs.size) }:=by
  have r:(E6).get? s.heap.objs.size=some JT:=Zp s.heap rfl;have x:((E6).push (Yv C s.heap.objs.size)).get? nw=some zNE:=by
    show(zzz,Zp E6 (o:=zNE) rfl,Jp)
  have v:(E6).Ns s.heap.objs.size j8:=(xI,JT,#[],_,r,λ e he=>Ol he,re)
  have A:=(zFQ,.own nw,E6,λ b u q=>UW,mr r);show(Hk,A.laid (a:=nw) (o:=zKc) (t':=s.toks) (λ b u q=>UW) (Nat.le_of_eq (Jp _ _)) ?_,c,zbH nw,zwL,iu (hZ,xo c,xh) lQ c x (fY,j8,(Heap.Ns1.of_empty v).at λ o q=>UW,λ_=>Jq,λ y hy=>zH rfl hy))
def xne {prog:Program}{w:World}{env:Env}{e:Expr}{f:Str}{pos:Pos}{s:Shared}{Q:fM} (hb:attributeBase e f env zew=zew)
    (h:zn jk zew (λ o s₁=>yw (getAttr o f true) Q s₁)):jQ (Vx (.Attribute e f pos)) :=
  Attribute_any_ h (hZ arm_eval_Attribute hb)
#check _
inductive xyy (K:Zd) (f:Str) (x:V) (H1:Hp) (Q:VK):Prop
 | mk (a C dx fs v) (e_:BJ) (r_:(fb,zTN,Tl,zwO,XM,Q v H1))
noncomputable def tFld (K:Zd) (ta:TE) (f:Str):TE:=(zO,xyy K f x H1 Q)
noncomputable def sFld (K:Zd) (ta tv:TE) (f:Str):TS:=λD Z H=>tv Z H λy H1=>ta Z H1 λx H2=>∃ a C dx fs,BJ/\(R7 LK)/\Tl/\zwO/\zbP /\
 D.nx Z (upd H2 a (uJ C KW))
noncomputable def InOp (X:Cx) (op:Operator) (rd:PQ):Prop :=
 ∀(pins:fP) (s:Shared) (Z:St) (H:Hp) (x y:V) (u v:Value) (Q:VK),(gR,eR,vo,zyI,rd x y H Q,uY (inplaceOp op u v))
section
variable {X:Cx}{o e value:Expr}{f:Str}{pos pos' tpos:Pos}{ta tv:TE}
def xad (he:BS ta) (hb:zIb):zQM (tFld X.K ta f):=by
 show(zRA,(lW u O x J D m ⟨a,C,dx,fs,v,y,z,c,n,l,q⟩ ?_));ext tM y m;exact xpp D z c n l λ L M B p=>gU v J B p q
def xct (ha:zfo) (hv:zcl) (hs:zZd):znH zod (sFld X.K ta tv f):=by
 show(zGM,(iJ,zww j,u,m,y,J,B,p,q,zdR (ha j m Z J _ B q) ov ⟨1126,a,C,dx,fs,ex,ea,c,n,l,q2⟩));ext zWF;exact xow I2 ea c n l p λ L z=>gM Z _ z q2
inductive rAdd (x:V) (y:V) (H:Hp) (Q:VK):Prop
 | mk (i j) (e_:x=fF) (r_:y=hX/\(ub (i+j)))
inductive rSub (x:V) (y:V) (H:Hp) (Q:VK):Prop
 | mk (i j) (e_:x=fF) (r_:y=hX/\(ub (i-j)))
def xxe:InOp X .Add rAdd:=by
 rintro b s Z H x y u v Q I e c ⟨i,j,rfl,rfl,q⟩;ext jq zXv
 ext kQ zIB
 exact PyProof.Rows.iadd_int (Fl (i+j))
def xw9:InOp X .Sub rSub:=by
 rintro a s Z H x y u v Q I e c ⟨i,j,rfl,rfl,q⟩;ext jq zXv
 ext kQ zIB
 exact PyProof.Rows.isub_int (Fl (i-j))
#check _
section
variable {X:Cx}{pins:List (Addr × Obj)}{Z:St}{H:Hp}{s:Shared}{A:Around}{E:Value->Shared->Prop}{Q:Value->Shared->Prop}{c:Value}{b:Bool}
inductive TyOf (K:Zd) (H:Hp):qbi where
  | non:CL .non "NoneType"
  | bl (x:Bool):CL (.bl x) "bool"
  | int (i:Int):CL fF "int"
  | str (x:Str):CL qh "str"
  | flt (x:UInt64):CL (.flt x) "float"
  | lst {a:Addr}{xs:eB} (e:pL nG):zXy
  | frz {a:Addr}{o:Obj}{xs:eB} (e:pL zTe):zXy
  | tup {a:Addr}{xs:eB} (e:pL ro):CL fE "tuple"
  | dK {a:Addr}{kvs:gD} (e:GE):zXx
  | dT {a:Addr}{kvs:i4} (e:Ms):zXx
  | ins {a C dx:Addr}{fs:lw} (e:Tw) (cl:Tl) (ha:Fj "__class__" zLS)
      (hn:zkS) (htk:zmc)
      (hm:(zgL,ZN K C (.type "object"))):TyOf K H fE gZ
theorem xqz {x:V}{u t:Value} (I:eR) (rx:vo) (ty:TyOf X.K H x t) (e:Y3 X.K t c=some b) (h:∀ tk,Q (.bool b) { s with toks:=tk }) :
    NG "isinstance" [u,c]:=by
  cases ty with
  | non=>cases (kM u Jg rx); show(Fb,PySem.W.kitx_none,Jq)
  | bl y=>cases (show u=Yo y from rx); show(Fb,PySem.W.kitx_bool,Jq)
  | int i=>show(zlL,KC,PySem.W.kitx_int)
  | str y=>show(zlL,(Oq,Wc y t),PySem.W.kitx_str)
  | flt y=>show(zlL,(Oq,Value.float y t),PySem.W.kitx_float)
  | @lst a xs ea =>
    ext KE;obtain⟨_,_,n,_,j⟩:=(Oz nG)
    ext zNv
  | @frz a ob xs ea =>
    ext KE;obtain⟨_,_,⟨_,n,_,j⟩⟩:43:=(Oz (.frz ob (.lst xs)))
    ext zNv
  | @tup a xs ea =>
    ext KE;obtain⟨_,_,_,p⟩:=(Oz ro)
    ext rX o j m p;show(Fb,PySem.W.kitx_tuple,wa j m)
  | @dK a kvs ea =>
    ext KE;obtain⟨_,_,⟨vs,_,p⟩⟩:43:=(Oz pA)
    obtain⟨o,v,B,j,m,_⟩:103:=p;ext zKF
  | @dT a kvs ea =>
    ext KE;obtain⟨_,_,⟨xs,_,o,v,B,j,m,_⟩⟩:43:=(Oz vw)
    ext zKF
  | @ins a C dx fs ea cl ha hn htk hm =>
    ext KE;show(sx,D,O,xhn I.hok ea,od,J,O.look)
    show(Fb,PySem.W.kitx_own (cl.get _) cl.hd ha hn htk hm,J)
#check _
structure Room (q0:Bool) (k:Nat) (A:Around):Prop where
 hd:zYA
 dp:A.depth+3*k+5<recursionLimit
 un:(pT,A.units+16*k+200)
 gd:A.guards=some []
def Room.mono {j k:Nat}{A:Around} (r:Cz) (h:j<=k):Room q0 j A:=(fh,r.hd,mM r.dp,mM r.un,r.gd)
def Room.deeper {k:Nat}{A:Around} (r:qbl) (env:Env):zqb env :=
 fh r.hd (zLb,A.depth+1,k) (zJB,A.units+3,k) r.gd
def xpj {A:Around}{C:Addr}{us:fD}{kw:E9}:(zzK).depth=A.depth+1:=by
 first|rfl|simp[Around.under,Code.weight,Code.isCreation,Code.isGuard,Code.isCaller,Code.frames,Code.isFrame,guardIds]
def xo5 {A:Around}{C:Addr}{us:fD}{kw:E9}:(zzK).units=A.units+1:=by
 first|rfl|simp[Around.under,Code.cUnits,Code.frames,Code.isFrame]
def Room.make {k:Nat}{A:Around} (r:qbl) (C:Addr) (us:fD) (kw:E9):Room q0 k (A.under (.builtin "type.__call__" zWs)) :=
 ⟨r.hd,by have:=r.dp; rw[xpj]; lia,by have:=r.un; rw[xo5]; lia,by first|exact r.gd|(simpa [Around.under,Code.guards,Code.isGuard,guardIds,pushGuards] using r.gd)⟩
def Room.depth {k:Nat}{A:Around} (r:Cz):A.depth<recursionLimit:=mM r.dp
def Room.units {k:Nat}{A:Around} (r:Cz):(pT,A.units+64):=mM r.un
noncomputable def tNil:TA:=(NL,Q [] H)
@[reducible] def xtu (ta:TE) (tr:TA):TA:=(zO,tr Z H1 λ xs H2=>Q xB H2)
section
variable {X:Cx}{e:Expr}{es:List Expr}{te:TE}{t:TA}{pos:Pos}
def xj:PA X [] tNil:=λ_ _ _ _ H Q I h=>YH (zkg [] .nil)
def xg (ha:vt) (hr:zfm) (hs:autoParam (xS) aRfl._auto_1):zQE:=by
 ext SB b a;rw[hs];show(tN,(spliced ((false,yj)::(O5 b es))));refine Yr (sO (ha a s Z H _ I h) u f r p r1 j);exact thn (hr b a f Z r _ p j) (lW us y xs q m r2 i ⟨83,xB,q,m,.cons r1 r2,i⟩)
noncomputable def tTup (t:TA):TE:=zJH (o9 H1 p xs)
noncomputable def tLst (t:TA):TE:=zJH (iE H1 p xs)
def xaq {x1} (h:zfm):PE X (.Tuple es x1 pos) (tTup t):=by
 ext Mj c y;refine wpAny_Tuple_spliced (thn (h pos c s Z H _ I y) zDD);show(zBH,o9 x m.heap.objs.size xs);exact(fh,z,us,r,yM lY lA)
def xbp (h:zfm):PE X (.List es pos) (tLst t):=by
 ext Mj c y;refine wpAny_List_spliced (thn (h pos c s Z H _ I y) zDD);show(zBH,iE x m.heap.objs.size xs);show(fc,z,gM us 0 r lY)
#check _
noncomputable abbrev Sp:=Eu eB Hp VK XK
noncomputable abbrev CXT:=gR oz Hp Shared XK fM
structure Env0 (P:Program) (w:World) (K:Zd) (mg:im) (base:Heap) (A:Around) (outer:oz) (s:Shared) (H:Hp):Prop where
 frames:zvf outer
 mod:Mod K mg base
 bs:(sN,base.get? b=some o,lI/\i8)
 bsz:base.objs.size<=s.heap.objs.size
 funs:zpl outer
 frf:∀ b∈frs outer,i8
 hok:zkq s.heap
 bare:zXD
noncomputable def CE (outer:oz) (P:Program) (w:World) (H:Hp) (s:Shared) (Q:VK) (u:Value) (s':Shared):Prop :=
 ∃ v H',s'.os=s.os/\(fb zbx (MZ (frs outer) [] H' s'.heap) zQA sv US)
noncomputable def CR (CX:CXT) (outer:oz) (P:Program) (w:World) (H:Hp) (s:Shared) (Q:VK) (E:XK) (r:Result) (s':Shared):Prop :=
 match r with
 | .ok (.ret u)=>zLz
 | .ok _=>False
 | zyM=>CX outer H s E e s'
structure FnOk (q0:Bool) (P:Program) (w:World) (K:Zd) (mg:im) (base:Heap) (CX:CXT) (k:Nat) (f:Addr) (fd:FuncData) (ps:eO) (sp:Sp):Prop where
 len:Ig
 run:∀(A:Around) (outer:oz) (s:Shared) (H:Hp) (args:Args) (us:fD) (vs:eB) (Q:VK) (E:XK),Cz->(Xr A)->(zgI args zfg)->GD->CA ->
  codeAny CW A (.call (.ref f) args) (CR CX outer P w H s Q E) s
def FnOk.imp {P:Program}{w:World}{K:Zd}{mg:im}{base:Heap}{CX:CXT}{k:Nat}{f:Addr}{fd:FuncData}{ps:eO}{sp sp':Sp} (F:FnOk q0 P w K mg base CX k f fd ps sp)
    (h:∀ vs H Q E,sp' vs H Q E->CA):FnOk q0 P w K mg base CX k f fd ps sp' :=
  ⟨λ vs H Q E q=>F.len vs H Q E zub,λ A outer s H args us vs Q E hr he hb hv hs=>F.run A outer s H args us vs Q E hr he hb hv (h _ _ _ _ hs)⟩
def Env0.make {P:Program}{w:World}{K:Zd}{mg:im}{base:Heap}{A:Around}{outer:oz}{s:Shared}{H:Hp} (e:Xr A) (C:Addr) (us:fD) (kw:E9) :
    Xr zzK:=(iC,by first|exact e.frames|(simpa [Around.under,Code.envs,Code.isFrame,pushEnvs] using e.frames),e.mod,e.bs,e.bsz,e.funs,e.frf,e.hok,e.bare)
section
variable {X:Cx}{pins:List (Addr × Obj)}{Z:St}{H:Hp}{s s':Shared}
def Inv.env0 (I:eR):Env0 X.prog X.w X.K X.mg X.base X.A X.stack s H :=
 iC I.ok.frames I.ok.mod I.bs zTU I.stack I.stkFree I.hok I.bare
def Inv.after {Q:VK}{u:Value} (I:eR) (h:CE X.stack X.prog X.w H s Q u s'):Sn u s':=by
 obtain⟨v,H',n,i,un,m,r,q⟩:86:=h;obtain⟨x,g,d,t,j⟩:=s';show(ij,j=s.os,n);exact(gU,v,H',I.call (h':=x) (g':=g) (d':=d) (t':=t) (ch:=[]) un m i zZh,r,q)
#check _
noncomputable def xty (sp:Sp) (dvs:eB) (E:A6) (t:TA):TE:=(Aa,vs,sp Ti H1 Q (E Z))
inductive xwe (C:Addr) (m:Str) (sp:Sp) (dvs:eB) (E:A6) (t:TA) (Z:St) (x:V) (H1:Hp) (Q:VK):Prop
 | mk (a dx fs) (e_:BJ) (r_:zTN/\zRh/\t Z H1 λ vs H2=>sp (x::Ti) H2 Q (E Z))
noncomputable def xup (C:Addr) (m:Str) (sp:Sp) (dvs:eB) (E:A6) (ta:TE) (t:TA):TE:=(zO,xwe C m sp dvs E t Z x H1 Q)
noncomputable def xud (C:Addr) (sp:Sp) (dvs:eB) (E:A6) (t:TA):TE:=λZ H Q=>t Z H λ vs H1=>∀ x dx,(U3 x)->(U3 dx)->dx≠x ->
 (zLc (upd H1 dx (.own x)) (λ v a=>v=.non/\Q mQ a))
noncomputable def xb2 (K:Zd) (fd:FuncData) (ps:eO) (ds:fD):Prop :=
 ∀(s:Shared) (us:fD),tO->(zeS M5)->(zgI (mh us) (ps.zip M5))
def xb2.all {K:Zd}{fd:FuncData}{ps:eO} (h:∀ us:fD,zDp fd):zgV:=λ s us _ b=>by
 rw[W2] at b ⊢;exact .of_eq (h us b)
noncomputable def xet (CX:CXT) (X:Cx) (E:A6):Prop:=∀(pins:fP) (Z:St) (H:Hp) (s:Shared) (e:Value) (s':Shared),(zF,CX X.stack H s (E Z) e s',X.xe e s')
section
variable {X:Cx}{CX:CXT}{k:Nat}{f C:Addr}{fd:FuncData}{ps:List Str}{sp:Sp}{dvs:List V}{ds:List Value}{E:St->XK}{x m:Str}{p pos apos:Pos}{e o:Expr}{es:List Expr}{ta:TE}{t:TA}
theorem xmz {pins:fP}{Z:St}{H:Hp}{s:Shared}{Q:VK}{us:fD}{vs:eB} (F:FnOk q0 X.prog X.w X.K X.mg X.base CX k f fd ps sp) (hr:zcs) (hb:zY) (hd:An) (hx:FM)
    (I:eR) (r:GD) (h:sp Ti H Q (E Z)):uY (call (.ref f) us):=by
  show(eC,r2,Vals Ti M5,r.append hd,j,zeS M5,(iz,r2.length,zxW h))
  refine Qc (Qi (F.run X.A X.stack s H (mh us) M5 Ti Q (E Z) hr I.env0 (hb s us I.kIn j) r2 h) (fJ r s' i));cases r with
  | error e=>exact hx pins Z H s e s' I i
  | ok fl =>
    cases fl with
    | ret u=>exact I.after i
    | next=>exact JP i
    | brk=>exact JP i
    | cont=>exact JP i
def xcr (F:FnOk q0 X.prog X.w X.K X.mg X.base CX k f fd ps sp) (hr:zcs) (hg:uq) (hm:KQ No) (hk:zTM) (hb:zY) (hd:An) (hx:FM)
    (ha:Az) (hdb:autoParam (qP) aDec._auto_1) (he:autoParam (xS) aRfl._auto_1) (hpl:autoParam ((Cy).any (·.1)=false) aRfl._auto_1) :
    Rv (xty sp dvs E t):=by
  ext zkN hk zGQ;exact xmz F hr hb hd hx j r q
def xag {pl:zga} (he:zfo) (c:Sl) (hm:zWJ) (F:FnOk q0 X.prog X.w X.K X.mg X.base CX k f fd ps sp) (hr:zcs) (hb:zY) (hd:An) (hx:FM) (ha:Az)
    (hst:autoParam (xS) aRfl._auto_1) (hpl:autoParam ((Cy).any (·.1)=false) aRfl._auto_1)
    (ht:autoParam (eval (C1 zog qw) X.env=(do
      let ov <- zjQ
      zPF
      let (f,first) <- zHJ
      zHW qw)) aRfl._auto_1) :
    zKU qw t:=by
  show(zIe,(sO,he j s Z H _ I h,u,D,P,B,J,hV a dx fs M O l q));ext tM M J;refine xis B O c hm l ?_;refine QL (first:=pK) (h₀:=X.base) I.ok.mod.kin hm.kp (iJ,ha pos j D Z P _ B q,us,R,vs,S,z,r,L,jF z.kIn) hst hpl;exact xmz (us:=fE::us) (vs:=fE::vs) F hr hb hd hx z (.cons rfl r) L
def xam {pl:zga} (he:zfo) (c:Sl) (hm:zWJ) (F:FnOk q0 X.prog X.w X.K X.mg X.base CX k f fd ps sp) (hr:zcs) (hb:zY) (hd:An) (hx:FM)
    (ht:autoParam (eval (C1 zog []) X.env=(do
      let ov <- zjQ
      zPF
      let (f,first) <- zHJ
      zHW [])) aRfl._auto_1) :
    zKU [] tNil:=by
  show(zIe,(sO,he j s Z H _ I h,u,J,L,y,z,hV a dx fs B D l q));ext tM B z;refine xis y D c hm l ?_;exact WH (first:=pK) y.kIn hm.kp (xmz (us:=pK) (vs:=pK) F hr hb hd hx y zXu q)
structure Mk (K:Zd) (C f:Addr):Prop where
 makes:C2 C
 init:znf
 fn:Ur
 kp:zXj
theorem xmf {pins:fP}{Z:St}{H:Hp}{s:Shared}{Q:VK}{us:fD}{vs:eB} (M:zvD) (F:FnOk q0 X.prog X.w X.K X.mg X.base CX k f fd ps sp) (hr:PN) (hb:zY) (hd:An)
    (hx:FM) (I:eR) (r:GD)
    (h:∀ x dx,(gb,gz x,zhZ,dx≠x,zLc (upd H dx (.own x)) (zRO mQ))) :
    uY zvx:=by
  show(eK,D,h nw s.heap.objs.size (I.hok.fresh (Y5 _)) xX zwL,B,Inv.made (C:=C) I);have r2:Vals (Ue,V.ref nw) zSh:=zLC;have O:zeS (zus++ds):=by
    have e:=r2.length;show(h7,zxW D,e,e.symm)
  refine Qc (xsl (f:=f) I.kIn M.makes M.init (beq_iff_eq.mp M.fn) (Qi (F.run _ X.stack _ _ (mh zus) zSh _ _ (E Z) zVH
    (B.env0.make C us []) (hb _ zus B.kIn O) r2 D) (rR r s')))
  cases r with
  | error e=>exact hx pins Z _ _ e s' B q
  | ok fl =>
    cases fl with
    | ret u =>
      show(o7,v,H',P,J,ev,L,B.after q);subst ev;show(fc,J,(jf,V.ref nw,H',P,L))
    | next=>exact JP q
    | brk=>exact JP q
    | cont=>exact JP q
def xeb (M:zvD) (F:FnOk q0 X.prog X.w X.K X.mg X.base CX k f fd ps sp) (hr:PN) (hg:uq) (hm:zgZ) (hb:zY) (hd:An) (hx:FM)
    (ha:Az) (hdb:autoParam (qP) aDec._auto_1) (he:autoParam (xS) aRfl._auto_1) (hpl:autoParam ((Cy).any (·.1)=false) aRfl._auto_1) :
    Rv (xud C sp dvs E t):=by
  show(zkN,M.kp,zGQ);exact xmf M F hr hb hd hx j r q
def xmu (M:zvD) (F:FnOk q0 X.prog X.w X.K X.mg X.base CX k f fd ps sp) (hr:PN) (hg:uq) (hm:zgZ) (hb:zY) (hd:An) (hx:FM)
    (hdb:autoParam (qP) aDec._auto_1):PE X (C1 zfu []) (xud C sp dvs E tNil):=by
  ext BH;ext zmX;exact WH I.kIn M.kp (xmf (us:=[]) M F hr hb hd hx I .nil h)
#check _
structure xz (N P:eO) (sc:Scope):Prop where
 kind:zSk
 co:zPN
 gen:zPM
 nd:N.Nodup
 pre:zPn
 par:zRm
 nofree:zHO
theorem xk2 {kindOf:zax}{x:Str}:(qaO,(∀ v,(x,v)∉binds)->bindL kindOf binds m x=m x)
 | [],_,_=>rfl
 | (n,v)::r,m,h=>by
  unfold bindL;rw[xk2 λ w b=>h w (Zm _ b)];split
  .ext zFY
  .rfl
theorem xke {kindOf:zax}{x:Str}:(qaO,(∀ v,(x,v)∉binds)->bindC kindOf binds m x=m x)
 | [],_,_=>rfl
 | (n,v)::r,m,h=>by
  unfold bindC;rw[xke λ w b=>h w (Zm _ b)];split
  .rfl
  .ext zFY
theorem xkq {kindOf:zax}{x:Str}{v:Value}:∀{P:List Str}{vs:List Value}{i:Nat}{m:Str->Option Value},P.Nodup->P[i]?=some x->vs[i]?=some v->kindOf x=some .local ->
    bindL kindOf (P.zip vs) m x=some v
  | [],_,_,_,_,h,_,_=>yg
  | gO,[],_,_,_,_,h,_=>yg
  | p::P,w::vs,0,m,nd,h1,h2,hk=>by
    ext zOl;ext zFA p;rw[xk2 λ v b=>(ZM.mp nd).1 (zSt).1,fe hk];simp
  | p::P,w::vs,f7,m,nd,h1,h2,hk=>by
    ext zFA x;exact xkq (i:=i) (zjV nd) zaE zpg hk
theorem xky {kindOf:zax}{x:Str}{v:Value}:∀{P:List Str}{vs:List Value}{i:Nat}{m:Str->Option Value},P.Nodup->P[i]?=some x->vs[i]?=some v->kindOf x≠some .local ->
    bindC kindOf (P.zip vs) m x=some v
  | [],_,_,_,_,h,_,_=>yg
  | gO,[],_,_,_,_,h,_=>yg
  | p::P,w::vs,0,m,nd,h1,h2,hk=>by
    ext zOl;ext zFz p;rw[xke λ v b=>(ZM.mp nd).1 (zSt).1,fH hk];simp
  | p::P,w::vs,f7,m,nd,h1,h2,hk=>by
    ext zFz x;exact xky (i:=i) (zjV nd) zaE zpg hk
noncomputable def start (N:eO) (vs:eB):St:=vs.map some++QK (N.length-vs.length) none
noncomputable def cxOf (q0:Bool) (CX:CXT) (P:Program) (w:World) (K:Zd) (mg:im) (base:Heap) (N:eO) (qual:Str) (scope:Scope) (f:Addr) (cd:Value) (A:Around) (outer:oz) (s:Shared) (H:Hp) (E:XK):Cx where
 prog:=P
 w:=w
 K:=K
 mg:=mg
 base:=base
 A:=A.deeper Fg
 N:=N
 s₀:=s
 H₀:=H
 env:=Fg
 outer:=outer
 stack:=Fg::outer
 ex:=[]
 calm:=q0
 fn:=Sr
 pn:=[]
 xe:=λ e s'=>wpAny CW (A.deeper Fg) (leaving Fg e) (λ_ s''=>CX outer H s E e s'') (λ e' s''=>CX outer H s E e' s'') s'
def xlw {sc:Scope}{n:Nat}{x:Str} (h:V9):∃ c,(cellsFrom n sc.names []).lookup x=some c:=by
 have q:=PySem.W.cellsFrom_some sc.names n [] (.inl h);exact Option.isSome_iff_exists.mp q
def xq7 {CX:CXT}{P:Program}{w:World}{K:Zd}{mg:im}{base:Heap}{N ps:eO}{qual:Str}{scope:Scope}{f:Addr}{cd:Value}{A:Around}{outer:oz}{s s1:Shared}{H:Hp}{E:XK}{us:fD}{vs:eB}
    (S:zYi) (hd:zYA) (e0:Xr A) (hl:GY vs.length) (r:GD)
    (x:InCallC s s.heap.objs.size (bindL (Fg).kindOf zfg j8) zJC (bindC (Fg).kindOf zfg j8) s1) :
    Inv (cxOf q0 CX P w K mg base N qual scope f cd A outer s H E) [] zeH H s1:=by
  have Y:ps.length<=N.length:=by show(FR,Em S.pre,JY); lia
  show(o6,R,tk,rfl,U,x.done)
  have D:∀ b:Addr,b∉(cxOf q0 CX P w K mg base N qual scope f cd A outer s H E).ex:=λ b z=>Ol (zgH ztT);refine⟨⟨e0.mod,S.kind,rfl,rfl,f8,fW y z c R B,eQ y J,λ y c _ h=>?_,hd,Around.frames_deeper e0.frames,.inr wT,zMY,e0.bs,e0.bsz,λ b _ _=>D b,zMY,e0.funs,e0.frf⟩,
    rfl,e0.bare,Un.kept U,(hB,x.toInCall.ns,iR i y v R B h3),λ y c h=>(mr,x.cell y c h),e0.hok.fresh (Zk _),fJ y c h,λ p M=>Ol (show p∈([]:fP) from M),e0.hok.kept U,?_⟩
  . exact name_of_addr x.apart (JW R) (JW B)
  . have J:scope.names.lookup y=some .cell\/scope.names.lookup y=some .free:=J
    rcases J with J|J
    . exact xlw J
    . exact absurd rfl (S.nofree _ (JW J))
  . exact Yl zQp
  . have Q:zuD:=by
      unfold start at B;by_cases Q:zuD
      . exact Q
      . rw[JF zUp] at B
        rw[Wo] at B;ext Ta B
    have Z:gf vs v:=by
      unfold start at B;rw[Jf zUp,Zf] at B;cases e:vs[i]? with
      | none=>ext uT B
      | some a=>ext gQ e B B; rfl
    show(eE,u,T,X,r.get Z);have M:gf ps y:=by
      rw[<- S.pre,List.getElem?_take_of_lt eA]; exact R
    have L:ps.Nodup:=by rw[<- S.pre]; exact S.nd.sublist zju
    ext kR u X;rcases S.par y (Zo M) with k|k
    . show(DS,k,xkq L M T k)
    . show(ou,c,xlw (n:=nw) k)
      show(uA,fh zjy c e ?_);have q:=x.cell y c e;show(h7,xky L M T (by show zOL≠_; rw[k]; decide),q,q)
  . exact e0.hok.fresh (Yl zQp)
  . unfold start
    show _=N.length;rw[Zt,Za,W5]
    lia
theorem xlg {CX:CXT}{P:Program}{w:World}{K:Zd}{mg:im}{base:Heap}{k:Nat}{f:Addr}{name qual:Str}{params:Arguments}{body:FZ}{scope:Scope}{dV kV doc pm cdv ct oc:Value}{an od:i5}
    {osl:zM}{N ps:eO}{sp:Sp} (lk:O6 (Jd name qual params body scope dV kV doc pm an cdv ct)) (hcd:OZ) (S:zYi)
    (len:Ig)
    (hbody:∀(A:Around) (outer:oz) (s:Shared) (H:Hp) (vs:eB) (Q:VK) (E:XK),(zqb (zmO scope cdv))->CA ->
      (Ox (cxOf q0 CX P w K mg base N qual scope f cdv A outer s H E) body)) :
    FnOk q0 P w K mg base CX iw f (Jd name qual params body scope dV kV doc pm an cdv ct) ps sp:=by
  show(nM,len,λ A outer s H aa us vs Q E Y T hb r M=>?_);have hl:=len _ _ _ _ M;have KX:tO:=T.mod.kin.keeps (Bq,(T.bs b o e).1);have X:s.heap.NoLimit:=T.mod.nolimit.keeps (Bq,(T.bs b o e).1);have B:∀ y∈zfg,(zlQ .local)\/((zlQ .cell)/\(lv ((zJC).lookup y.1))):=fun⟨n,v⟩ hy=>by
    rcases S.par n (List.of_mem_zip hy).1 with q|q
    . ext je q
    . show(iY,(xD,PySem.W.cellsFrom_some _ _ _ (.inl q)))
  refine codeAny_call_function Y.depth (KX _ _ lk) rfl S.co S.gen rfl (PySem.W.codeRec_of KX hcd) (hb _ _ _ _ ?_);refine wpAny_newFunctionEnv_cells S.kind B (ib env he Z x);subst he;show(nM,X.keeps x.toInCall.keep,codeAny_func ?_);show(eE,t,ht,hq,hbody A outer s H vs Q E (Y.deeper _) M);have I:Inv (cxOf q0 CX P w K mg base N qual scope f cdv A outer s H E) [] zeH H Z:=xq7 S Y.hd T hl r x;refine Ji (ht [] Z zeH H _ I hq) (fJ fl s' D) λ e s' D=>D;have O:∀{σ':St}{H':Hp}{v:V}{u:Value},(gb,Inv (cxOf q0 CX P w K mg base N qual scope f cdv A outer s H E) [] σ' H' s',sv,US,zLz) :=
    λ{σ' H' v u} J U q=>qJ v H' J.os J.bare J.base J.hok U q
  cases fl with
  | ret u =>
    show(yG,v,σ',H',J,U,q,D);exact O J U q
  | next =>
    ext NF J q D;exact O (v:=V.non) (u:=Jg) J rfl q
  | brk =>
    ext zKx
  | cont =>
    ext zKx
section
variable {X:Cx}{x:Str}{p pos:Pos}{e:Expr}{es:List Expr}{t:TA}{id T:String}{r:List V->Hp->VK->Prop}
noncomputable def tCB (r:zgJ eB) (t:TA):TE:=(Aa,vs,r vs H1 Q)
def xao (hc:xc0 X zBc r) (hg:uq) (hm:zjc) (hv:zag zBc) (ha:Az) (hn:autoParam (PX) aDec._auto_1) (hdb:autoParam (qP) aDec._auto_1)
    (he:autoParam (xS) aRfl._auto_1) (hpl:autoParam ((Cy).any (·.1)=false) aRfl._auto_1):zXe:=by
  ext zJf f;exact PyProof.Rows.callWith_builtin1 (iJ,zbJ f,us,j,vs,A,z,r1,q,hc f j Z A vs us Q z r1 q) he hpl
def xca (hc:xc0 X (.type T) r) (hg:uq) (hm:zjc) (hv:zag (.type T)) (ha:Az) (hn:autoParam (PX) aDec._auto_1) (hdb:autoParam (qP) aDec._auto_1)
    (he:autoParam (xS) aRfl._auto_1) (hpl:autoParam ((Cy).any (·.1)=false) aRfl._auto_1):zXe:=by
  ext zJf b;exact J9 (iJ,zbJ b,us,c,vs,j,i,r1,f,hc b c Z j vs us Q i r1 f) he hpl
#check _
#check L2
namespace HT
open PySem PyProof.Rows
section
variable {prog:Program}{w:World}{A:Around}{E:Value->Shared->Prop}{s:Shared}
theorem cat_tup {t b:Addr}{vs ws:fD}{Q:fM} (ht:IsTup s.heap t vs.toArray) (hb:IsTup s.heap b ws.toArray) (hv:vs≠[])
    (h1:ws=[]->Q DT s) (h2:ws≠[]->Q mE (zFR zTG))
    (hsz:(ju,vs.length+ws.length)):jQ (binaryOp .Add DT jD):=by
  obtain⟨⟨cls,L,data,H⟩,C,K,⟨n,J⟩⟩:63:=id ht;obtain⟨⟨M,B,D,m⟩,c,x,⟨I,v⟩⟩:63:=id hb;simp only at K J x v;subst K J x v;have e:vs.toArray++ws.toArray=zTG:=eS
  by_cases hw:ws=[]
  . exact concat_meets (jo C) (jo c) noFill_tuple_add seq_tuple_add PySem.F.slot_tuple_add PySem.F.entry_tuple_add zJp
      (tuple_addW1 t b vs.toArray ws.toArray n I L B H m zSz (ip hw)) (eG,C,c,h1 hw)
  . refine concat_meets (jo C) (jo c) noFill_tuple_add seq_tuple_add PySem.F.slot_tuple_add PySem.F.entry_tuple_add zJp
      (tuple_addW2 t b vs.toArray ws.toArray n I L B H m zSz (by simpa using hw) (yU Z9 Z9 hsz)) (nQ C c)
    rw[e];exact h2 hw
noncomputable def sIx (n d:Nat):p5->Nat
 | none=>d
 | ku=>zlp
def sIx_none (n d:Nat):sIx n d none=d:=rfl
def sIx_nat (n d k:Nat):sIx n d (some y9)=min k n:=by
 show (if (gk k)<0 then (y9+pF).toNat else min (y9).toNat n)=min k n;rw[Dm,Yy]
theorem xw5 (n d:Nat) (hd:d<=n) (o:p5):sIx n d o<=n:=by
 cases o with
 | none=>exact hd
 | some v =>
  show zlp<=n;by_cases hv:v<0
  .rw [fe hv]; lia
  .show(ie,fH hv,Nat.min_le_right _ _)
def xn4 (v:Int) (n d:Nat):zIx=(kh,sIx n d ku):=by
 show zIx=(kh zlp)
 by_cases hv:v<0
 .simp only [fe hv]; lia
 .simp only [fH hv]; lia
theorem xos (lo hi:p5) (n:Nat):Builtin.Slice.sliceAdjust lo hi 1 pF=(zbv,kh zvo):=by
 have b:¬ ((gk 1)<0):=eA
 unfold Builtin.Slice.sliceAdjust;simp only[b,if_false];refine Prod.ext ?_ ?_
 .cases lo with
  | none=>rfl
  | some v=>exact xn4 v n 0
 .cases hi with
  | none=>rfl
  | some v=>exact xn4 v n n
def xo3 (i j:Nat):Builtin.Slice.slicePlaces jT DX 1=j-i:=by
 unfold Builtin.Slice.slicePlaces;have b:Bi>0:=eA
 simp only[b,if_true,Int.ediv_one];ext rB
theorem xjl {v:Value}{o:p5}{Q:lK p5} (p:IsPart v o) (h:Q o s):jQ (Builtin.Slice.slicePartIndex v):=by
 cases p with
 | none=>exact slicePart_none h
 | int i t=>exact slicePart_int h
def xie {sl:Addr}{vl vu:Value}{lo hi:p5}{n:Nat}{Q:(lK,Int × Int × Nat)} (hs:zlB) (pl:zsI) (pu:zsK)
    (h:Q (zbv,1,zvo-sIx n 0 lo) s):jQ (Builtin.Slice.sliceApplied zAO (pure pF)):=by
  show(gP,v,b,q,m,id hs);unfold Builtin.Slice.sliceApplied Builtin.Slice.sliceFields;refine Zb (Zb (Jn b m (x:=vl) rfl (Zb (Jn b m (x:=vu) rfl (Zb (Jn b m (x:=.none) rfl Hw))))));refine Zb (slicePart_none ?_);show(tN,(La,rC Bi 0,_));ext lG eJ;show(fQ,xjl pl (Zb (xjl pu (Zb (Zh ?_)))));show(tN,(match Builtin.Slice.sliceAdjust lo hi 1 pF with|(lo,hi)=>pure (lo,Bi,Builtin.Slice.slicePlaces lo hi 1)));rw[xos lo hi n];show(tN,(pure (zbv,Bi,Builtin.Slice.slicePlaces zbv (kh zvo) 1)));ext N4 xo3 h
def xtc (xs:jM) (i k:Nat):((Zx k).filterMap zQR).toArray=((xs.toList.drop i).take k).toArray:=by
 have e:zQR=zVi:=by
  funext m;have:zNQ=i+m:=eA
  rw[this]
 rw[e];show(FR,pick_run xs i k,QN);have b:((λ x=>xs[x]?)∘λ x=>i+x)=zVi:=rfl;rw[b] at this;rw[this]
def getItem_tuple_cut {t sl:Addr}{items:jM}{vl vu:Value}{lo hi:p5}{Q:fM} (ht:IsTup s.heap t items) (hs:zlB) (pl:zsI) (pu:zsK)
    (hw:¬ (Cb=0/\EC=items.size))
    (h:Q mE (zFR,((zla).take (EC-Cb)).toArray))
    (hsz:ju items.size):jQ (getItem (.ref t) zAO):=by
  have v:sizeOk (.seq ((zla).take (EC-Cb)).toArray):=by
    show (ju,((zla).take (EC-Cb)).toArray.size);rw[Z9,JY,List.length_drop,Js]
    lia
  have R:EC<=items.size:=xw5 _ _ f8 hi;show(gP,J,B,D,K,id hs);have H:Fx sl "slice":=eG J B D
  unfold getItem
  try with_reducible refine Jv ?_
  first|ext Fv|skip
  show(fQ,wpAny_sequenceKey ht.typeIs eJ ?_);refine Zb (Ju (name:=Z2 "__getitem__") ht.typeIs Qr
    (Jt Qr ht.typeIs entry_tuple_getitem ?_ (args_tuple_getitem _ _)))
  show(tN,Builtin.Tuple.tupleItemsOf (.ref t)>>=_);show(fQ,tupleItemsOf_ ht ?_);show(fQ,QE H ?_);show(sQ,fe eJ,xie hs pl pu ?_);have C:¬ (zDE=true):=by
    intro q;rw[Z1,Z1] at q;show(eC,P,(kh Cb)=0,Qw (rT).1,M,EC-Cb=items.size,Qw q.2);exact hw (zh eA)
  show(tN,mG zDE _ _);rw[fH C,xtc]
  first
    | exact WU (JS (Zh zfs) v)
    | exact WU (JS (Zb (N6 zfs)) v)
    | exact Zb (WU (JS (N6 zfs) v))
    | exact Zb (WU (JS (Zh zfs) v))
#check _
#check HT
namespace L2
open PySem PySem.Spec PyProof.Rows
variable {q0:Bool}
noncomputable abbrev TO:=zgy (vQ p5)
noncomputable def PO (X:Cx) (e:iH Expr) (t:TO):Prop :=
 ∀(pins:List (Addr × Obj)) (s:Shared) (Z:St) (H:Hp) (Q:vQ p5),eR->MG ->
  (ww (evalPart e X.env) (λ u s'=>∃ o H',(zzH,IsPart u o,o)))
noncomputable def xwa:TO:=(NL,Q none H)
noncomputable def x01 (t:TE):TO:=(zZC,∃ i,x=fF/\Q y8 H1)
theorem xpc {ns:gK}:∀{us:fD},Vals (ns.map V.int) us->IntsAre us ns:=by
 induction ns with
 | nil=>intro us r; show(gQ,List.map_nil,r,r); ext mj
 | cons n ns ih =>
  intro us r;rw[Zs] at r;cases r with
  | cons r1 r2 =>
   ext ou t r1;ext iL;exact .cons n t (ih r2)
section
variable {X:Cx}{e:Expr}{te:TE}{lo hi:Option Expr}{tl th:TO}{pos p2:Pos}
def xhz:PO X none xwa:=by
 ext pQ a;show(N4,evalPart_none,zkg none .none)
def xhv (h:vt):PO X zjF (x01 te):=by
 ext Mj a c;rw[evalPart_some];show(qz,Tx a c,lW u m x j f r1 b ?_);show(eE,i,rfl,q,b);ext jq r1;exact(gU,y8,j,f,.int i t,q)
noncomputable def SlR (X:Cx) (r:ON):Prop :=
 ∀(pins:fP) (s:Shared) (Z:St) (H:Hp) (x:V) (v vl vu:Value) (lo hi:p5) (sl:Addr) (Q:VK),eR->yF->zlB->zsI->zsK->r x lo hi H Q ->
  ∃ T id,zJc/\qaH/\(uY (getItem v zAO))
noncomputable def tSl (r:ON) (te:TE) (tl th:TO):TE:=(rJ,te Z H λ x H1=>tl Z H1 λ l H2=>th Z H2 λ u H3=>r x l u H3 Q)
def xgz {r:ON} (hr:SlR X r) (he:vt) (hl:PO X lo tl) (hu:PO X hi th):PE X (.Subscript e zOp pos) (tSl r te tl th):=by
 ext pQ m;refine Subscript_ (sO (he m s Z H _ I h) v D H1 Y r1 K);refine wpAny_Slice (iJ,hl m D Z H1 _ Y K,B,C,l,H2,U,pl,J,iJ (hu m C Z H2 _ U J) vu s3 u H3 I3 pu q3 ?_);rw[evalPart_none];ext ud;have R:mW m H3 zkz:=I3.kept (t':=s3.toks) qcc;show(jb,T,id,P,L,M,hr m zkz Z H3 x v B vu l u s3.heap.objs.size Q R r1 (Heap.IsSliceOf.new ..) pl pu q3);show rW (subscriptTail e zOp v (.ref s3.heap.objs.size)) (EP X m Z Q) zkz;exact tail_any (ops:=[.ref s3.heap.objs.size,v]) L P M (by with_unfolding_all rfl)
noncomputable def cutV (xs:eB) (lo hi:p5):eB:=(xs.drop (HT.sIx xs.length 0 lo)).take (HT.sIx xs.length xs.length hi-HT.sIx xs.length 0 lo)
def xia (xs:eB) (lo hi:p5):Be (cutV xs lo hi) xs.length:=by
 unfold cutV;rw[JY,List.length_drop]
 lia
noncomputable def rSlT (K:Zd):ON:=λx b c H Q=>∃ a xs,x=fE/\KL /\
 ¬ ((zrB b)=0/\(znj c)=xs.length)/\(Fd (o9 H p (cutV xs b c)))
def xqd:SlR X (rSlT X.K):=by
 intro J s Z H x v U T C D Y Q I M S pl O h;show(o7,a,xs,rfl,P,R,q,h);cases M;show(gP,its,r,L,hz,I.tuple P);show(zy,B,its.toArray.size,xs.length,eP Z9 r.length.symm,⟨83, "tuple",_,Qr.lookup,L.typeIs,?_⟩);refine HT.getItem_tuple_cut L S pl O (eP B R) ?_ (eP B hz);rw[B];refine zcH (zlP,.tup (cutV xs C D));exact(fh,Z5 (xia xs C D) hz,_,(zOg C).take ((znj D)-(zrB C)),zZP)
inductive xk8 (K:Zd) (x:V) (y:V) (H:Hp) (Q:VK):Prop
 | mk (a b xs ys) (e_:BJ) (r_:gL y jD KL (fb,qbd,xs≠[],(ju,xs.length+ys.length),ys=[]->Q fE H,ys≠[]->(Fd (o9 H p (xs++ys)))))
theorem Vals.nil_iff {xs:eB}{us:fD} (r:rh):us=[]↔xs=[]:=by
 cases r with
 | nil=>simp
 | cons _ _=>simp
def xh0:OpR X (binaryOp .Add) (xk8 X.K):=by
 intro B s Z H x y v u Q I J D h;obtain⟨a,b,xs,ys,rfl,rfl,T,S,R,hz,M,L⟩:=h;ext BF J D;show(rX,its,r1,P,I.tuple T);show(rX,C,r2,O,I.tuple S);refine HT.cat_tup P O (λ z=>R (r1.nil_iff.mp z)) (λ z=>(HD,fE,M (r2.nil_iff.mp z))) yR (by rw[<- r1.length,<- r2.length]; exact hz);refine(jf,mE,_,(zlP,.tup (xs++ys)),L (λ w=>z (r2.nil_iff.mpr w)) _ xX);exact(fh,eP Zt hz,_,r1.append r2,zZP)
#check _
noncomputable def ixN (n:Nat) (i:Int):iH Nat:=if N8 then (Bg lS i.toNat) else (Bg,zyp,(i+n).toNat)
noncomputable def atI {α:Type} (xs:i7) (i:Int):iH α:=(zVd).bind λ j=>xs[j]?
def xwx {n:Nat}{i:Int}{j:Nat} (h:ixN n i=some j):(fS,zqU n j,j<n,zyp,lS):=by
 unfold ixN at h;by_cases h0:N8
 .show(lF,fe h0);by_cases h1:lS
  .show(zLA,i.toNat,seqIndex_of h0 h1,eA,h1)
  .show(Mc,fH h1)
 .show(lF,fH h0);by_cases h1:zyp
  .show(zLA,(i+n).toNat,seqIndex_neg eA h1,h1,eA)
  .show(Mc,fH h1)
theorem xj3 {α:Type}{xs:i7}{i:Int}{v:α} (h:ztN):∃ j,(fb,zqU xs.length j,hU xs v,j<xs.length,-gk xs.length<=i,zuM):=by
 unfold atI at h;cases e:zVd with
 | none=>ext uT h
 | some j =>
  rw[e] at h;show(NI,f,c,b,a,xwx e);exact hV 65 j f h c b a
def xdd {α:Type}{xs:i7}{j:Nat}{v:α} (h:hU xs v):yx xs DX v:=by
 have a:j<xs.length:=(Zi.mp h).1;have e:ixN xs.length DX=some j:=by
  unfold ixN;rw[TM,TM]; simp
 unfold atI; ext eY e h
noncomputable def xvl (b:Expr):Prop:=∀ o i,subscripted b false o i=(zwu [o,i] o i)
noncomputable def IxR (X:Cx) (r:R2):Prop :=
 ∀(value slice:Expr) (pins:fP) (s:Shared) (Z:St) (H:Hp) (x y:V) (v u:Value) (Q:VK),eR->yF->lz->r x y H Q ->
  subscripted slice false v u=(zwu [v,u] v u)->(uY (subscriptTail value slice v u))
noncomputable def MtR (X:Cx) (id:String) (r:Kd):Prop :=
 ∀(pins:List (Addr × Obj)) (s:Shared) (Z:St) (H:Hp) (x:V) (xs:List V) (v:Value) (us:List Value) (Q:VK),Inv X pins Z H s->RelV x v->Vals xs us->r x xs H Q ->
  zOi
section
variable {X:Cx}{a b:Expr}{ta tb:TE}{pos:Pos}
def xaa {r:R2} (hr:IxR X r) (ha:vj) (hb:CQ) (hs:xvl b):zry (.Subscript a b pos):=by
 ext pQ e;exact Subscript_ (zwm,λ v u f x y z n m j q=>hr a b e f Z z x y v u Q n m j q (hs _ _))
inductive rIxL (K:Zd) (x:V) (y:V) (H:Hp) (Q:VK):Prop
 | mk (p xs i v) (e_:x=iX) (r_:jH y fF zcW ztN Vk)
inductive rIxT (K:Zd) (x:V) (y:V) (H:Hp) (Q:VK):Prop
 | mk (p xs i v) (e_:x=iX) (r_:jH y fF zsY ztN Vk)
inductive rIxS (x:V) (y:V) (H:Hp) (Q:VK):Prop
 | mk (z i c) (e_:x=.str z) (r_:(jH,y,fF,zZL,yx z.cps.toList i c,Q zVm H))
def x8:IxR X (rIxL X.K):=by
 intro m B b s Z H x y v u Q I P O h J;ext zWw R T;cases P;ext jq O;ext zpW R;show(Hj,j,f,h2,h3,Y,U,xj3 T);show(eE,w,M,C,r.get h2);show(eK,S,r.length,hn,xgf);have c:EP X b Z Q w s:=BC z I C
 by_cases h0:N8
 .have D:i.toNat=j:=by
   rw[seqIndex_of h0 U] at f;exact ZR.inj f
  exact item_listR pl.isList h0 eA zMD c J
 .have D:(i+(gk its.toArray.size)).toNat=j:=by
   rw[seqIndex_neg eA Y] at f;rw[Z9,<- S];exact ZR.inj f
  exact subscriptTail_builtinR (x:=w) pl.isList.typeIs slot_list_getitem.lookup
   (wpAny_getItem_list_neg (Q:=zLG b) pl.isList eA zVu eA zMD (iW c)) J
def xcc:IxR X (rIxT X.K):=by
 intro b c a s Z H x y v u Q I B A h C;ext zWw D L;cases B;ext jq A;show(gP,its,r,pl,hz,I.tuple D);show(Hj,j,O,M,U,T,S,xj3 L);show(eE,w,P,f,r.get M);show(eK,J,r.length,R,xgf);have m:EP X a Z Q w s:=BC z I f
 exact subscriptTail_builtinR (x:=w) pl.typeIs slot_tuple_getitem.lookup
  (getItem_tuple (j:=j) (Q:=zLG a) pl eA eA (zYp J) zUo (iW m)) C
def xp1:IxR X rIxS:=by
 intro b m A s Z H x y v u Q I D C h J;obtain⟨z,i,c,rfl,rfl,hz,M,q⟩:=h;ext Mi D C;show(Hj,j,B,R,Y,P,O,xj3 M);have K:z.cps.toList.length=z.length:=ip Str.length
 rw[K] at B P O;have U:=xgf;exact tail_any (typeIs_str s z t) slot_str_getitem.lookup (getItem_str (c:=c) (by
  show(eC,T,K7 (i < -gk Nb),decide_eq_false eA,S,K7 (i>=Nb),decide_eq_false eA);rw[T,S,Bool.or_false]) (by rw[B]; simpa using R) (BC zVm rp lA)) J
def Inv.lst {pins:fP}{Z:St}{H:Hp}{s:Shared}{p:Addr}{xs:eB} (I:eR) (h:xK nG) :
    (zqH,FC/\(EU p WV)/\yb):=by
  show(zrv,uH p h);exact gU its n r e z
theorem xlj (lo hi:p5) (n:Nat):(gL,(zmG).1,(kh,HT.sIx n 0 lo),(fV zmG)=(kh,HT.sIx n n hi),(jr zmG)=1):=by
 show(jV,?_,?_,rfl)
 .cases lo with
  | none=>ext zYO
  | some i =>
   ext zCx
   .ext zTQ
   .ext zSi
 .cases hi with
  | none=>ext zYO
  | some i =>
   ext zCx
   .ext zTQ
   .ext zSi
def xk4 (its:fD) (lo hi:p5):slicePick its.toArray lo hi none=((its.drop (HT.sIx its.length 0 lo)).take (HT.sIx its.length its.length hi-HT.sIx its.length 0 lo)).toArray:=by
 show(nF,f,c,b,xlj lo hi its.toArray.size);unfold slicePick;rw[f,c,b];simp only[sliceRange_one,pick_run,Z9]<;>rfl
noncomputable def rSlL (K:Zd):ON:=(zWz,NH Ai (Fd (iE H p (cutV xs b c))))
theorem xnm:SlR X (rSlL X.K):=by
 intro B s Z H x v R P m A S Q I D O pl J h;show(jb,a,xs,rfl,M,q,h);cases D;show(gP,its,r,C,hz,I.list M);show(jG,c,r.length,⟨83, "list",_,slot_list_getitem.lookup,C.isList.typeIs,?_⟩);refine wpAny_getItem_list_slice C.isList O pl J .none eS ?_ zVu;rw[xk4,<- c];refine⟨83,mE,_,(zlP,.lst (cutV xs m A)),rfl,q _ xX⟩;show(fc,Z5 (xia xs m A) hz,(gM,_,0,(zOg m).take ((znj A)-(zrB m)),lY))
noncomputable def xf2:Ts
 | .non=>true
 | uB=>true
 | jC=>true
 | rH=>true
 | _=>false
noncomputable def eqV:Bx V V
 | .non,.non=>true
 | .bl a,mU=>M3
 | .bl a,zjD=>(ztA a) == b
 | .int a,mU=>a == (Ao 1 0)
 | .int a,zjD=>M3
 | Nk,Nx=>M3
 | _,_=>false
theorem xw4 {A:Around}{s:Shared}{y x:V}{u v:Value} (ry:lz) (rx:yF) (fy:qaY) (fx:zte):Z0 A s u v zAT:=by
 cases y with
 | non =>
  cases ry;cases x with
  | non=>cases rx; exact Z0.same _
  | bl b=>cases rx; exact Z0.none_bool b
  | int b=>ext jq rx; exact Z0.none_int b t
  | str b=>ext jq rx; exact Z0.none_str b t
  | _=>ext E5 fx
 | bl a =>
  cases ry;cases x with
  | non=>cases rx; exact Z0.bool_none a
  | bl b=>cases rx; exact Z0.bool_bool a b
  | int b=>show(LO,Z0.bool_int a b t)
  | str b=>show(LO,Z0.bool_str a b t)
  | _=>ext E5 fx
 | int a =>
  ext kQ ry;cases x with
  | non=>cases rx; exact Z0.int_none a t'
  | bl b=>cases rx; exact Z0.int_bool a t' b
  | int b=>show(LO,Z0.int_int a t' b t)
  | str b=>show(LO,Z0.int_str a t' b t)
  | _=>ext E5 fx
 | str a =>
  ext kQ ry;cases x with
  | non=>cases rx; exact Z0.str_none a t'
  | bl b=>cases rx; exact Z0.str_bool a t' b
  | int b=>show(LO,Z0.str_int a t' b t)
  | str b=>show(LO,Z0.str_str a t' b t)
  | _=>ext E5 fx
 | _=>ext E5 fy
noncomputable def eqU (x:V) (u:Value):Bool:=match u with
 | .none=>eqV .non x
 | zAC=>eqV (.bl b) x
 | .int i _=>eqV fF x
 | .str z _=>eqV (.str z) x
 | _=>false
theorem xrr {x y:V}{u:Value} (r:lz) (f:qaY):eqU x u=zAT:=by
 cases y with
 | non=>ext qK r
 | bl b=>ext qK r
 | int i=>ext Md
 | str z=>ext Md
 | _=>ext E5 f
theorem xj4 {x:V}:(zca,rh->zoX->us.any (eqU x)=zTr)
 | _,_,.nil,_=>rfl
 | y::xs,Vj,Ax,f=>by
  rw[YZ,Z1] at f;rw[Y1,Y1,xrr r f.1,xj4 t f.2]
theorem xig {A:Around}{s:Shared}{x:V}{v:Value} (rx:yF) (fx:zte):(zca,rh->zoX->∀ u∈us,Z0 A s u v (eqU x u))
 | _,_,.nil,_=>λ u b=>by cases b
 | y::xs,Vj,Ax,f=>λ h b=>by
  rw[YZ,Z1] at f;rcases GJ with rfl|b
  .show(ie,xrr r f.1,xw4 r rx f.1 fx)
  .exact xig rx fx t f.2 h b
noncomputable def inV (x:V) (xs:eB):Bool:=zTr
inductive rIn (K:Zd) (neg:Bool) (x:V) (y:V) (H:Hp) (Q:VK):Prop
 | mk (p xs) (e_:y=iX) (r_:fS (zcW\/zsY) zte zoX (uN (ztY,inV x xs)))
def xr3:Ad .In (rIn X.K false):=by
 intro m s Z H x y v u Q I j B h;obtain⟨p,xs,rfl,c,z,fs,q⟩:=h;cases B;rcases c with c|c
 .show(zaH,r,I.list c);refine SeqAt.in_listAt (eqU x) pl.isList (λ w f=>xig j z r fs w zbh) zvw;ext zFZ
 .show(zaH,r,I.tuple c);refine SeqAt.in_tupleAt (eqU x) pl (λ w f=>xig j z r fs w zbh) zvw;ext zFZ
def xcg:(zvc,∃ p ys,gL xs [iX] zGZ (ub ys.length)):=by
 ext sV x;show(jb,p,ys,rfl,m,q,h);show(eE,u,rfl,y,xdm r);cases y;have z:=xgf;rcases m with m|m
 .show(zaH,v,I.list m);have j:=v.length;exact Calls.call_len_list pl.isList XJ zFq
 .show(zaH,v,I.tuple m);have j:=v.length;exact len_tuple pl XJ zFq
def xg4:(zvc,∃ z,gL xs [.str z] zZL (ub z.length)):=by
 ext sV a;show(gP,z,rfl,hz,q,h);ext zIZ;have c:=xgf;exact len_str eA (Fl z.length)
theorem xhg:(Cm,zuO,∃ p ys,(gL,xs,[iX],zGZ,∀ l,qg->Q gS zuf)):=by
  ext sV v;show(jb,p,ys,rfl,B,q,h);show(eE,u,rfl,P,xdm r);cases P;have D:∀(its:fD),Vals ys its->zrm->∀(h':Heap) (m:Nat),(∀ b o',s.heap.get? b=some o'->(zrN o')) ->
      (zKh (zSy,none,.seq its.toArray m,#[]))->EP X v Z Q mE kZ:=λ its c hz h' m x e =>
    (zcH,qaN x (show Rk _ _ ziq from ⟨hz,gM its m c e⟩))
  rcases B with B|B
  . show(gP,its,c,pl,hz,I.list B)
    show(zMr,O,M,pl.isList)
    exact call_list_seq p jO J O M (zRt x e) XJ
  . show(gP,its,c,pl,hz,I.tuple B)
    ext zMr O M pl;exact call_list_seq p C7 J O M (zRt x e) XJ
noncomputable def tyV (K:Zd) (T:String) (x:V) (H:Hp):Prop:=match x with
  | rH=>T="str"
  | jC=>T="int"
  | iX=>(T="list"/\∃ xs,zcW)\/(T="tuple"/\∃ o,(zbq p)/\qbs/\zuz) \/
      (T="dict"/\((∃ kvs,xK pA)\/∃ kvs,xK vw))\/(T="set"/\∃ S n,xK (.set S n))
  | _=>False
theorem xrj {pins:fP}{Z:St}{H:Hp}{s:Shared}{T:String}{x:V}{v:Value} (I:eR) (r:yF) (ty:tyV X.K T x H) :
    qaH/\∀ a,v=fE->(zVt (zoL ob)):=by
  cases x with
  | str z =>
    ext jq r;cases (kM T "str" ty);show(fc,typeIs_str s z t,zTO)
  | int i =>
    ext jq r;cases (kM T "int" ty);show(fc,typeIs_int s i t,zTO)
  | ref p =>
    cases r;rcases ty with⟨rfl,xs,hq⟩|⟨rfl,o,hk,hc,j⟩|⟨rfl,hk⟩|⟨rfl,S,n,hk⟩
    . obtain⟨its,_,pl,_⟩:63:=I.list hq
      show(rQ,pl.isList.typeIs,a,e);ext mC;obtain⟨o,n,e,c,j,_⟩:84:=pl;ext fU o e j
    . show(rQ,(wa,I.kIn p o hk,hc),a,e)
      ext mC;show(fU,o,I.kIn _ o hk,j)
    . have z:∃ o,(EK p)/\o.ExactDict:=by
        rcases hk with⟨kvs,hk⟩|⟨kvs,hk⟩
        . ext zFt
          exact pR o e b
        . ext zFt
          ext fU o e b
      ext eE o e b z;ext zFW
    . obtain⟨o,_,_,_,e,b,_⟩:123:=uH p hk
      ext zFW
  | _=>exact JP ty
noncomputable def tBM0 (K:Zd) (T:String) (r:Kd) (to:TE):TE:=(zIr,r x [] H1 Q)
noncomputable def tBM (K:Zd) (T:String) (r:Kd) (to:TE) (t:TA):TE:=(zIr,t Z H1 λ xs H2=>r x xs H2 Q)
variable {o e:Expr}{es:List Expr}{to:TE}{t:TA}{name:Str}{apos cpos:Pos}{T id:String}{r:V->List V->Hp->VK->Prop}
def xmm (pa:ztl) (slot:zqL) (hty:zkO) (hm:zvm) (ho:FW)
    (hbase:autoParam (zwW) aRfl._auto_1) (hline:autoParam (ED) aRfl._auto_1):Hh name [] (tBM0 X.K T r to):=by
  ext BH;refine Wl hbase hline (thn (K4 c) λ v m ⟨1084,x,D,f,r1,j,q⟩=>?_);show(Au,B,z,xrj f r1 j,(qJ,T,id,pa,slot,hty,B,z,JI rfl (WF (hm c m Z D x [] v [] Q f r1 .nil q))))
def xfz (pa:ztl) (slot:zqL) (hty:zkO) (hm:zvm) (ho:FW) (ha:Az)
    (hbase:autoParam (zwW) aRfl._auto_1)
    (hfew:autoParam (((M9 qw).all (λ x=>! gG)&&(zfh).all (λ x=>zft)
      && (VU qw))=true) aRfl._auto_1)
    (hline:autoParam (ED) aRfl._auto_1) (hs:autoParam (xS) aRfl._auto_1) (hplain:autoParam ((ztd).any (·.1)=false) aRfl._auto_1) :
    Hh name qw (tBM X.K T r to t):=by
  ext BH;refine wpAny_Call_method_late hbase hfew hline rfl (thn (K4 c) λ v B ⟨1084,x,U,j,r1,q,J⟩=>?_);show(CC,O,M,xrj j r1 q,⟨86,T,id,pa,slot,hty,O,M,?_⟩);have f:=ha cpos c B Z U _ j J;rw[hs] at f ⊢;refine JI (by show (false||(ztd).any (·.1))=false; rw[hplain]<;>rfl) (YN ?_);exact thn f (lW,us,z,vs,R,P,r2,D,hm c z Z R x vs v us Q P r1 r2 D)
#check _
noncomputable def MtM (X:Cx) (id:String) (r:Kd):Prop :=
 ∀(pins:List (Addr × Obj)) (s:Shared) (Z:St) (H:Hp) (x:V) (xs:List V) (v:Value) (us:List Value) (Q:VK),Inv X pins Z H s->RelV x v->Vals xs us->r x xs H Q ->
  zOi
theorem Vals.one {x:V}{us:fD} (h:zr [x]):zQt:=by
 cases h with
 | cons r q =>
  cases q;exact h8 r
theorem Vals.zero:∀{us:fD},(zr [])->us=[]
 | _,.nil=>rfl
theorem Vals.eraseIdx:∀{xs:eB}{us:fD} (i:Nat),rh->Vals (xs.eraseIdx i) (us.eraseIdx i)
 | _,_,_,.nil=>.nil
 | _,_,0,Si=>t
 | _,_,f7,Ax=>.cons r (Vals.eraseIdx i t)
theorem xkm {α:Type}:∀(l:i7) (i:Nat),Be qbJ l.length
 | [],_=>f8
 | gO,0=>Y5 _
 | _::r,f7=>Nat.succ_le_succ (xkm r i)
section
variable {X:Cx}{pins:List (Addr × Obj)}{Z:St}{H:Hp}{s:Shared}{l b:Addr}{xs ys zs:List V}
def Inv.lset {its its':fD}{n:Nat}{f:jM->jM}{t':Nat} (I:eR) (hH:GC)
    (e:EU l WV) (hf:f its.toArray=its'.toArray) (hv:Vals ys its') (hz:zrm) :
    sG zuf (zny,s.heap.update l (Y7 f)):=by
  show(lM,q,PySem.IsL.update e f,hf);refine I.write (x:=l) (e:=l) (eP hH trivial) jO (λ j u c b=>(Jm s.heap (Y7 f) (Zz c)).trans b) (mr q) ?_;show(fc,hz,gM its' _ hv q)
def Inv.lnew {its:fD}{t':Nat} (I:eR) (hv:Vals ys its) (hz:zrm) :
    sG (iE H s.heap.objs.size ys) (zny,s.heap.push (jt,"list",.seq its.toArray)) :=
  I.laid zuK f8 ⟨hz,gM its 0 hv lY⟩
def Inv.fresh (I:eR):zNK:=xX
def Inv.lstM (I:eR) (hH:GC):yb/\(zqH,FC/\xs.length=its.length/\(EU l WV)):=by
 show(zrv,uH l hH);show(fc,z,gU its n r r.length e)
#check _
section
variable {X:Cx}
inductive xv1 (x:V) (vs:eB) (H:Hp) (Q:VK):Prop
 | mk (l xs y) (e_:x=gS) (r_:(jH,vs,[y],GC,Km,Q .non (iE H l Tk)))
def xcy:MtM X "list.append" xv1:=by
 intro b s Z H x vs v us Q I j m h;obtain⟨l,xs,y,rfl,rfl,f,hz,q⟩:=h;cases j;show(eE,u,rfl,B,m.one)
 show(IT,C,I.lstM f);refine call_meets F.slot_list_append (jo e) F.entry_list_append (F.args_list_append_2 _ _) (PySem.list_append l its.toArray n u zAj) (jF e);refine(jf,.non,_,I.lset (its':=its++[u]) f e eS (r.append (.cons B .nil)) ?_,q);rw[Zt,ZZ]
 lia
noncomputable def xxl:Kd:=λ x vs H Q=>∃ l xs i k y,(jH,x,gS,vs=[fF],GC,(fb,-Nb<=i,i<Nb,zqU xs.length k,sZ xs y,Q y (jj l (.lst (xs.eraseIdx k)))))
def xsa:MtM X "list.pop" xxl:=by
 intro c s Z H x vs v us Q I m C h;obtain⟨l,xs,i,k,⟨y,rfl,rfl,j,R,P,O,J,q⟩⟩:121:=h;cases m;show(eE,u,rfl,D,C.one)
 ext jq D;show(IT,L,I.lstM j);show(eE,w,K,b,r.get J);refine call_meets F.slot_list_pop (jo e) F.entry_list_pop (F.args_list_pop_2 _ _)
  (MeetsSeq.list_pop_at l its.toArray n i t k w (fitsIndex_both R P) (zYp L) (iz J7 K) zAj) (jF e)
 refine(gU,y,_,I.lset (its':=its.eraseIdx k) j e ?_ (r.eraseIdx k) ?_,b,q)
 .show its.toArray.eraseIdxIfInBounds k=(its.eraseIdx k).toArray;rw[List.eraseIdxIfInBounds_toArray]
 .show(iP,xkm xs k)
noncomputable def xyb:Kd:=λ x vs H Q=>∃ l xs,(jH,x,gS,vs=[],GC,Q .non (uI H l))
def xio:MtM X "list.clear" xyb:=by
 intro f s Z H x vs v us Q I m p h;show(o7,l,xs,rfl,rfl,j,q,h);cases m;have b:=p.zero;subst b;show(IT,u,I.lstM j);refine call_meets F.slot_list_clear (jo e) F.entry_list_clear (F.args_list_clear_1 _) (AutoSeq1.list_clear_list_0 l its.toArray n zAj) (jF e);exact(jf,.non,_,I.lset (its':=[]) (ys:=[]) j e rfl .nil lQ,q)
inductive rCat (x:V) (y:V) (H:Hp) (Q:VK):Prop
 | mk (l b xs zs) (e_:x=gS) (r_:(fb,y=jD,GC,pP zhy,(ju,xs.length+zs.length),Fd (iE H p (xs++zs))))
def xi0:Rq .Add rCat:=by
 intro j s Z H x y v u Q I B m h;obtain⟨l,b,xs,zs,rfl,rfl,D,J,hz,q⟩:=h;ext BF B m;show(IT,S,I.lstM D);obtain⟨O,c,R,r2,C,L⟩:=I.lstM J;refine PySem.P.add_list e L ?_ (MY Z9 Z9);have K:its.toArray++c.toArray=(its++c).toArray:=eS
 rw[K];exact(jf,.ref _,_,I.lnew (t':=s.toks) (r.append r2) Tq,q _ I.fresh)
#check _
section
variable {κ:Type} [DecidableEq κ]
noncomputable def valV (kvs:j7) (k:κ):iM:=(kvs.find? λ b=>zsZ).map (·.2)
noncomputable def putK (kvs:j7) (k:κ) (v:V):j7 :=
 if (zwx,λ b=>zsZ) then kvs.map (λ b=>oZ b.1 k (b.1,v) b) else kvs++[zj]
noncomputable def xc5 (kvs:j7) (k:κ):j7:=kvs.filter λ a=>HF a.1 k
def xbx {p:zzY}{r:j7}{k:κ} (e:fK=k):valV vT k=some jJ:=TR valV e
def xbh {p:zzY}{r:j7}{k:κ} (e:¬ fK=k):valV vT k=valV r k:=TR valV e
theorem xd6 (k:κ):∀ kvs:j7,(kvs.any zqr)=zxu
 | []=>rfl
 | vT=>by
  rw[Y1];ext FQ
  .simp only [Hx,zUy,Bool.true_or,Option.isSome_some]
  .rw [D7,decide_eq_false e,Bool.false_or]; exact xd6 k r
theorem xl5 (k j:κ) (y:V):∀ kvs:j7,valV (kvs.map λ kv=>znT) j=(zvX).map λ x=>oZ j k y x
 | []=>rfl
 | vT=>by
  have b:=xl5 k j y r;rw[Zs];by_cases h:fK=k
  .rw [fe h];ext zzj
   .rw [xbx (p:=(fK,y)) e,Hx,Q9,if_pos (e.symm.trans h)]
   .rw [xbh (p:=(fK,y)) e,D7,b]
  .ext mz h;ext zzj
   .rw [xbx (p:=p) e,Hx,Q9,(pW,h (e.trans z))]
   .rw [xbh (p:=p) e,D7,b]
theorem xkn (k j:κ) (y:V):∀ kvs:j7,zoN->(zUH (kvs++[(k,y)]))
 | [],_=>by
  by_cases e:k=j
  .show(ie,fe e.symm,xbx (p:=(k,y)) e)
  .show(ie,(pW,e z.symm),xbh (p:=(k,y)) e)
 | vT,hn=>by
  rw[List.cons_append];show(kS,b,¬ fK=k,(NC,xbx z,hn))
  rw[xbh b] at hn;have f:=xkn k j y r hn;ext zzj
  .rw [Hx,Hx,(pW,b (e.trans z))]
  .rw [D7,D7,f]
theorem xdf (kvs:j7) (k j:κ) (y:V):zUH zsL:=by
 unfold putK;by_cases a:(zwx,λ c=>i9 uS k)
 .rw [if_pos a,xl5];rw[xd6] at a;by_cases e:j=k
  .obtain ⟨x,h⟩:=Option.isSome_iff_exists.mp a;rw[Nj,e,h,Q9,iT]
  .ext mz e;cases zvX with
   | none=>rfl
   | some x=>rw[Q9,fH e]
 .rw [zyS];refine xkn k j y kvs ?_;rw[xd6] at a;cases q:wO with
  | none=>rfl
  | some x=>show(h7,q,a,(a rfl).elim)
def xb3 (kvs:j7) (k:κ) (v:V):(Be,Fu,kvs.length+1):=by
 unfold putK;split
 .rw [Za]; lia
 .rw [Zt,ZB,QB]; lia
def xdr {kvs:j7}{k:κ} (v:V) (h:zoN):Fu=kvs++[zj]:=by
 unfold putK;rw[xd6,h];exact if_neg eJ
theorem RelO.isSome_eq {o:iM}{u:CJ} (r:RelO o u):o.isSome=u.isSome:=by
 cases o with
 | none=>cases u with
  | none=>rfl
  | some _=>ext I0
 | some _=>cases u with
  | none=>ext I0
  | some _=>rfl
theorem RelO.getD {o:iM}{u:CJ}{d:V}{d':Value} (r:RelO o u) (rd:RelV d d'):zzO d (u.getD d'):=by
 cases o with
 | none=>cases u with
  | none=>exact rd
  | some _=>ext I0
 | some _=>cases u with
  | none=>ext I0
  | some _=>exact r
theorem KV.val {kvs:j7}{vs:Ae} (r:tW) (k:κ):RelO wO (valueAt vs k):=by
 ext zgq
 induction r with
 | nil=>exact Jq
 | @cons p q ps qs h t ih =>
  obtain⟨f,i⟩:=h;ext FQ
  .show(zGC,valueAt xA k,valueAt)
  .show(eC,c,zxv,zow,b,valueAt xA k=valueAt qs k,TR valueAt c)
   ext ig D7 b ih
theorem KV.any {kvs:j7}{vs:Ae} (r:tW) (k:κ):(kvs.any zqr)=vs.any λ kv=>i9 vV k:=by
 ext zgq
 induction r with
 | nil=>rfl
 | cons h t ih=>rw[Y1,Y1,ih,i0]
theorem KV.repl {kvs:j7}{vs:Ae} (r:tW) (k:κ) {y:V}{u:Value} (ry:lz) :
    KV (kvs.map λ kv=>znT) (vs.map λ kv=>oZ vV k (vV,u) kv):=by
  unfold KV at r ⊢
  induction r with
  | nil=>ext mj
  | @cons p q ps qs h t ih =>
    rw[Zs,Zs];ext zuV;ext U8 f h;ext FQ
    . rw[Nj,zLR]; ext fc b ry
    . rw[fH e,zRe]; ext fc b f
def KV.put {kvs:j7}{vs:Ae} (r:tW) (k:κ) {y:V}{u:Value} (ry:lz):KV zsL (stored vs k u):=by
 unfold putK stored;rw[r.any k];by_cases e:(vs.any λ b=>zsZ)=true
 .rw [fe e,Nj]; exact r.repl k ry
 .rw [fH e,fH e]; exact Paired.snoc r (iW ry)
theorem KV.drop {kvs:j7}{vs:Ae} (r:tW) (k:κ):KV FX (without vs k):=by
 unfold KV at r ⊢;unfold xc5 without
 induction r with
 | nil=>ext mj
 | @cons p q ps qs h t ih =>
  obtain⟨f,j⟩:=h;rw[Wj,Wj];ext FQ
  .show(eC,a,¬ (zeV (fK≠k)),ip e,b,¬ (zeV (rT≠k)),ip zXQ)
   show(ig,zyS,fH b,ih)
  .show(gq,u,zxv,zow,a,zeV (fK≠k),ip e,b,zeV (rT≠k),ip u)
   rw[if_pos a,fe b]; show(uD,⟨f,j⟩,ih)
theorem KV.keys {kvs:j7}{vs:Ae} (r:tW):kvs.map (·.1)=vs.map (·.1):=by
 ext zgq
 induction r with
 | nil=>rfl
 | cons h t ih=>rw[Zs,Zs,ih,i0]
def KV.length {kvs:j7}{vs:Ae} (r:tW):kvs.length=vs.length:=YC r
def xmg (kvs:j7) (k:κ):Be FX kvs.length:=xb
#check _
theorem xdw {P:Program}{w:World}{k:Key}{u:Value} (r:zsb):(yS).is k u=true:=by
 cases k with
 | inl i=>show(ou,t,L8 KC); ext iL; exact xm3 P w i t
 | inr x=>show(ou,t,L8 zct); ext iL; exact xm5 P w x t
theorem xkp {P:Program}{w:World}:∀{ks:jA}{us:fD},Vals (ks.map kV) us->ItemsAre yS ks us
 | [],_,r=>by show(gQ,List.map_nil,r,r); ext mj
 | k::ks,_,r=>by
  rw[Zs] at r;cases r with
  | cons h t=>exact .cons (xdw h) (xkp t)
noncomputable abbrev KT (H:Hp):iA i4 wJ:=Paired λ p q=>gL fK rT (fO (fV q) (.tup ((fK).map kV))) zXw
theorem KT.val {H:Hp}{kvs:i4}{xs:wJ} (r:K5) (k:jA):RelO wO ((zeo).map (·.2)):=by
 induction r with
 | nil=>exact Jq
 | @cons p q ps qs h t ih =>
  obtain⟨f,_,i⟩:43:=h;ext FQ
  .show(zGC,atKey xA k,atKey)
  .show(eC,c,zxv,zow,b,atKey xA k=atKey qs k,TR atKey c)
   ext ig D7 b ih
theorem KT.repl {H:Hp}{kvs:i4}{xs:wJ} (r:K5) (k:jA) {y:V}{u:Value} (ry:lz) :
    KT H (kvs.map λ kv=>znT) (xs.map (putAt k u)):=by
  induction r with
  | nil=>ext mj
  | @cons p q ps qs h t ih =>
    rw[Zs,Zs];ext zuV;ext nF b f j h;unfold putAt;ext FQ
    . rw[Nj,zLR]; ext fU b f ry
    . rw[fH e,zRe]; ext fU b f j
def KT.put {H:Hp}{kvs:i4}{xs:wJ} (r:K5) (k:jA) {b:Addr}{y:V}{u:Value} (hb:Mx) (ry:lz) :
    KT H zsL (storedH xs k b u):=by
  have e:(kvs.any zqr)=(zeo).isSome:=by
    rw[xd6,(r.val k).isSome_eq,QV]
  unfold putK storedH;rw[e];by_cases q:lv zeo
  . rw[DM,DM]; exact r.repl k ry
  . rw[DL,DL]; exact Paired.snoc r (Eg hb ry)
def KT.keeps {H H':Hp}{kvs:i4}{xs:wJ} (r:K5) (ht:∀ b ys,zkp (.tup ys)):KT H' kvs xs :=
 Paired.mapP r (Hs zIK)
section
variable {P:Program}{w:World}{H:Hp}{h:Heap}{a:Addr}
def xuo {u:HO} (ok:sH) (e:Rd H a u):xbe P w H h a u:=e.ok ok
def xfe {kvs:gD} (ok:sH) (e:zaX):zlu :=
 (zam,pA,xuo ok e)
def xhs {kvs:gD} (ok:sH) (e:GE):zlu:=xfe ok (.inl e)
def xdz {ks:jA} (ok:sH) (e:pL zbe):(zoc).is h ks a:=by
 obtain⟨_,its,r,o,f,c,n,b⟩:=(zam,zbe,ok a _ e)
 exact sU o its.toArray n f c b (Cv,xkp r)
def xf7 {kvs:i4} (ok:sH) (e:zpH):Kf/\Np /\
    zIt:=by
  obtain⟨z,y,⟨xs,r,o,C,I,B,A,v,u,j⟩⟩:43:=(zam,vw,xuo ok e)
  refine gF z y xs r ⟨106,o,C,I,B,A,v,u,eQ x b,j⟩;have all:∀{l:i4}{m:wJ},KT H l m->∀ x∈m,(zoc).is h gG iG:=by
    intro l m q
    induction q with
    | nil=>intro x b; exact nomatch b
    | @cons p q ps qs hq t ih =>
      intro x b;rcases GJ with e|b
      . ext iL
        exact xdz ok (iz,hq.1,fV hq)
      . exact ih x b
  exact all r x b
def xlb {kvs:i4} (ok:sH) (e:Ms):Kf/\Np /\
    zIt:=xf7 ok (.inl e)
#check _
noncomputable def DGet (H:Hp) (a:Addr) (y:V) (r:iM):Prop :=
 (∃ kvs k,zaX/\zfP/\r=wO)\/∃ kvs k b,(fS,zpH,y=jD,Mx,r=wO)
noncomputable def DPut (H:Hp) (a:Addr) (y v:V) (H':Hp):Prop :=
 (∃ kvs k,(fS,GE,zfP,PJ,H'=(oC H a Fu))) \/
 ∃ kvs k b,(fb,Ms,y=jD,Mx,PJ,H'=(rF H a Fu))
def DGet.k {H:Hp}{a:Addr}{kvs:gD}{k:Key} (e:GE):DGet H a N9 wO:=.inl (jf kvs k zjx rfl)
def DGet.t {H:Hp}{a b:Addr}{kvs:i4}{k:jA} (e:Ms) (eb:Mx):DGet H a jD wO:=.inr ⟨104,kvs,k,b,zjx,rfl,eb,rfl⟩
def DPut.k {H:Hp}{a:Addr}{kvs:gD}{k:Key}{v:V} (e:GE) (hl:PJ):DPut H a N9 v (oC H a Fu):=.inl (qI kvs k e rfl hl rfl)
def DPut.t {H:Hp}{a b:Addr}{kvs:i4}{k:jA}{v:V} (e:Ms) (eb:Mx) (hl:PJ) :
    DPut H a jD v (rF H a Fu):=.inr (zE kvs k b e rfl eb hl rfl)
section
variable {X:Cx}{pins:List (Addr × Obj)}{Z:St}{H:Hp}{s:Shared}{a:Addr}{y v:V}{u r:Value}{o:Option V}{A:Around}{E:Value->Shared->Prop}
def Inv.big (I:eR):tK sysModules:=by
 have h:tK mainGlobals:=(I.mod.glob.keeps I.bk).lt;exact ZQ eJ h
def xko {Q:fM} (hu:EW) (I:eR) (g:DGet H a y ku) (ry:lz) (h:O3 ML zxm) :
    DC (getItem fE u):=by
  rcases g with⟨kvs,k,e,ey,l⟩|⟨kvs,k,b,e,ey,eb,l⟩
  . ext znp D B;show(eE,w',q,c,(zoJ,valueAt vs k,zMn));exact wpAny_getItem_of DG B.mapOf q (h w' _ rp c)
  . ext zkZ D B;obtain⟨w',q,c⟩:62:=RelO.some_of (v:=v) (o:=(zeo).map (·.2)) zMn;show(eE,p,C,x,Zg.mp q);refine wpAny_getItem_heap Vr Fs B C ?_;show(eY,x,h w' _ rp c)
def d_in {Q:fM} (hu:EW) (I:eR) (g:Rm) (ry:lz) (h:zQX o.isSome) :
    zWP .In:=by
  rcases g with⟨kvs,k,e,ey,l⟩|⟨kvs,k,b,e,ey,eb,l⟩
  . ext zJU;refine wpAny_in_of DG j x.mapOf ?_;ext zrJ zof
  . ext zEv;refine wpAny_in_heap Vr Fs j x ?_;ext zSW
def xuu {Q:fM} (hu:EW) (I:eR) (g:Rm) (ry:lz) (h:zQX (! o.isSome)) :
    zWP .NotIn:=by
  rcases g with⟨kvs,k,e,ey,l⟩|⟨kvs,k,b,e,ey,eb,l⟩
  . ext zJU;refine wpAny_notIn_of DG j x.mapOf ?_;ext zrJ zof
  . ext zEv;refine wpAny_notIn_heap Vr Fs j x ?_;ext zSW
def xew {h':Heap}{t':Nat}{ob:HO} (I:eR) (mu:Mut (H a)) (hs:zqY) (he:Xi) (new:Rk (jj a ob) a ob) :
    sG (jj a ob) MK :=
  I.write (x:=a) (e:=a) mu jO (λ b q c z=>(hs.2 b c).trans z) he new
def xje {P:Program}{w:World}{H':Hp}{h':Heap}{kvs:gD}{vs:zbO} (z:Kf) (hd:Np) (rel:tW) (dd:h'.DictOf yS a vs) :
    xbe P w H' h' a pA:=gF z hd vs rel dd
def xkv {H':Hp}{Q:oq} (hu:EW) (I:eR) (g:zVI) (ry:lz) (rv:RelV v r) (h:PY MJ) :
    DC (setItem fE u r):=by
  rcases g with⟨kvs,k,e,ey,l,eH⟩|⟨kvs,k,b,e,ey,eb,l,eH⟩
  . subst ey eH
    show(qS,D,vs,j,J,xhs I.hok e);show(zNC,j.length,wpAny_setItem_pairs (hsz:=hz) DG J zTR);have L:Xi:=let ⟨q,_,_,x,_⟩:=m; zje;exact xew I vk B L (xje C D (j.put k rv) m)
  . subst ey eH
    cases (LJ,u=Zl b);show(qS,D,xs,j,J,xlb I.hok e);show(rq,hz,yb,(iz,YC j,z),C,zpP,zpO,wpAny_setItem_heap (hsz:=hz) Vr Fs J zTR);obtain⟨q,S,T,x,R,P,O,_,M⟩:106:=m;refine xew I vk B zje (gF,C,D,_,(j.put k eb rv).keeps (fJ c ys K),zE q S T x R P O M);show(lC,xej K e nB,K)
#check _
section
variable {X:Cx}{pins:List (Addr × Obj)}{Z:St}{H:Hp}{s:Shared}{a:Addr}{kvs:List (Key × V)}{k:Key}{u:Value}{A:Around}{E:Value->Shared->Prop}
def x0z {v:V}{more:fD}{Q:fM} (I:eR) (e:GE) (ry:zsb) (l:zdF) (hm:more=[]\/∃ x,more=[x])
    (h:O3 (Oe (oC H a FX)) zxm):NG "dict.pop" zYU:=by
  show(qS,P,vs,j,D,xhs I.hok e);show(eE,w',J,C,(zoJ,valueAt vs k,(by rw[<- l]; exact j.val k)));have M:lv (keyPart u):=by
    cases k with
    | inl i=>show(tY,t,LJ KC); subst q; rfl
    | inr x=>show(tY,t,LJ zct); subst q; rfl
  have R:argsOk "dict.pop" (mh zYU):=by
    rcases hm with q|⟨x,q⟩
    . subst q; exact PySem.F.args_dict_pop_2 _ _
    . subst q; exact PySem.F.args_dict_pop_3 _ _ _
  refine Qj Qv D.typeIs PySem.F.entry_dict_pop R (meets_dict_pop_there va a DG more hm M)
    (qI,vs,w',D,iz j.length z,J,λ h' B L=>h w' _ ?_ C)
  have O:Xi:=let ⟨q,_,_,hq,_⟩:=B; xD hq;exact xew I vk L O (xje zTA P (j.drop k) B)
def x0e {Q:fM} (I:eR) (e:zaX) (h:∀ t s',ML->Q (.int kvs.length t) s'):NG "len" pK:=by
 show(qS,j,vs,c,m,xfe I.hok e);refine call_len_dict j m (by rw[<- c.length]; rw[Qf] at z; lia) ?_;show(sL,c.length,h _ _ rp)
#check _
noncomputable def NoSl (i:Expr):Prop:=∀ ov iv,subscripted i false ov iv=(zwu [ov,iv] ov iv)
def xv5 {prog:Program}{w:World}{A:Around}{E:fM}{s:Shared}{env:Env}{value slice:Expr}{pos:Pos}{T id:String}{Q:fM}
    (hl:zJc) (hs:NoSl slice)
    (h:zn jk (Vx value) (λ o s₁=>yw (Vx slice) (λ i s₂=>s₂.TypeIs o T/\(yw (getItem o i) Q s₂)) s₁)) :
    jQ (Vx (.Subscript value slice pos)):=by
  refine Subscript_ (Ji h (λ o s₁ z=>Ji z (fJ i s₂ f) Lg) Lg);obtain⟨q,f⟩:=f;unfold subscriptTail;ext MW;show(sQ,getitemInPython_of_ne q.not_modules,wpAny_specialOf q hl ?_);have a:yw (subscripted slice false o i) (λ r j=>yw (letTemporaryGo value o r>>=λ_=>pure r) Q j) s₂:=by
    rw[hs o i];exact wpAny_operating (Ji f (λ r j v=>Zb (wpAny_letTemporaryGo (Zh v))) Lg)
  first
    | exact Zh (Zb a)
    | exact Zb (Zh (Zb a))
    | exact Zb a
def xm0 {X:Cx}{pins:fP}{Z:St}{H:Hp}{s:Shared}{a:Addr}{y:V}{o:iM} (I:eR) (g:Rm):zov:=by
 rcases g with⟨kvs,k,e,_,_⟩|⟨kvs,k,b,e,_,_,_⟩
 .show(zJY,vs,xfe I.hok e)
 .show(zJY,xs,xf7 I.hok e)
inductive xwy (x y:V) (H2:Hp) (Q:VK):Prop
 | mk (a v) (e_:BJ) (r_:(SY ku)/\Q v H2)
noncomputable def xz5 (td ty:TE):TE:=zXV (zsA,xwy x y H2 Q)
inductive xxz (x y:V) (H2:Hp) (Q:VK):Prop
 | mk (a o) (e_:BJ) (r_:(SY o)/\(zu o.isSome H2))
noncomputable def tDIn (ty td:TE):TE:=zpj (zsv,xxz x y H2 Q)
inductive xqw (x y:V) (H2:Hp) (Q:VK):Prop
 | mk (a o) (e_:BJ) (r_:(SY o)/\(zu (! o.isSome) H2))
noncomputable def xv0 (ty td:TE):TE:=zpj (zsv,xqw x y H2 Q)
noncomputable def xzb (td ty tv:TE):TS:=(qm,tv Z H λ v H1=>(zsv,ty Z H2 λ y H3=>∃ a H4,(NH,DPut H3 a y v H4,D.nx Z H4)))
noncomputable def xzm (td ty tv:TE) (rd:PQ):TS:=λD Z H=>td Z H λ x H1=>ty Z H1 λy H2=>∃ a v,x=fE/\(SY ku) /\
 tv Z H2 λ y2 b=>rd v y2 b λ z H4=>∃ H5,DPut H4 a y z H5/\D.nx Z H5
section
variable {X:Cx}{o i e value:Expr}{pos pos' tpos:Pos}{td ty tv:TE}
def xcw (hu:Cd) (ho:AA) (hi:LB) (hs:NoSl i):PE X (.Subscript o i pos) (xz5 td ty):=by
 ext pQ f;refine xv5 PySem.F.slot_dict_getitem.lookup hs (iJ (K4 f) u q x J D z B (iJ,hi f q Z J _ D B,iv,s2,y,H2,I2,ry,gF a v ex g q2,?_));ext tM ex z;show(fc,xm0 I2 g,xko hu I2 g ry λ K L C j=>gU v H2 C j q2)
def xg7 (hu:Cd) (hi:LB) (ho:AA):PC X .In i o (tDIn ty td):=by
 ext BH;show(qz,RN c,(lW B f y v r j p (zdR,ho c f Z v _ r p,u,gF a ov ex g q2)));ext tM ex rx;exact d_in hu I2 g j λ z q=>(jf,.bl ov.isSome,H2,q,q2)
def xee (hu:Cd) (hi:LB) (ho:AA):PC X .NotIn i o (xv0 ty td):=by
 ext BH;show(qz,RN c,(lW C f y z r j p (zdR,ho c f Z z _ r p,u,gF a ov ex g q2)));ext tM ex rx;exact xuu hu I2 g j λ B q=>(jf,.bl (! ov.isSome),H2,q,q2)
def xdt (hu:Cd) (ho:AA) (hi:LB) (hv:zcl) (hs:XT value zPz) :
    znH zPz (xzb td ty tv):=by
  ext tq f;refine wpAny_Assign_Subscript (iJ,zww f,r,j,v,C,B,m,q,iJ (ho f j Z C _ B q) u s2 x H2 I2 rx q2 (iJ,hi f s2 Z H2 _ I2 q2,iv,s3,y,H3,I3,ry,gY 1083 a H4 ex g q3,?_)) hs;ext tM ex rx;exact xkv hu I3 g ry m λ J z=>gM Z H4 z q3
def xn9 {op:Operator}{rd:PQ} (hu:Cd) (ho:AA) (hi:LB) (hv:zcl) (hop:InOp X op rd)
    (ha:∀ ov iv new,augStore i ov iv new=(do holding [new,ov,iv] (setItem ov iv new); release [new,ov,iv] []; pure .next)):PS X (.AugAssign (.Subscript o i tpos) op value pos) (xzm td ty tv rd):=by
  ext tq f;refine wpAny_AugAssign_SubscriptAny (iJ (K4 f) u B x O M C J (iJ,hi f B Z O _ M J,iv,s2,y,H2,I2,ry,gY 1083 a v ex g q2,?_)) ha;ext tM ex C;refine xko hu I2 g ry λ m q L j=>iJ (hv f q Z H2 _ L q2) w2 s4 y2 H3 I4 ry2 q3 (iJ,hop f s4 Z H3 v y2 m w2 _ I4 j ry2 q3,w3,s5,z,H4,I5,rz,fh 1062 H5 g5 q4,?_);exact xkv hu I5 g5 ry rz λ P K=>gM Z H5 K q4
#check _
def xib {P:Program}{w:World}{H:Hp} (h:Heap) (hb:zME):zEE DP :=
 (zEx,Heap.DictOf.new h)
def xln {P:Program}{w:World}{H:Hp} (h:Heap) (hb:zME):zEE DH :=
 zEx ⟨105,_,#[],0,lY,Ge,rfl,rfl,YK⟩
noncomputable def xx3:TE:=(NL,Fd (oC H p []))
noncomputable def xw7:TE:=(NL,Fd (rF H p []))
section
variable {X:Cx}{pos:Pos}
def xgs:zUT xx3:=λ m s Z H Q I h =>
 wpAny_Dict_empty ⟨83,mE,_,zFb DP zTK,rfl,h _ xX⟩
def xgx:zUT xw7:=λ m s Z H Q I h =>
 wpAny_Dict_empty (jf,mE,_,zFb DH (xln s.heap I.big),h _ xX)
#check _
noncomputable def xlm:Eu RW St Hp zAv
 | [],_,H,Q=>Q [] H
 | (tk,tv)::r,Z,H,Q=>tk Z H λ x a=>tv Z a λ y H2=>xlm r Z H2 λ ps H3=>Q ((x,y)::ps) H3
noncomputable abbrev VV:iA zzc zUd:=Paired λ p q=>RelV fK rT/\zZl
noncomputable def PPs (X:Cx) (pos:Pos) (keys:zrq) (values:o5) (trs:RW):Prop :=
 ∀(pins:List (Addr × Obj)) (s:Shared) (Z:St) (H:Hp) (Q:zAv),eR->xlm trs Z H Q ->
  (ww (evalPairs (pairTrees keys values X.env pos)) (λ vs s'=>∃ ps H',(zzH,VV ps vs,ps)))
def xv2 {X:Cx}{pos:Pos}:PPs X pos [] [] []:=(zcE,pairTrees_nil_walk (zkg [] .nil))
def xmy {X:Cx}{pos:Pos}{k v:Expr}{ks:zrq}{vs:o5}{tk tv:TE}{trs:RW} (hk:PE X k tk) (hv:PE X v tv) (hr:PPs X pos ks vs trs) :
    PPs X pos (Nz::ks) (v::vs) ((tk,tv)::trs):=λ a s Z H Q I h =>
  pairTrees_cons_walk (thn (hk a s Z H _ I h) λ u e ⟨1083,x,r,p,f,j⟩=>thn (hv a e Z r _ p j) λ w2 s2 ⟨1083,y,H2,I2,ry,q2⟩ =>
    iJ (hr a s2 Z H2 _ I2 q2) z A ps q m b i (gU,(x,y)::ps,q,m,.cons ⟨f,ry⟩ b,i))
noncomputable def xfs (kvs more:gD):gD:=more.foldl (λ a b=>putK a b.1 b.2) kvs
theorem KV.merge:∀{more:gD}{rs:zbO}{kvs:gD}{vs:zbO},KV more rs->tW->KV (xfs kvs more) (merged vs rs):=by
 intro more rs kvs vs r;ext zgq
 induction r generalizing kvs vs with
 | nil=>intro q; ext nh
 | @cons p q ps qs h t ih =>
  intro a;have e:KV zqR (stored vs rT q.2):=by
   have:=a.put fK jX;ext sL i0 this
  exact ih e
theorem xg2:∀(more kvs:gD),(Be,xfs kvs more,kvs.length+more.length)
 | [],kvs=>(yy,kvs.length<=kvs.length+0)
 | vT,kvs=>by
  show(eK,b,xg2 r zqR,a,xb3 kvs fK jJ);show Be (xfs zqR r) _;rw[ZB]; lia
theorem xir {P:Program}{w:World}:∀{kvs:gD}{ws:zUd},VV (kvs.map λ kv=>(zxD,kv.2)) ws->∃ rs,Carries yS ws rs/\KV kvs rs
 | [],_,r=>by show(gQ,List.map_nil,r,r); show(fU,[],Jq,.nil)
 | p::kvs,_,r=>by
  rw[Zs] at r;cases r with
  | @cons a b as bs h t =>
   show(eE,rs,c,q,xir (P:=P) (w:=w) t);ext ou f b;show(fU,(fK,e)::rs,(jw,xdw h.1,c),.cons (iW jX) q)
noncomputable def x0q (trs:RW):TE:=(rJ,∀ p,ut->xlm trs Z (oC H p []) λ ps H2=>(tX p DP)/\(ziJ (gL,ps,zmm,kvs.length<=15,Q iX (oC H2 p (xfs [] kvs)))))
def xu7 {X:Cx}{pos:Pos}{keys:zrq}{values:o5}{trs:RW} (h:PPs X pos keys values trs) (hall:keys.all (·.isSome)=true) (hl:keys.length=values.length) (h0:keys≠[])
    (h15:keys.length<=15):PE X (.Dict keys values pos) (x0q trs):=by
  ext Mj v q;show(eK,T,I.hok.fresh (Zk s.heap.objs.size),I1,zFQ DP Ii zuK zTK);refine wpAny_Dict_walk (knd:=va) hall hl h0 h15 (thn (h v _ Z _ _ I1 (q _ T)) λ ws s2 ⟨1084,ps,H2,B,A,e,⟨1063,kvs,ep,lk,O⟩⟩=>?_);subst ep;show(eE,J,c,L,xir (P:=X.prog) (w:=X.w) A);show(qS,Y,C,M,dd,xhs B.hok e);cases M;refine(fY,J,c,dd,λ h' x R=>jf mE _ ?_ O);have hz:(ju,(xfs [] kvs).length):=by
    show(lM,h1,xg2 kvs [],QB);rw[Qf]; lia
  have U:∃ q,zKh q:=let ⟨q,_,_,hq,_⟩:=x; xD hq;exact xew B vk R U (xje hz Y (L.merge .nil) x)
structure M1 (X:Cx) (o:Expr) (m:Str) (apos:Pos) (e:Expr) (cpos:Pos):Prop where
 base:Xn m
 few:((M9 [e]).all (λ x=>! gG)&&(zfh).all (λ x=>zft)
  && (VU ([e]:o5)))=true
 line:ED
 trees:(M9 [e])=[(false,yj)]
structure M2 (X:Cx) (o:Expr) (m:Str) (apos:Pos) (e f:Expr) (cpos:Pos):Prop where
 base:Xn m
 few:((M9 [e,f]).all (λ x=>! gG)&&(zfh).all (λ x=>zft)
  && (VU ([e,f]:o5)))=true
 line:ED
 trees:(M9 [e,f])=(zuH,yj,yK f)
noncomputable def IsD (H:Hp) (a:Addr):Prop:=(∃ kvs,zaX)\/∃ kvs,zpH
def xjk {X:Cx}{pins:fP}{Z:St}{H:Hp}{s:Shared}{a:Addr} (I:eR) (d:IsD H a) :
    zov/\(uR,Zl a=jD,(zVt,s.heap.get? b=some ob))/\Np:=by
  rcases d with⟨kvs,e⟩|⟨kvs,e⟩
  . show(zBJ,vs,xfe I.hok e)
  . show(zBJ,xs,xf7 I.hok e)
section
variable {X:Cx}{pins:List (Addr × Obj)}{Z:St}{H:Hp}{s:Shared}{a:Addr}{y d:V}{u r:Value}{o:Option V}{A:Around}{E:Value->Shared->Prop}
def xy6 {Q:fM} (hu:EW) (I:eR) (g:Rm) (ry:lz) (h:O3 ML (zzO .non w')) :
    NG "dict.get" [fE,u]:=by
  rcases g with⟨kvs,k,e,ey,l⟩|⟨kvs,k,b,e,ey,eb,l⟩
  . ext znp x q;show(zbX,zJM,meets_dict_get va a DG x,zLp);rw[l];exact (zhu).getD rfl
  . ext zkZ x q;show(zbX,zJM,meetsH_dict_get Xh a b x,zGB);rw[l];exact (zhu).getD rfl
def xyc {Q:fM} (hu:EW) (I:eR) (g:Rm) (ry:lz) (rd:RelV d r) (h:O3 ML (zzO d w')) :
    NG "dict.get" [fE,u,r]:=by
  rcases g with⟨kvs,k,e,ey,l⟩|⟨kvs,k,b,e,ey,eb,l⟩
  . ext znp x q;show(zbX,zIU,meets_dict_get_default va a DG x r,zLp);rw[l];exact (zhu).getD rd
  . ext zkZ x q;show(zbX,zIU,meetsH_dict_get_default Xh a b x r,zGB);rw[l];exact (zhu).getD rd
#check _
noncomputable def xym (td ty:TE):TE:=(Xb,∃ o,(SY o)/\Q (o.getD .non) H2)
noncomputable def xxw (td ty tx:TE):TE:=(Xb,tx Z H2 λ z H3=>∃ o,DGet H3 a y o/\Q (o.getD z) H3)
noncomputable def xxn (td ty:TE):TE:=(Xb,∃ kvs k v,(fS,R7 pA,zfP,zdF,Q v (oC H2 a FX)))
section
variable {X:Cx}{o e f:Expr}{apos cpos:Pos}{td ty tx:TE}
def xss (hu:Cd) (ho:AA) (he:zho) (m:zru "get"):Hh "get" [e] (xym td ty):=by
 ext Et;refine QU m.base m.few m.line Yh Ys PySem.F.type_dict_get (sO,ho j s Z H _ I h,u,D,T,v,K,zjT O d M);ext tM O K;show(FU,B,z,xjk v d);ext kR B z;rw[m.trees];refine JI rfl (YN (Yr (iJ,he j D Z T _ v M,iv,s2,y,S,R,J,fh 1062 ov g L,YH ?_)));exact xy6 hu R g J λ U Y P q=>gU _ S P q L
def xl0 (hu:Cd) (ho:AA) (he:zho) (hf:PE X f tx) (m:M2 X o "get" apos e f cpos):Hh "get" [e,f] (xxw td ty tx):=by
 ext Et;refine QU m.base m.few m.line Yh Ys PySem.F.type_dict_get (sO,ho j s Z H _ I h,u,K,H1,v,O,zjT T d S);ext tM T O;show(FU,D,B,xjk v d);ext kR D B;rw[m.trees];refine JI rfl (YN (Yr (thn (he j K Z H1 _ v S) λ iv J ⟨1083,y,H2,I2,M,R⟩ =>
  Yr (thn (hf j J Z H2 _ I2 R) (lW,fv,s3,z,H3,Y,L,fh 1062 ov g P,YH ?_)))))
 exact xyc hu Y g M L λ w' s4 U q=>gU _ H3 U q P
def xs4 (ho:AA) (he:zho) (m:zru "pop"):Hh "pop" [e] (xxn td ty):=by
 ext Et;refine QU m.base m.few m.line Yh Qv PySem.F.type_dict_pop (sO,ho j s Z H _ I h,u,J,Y,z,L,zjT R d O);ext tM R L;show(FU,D,B,xjk z d);ext kR D B;rw[m.trees];refine JI rfl (YN (Yr (iJ,he j J Z Y _ z O,iv,s2,y,H2,U,K,iC 1104 kvs k v S P l M,YH ?_)));subst P;exact x0z U S K l jO (zYe T)
#check _
#check L2
namespace Att
open PySem PySem.W PySem.Calls PyProof.Rows
theorem xjj {P:Params}{h:Heap}:∀(ns:gK) (vs:fD),WellAll P h vs (ns.map WData.int)->P9:=by
 intro ns
 induction ns with
 | nil =>
  intro vs w;show(gQ,List.map_nil,w,w);ext mj
 | cons n ns ih =>
  intro vs w;rw[Zs] at w;cases w with
  | cons a b =>
   cases a;exact .cons _ _ (ih _ b)
theorem xri {l:OpenLaw}{n:Nat} (hn:zqk) {P:Params}{h:Heap}{args:List WData}{vals:fD}
    (hpre:l.row.toRowW.claim.pre args=true) (hwl:WellAll P h vals args) :
    ∃ a vs ns,(fb,vals=[uK],args=[WData.list (ns.map WData.int)],Ab Xf,P9,zcZ):=by
  show(eC,u,WShape.hasAll [] args [.list .int]=true,(pre_splitW hpre).1,v,l.pre.holds [] { args:=args }=true,(pre_splitW hpre).2);show(jb,d,r,rfl,C,B,hasAllW_cons u);show(nK,hasAllW_nil B);show(eE,xs,rfl,z,hasW_list C);show(wQ,ns,items_int z);have b:zcZ:=by
    unfold OpenLaw.pre at v;have j:(WTm.not (.lt (.lit (.int pF)) (.len (.arg 0)))).holds [] { args:=[.list (ns.map .int)] }=true:=by
      have j:=(holds_andW v).1;ext h7 hn j j
    show(lM,f,condW_of j (w_not (w_lt w_lit (w_len_list (w_arg rfl)))),Za);refine Wh (iy q);have x:(gk n)<(kh ns.length):=eA
    first
      | (rw[decide_eq_true x] at f; ext jB f eJ)
      | (simp at f; lia)
  cases hwl with
  | cons w1 w2 =>
    cases w2;cases w1 with
    | list ho hall=>exact(iQ,105,_,_,ns,rfl,rfl,ho,xjj ns _ hall,b)
def xpu (l:OpenLaw) (args:List WData):l.row.toRowW.claim.post args Lm args=true :=
 postW_of (r:=l.row.toRowW) (X:=qaP)
  (show WShape.has [] Lm .bool=true by first|rfl|decide|simp[WShape.has,WShape.arms,WShape.armsAll])
  (show (WTm.eq .res (.lit (.bool true))).value [] { args:=args,res:=some Lm,after:=args }=some (.bool qaP) from w_eq_bool (w_res rfl) w_lit) rfl
def attach_call {l:OpenLaw}{n:Nat}{q:Program}{loose:eO}{XP:zta}{YP:zqq}{d:DefRec}
    (hn:zqk) (hdf:znJ)
    (call:∀(w:World) (s₀ s₁:Shared) (mg mb:im) (fa:Addr) (o:Obj) (pm cd doc:Value) (a:Addr) (vs:fD) (ns:gK),
      Ground q loose [] XP w s₀ mg mb s₁.heap->YP w s₁.heap ->
      s₁.heap.get? fa=some o->o.data=.func (docDef d.name d.params d.body d.scope pm cd doc)->s₁.heap.CodeRec cd d.name->zra ->
      zJk->P9->zcZ->zZu ->
      (zkr (model l.prog w))) :
    WalkO q loose XP YP l.row.toRowW d [] zLY:=by
  intro w s₀ s₁ mg mb G Y fa o pm cd doc dV O S X H L D U M I as v J P B T;show(ij,dV=.none,Dflts.none L hdf);show(ij,O=.none,Dflts.noKw L);obtain⟨a,vs,ns,rfl,rfl,x,j,z⟩:105:=xri hn v B;refine enter_call (Qi (call w s₀ s₁ mg mb fa o pm cd doc a vs ns G Y S (fd_plain X) H D x j z U) (fJ r s' Q));show(NI,rfl,h2,h3,Z,Q);exact(gX,.inl (zE,Lm,Lm,[],rfl,re,Lm,xpu l _,λ_=>⟨Yc.nil,λ_ hm=>(nomatch hm)⟩),h2,h3,Z)
section
variable {prog:Program}{w:World}{A:Around}{E:Value->Shared->Prop}{s:Shared}{K:Frag}
noncomputable def x07 (h:Heap) (L d:Addr):fP:=(zrl).filterMap λ a=>(zcJ,a=L\/a=d,(h.get? a).map λ o=>(a,o))
#check _
#check Att
namespace L2
open PySem PySem.Spec PyProof.Rows
variable {q0:Bool}
theorem xkf:∀{vs:fD}{ns:gK},P9->Vals (ns.map V.int) vs
 | _,_,.nil=>.nil
 | _,_,.cons n t h=>.cons Ux (xkf h)
noncomputable def Only (H:Hp):Prop:=∀ b,i8\/∃ o xs,pP zTe
theorem xtk {P:Program}{w:World}{K:Zd}{mg mb:im}{CX:CXT}{k:Nat}{fa a:Addr}{fd:FuncData}{x:Str}{sp:Sp}{s₁:Shared}{vs:fD}{ns:gK}
    (KX:K.In s₁.heap) (hns:s₁.heap.Ns mainGlobals mg) (hb:s₁.heap.Ns builtinsNs mb) (hbb:zFM) (hlim:s₁.heap.NoLimit) (hg:zZu)
    (ha:zJk) (hi:P9) (hl:zrn) (hr:zSq)
    (F:(zbo,zxk,FnOk q0 P w K mg base CX k fa fd [x] sp)) (hbind:zle x)
    (hsp:∀ H:Hp,Only H->zcU->sp pK H zPp Cl)
    (hCX:∀ H e s',CX [] H s₁ Cl e s'->False) :
    zkr CW:=by
  show(eK,U,xkf hi,J,hi.length)
  -- from an abstract heap in which nothing but the script may be tracked
  have C:∀ H:Hp,Only H->zcU->(zkq s₁.heap)->(∀ b,wb≠none->b=a)->(H a≠none->K.lookup a=none) ->
      (zkr CW):=by
    intro H X hS O Y hK;have j:∀{b:Addr}{o:Obj},(zLO,i8,(zba).get? b=some o):=λ e n=>xsx e n;have S:∀{b:Addr}{o:Obj}{es:uZ}{ep:Nat},zLO tF i8:=λ{b o es ep} e d=>by
      cases q:wb with
      | none=>rfl
      | some u =>
        have T:b=a:=Y b zjl;ext rA T ha e e;have d':Data.seq vs.toArray _=Data.dict es ep:=d;cases d'
    have B:∀{b:Addr}{m:im},s₁.heap.Ns b m->(zba).Ns b m:=λ{b m} ⟨o,es,ep,e,d,r⟩=>(oM,o,es,ep,j e (S e d),d,r)
    have Q:K.In (hidT s₁.heap H):=λb o e=>j (KX b o e) (by
      cases q:wb with
      | none=>rfl
      | some u =>
        show(zA,T,b,a,Y b zjl);show(iF,hK zjl,e,e))
    show(eC,hM,Mod K mg zba,(fh,Q,B hns,(eG,mb,B hb,hbb),let ⟨mc,h1,h2⟩:=hlim; (eG,mc,B h1,h2)),e0,Env0 P w K mg zba callerA [] s₁ H,(iC,rfl,hM,(Bq,xvr e),Nat.le_of_eq (xrl _ _),trivial,λ b hb=>Ol (show ztT from hb),O,.of_eq hg))
    refine Qi ((F _ Q (B hns)).run callerA [] s₁ H (mh pK) pK pK _ _ hr e0 (hbind s₁ fE) zXu (hsp H X hS)) (fJ r s' h);cases r with
    | error e=>exact (hCX H e s' h).elim
    | ok fl =>
      cases fl with
      | next=>exact JP h
      | brk=>exact JP h
      | cont=>exact JP h
      | ret u =>
        obtain⟨v,H',os,R,un,M,r',q⟩:86:=h;have q':v=.bl true:=q;subst q';show(ij,u=Yo true,r');refine(mS,OldK.of_keep (nR b o),os,R);cases q:wb with
        | none=>exact un.keep b o e q (by intro z; show(Ex,zgH ztT)) eS
        | some u =>
          rcases X b with z|⟨ob,xs,z⟩
          . ext HH q
          . have z2:=un.frzs b ob _ z
            obtain⟨Z,_⟩:=O b _ z;obtain⟨e2,_⟩:=M b _ z2;ext gQ e Z Z;exact e2
  cases hk:K.lookup a with
  | some o =>
    -- the script is one of the module's own objects
    have e:=KX a o hk;ext gQ ha e e;refine C j8 (λ_=>jO) (.inr ⟨106,_,vs.toArray,_,hk,rfl,rfl,rfl,yU Z9 J hl,zpK⟩) (vZ,u,by have D:(none:iH HO)=some u:=z; cases D) (λ b z=>zH rfl z) λ z=>zH rfl z
  | none =>
    refine C (λ b=>Bt b a (.frz Xf (.lst (ns.map V.int))) none) (iy b) (.inl (.inr ⟨Xf,iT⟩)) (uP b u) (qH z) λ_=>hk
    . ext zfw
      . show(iY,(hB,_,fe hb))
      . exact .inl (if_neg hb)
    . ext zfw
      . have D:=(fe hb).symm.trans z
        cases D;subst hb;show(fU,ha,pI hl,gM vs _ U ha)
      . have D:=(fH hb).symm.trans z
        cases D
    . ext zfw
      . exact hb
      . exact absurd (if_neg hb) z
noncomputable abbrev KOf {K:Zd}{h:Heap} (_:Bb):Zd:=K
theorem walk_of {l:PySem.W.OpenLaw}{n k:Nat}{q:Program}{loose:eO}{XP:zta}{YP:zqq}{d:DefRec}{K:Params->Zd}{CX:World->CXT}{sp:World->Sp}{x:Str}
    (hn:zqk) (hn2:ju n) (hdf:znJ) (hr:zSq)
    (hY:(zLq,(Aq).In h))
    (F:∀(w:World) (mg:Str->Option Value) (fa:Addr) (h:Heap),(Aq).In h->EL->zra ->
      ∃ fd:FuncData,(zle x) /\
        (zbo,(Aq).In base,FnOk q0 l.prog w Aq mg base (CX w) k fa fd [x] (sp w)))
    (hsp:∀(w:World) (H:Hp) (a:Addr) (ns:gK),(gb,zcZ,Only H,SqL Aq H a zdi,sp w pK H zPp Cl))
    (hCX:∀(w:World) (H:Hp) (s:Shared) (e:Value) (s':Shared),CX w [] H s Cl e s'->False) :
    zEn:=by
  refine Att.attach_call hn hdf λ w X C mg mb fa o Z cd U a vs ns G Y ho hd J A z y j D=>?_;have B:=hY w _ Y;show(eE,fd,M,S,F w mg fa _ B G.T.g A);exact xtk B G.T.g G.T.b G.T.builtins G.T.nolimit D z y (Z5 j hn2) hr S M (λ H Q P=>hsp w H a ns j Q P) λ H e s'=>hCX w H C e s'
noncomputable def xah (s:Stmt) (j:Nat):Stmt:=match s with
 | .ClassDef _ _ _ body _ _ _ _ _ _ _=>body.getD j (.Pass zsE)
 | _=>.Pass zsE
noncomputable def xbl (s:Stmt):Arguments:=match s with
 | .FunctionDef _ a _ _ _ _ _ _ _ _=>a
 | _=>{ posonlyargs:=[],args:=[],vararg:=none,kwonlyargs:=[],kw_defaults:=[],kwarg:=none,defaults:=[] }
noncomputable def xbc (s:Stmt):FZ:=match s with
 | .FunctionDef _ _ b _ _ _ _ _ _ _=>b
 | _=>[]
noncomputable def xu (s:Stmt):Scope:=match s with
 | .FunctionDef _ _ _ _ _ _ sc _ _ _=>sc
 | _=>{ kind:=.function,names:=[],isGenerator:=false,isCoroutine:=false }
noncomputable abbrev CX0:CXT:=λ_ _ _ _ _ _=>False
structure Fun (K:Zd) (x qual:Str) (st:Stmt) (f:Addr) (fd:FuncData):Prop where
 ex:∃(oc:Value) (od:i5) (kV doc pm:Value) (an:i5) (cdv ct:Value) (osl:zM),
  (gL,fd,Jd x qual mP kN kE .none kV doc pm an cdv ct,O6 fd,OZ)
 kp:Uz
section
variable {P:Program}{w:World}{K:Zd}{mg:Str->Option Value}{base:Heap}
def Fun.ok {x qual:Str}{st:Stmt}{f:Addr}{fd:FuncData}{N ps:eO}{k:Nat}{sp:Sp} (F:Y2) (S:zcL) (len:Ig)
    (hbody:∀(cdv:Value) (A:Around) (outer:List Env) (s:Shared) (H:Hp) (vs:List V) (Q:VK) (E:XK),Room q0 k (A.deeper (envOfC qual (xu st) s.heap.objs.size f cdv))->CA ->
      (Ox,(cxOf q0 CX0 P w K mg base N qual kE f cdv A outer s H E).nox,kN)):FnOk q0 P w K mg base CX0 iw f fd ps sp:=by
  obtain⟨D,od,I,B,⟨C,an,cdv,J,u,rfl,v,m⟩⟩:121:=(F.ex)
  show(zCS,hbody cdv A outer s H vs Q E y c)
def Fun.binds {x qual:Str}{st:Stmt}{f:Addr}{fd:FuncData}{ps:eO} (F:Y2)
    (h:(zES,zDp (Jd x qual mP kN kE .none kV doc pm an cdv ct))):zgV:=by
  obtain⟨m,od,kV,doc,⟨pm,an,cdv,ct,c,rfl,q,j⟩⟩:121:=(F.ex)
  exact .all (h kV doc pm an cdv ct)
def fun_mk {x qual:Str}{st:Stmt}{f:Addr}{oc:Value}{od an:i5}{osl:zM}{kV doc pm cdv ct:Value} (l:O6 (Jd x qual mP kN kE .none kV doc pm an cdv ct))
    (c:OZ) (k:Uz):Fun K x qual st f (Jd x qual mP kN kE .none kV doc pm an cdv ct):=zDg
#check _
def xa9 {A:Around}{k:Nat} (hr:Cz):EW:=Jr (Nat.add_le_add_left (eJ:1<=64) _) hr.units
section
variable {X:Cx}
def pv (i:Nat) {x:Str}{pos:Pos} (hN:autoParam (wL) aRfl._auto_1) (hv:Pf:=by first|ext MV|exact QZ (YD rfl)|exact QZ (QZ rfl)) (hd:autoParam (qP) aDec._auto_1)
    (hcd:autoParam (zJL) aDec._auto_1):zTm:=xy5 hN hv hd hcd
#check _
def iteF {A B:Prop} (h:B):mG false A B:=by
 ext sK Z6 h
def iteT {A B:Prop} (h:A):mG true A B:=by
 ext eY iT h
def ite2 {c A B:Prop} [Decidable c] (h1:c->A) (h2:¬ c->B):if c then A else B:=by
 by_cases h:c
 .rw [fe h];exact h1 h
 .ext mz h;exact h2 h
noncomputable def Same (H H':Hp):Prop:=∀ b o,(pP o)->zWe
def Same.refl (H:Hp):mw H:=λ_ _ h=>h
def Same.trans {H H1 H2:Hp} (a:zhB) (b:vz):zhA:=λ c o h=>b c o (a c o h)
theorem Same.free {H H':Hp} (e:gu) {l:Addr} (h:H' l=Option.none):H l=Option.none:=by
 cases q:H l with
 | none=>rfl
 | some o =>
  show(BA,e l o q)
def Same.seq {K:Zd}{H H':Hp}{a:Addr}{xs:eB} (e:gu) (h:Ai):zZv:=by
 rcases h with (h|⟨o,h⟩)|h
 .show(Se,e _ _ h)
 .show(Lx,(Oj,e _ _ h))
 .ext iY h
#check L2
namespace Srt
open PySem PySem.W PyProof.Rows
noncomputable abbrev CM:=S8 (lK AD)
noncomputable abbrev g (p:iS) (i:Nat):Nat:=p.getD i 0
structure Ord (n:Nat) (lt:zxh):Prop where
 irr:GW (iK,lt i i)
 tr:∀ i j k,lS->(gR,j<n,k<n,lt i j=true,lt j k=true,lt i k=true)
 tot:∀ i j,(gR,lS,j<n,i≠j,(iK,lt i j),lt j i=true)
noncomputable def Cmp (n:Nat) (lt:zxh) (cmp:CM) (s:Shared):Prop:=∀ i j,lS->j<n->∀ Q:AD,Q (lt i j) s->cmp i j Q s
def xdo {α:Type}{cmp:CM}{a:α}{Q:zhE}{s:Shared} (h:Q a s):zwh (.ret a) Q:=h
def xhj {α:Type}{cmp:CM}{i j:Nat}{k:Bool->KasT α}{Q:zhE}{s:Shared} (h:cmp i j (λ c s'=>KasT.kasWp cmp (k c) Q s') s):zwh (.ask i j k) Q:=h
def xy8 {p:iS}{n:Nat}:kas_asc p 0 n=.ret n:=by unfold kas_asc; rfl
def xzj {p:iS}{f n:Nat}:kas_asc p wf n=.ask (p.getD n 0) (p.getD (n-1) 0) λ c=>(mG,c,.ret n,kas_asc p f m8):=kU kas_asc
def xz3 {p:iS}{k:Nat}:kas_bin 0 p k=.ret p:=by unfold kas_bin; rfl
def xzi {f:Nat}{p:iS}{k:Nat}:kas_bin wf p k=(kas_place p k k 0 k).bind λ l=>kas_bin f (bubble p k (k-l)) iw:=kU kas_bin
def xwv {p:iS}{k l r:Nat}:(zdZ 0 l)=.ret l:=by unfold kas_place; rfl
def xwq {p:iS}{k f l r:Nat}:(zdZ wf l)=if l>=r then .ret l else .ask zvJ (p.getD CY 0) λ c=>mG c zOd zZc:=kU kas_place
def xyn {p:iS}{k l:Nat}:kas_desc 0 p k l=.ret (p,k,l):=by unfold kas_desc; rfl
def xxf {f:Nat}{p:iS}{k l:Nat}:kas_desc wf p k l=.ask zvJ zrd λ c=>(mG,c,if l>0 then kas_desc f (kas_rev p (k-(l+1)) k) iw 0 else zuZ 0,.ask zrd zvJ λ d=>(mG,d,.ret (p,k,l),zuZ (l+1))):=kU kas_desc
section
variable {n:Nat}{lt:Nat->Nat->Bool}{cmp:CM}{s:Shared}
structure Arr (n:Nat) (p:iS):Prop where
 sz:p.size=n
 lt:(GW,Vt<n)
 inj:∀ i j,(gb,lS,j<n,g p i=g p j,i=j)
 pm:p.Perm zvU
def g_at {p:iS}{i:Nat}{v:Nat} (h:gf p v):g p i=v:=by
 show p.getD i 0=v;rw[QG,h];rfl
def Arr.at {p:iS} (a:yO) {i:Nat} (h:lS):gf p Vt:=by
 show(eC,z,i<p.size,eP a.sz h,e,(gf,p,p[i]),JJ z);rw[e,g_at e]
noncomputable def Srtd (lt:zxh) (p:iS) (m:Nat):Prop:=∀ i j,i<j->j<m->(Vp i j)
theorem xnc (o:LU) {p:iS} (a:yO) {m:Nat} (hm:m<=n) (h:zdV zw (Vp xR i)):Srtd lt p m:=by
 intro i j c b;show(zab,j=f7+d,j-f7)
 induction d with
 | zero=>exact h f7 eA b
 | succ d ih =>
  show(eK,f,ih eA eA,e,h (f7+(d+1)) eA b);exact o.tr _ _ _ yt yt yt f e
theorem xmi (c:Ki) {p:iS} (a:yO) {G:zyQ}:∀(f k:Nat),1<=k->k+f<=n ->
    (zzD (gR,k<=m,m<=k+f,(zdV,k<=i,iK (R5 i xR)),m<k+f->(Vp m (m-1)),G m s) (kas_asc p f k))
  | 0,k,h1,hf,hG=>by
    show(NK,xy8,hG k f8 eA ztn (λ h=>eA))
  | wf,k,h1,hf,hG=>by
    ext zRD xzj;cases e:qbo with
    | true =>
      exact xdo (hG k f8 eA ztn (λ_=>e))
    | false =>
      show xL (kas_asc p f iw);refine xmi c a f iw eA eA λ m r b q j=>hG m eA eA zYD (λ h=>j eA);by_cases z:i=k
      . ext tf z
      . exact q i eA hi2
theorem xnz (o:LU) (c:Ki) {p:iS} (a:yO) {G:(lK,iS × zeq)}:∀(f k:Nat),1<=k->k+f<=n ->
    (zzD (gb,k<=m,m<=k+f,(zdV,k<=i,Vp i xR),G (p,m,0) s) (kas_desc f p k 0))
  | 0,k,h1,hf,hG=>by
    ext NK xyn zYb
  | wf,k,h1,hf,hG=>by
    ext zRD xxf;cases e:qbo with
    | true =>
      show xL (zuZ 0);refine xnz o c a f iw eA eA λ m u q r=>hG m eA eA zYD;by_cases z:i=k
      . ext tf z
      . exact r i eA hi2
    | false =>
      ext ztW zsk zxA;show(kS,b,g p k≠g p (k-1),(mM,a.inj _ _ eA eA z))
      show(NK,(wD,lt zrd (p.getD k 0),o.tot _ _ zxA zsk b e),zYb)
def Arr.rev {p:iS} (a:yO) {k:Nat} (hk:k<=n):Arr n zZT/\zEQ:=by
 have f:zEQ:=λ i b=>by
  have z:=getElem?_mirror_all (xs:=p) (i:=0) (j:=k) qaL i;by_cases c:i<k
  .rw [ma];rw[fe ⟨lQ,c⟩,(j9,0+k-1-i=TU),a.at (j9,TU<n)] at z;exact g_at z
  .ext mz c;show(zdr,(su,w,c w.2),a.at b)
 refine⟨⟨hZ kas_rev_size a.sz,eQ i b,fW i j b hj e,(mirror_perm _ _ _ _).trans a.pm⟩,f⟩
 .rw [f i b];split<;>exact yt
 .rw [f i b,f j hj] at e;split at e<;>split at e<;>have:=zRG<;>lia
def xtt (o:LU) (c:Ki) {p:iS} (a:yO) (h2:2<=n) {G:(lK,Nat × iS)}
    (hG:∀ m p',(gR,1<=m,m<=n,Arr n p',Srtd lt p' m,G (m,p') s)):xL (kas_count n p):=by
  unfold kas_count;rw[KasT.kasWp_bind];have up:∀ q,Arr n q->∀ i,(gb,zw,lS,(iK,lt (g q i) (g q xR)),lt (g q xR) (g q i)=true):=λ q b i h1 h e =>
    o.tot _ _ (b.lt i h) (b.lt xR eA) (λ z=>(mM,b.inj _ _ h eA z)) e
  refine xmi c a (n-1) 1 f8 eA (fW m y I P O);have u:Srtd lt p m:=xnc o a eA λ i h f=>up p a i h eA (P i h f);show xL (La,rC m n,_);by_cases e1:m=n
  . show(NK,fe zpc,zUC)
  . ext lG zpc
    by_cases e2:m>1
    . rw[fe e2]
      show(ztW,a.lt 0 eA,a.lt (m-1) eA);show(NK,(wD,lt (p.getD 0 0) (p.getD (m-1) 0),u 0 (m-1) eA eA),zUC)
    . ext lG e2
      show(zA,C,m,1,eA);have R:=O eA;unfold kas_descPart;ext ztF;refine xnz o c a (n-(1+1)) (1+1) eA eA (ib k S K M);show xL (La,(0:Nat)>0,kas_tail3 k n p);rw[if_neg (Y0 0)];unfold kas_tail3;ext ztF;show(U8,A,a.rev (k:=k) eA);refine xmi c b (n-k) k eA eA λ H J x L _=>?_;refine xdo (hG H _ eA eA b (xnc o b eA (fJ i h f)));by_cases ik:i<k
      . rw[A i eA,A xR eA,fe ik,TM]
        have Q:zym-1=TU:=eA
        by_cases z:zym=1
        . have B:TU=0:=eA
          ext ig z B R
        . show(zcd,M zym eA eA,Q)
      . exact up _ b i h eA (L i eA f)
theorem xid (o:LU) (c:Ki) {p:iS} (a:yO) {k:Nat} (hk:k<n) (sk:Srtd lt p k) {G:zyQ}:∀(f l r:Nat),l<=r->r<=k->r-l<=f ->
    (∀ j,j<l->(iK zgj))->(zQJ,r<=j) ->
    (zzD (gb,m<=k,(∀ j,j<m->(iK zgj)),(zQJ,m<=j),G m s) (zdZ f l))
  | 0,l,r,h1,h2,h3,lo,hi,hG=>by
    ext zKw xwv
  | wf,l,r,h1,h2,h3,lo,hi,hG=>by
    rw[xwq];by_cases e:l>=r
    . ext zKw Nj
    . ext lG e
      show(eC,q,CY<r,eA,i,l<=CY,eA)
      ext ztW zxa yt;cases e2:R5 k CY with
      | true =>
        show(zYF,zOd,xid o c a hk sk f l _ i eA eA lo (fJ j h b) hG)
        . ext eY z e2
        . exact o.tr _ _ _ zxa yt yt e2 (sk _ _ eA b)
      | false =>
        show(zYF,zZc,xid o c a hk sk f _ r eA h2 eA (eQ j h) hi hG)
        . ext eY z e2
        . cases e3:zgj with
          | false=>rfl
          | true =>
            show(Ka,o.tr _ _ _ zxa yt yt e3 (sk j CY eA eA),e2)
def Arr.bub {p:iS} (a:yO) {k m:Nat} (hk:k<n) (hm:m<=k):Arr n Pp/\zDl:=by
 have h:zDl:=λ i f=>by
  show(S9,getElem?_bubble (xs:=p) (src:=k) qaL (k-m) eA i,(j9,k-(k-m)=m));ext mX i m
  .rw [ma];show(zdr,ma,a.at hk)
  .ext mz c;rw[ur] at z;by_cases d:zZS
   .rw [fe d];show(zdr,fe d,a.at (j9,xR<n))
   .ext mz d;show(zdr,fH d,a.at f)
 refine⟨(fh,hZ bubble_size a.sz,eQ i f,fW i j f hj e,(bubble_perm _ _ _).trans a.pm),h⟩
 .rw [h i f];split
  .exact a.lt _ hk
  .split<;>exact yt
 .rw [h i f,h j hj] at e;split at e<;>(try ext kP)<;>(try ext kP)<;>(try ext kP)<;>first|lia|(ext iP zRG)
theorem xqh (o:LU) (c:Ki) {G:lK iS}:∀(f k:Nat) (p:iS),(gR,k+f=n,yO,Srtd lt p k,(∀ p',Arr n p'->Srtd lt p' n->G p' s),xL (kas_bin f p k))
 | 0,k,p,h,a,sk,hG=>by
  rw[xz3];ext Ml k n;exact xdo (hG p a sk)
 | wf,k,p,h,a,sk,hG=>by
  have q:k<n:=eA
  rw[xzi,KasT.kasWp_bind];refine xid o c a q sk k 0 k lQ f8 eA (λ j H=>eA) (λ j H hj2=>eA) (ib m hm lo hi);show(U8,C,a.bub q hm);refine xqh o c f iw _ eA b (ib i j B H) hG;show(eC,A,∀ i,i<m->(Vp i k),λ i hi'=>o.tot _ _ (a.lt k q) (a.lt i eA) (λ z=>(mM,a.inj _ _ q eA z)) (lo i hi'),I,∀ i,lS->i=m->g Pp i=g p k,λ i hi z=>(hZ,C i hi,fe z))
  show(eC,D,∀ i,(gb,lS,m<i,i<=k,g Pp i=g p xR),λ i hi z z2=>(tt,C i hi,Dm,fe ⟨z,z2⟩),v,(zdV,lS,g Pp i=Vt),λ i hi z=>(tt,C i hi,Dm,Dm))
  by_cases j1:j=m
  .rw [I j eA j1,zwC];exact A i eA
  .by_cases i1:i=m
   .rw [I i eA i1,D j eA eA eA];exact hi (j-1) eA eA
   .by_cases j2:m<j
    .rw [D j eA j2 eA];by_cases i2:m<i
     .show(ie,D i eA i2 eA,qaX)
     .rw [zwC];by_cases z:i=j-1
      .lia
      .exact qaX
    .show(uM,v j eA eA,zwC,sk _ _ B eA)
def xrh:Arr n zvU:=by
 have e:(GW,g zvU i=i):=λ i b=>g_at (hZ,List.getElem?_toArray,JK b);exact(fh,eS,λ i b=>(eP,e i b,b),(λ i j b c z=>by show(C5,e i b,e j c)),Array.Perm.refl _)
def sort_wp (o:LU) (c:Ki) (h2:2<=n) {G:lK iS} (hG:∀ p,yO->Srtd lt p n->G p s):xL (kas_sort n):=by
 unfold kas_sort;ext ztF;refine xtt o c xrh h2 (iR m p u j a h);show xL (vn m n _ _);by_cases e:m<n
 .rw [fe e];show xL (kas_bin (n-max m 1) p (max m 1));show(eY,Nat.max_eq_left u,xqh o c (n-m) m p eA a h hG)
 .ext mz e;ext Ml m n;exact xdo (hG p a h)
#check _
#check Srt
namespace XL
open PySem
noncomputable def Xat (h:Heap) (e:Addr) (cls:Value) (od tb:i5):Prop :=
 ∃ oe vs,(qV e oe)/\oe.cls=cls/\oe.dict=od/\zOJ/\1<vs.size /\
  ((tb=none/\(pi vs 1 Jg))\/∃ T oT ts,tb=some T/\(fb,pi vs 1 Bd,T≠e,qV T oT,oT.data=.fields ts,pi ts 3 Jg))
structure Stp (fs:eV) (e:Addr) (tb:i5) (h h':Heap):Prop where
 keep:∀ b o,(gR,oW,b≠e,tb≠some b,b∉fs,uW)
 slot:(AO,oW,b∈fs,zly)
noncomputable abbrev xlc (l:oz):eV:=l.filterMap (·.frame)
def xqv (o:Obj) (f:jM->jM):(o.mapFields f).dict=o.dict:=by
 ext NQ c d b h;cases b<;>rfl
section
variable {M:Model}{A:Around}{E:Value->Shared->Prop}{s:Shared}
def xn6 {base:Heap}{env:Env}{outer:oz}{L e:Addr}{oe:Obj}{vs:jM}{hd:Value}{nx:Bool}{cls:Value}{od tb:i5}{g:Heap}{Q:oq}
    (fr:zvf R3) (ff:zpl R3) (fL:zQV)
    (ge:EU e oe) (de:zOJ) (se:1<vs.size) (ce:oe.cls=cls) (oo:oe.dict=od)
    (st:Stp ziT e tb g s.heap) (sz:g.objs.size<=s.heap.objs.size)
    (k:(zTg,Stp ziT e tb g h',g.objs.size<=T)) :
    zIM (do let a <- frameOf env; let pl <- entryPlaceOf L nx; let b <- EntryCells.newEntry hd a .none zyW .none pl; setField pE 1 b):=by
  have H:e∉ziT:=λ hm=>by
    obtain⟨_,o,ho,S⟩:=ff.mem hm;have z:=ge.symm.trans ho;cases z;exact S vs de
  show(fQ,wpAny_frameOf_fun fr ff fL (eQ q K));refine Zb (wpAny_entryPlaceOf (eQ pl Y));unfold EntryCells.newEntry newFields;show(fQ,JS ?_ (Y.sizeOk5 _ _ _ _ _));have e1:q.get? e=some oe:=(K.2.1 e H).trans ge;generalize eT:((zOS,"traceback",.fields zCk):Obj)=v;show(gq,U,v.data=.fields zCk,by rw[<- eT],fT,zXJ,Lo eT,e2,(zge).get? e=some oe,Ze v e1);refine Qn e2 de se ?_;have C:q.objs.size≠e:=Yb (Zu e1);have X:=Yp de (·.setIfInBounds 1 PU);have e3:=ZW (Q1 (·.setIfInBounds 1 PU)) e2 (YE X);have T3:((zge).update e (Q1 (·.setIfInBounds 1 PU))).get? q.objs.size=ku :=
    (Jm zge _ (Zz C)).trans (Zp q fT)
  unfold setFlight;show(fQ,Jn e3 X (x:=.ref q.objs.size) zAp ?_);rw[fe (wD (PU != Jg) eS)];refine Qn T3 U (by simp only[Z9,Zt,ZB,QB]<;>lia) (k _ q.objs.size ?_ ?_ ?_)
  . have Z:∀ b o,b≠e->q.get? b=some o->(((zge).update e (Q1 (·.setIfInBounds 1 PU))).update q.objs.size
        (Q1 (·.setIfInBounds 3 ((none:i5).elim Jg zZt)))).get? b=some o:=λ b o P D=>by
      have bT:q.objs.size≠b:=Yb (Zu D);rw[Jm _ _ bT,Jm _ _ (Zz P)];exact Ze v D
    show(nM,λ b o D P bt J=>Z b o P ((K.2.1 b J).trans (st.keep b o D P bt J)),yW D J);show(jY,sl,h2,st.slot b o D J,R,h3,K.2.2 b _ h2);show(fc,R,Z b _ (λ z=>H (z▸J)) h3)
  . show(eY,K.1,sz)
  . refine(iQ,86,_,_,?_,(Obj.cls_mapFields _ _).trans ce,(xqv _ _).trans oo,X,zAp,.inr ⟨106,q.objs.size,_,_,rfl,zAp,C,zvl T3 U,Yp U _,?_⟩)
    . show(eY,Jm _ _ C,e3)
    . first|(simp; done)|(rcases Y with rfl|⟨_,_,_,_,_,_,_,rfl⟩<;>simp)
def xqy {base:Heap}{env:Env}{outer:oz}{L e:Addr}{cls:Value}{od tb:i5}{Q:oq}
    (fr:zvf R3) (ff:zpl R3) (fL:zQV) (x:Xat s.heap e cls od tb)
    (k:(zTg,Stp ziT e tb s.heap h',zce T)) :
    zIM (noteFrame (.ref e) env):=by
  obtain⟨U,vs,D,R,O,H,K,y⟩:86:=x;unfold noteFrame;simp only[fL];rcases y with⟨rfl,h1⟩|⟨T,oT,ts,rfl,h1,nTe,gT,dT,h3⟩
  . ext fQ qah
    show(sK,eJ,xn6 fr ff fL D H K R O ⟨λ b o c _ _ _=>c,λ b o c _=>R8 c⟩ f8 k)
  . ext fQ qah
    show(sQ,fe zMF,Jn gT dT h3 ?_);show(lG,show ¬ (rC Jg zyW) from ip rawInt);show(fQ,Qn gT dT qaF ?_);have C:∀ b,Vo->(s.heap.update T (Q1 (·.setIfInBounds 3 Jg))).get? b=zZO:=zOB;have P:AO lI (∀ vs,o.data≠.fields vs) Vo:=λ b o c v q=>by
      rw[q] at c;have z:=gT.symm.trans c;cases z;exact v ts dT
    refine xn6 (g:=s.heap) fr (ff.of_keeps λ b o c v=>(jv,o,(C b (P b o c v)).trans c)) fL ((C e (Zz nTe)).trans D) H K R O
      ⟨λ b o c _ S _=>(C b λ z=>S (congrArg some z.symm)).trans c,λ b o c bf=>jF o.slots⟩ (Nat.le_of_eq (Heap.size_after_update ..).symm) k
    . obtain⟨_,X,J,v⟩:=ff.mem bf
      have z:=c.symm.trans J;cases z;exact (C b (P b _ c v)).trans c
#check _
section
variable {prog:Program}{w:World}{A:Around}{E:Value->Shared->Prop}{h:Heap}{g:Array GenState}{d:Drawn}{t:Nat}{os:OsState}
variable {nm qn:Str}{C N:Addr}{bs bm bmB:List Value}{hz:Bool}{sn:List Str}{sub:List Value}{ab:Bool}{col:Option Bool}{dd:Option Addr}{k0 k1 k2 k3 k5:Option Value}{B ni ii:String}
def xm2 (F:Xt) (T:zaW) {us:fD}{fI:Addr}{oI:Obj}{Q:lK Fin}
    (gC:qV C (excClassObj nm qn C N bs bm hz sn sub ab col dd k0 k1 k2 k3 k5 ni))
    (hi:zBo)
    (gI:qV fI oI) (cI:zKN) (lu:zro)
    (k:∀ h' e,W7 h h' e (.ref C) us->zbL ->
      (yw zLD (λ r s'=>r=.none/\Q (.done (zgB e)) s') zbd)) :
    zIE (mh,gZ::us):=by
  repeat (first|with_reducible ext zfv|with_reducible ext zQS|ext js)
  ext zBD lu;show(mF,_);generalize K:(Ci us.toArray:Obj)=v;show(oJ,M,v.isFreed,Lo K)
  generalize I:(zCV:Obj)=m;show(eC,O,iK m.isFreed,Lo I,up,(sN,oW,((h.push v).push m).get? b=some o),λ b o q=>Ze m (Ze v q));show(eK,H,up _ _ gC,D,up _ _ gI);have J:((h.push v).push m).get? Rf=some m:=by
    ext zWK v O
  have P:m.cls=gZ:=by rw[<- I]
  have L:(Lc).contains gZ=true:=eS
  unfold isInstance
  repeat (first|(with_reducible ext ziF J P)|(with_reducible ext ziE H L)|ext js)
  show(mF,typeLookup gZ _);refine hi _ _ _ _ up ?_;show(Uj,?_);unfold bindSpecial;show(fQ,QE (T:="function") (hB D cI) ?_);rw[fe eJ];refine Zh (Zb (Ji (k _ Rf (eG,up,YM (Y5 _),(fY,h.objs.size,?_,YM (Zk _),?_)) (Y5 _)) (uP r s') Lg))
  . ext eY I J
  . show(eY,K,Ze m (Zp h M))
  . obtain⟨rfl,z⟩:=z
    wp_walk
    ext lT
def xpg (F:Xt) (T:zaW) {us:fD}{fI:Addr}{oI:Obj}{Q:fM}
    (gC:qV C (excClassObj nm qn C N bs bm hz sn sub ab col dd k0 k1 k2 k3 k5 ni))
    (hi:zBo)
    (gI:qV fI oI) (cI:zKN) (lu:zro)
    (k:∀ h' e,W7 h h' e (.ref C) us->zbL ->
      wpAny jk (zlH (mh,gZ::us)) zLD (λ r s'=>r=.none/\Q pE s') E zbd) :
    yw zvx Q E2:=by
  ext zIO;show(jR,v,(NS E2).TypeIs gZ "type",jo gC,zLK);show(mF,callAny gZ _)
  repeat (any_goals (first|ext jd|with_reducible ext zfv|ext js))
  show(zBX,xm2 F T gC hi gI cI lu (ib h' e q m));exact k h' e q m
def xv6 {M:Model}{s:Shared}{env:Env}{x:Sw}{Q:lK Flow} (hh:E8)
    (k:zn M x (λ v s1=>∃ e od C nm qn N bs bm hz sn sub ab col dd k0 k1 k2 k3 k5 ni,(fb,v=pE,zFS,s1.heap.get? C=some (excClassObj nm qn C N bs bm hz sn sub ab col dd k0 k1 k2 k3 k5 ni),Gj s1.heap none,E (.ref e) s1))) :
    D3 (raiseStmt env (some x) none):=by
  unfold raiseStmt;show(fQ,Ji k (uP v s1) Lg);obtain⟨e,od,C,nm,⟨qn,N,bs,bm,hz,sn,sub,ab,col,dd,k0,k1,k2,k3,k5,ni,rfl,H,b,⟨O,vs,q,D,L,B,J,y⟩,j⟩⟩:121:=z;have m:(Lc).contains (jK "BaseException")=true:=zaK H
  obtain⟨P,g,d,I,K⟩:=s1;rcases y with⟨_,y1⟩|⟨T,_,_,z,_⟩
  . repeat (first|(with_reducible ext ziF q D)|with_reducible refine JM b ?_|(with_reducible ext ziE b m)|ext js)
    rw[B];ext ud;rw[y1];ext ud;show(N4,zia,WE hh j)
  . ext mB
#check _
#check XL
namespace XL
open PySem PySem.W PySem.Calls PyProof.Rows Builtin Builtin.ObjectAttr
noncomputable def vErr:fD:=[jK "ValueError",jK "Exception",jK "BaseException",jK "object"]
noncomputable def xgh:fD->Bool
 | []=>false
 | .ref c::r=>xgh r||((.ref c::r:fD) == vErr)
 | qC=>qC == vErr
noncomputable def xcj (K:Frag) (C:Addr):Bool:=(clsIn K C).any λ b=>xgh b.mro
theorem xkl (self:Value):zRd (zGS l)
 | [],e=>zvV
 | qC,e=>by
  have last:((v::r:List Value) == vErr)=true->(zGS qC):=λz=>by
   rw[Qw z];exact PySem.F.store_ValueError.passes self
  cases v with
  | ref c =>
   rcases zLr with z|z
   .rw [refuseLoop_ref];exact xkl self z
   .exact last z
  | _=>exact last e
theorem xim:(zRd,l.contains (jK "object")=true/\l.contains (jK "BaseException")=true/\(iK l.isEmpty))
 | [],e=>zvV
 | qC,e=>by
  have last:((v::r:List Value) == vErr)=true->(qC).contains (jK "object")=true/\(qC).contains (jK "BaseException")=true/\(iK,(qC).isEmpty):=λz=>by
   rw[Qw z];ext Ia gH gH
  cases v with
  | ref c =>
   rcases zLr with z|z
   .obtain ⟨a,b,_⟩:43:=xim z;show(Ia,zaK a,zaK b)
   .exact last z
  | _=>exact last e
structure XC (K:Frag) (C:Addr):Prop where
 over:r8 C
 hd:hasDictIn K C=true
 sa:Pu "__setattr__" zKT
 ga:Pu "__getattribute__" (Ny "BaseException.__getattribute__")
 gh:Pu "__getattr__" none
 ca:Pu "__class__" zLS
 cg:specialIn K OP "__get__"=some zHT
 ct:(zgL,takesIn K OP)
section
variable {prog:Program}{w:World}{A:Around}{E:Value->Shared->Prop}{s:Shared}{K:Frag}{x C dx:Addr}{ox:Obj}{od:Option Obj}{name:Str}{v:Value}{R:Result->Shared->Prop}
def XC.mro (c:rG):∃ cd,clsIn K C=some cd/\xgh cd.mro=true/\cd.hasDict=true:=by
 show(eE,cd,f,n,any_some c.over);show(eE,p,b,j,any_some c.hd);ext HG f;exact fY cd f n j
def XC.isObj (c:rG):zSa "object":=by
 show(rX,n,h,f,c.mro)
 obtain⟨a,_,b⟩:43:=xim f;ext zUE
def XC.isExc (c:rG):zSa "BaseException":=by
 show(rX,j,h,f,c.mro)
 obtain⟨_,a,b⟩:43:=xim f;ext zUE
def xuc {tk:Tok} (X:tO) (c:rG) (I:zzM) (ha:zbM)
    (h:wpAny jk A.in1 (storeInOwnDict mQ gZ Fo name v false)
      (λ fin s'=>match fin with|.done f=>R (.ok f) s'|.again c'=>zIn R) zMa s) :
    codeAny jk A (.call (.builtin "object.__setattr__") (mh [mQ,Fo,v])) R s:=by
  have z:=PySem.F.store_object;show(rX,J,H,D,c.mro)
  have sub:Looks jk s.heap (zWT "object") true:=zLE c.isObj;refine Q4 z.slot.plain z.entry (@check_slot jk _ _ s "object.__setattr__" "object" "__setattr__" mQ [Fo,v] [] _ z.kind z.split sub (z.args mQ Fo v) ?_);have B:Looks jk s.heap (mroOf (.ref C)) J.mro:=(zxY H).andThen .now;rw[osa_eq,refuse_eq];show(fQ,Zb (I.type.here (Zb (B.here ?_))));rw[xkl _ D];refine Zh (Zb (I.type.here (Zb ((looks_findIn X ha).here (Zb ((Looks.now (a:=(none:CJ))).here ?_))))));exact h
def x04 (X:tO) (c:rG) (hx:zgO) (hc:Sv) (ho:zoO) {Q:lK i5} (h:Q oB s) :
    jQ (ownDictForStores (.ref x)):=by
  show(L0,q,j,b,c.mro)
  unfold ownDictForStores instanceDict;show(fQ,QJ hx ?_);rw[hc];refine Zb ((zxY j).here ?_);rw[b,ho];exact Zh h
def xw1 {ns:eO}{mA:im}{Q:oq} (X:tO) (c:rG) (hx:zgO) (hc:Sv) (hn:zpz) (ho:zoO) (hm:zUb)
    (ha:zbM) (hw:Qk mA ns) (hz:zrn)
    (h:(CI,h'.Ns1 dx (zqD,mA y),FT dx,(),zsh)) :
    zmH:=by
  show(zya,m,z,id hm);show(zFr,some m,(fh,hx,hc,hn,eP ho z));show(Sc,x04 (s:=nX) X c hx hc ho ?_);show(Sc,?_);refine wpAny_nsSet1 (s:=nX) hm (xG b j);show(yG,J,L,H,q,B,D,b.count (Qk.cons name v hw));show(fQ,wpAny_lookBehind q (zmf B D (uc ZB)) ?_);exact Zh (h _ b j)
def xyj {Q:oq} (X:tO) (c:rG) (hx:zgO) (hc:Sv) (hn:zpz) (ho:ox.dict=none) (hf:iK ox.isFreed)
    (ha:zbM)
    (h:∀ h',h'.get? x=some { ox with dict:=OV }->h'.Ns1 s.heap.objs.size (zqD none) ->
      (zdw x lI uW)->(zce h'.objs.size)->Q () zsh) :
    zmH:=by
  show(L0,cd,Y,U,c.mro)
  show(zFr,none,(fh,hx,hc,hn,by rw[ho]; trivial));show(Sc,?_);unfold ownDictForStores instanceDict;show(fQ,QJ (s:=nX) hx ?_);show(sQ,hc,(zxY Y).here (s:=nX) ?_);rw[U,ho,fH eS];obtain⟨oc,R,B,J⟩:=ox
  dsimp only at hc ho
  subst hc ho;have D:(Ii).get? x=some (fh gZ none B J):=Ze _ hx;have nx:x≠s.heap.objs.size:=Ek hx;have L:wpAny jk A.in1 (do let d <- alloc (jt,"dict",.dict #[]); update x (λ o=>{ o with dict:=some d }); dictMade gZ x d)
      (λ a s'=>wpAny jk A.in1 (match a with|some d=>storeInDict d (.str name s.toks) name v|none=>noDictFor mQ gZ name false)
        (λ M s'=>match M with
          | .done f=>(match (Except.ok f:Result) with|qaG=>Q () s'|.ok _=>False|zyM=>E e s')
          | .again c'=>zIn (λ r s'=>match r with|qaG=>Q () s'|.ok _=>False|zyM=>E e s'))
        zXC s') zXC nX:=by
    refine Zb (wpAny_alloc' ?_);show(fQ,wpAny_update' D ?_);ext ud
    dsimp only
    have g2:((Ii).update x λ o=>{ o with dict:=OV }).get? s.heap.objs.size=some (jt,"dict",.dict #[]) :=
      (zOK nx.symm).trans (Heap.get?_push_at rfl rfl)
    have S:((Ii).update x λ o=>{ o with dict:=OV }).Ns s.heap.objs.size j8 :=
      (xI,_,#[],_,g2,λ e T=>Ol T,re)
    unfold storeInDict newKeyGuard;show(Sc,wpAny_nsSet1 (Heap.Ns1.of_empty S) (xG O H));show(yG,oD,eD,pD,Z,dD,cD,O.count (Within.cons name v Within.nil));show(fQ,(wpAny_lookBehind Z (zmf dD cD (by rw[ZB,QB,Qf]; lia)) ?_));refine Zh (h h' ?_ O (yW bx P) ?_)
    . refine (H.2 x nx).trans (ZW _ D ?_)
      cases B<;>first|rfl|exact hf
    . exact (H.2 b (Ek P)).trans ((zOK bx).trans (Ze _ P))
    . rw[H.1,Heap.size_after_update,Jp]
      exact Y5 _
  cases B<;>first|exact L|cases hn
def xwz (v:Value):bindSpecial (.builtin "BaseException.__getattribute__") v=pure (vN "BaseException.__getattribute__",[v]):=by
 have f:=PySem.F.attr_ValueError.ga.bind v;exact f
def xsz:plainId "BaseException.__getattribute__"=true:=PySem.F.attr_ValueError.ga.plain
def xrw {Q:fM}{expr fill:Bool}{tk:Tok} (X:tO) (c:rG) (I:zzM)
    (h:wpAny jk A.in1 (Builtin.«object.__getattribute__» (mh [mQ,Fo]))
      (λ fin s'=>match fin with|.done (.ret v)=>yw (handedOut v) Q s'|_=>False) yh s) :
    jQ (getAttrBy mQ Fo fill expr):=by
  ext vi j d t q;show(Bz,H,zqV,D,zUY c.ga,L2,zUY c.gh);have sub:Looks jk j (zWT "BaseException") true:=zLE c.isExc;have B:iK (onTheHeap (Zl C)&&zGO == zJo):=by
    rw[(zzu,sD zGO zJo)]; rfl
  have u:iK (expr&&onTheHeap (Q0 "BaseException.__getattribute__")):=by cases expr<;>rfl
  unfold getAttrBy;refine Jv (Zb (H.at (Zb (D.at ?_))))
  dsimp only
  rw[B];ext zT;unfold getAttrByItsOwn hookBefore;show(fQ,L2.at (Zb (YB (Jv ?_))));unfold callGetattribute;rw[u];ext zT;unfold boundAndCalled;rw[xwz];refine Zb (Zh (Qc (Q4 xsz PySem.F.entry_bexc_ga
    (@check_slot jk _ _ (gF j g d t q) "BaseException.__getattribute__" "BaseException" "__getattribute__" mQ [Fo] [] _ gH gH sub (PySem.F.args_bexc_ga _ _) ?_))))
  refine Ji h (uP fin s') λ e s' z=>z.elim;rcases fin with (_|_|_|_)|_<;>first|ext lT|exact z.elim
def x0c {Q:fM}{expr:Bool} (X:tO) (c:rG) (hx:zgO) (hc:Sv) (hn:zpz) (ho:zoO) {o1:Obj} (g1:EU dx o1) (hl:lookIn name o1=some ku)
    (ha:zbM) (hv:handedIn v=true) (h:Q v nX) :
    zJG:=by
  show(eC,I,zpZ (some o1),(fh,hx,hc,hn,eP ho g1),b,findObj K C (some o1) name=some (.value v),findObj_own c.hd ha rfl hl);unfold getAttr;refine Zb (wpAny_mkText ?_);ext zSK;show(eK,m,zqV,j,zUM b);ext vi z d t q;refine Zb (Zh (Zb (Zh (Zb (m.at (Zb (j.at ?_)))))));ext ud;show(mF,handedOut v);show(N4,handedOut_of hv,h)
def xtn {Q:AX} (X:tO) (c:rG) (I:zzM) (h:Q Ni nX) :
    jQ (getAttr? (.ref x) "__class__"):=by
  show(L0,H,v,D,c.mro)
  have q:findObj K C od "__class__"=some (.bind (.builtin "getset_descriptor.__get__") OP):=by
    unfold findObj;rw[v,Wf,c.ca,Wf];simp[c.cg,c.ct]
  unfold getAttr? getAttrBy?;refine Zb (wpAny_mkText (Zb (YB ?_)));ext zSK;show(eK,B,zqV,z,zUM q);show(Sc,Zh (Zb (B.here (s:=nX) (Zb (z.here (s:=nX) ?_)))));show(mF,(holding [_] (call _ [_,mQ,gZ])>>=ret));show(fQ,Jv (Qc (class_get (s:=nX) (ox:=ox) (od:=od) X I c.isObj ?_)));ext ud;show(mF,handedOut (.ref C));exact Zh (Zh h)
#check _
#check XL
namespace XL
open PySem
def xsj {x y:Str}{v:Value} (hx:v.isStr x=true) (n:y≠x):v.isStr y=false:=by
 cases v<;>simp_all[Value.isStr];exact λ z=>n z.symm
theorem xi1 {name y:Str} (n:y≠name):∀(l:zbS) (i:Nat),l.findIdx? (·.key.isStr name)=y8->(qbJ).find? (·.key.isStr y)=l.find? (·.key.isStr y)
 | [],i,h=>yg
 | e::r,i,h=>by
  rw[List.findIdx?_cons] at h;by_cases q:e.key.isStr name=true
  .ext Tf DM;have z:=xsj q n;simp[z]
  .ext lF DL;cases hi:r.findIdx? (·.key.isStr name) with
   | none=>ext BA hi
   | some j =>
    ext gQ hi h h;have b:=xi1 n r j hi;simp only[List.eraseIdx_cons_succ,JX];split
    .rfl
    .exact b
section
variable {M:Model}{A:Around}{E:Value->Shared->Prop}{s:Shared}{env:Env}
def xuv {a:Addr}{m:im}{name:Str}{Q:AD} (hn:s.heap.Ns a m)
    (k:∀ h' m',(gb,h'.Ns a m',Xx name,zqY,Q zqj kZ)):D3 (nsDel a name):=by
  obtain⟨o,v,U,D,T,P,O⟩:104:=id hn;have H:v.any (·.refKey)=false:=by
    rw[Array.any_eq_false'];intro e Z;show(GT,n,t,h,P e Z);simp[DictEntry.refKey,h]
  have c:zqj=v.any (·.key.isStr name):=by
    rw[<- O name];simp only[nsFind,findBy,QV];rw[JO];simp only[Array.find?_isSome,Array.any_eq_true];constructor
    . ext S5 z hz L
      show(Du,j,rfl,Array.mem_iff_getElem.mp hz);ext fU i j L
    . rintro ⟨i,j,L⟩
      exact(hB,Array.getElem_mem j,L)
  have R:nsHas name o=pure (v.any (·.key.isStr name)):=by
    rw[nsHas_eq];unfold nsHasByArray;rw[T];show (La,(v.any λ z=>z.key.isStr name)=true,_)=_;generalize (v.any λ z=>z.key.isStr name)=b;cases b<;>simp[H]
  unfold nsDel;show(fQ,QJ D ?_);rw[R];ext Fv;rw[<- c];cases q:zqj
  . show(S9,k s.heap m hn oY (.refl ..),q);exact Zh z
  . show(fQ,wpAny_updatePart D (Zh ?_))
    have J:∃ m',(s.heap.update a (Obj.dropName name)).Ns a m'/\(Xx name):=by
      ext NQ cl d dt sl;subst T;cases j:v.findIdx? (·.key.isStr name) with
      | none =>
        show(fU,m,(sU,_,_,U,ZW _ D Xd,Xd,P,O),oY)
      | some i =>
        refine hB (sU,_,_,U+1,ZW _ D Xd,Xd,P.erase i,re) zxb;rw[<- O y];obtain⟨l⟩:=v;have C:l.findIdx? (·.key.isStr name)=y8:=Pn
        have z:=xi1 hy l i C;simp only[nsFind,findBy];have Y:i<l.length:=by
          have:=List.findIdx?_eq_some_iff_findIdx_eq.mp C;exact this.1
        have e1:(Array.mk l).eraseIdxIfInBounds i=Array.mk (l.eraseIdx i):=by
          simp[Array.eraseIdxIfInBounds,Y]
        rw[e1];simp only[List.find?_toArray];rw[z]
    ext eE m' X e' J;show(S2,k _ m' X e' zdb,q,z)
def xrd {n:Str}{pos:Pos}{m:im}{Q:oq} (hl:env.kindOf n=some .local) (hn:s.heap.Ns env.locals m)
    (hp:iK (env.scope.kind == .class||(env.scope.kind == .module&&env.locals != env.globals)))
    (h:∀ h' m',(gb,h'.Ns env.locals m',Xx n,FT env.locals,Q () (B2 Ma))) :
    D3 (do bindName env n .none; unbindBehindTheSuite env n pos):=by
  refine Zb (wpAny_bindName (wpAny_storeName_local hl hn (fJ H z v) hp));unfold unbindBehindTheSuite;refine WK ?_;unfold unbindName;show(fQ,wpAny_point (Zb ?_));unfold deleteName;simp only[hl,hp];ext lG eJ;show(fQ,xuv z (fW C B x D q));simp only[if_true,Option.isSome_some,Wa,ZD,if_false];refine Zh (wpAny_point (h C B x (eQ y j) (v.trans q)));rw[D y j,fH j]
#check _
#check XL
namespace L2
open PySem PySem.Spec PyProof.Rows XL
variable {q0:Bool}
noncomputable def XN (e C:Addr) (od:i5):HO:=.ext λ h=>Gj h none
noncomputable def XO (e C:Addr) (od:i5):HO:=.ext λ h=>zqX
noncomputable def XD (dx:Addr) (fs:lw):HO:=.ext λ h=>PK/\∃ mA,RF/\Im/\Qk mA (fs.map (·.1))
section
variable {P:Program}{w:World}{H:Hp}{h:Heap}{e C dx:Addr}{od:Option Addr}{fs:List (Str × V)}
def xot (x:Gj h none):xbe P w H h e zxl:=by
 ext zWG
 .ext zJw
 .obtain ⟨j,vs,g,c,o,d,sz,y⟩:86:=z;rcases y with y|⟨T,_,_,z,_⟩
  .exact (qJ,j,vs,k j g,c,o,d,sz,.inl y)
  .ext mB
def xt2 (x:zqX):xbe P w H h e LD:=by
 ext zWG
 .ext zJw
 .obtain ⟨j,vs,g,c,o,d⟩:84:=z;exact(qI,j,vs,k j g,c,o,d)
def xpw {tb:i5} (x:Gj h tb):zqX:=by
 obtain⟨b,vs,g,c,o,d,_⟩:85:=x;exact qI b vs g c o d
def xyq {h1 h2:Heap}{m:im} (n:h1.Ns1 dx m) (k:zGc dx):h2.Ns1 dx m:=by
 ext GS o a b g r n;exact(Mb,a,b,k o g)
def xtw (hl:PK) {mA:im} (n:RF) (r:Im) (wi:Qk mA (fs.map (·.1))):xbe P w H h dx L3:=by
 show(jV,⟨hl,⟨63,mA,n,r,wi⟩⟩,?_,ib j c z k)
 .obtain ⟨o,q,v,g,_⟩:102:=n;ext fc o g
 .obtain ⟨hl,mA,n,r,wi⟩:=z;show(fc,hl,(fY,mA,xyq n k,r,wi))
#check _
noncomputable def CXo (P:Program) (w:World):CXT:=λ c H s E u s'=>∃ e C od H' T,u=pE/\s'.os=s.os/\zbx/\(MZ (frs c) [] H' s'.heap)/\zQA /\
 (fb,Gj s'.heap Ha,kf e LD,zce T,zkc T,E e C H')
noncomputable def Tbs (X:Cx) (pins:fP) (H:Hp) (tb:i5):Prop:=∀ T,D0 tb T (fb (EJ T) (gz T) (zwz T) (Cj T) (PZ T))
noncomputable def xhq (X:Cx) (E:A6):Prop:=∀(pins:fP) (Z:St) (H:Hp) (s:Shared) (e C:Addr) (od tb:i5),Inv X pins Z H s->(Gj s.heap tb)->(fO e LD) ->
 zVc->E Z e C H->X.xe (.ref e) s
section
variable {X:Cx}{pins:List (Addr × Obj)}{Z:St}{H:Hp}{s:Shared}{e C:Addr}{od tb:Option Addr}
def Inv.size_lt (I:eR) {b:Addr} (h:zPK):zXR i8:=by
 refine(gX,I.hok.fresh h,yR,ib x c hc z,uP p hp)
 .ext lF z;show(jB,I.lt,zyR)
 .obtain ⟨v,o,q,_⟩:82:=I.cell x c hc;show(h7,z,q,absurd (Zu q) zyR)
 .have g:=(FN).1;show(h7,z,g,absurd (Zu g) zyR)
def Inv.noted {h':Heap}{T:Addr} (I:eR) (he:fO e LD) (tbs:zVc) (st:Stp vd e tb s.heap h') (x:Gj h' Ha) :
    BV kZ:=by
  show(eC,J,R6 e,(vZ,n,pj z he n n),D,(HJ,tb≠some b),Hz j (NC,fV (tbs b z),j))
  show(eC,B,(HJ,b∉vd),Hz j (NC,I.stkFree b z,j),M,∀ b u o,(gb,kC,b≠e,lI,uW),λ b u o j ne g=>st.keep b o g ne (D b u j) (B b u j));have un:MZ vd tb.toList H h':=by
    refine(hV,λ b o g n j m=>st.keep b o g (J b n) (λ z=>m zjk) j,λ b o g n j m=>st.slot b o g j,λ b o g n m=>n,yW g m,vZ xs z,λ b o u z=>z,(vZ,ps,zkk zjk));by_cases b1:b=e
    . subst b1
      obtain⟨O,_,P,_⟩:82:=x;ext fc O P
    . by_cases b2:b∈vd
      . show(tY,S,st.slot b o g b2)
        ext we q
      . show(fc,o,st.keep b o g b1 (λ z=>m zjk) b2)
  have K:zty h':=λ b u j=>by
    by_cases b1:b=e
    . ext rA b1 he j j;exact xt2 (xpw x)
    . refine (I.hok b u j).stay (ib c v A q) zys (Dx q)
      rcases A with rfl|A
      . exact M c u v j b1 q
      . exact M c _ v A (mK he A) q
  refine I.call (g':=s.gens) (d':=s.drawn) (t':=s.toks) (ch:=tb.toList) un K I.bare (qH j);have z:tb=some b:=by
    cases tb with
    | none=>simp at j
    | some T'=>simp at j; rw[j]
  obtain⟨a1,_,a3,R,Q⟩:45:=tbs b z;exact(gX,.inr a1,a3,R,Q)
def xhq.pass {E:A6} (t:xhq X E):xet PV X E:=λ f Z H s u s' I h=>by
 obtain⟨e,C,od,H',⟨T,rfl,v,j,un,m,x,y,n,A,q⟩⟩:121:=h;show(jR,J,mW f H' s',I.call' v un m j (ch:=[]) zZh,t f Z H' s' e C od Ha J x y (eQ B z) q);cases z;obtain⟨_,a,b,c⟩:44:=I.size_lt n;exact(iu,Z5 I.sz n,A,a,b,c)
def xv:xet PV X zUn:=λ a Z H s u s' I h=>by
 obtain⟨e,C,od,H',⟨T,_,_,_,_,_,_,_,_,_,q⟩⟩:121:=h;exact q.elim
def xae {P:Program}{w:World}{K:Zd}{mg:im}{base:Heap}{N:eO}{qual:Str}{scope:Scope}{f:Addr}{cd:Value}{A:Around}{outer:oz}{s₀:Shared}{H₀:Hp}{E:XK} :
    xhq (cxOf q0 eW P w K mg base N qual scope f cd A outer s₀ H₀ E) (λ_=>E):=λ B Z H s e C od M I x D u q=>by
  show zI CW _ (leaving _ pE) _ _;unfold leaving;show(fQ,xqy (L:=s₀.heap.objs.size) I.ok.frames I.stack rfl x (fW h' T st y v));have J:=I.noted D u st v;exact(ir,e,C,od,H,ue T J.os J.bare J.base J.hok (iu,v,D,Z5 I.sz y,I.hok.fresh y,q))
#check _
#check L2
namespace XL
open PySem PySem.W
noncomputable def xqn (e:DictEntry):Bool:=match e.key with|.str _ _=>true|_=>false
noncomputable def xgv (K:Frag) (ns:Addr):Bool:=match K.lookup ns with
 | some (fh,_,_,.dict es _,_)=>es.toList.all xqn&&!(es.toList.any (·.key.isStr "__init__"))
 | _=>false
noncomputable def xja (K:Frag):fD->Bool
  | []=>false
  | fE::r=>(match K.lookup a with
      | some (fh _ _ zzE _)=>xgv K cd.ns&&xja K r
      | _=>false)
  | qC=>qC == vErr
def xt8 {K:Frag}{h:Heap}{ns:Addr} (X:Bb) (e:xgv K ns=true):∃ mA,h.Ns ns mA/\mA "__init__"=none:=by
 unfold xgv at e;ext kP
 .rename_i es n sl ho
  obtain⟨A,j⟩:=YO.mp e;show(pb,xI _ es _ zfW Ay re)
  .have q:=YU.mp A z (WC.mpr hz);unfold xqn at q;split at q
   .rename_i a b c
    ext fU a b c
   .cases q
  .unfold nsFind findBy;rw[<- Array.find?_toList];have z:es.toList.find? (λ e=>e.key.isStr "__init__")=none:=by
    rw[Jh];intro y x q;rw[Yz,List.any_eq_false] at j;exact j y x q
   rw[z];rfl
 .cases e
theorem xng {K:Frag}{h:Heap} (X:Bb):∀{l:fD},xja K l=true->OwnTail h vErr l
 | [],e=>zvV
 | qC,e=>by
  have last:((v::r:List Value) == vErr)=true->OwnTail h vErr qC:=λz=>by
   show(eY,Qw z,.base)
  cases v with
  | ref a =>
   unfold xja at e;ext kP
   .rename_i c d cd sl ho
    obtain⟨j,f⟩:=YO.mp e;show(eE,q,n,z,xt8 X j);exact .own zfW n z (xng X f)
   .cases e
  | _=>exact last e
def isTyVV (valx:Value):Bool:=match valx with
 | .type strx=>strx == "type"
 | _=>false
def isVEVV (valx:Option Value):Bool:=match valx with
 | some (.builtin strx)=>strx == "ValueError.__new__"
 | _=>false
def isClVV (C:Addr) (valx:Value):Bool:=match valx with
 | .ref adrx=>adrx == C
 | _=>false
theorem isTyVVo {valx:Value} (hypx:isTyVV valx=true):valx=.type "type":=by
  cases valx with
  | type strx=>rw[eq_of_beq (a:=strx) (b:="type") hypx]
  | _=>exact (Bool.false_ne_true hypx).elim
theorem isVEVVo {valx:Option Value} (hypx:isVEVV valx=true):valx=some (.builtin "ValueError.__new__"):=by
  cases valx with
  | none=>exact (Bool.false_ne_true hypx).elim
  | some valx=>
    cases valx with
    | builtin strx=>rw[eq_of_beq (a:=strx) (b:="ValueError.__new__") hypx]
    | _=>exact (Bool.false_ne_true hypx).elim
theorem isClVVo {C:Addr}{valx:Value} (hypx:isClVV C valx=true):valx=.ref C:=by
  cases valx with
  | ref adrx=>rw[eq_of_beq (a:=adrx) (b:=C) hypx]
  | _=>exact (Bool.false_ne_true hypx).elim
noncomputable def mkDVV (K:Frag) (C:Addr) (datx:Data):Bool:=match datx with
 | .cls clsx=>(match clsx.mro with
  | valx::restx=>isClVV C valx&&xja K restx
  | []=>false)&& !clsx.hasDel
 | _=>false
noncomputable def xbf (K:Frag) (C:Addr):Bool:=match K.lookup C with
 | some objx=>isTyVV objx.cls&&mkDVV K C objx.data&&(objx.slots.toList.length == 6&&isVEVV (objx.slots.toList.getD 4 none))
 | none=>false
theorem sixVV {tyx:Type} {lstx:List tyx} (hypx:lstx.length=6):∃ ax1 ax2 ax3 ax4 ax5 ax6,lstx=[ax1,ax2,ax3,ax4,ax5,ax6]:=by
  rcases lstx with _|⟨ax1,_|⟨ax2,_|⟨ax3,_|⟨ax4,_|⟨ax5,_|⟨ax6,lstx⟩⟩⟩⟩⟩⟩
  . cases hypx
  . cases hypx
  . cases hypx
  . cases hypx
  . cases hypx
  . cases hypx
  . cases lstx with
    | nil=>exact ⟨ax1,ax2,ax3,ax4,ax5,ax6,rfl⟩
    | cons xx1 xx2=>simp at hypx
def xhd {K:Frag}{h:Heap}{C:Addr} (X:Bb) (q:zjp):∃ nm qn N bs bm hz sn sub ab col dd k0 k1 k2 k3 k5,
    (qV C (excClassObj nm qn C N bs bm hz sn sub ab col dd k0 k1 k2 k3 k5 "ValueError.__new__"))/\zSn:=by
  unfold xbf at q
  cases eqnx:K.lookup C with
  | none=>rw[eqnx] at q; cases q
  | some objx=>
    rw[eqnx] at q
    have qqx:(isTyVV objx.cls&&mkDVV K C objx.data&&(objx.slots.toList.length == 6&&isVEVV (objx.slots.toList.getD 4 none)))=true:=q
    clear q
    rw[Bool.and_eq_true,Bool.and_eq_true,Bool.and_eq_true] at qqx
    obtain⟨⟨qx1,qx2⟩,qx3,qx4⟩:=qqx
    obtain⟨clx,ddx,dtx,slx⟩:=objx
    have qy1:=isTyVVo qx1
    dsimp only at qy1 qx2 qx3 qx4
    subst qy1
    cases dtx with
    | cls cdx=>
      obtain⟨nmx,bsx,mrox,nsx,qnx,hdx,snx,subx,abx,colx,delx⟩:=cdx
      cases mrox with
      | nil=>cases delx<;>exact (Bool.false_ne_true qx2).elim
      | cons valx restx=>
        have qx6:(isClVV C valx&&xja K restx&& !delx)=true:=qx2
        clear qx2
        rw[Bool.and_eq_true,Bool.and_eq_true,Bool.not_eq_true'] at qx6
        obtain⟨⟨qx5,htx⟩,rfl⟩:=qx6
        obtain rfl:=isClVVo qx5
        obtain⟨kx0,kx1,kx2,kx3,kx4,kx5,hsx⟩:=sixVV (eq_of_beq qx3)
        rw[hsx] at qx4
        have qy4:=isVEVVo (valx:=kx4) qx4
        subst qy4
        have hslx:slx=#[kx0,kx1,kx2,kx3,some (.builtin "ValueError.__new__"),kx5]:=by
          obtain⟨lstx⟩:=slx
          simp only at hsx
          rw[hsx]
        subst hslx
        exact ⟨nmx,qnx,nsx,bsx,restx,hdx,snx,subx,abx,colx,ddx,kx0,kx1,kx2,kx3,kx5,X _ _ eqnx,xng X htx⟩
    | _=>exact (Bool.false_ne_true qx2).elim
#check XL
namespace L2
open PySem PySem.Spec PyProof.Rows XL
variable {q0:Bool}
section
variable {X:Cx}{pins:List (Addr × Obj)}{Z:St}{H:Hp}{s:Shared}{a C dx:Addr}{od:Option Addr}{fs:List (Str × V)}{f:Str}{v y:V}{u:Value}{A:Around}{E:Value->Shared->Prop}
def xk9 (I:eR) (e:zxU od):Xat s.heap a gZ od none:=(uH a e).1
def xt4 (I:eR) (e:zaV):zEw (zoL ox):=(uH a e).1
def xle (I:eR) (e:zvH):PK/\∃ mA,zUb/\Im/\Qk mA (fs.map (·.1)):=(uH dx e).1
def xfu {o:Obj}{vs:jM} (d:zPH):PySem.W.notCls o=true:=by
 unfold PySem.W.notCls;rw[d]
def xtd {Q:oq} (I:eR) (e:zxU none) (c:zyt) (n:zmn) (ry:lz)
    (h:∀ dx s',zhZ->(Oe (upd (zvh zgY) a zwR))->Q () s'):znn:=by
  obtain⟨oe,vs,g,Y,oo,S,sz,tb⟩:86:=xk9 I e;refine xyj I.kIn c g Y (xfu S) oo (YE S) n λ h' g' n' k aa=>h s.heap.objs.size _ xX ?_;show(gq,U,zNK,xX,ab,a≠s.heap.objs.size,mK U e,R,R6 a,(vZ,D,pj z e D D))
  show(eC,nd,sN lI znK,λ b o L=>Ek L,B,HJ znK,(Hz,hb,pj z U hb hb))
  have x:∀ b,b≠a->znK->upd (zpm (XD s.heap.objs.size zgY)) a (XN a C OV) b=H b:=λ b b1 b2=>(hZ,xo b1,xo b2)
  have P:Xat h' a gZ OV none:=⟨86,_,vs,g',Y,rfl,S,sz,by
    rcases tb with t|⟨T,_,_,z,_⟩
    . ext je t
    . ext mB⟩
  show(eC,O,∀ b c,zfE (.own b) a,λ b c J z=>pj z e J J,M,∀ c xs,zfE ro a,λ c xs J z=>pj z e J J)
  refine I.un (hV,λ b o L D _ _=>zVA,λ b o L D _ _=>R8 zVA,λ b o L D _=>?_,λ b o L _=>?_,uP b xs,yW w z,vZ ps (jF,#[])) (fJ b w hb)
  . show(eY,x b (R b D) (nd b o L),D)
  . by_cases b1:b=a
    . show(we,eP b1 g')
    . show(fc,o,k b o b1 L)
  . show(eY,x b (M b xs z) (B b _ z),z)
  . show(eY,x b zRE (B b _ z),z)
  . rw[x b zRE (B b _ z),z]; simp
  . by_cases b1:b=a
    . ext rA b1 xh hb hb;exact xot P
    . rw[xo b1] at hb
      by_cases b2:b=s.heap.objs.size
      . ext rA b2 xh hb hb;refine xtw TD n' (iy g) zwN
        . show RelO (Jj g zgY) (Mm none)
          ext LP
          . rw[DM,q]
            simp only[Zy,beq_self_eq_true];exact ry
          . ext lG q
            simp only[Zy,beq_eq_false_iff_ne.mpr q];exact trivial
        . ext LP
          . simp[q]
          . show(jB,show (Mm none)=none from DL,hg)
      . rw[xo b2] at hb
        refine (I.hok b w hb).stay (ib c v J q) (eQ c q) (rR c xs)
        . rcases J with rfl|J
          . exact k c v b1 q
          . exact k c v (O b c J) q
        . show(eY,x c (O b c q) (B c _ q),q)
        . show(eY,x c (M c xs q) (B c _ q),q)
def xr9 {Q:oq} (I:eR) (e:zxU oB) (ed:zvH) (hl:zbP) (c:zyt) (n:zmn) (ry:lz)
    (h:PY (Oe (zvh KW))):znn:=by
  obtain⟨R,vs,g,O,D,M,sz,P⟩:86:=xk9 I e;obtain⟨_,B,nm,r,j⟩:=xle I ed;have hz:(fs.map (·.1)).length<=sizeLine:=MY Za Qf
  refine xw1 I.kIn c g O (xfu M) D nm n j hz zRR;show(jR,J,∃ o,EY dx,let ⟨o,_,_,e',_⟩:=v; Oj e',I.write (x:=dx) (e:=dx) (eP ed Jq) jO (λ b q L z=>(sb.2 b L).trans z) J ?_);refine xtw (Z5 (xgc f y fs) hl) v (iy g) zwN
  . show RelO ((KW).lookup g) (Mm,B g)
    rw[xgd];ext LP
    . ext ig DM DM ry
    . rw[DL,DL]; exact r g
  . ext LP
    . show(eY,q,(zem).1)
    . refine (zem).2 g (j g λ z=>hg ?_)
      show (Mm,B g)=none;ext sK q z
def xvb {b:Bool}{Q:fM} (I:eR) (e:pL (XO a C oB)) (ed:zvH) (c:zyt) (n:zmn) (l:XM)
    (h:zJA):zNa:=by
  show(o7,ox,vs,g,D,j,B,xt4 I e);obtain⟨_,q,nm,r,J⟩:=xle I ed;ext zJb i;show(eE,L,z,y,xkg nm);exact x0c I.kIn c g D (xfu B) j z (hZ y x) n (xkw i) (h u _ rp i)
#check _
noncomputable def sXF (K:Zd) (ta tv:TE) (f:Str):TS:=λD Z H=>tv Z H λy H1=>ta Z H1 λx H2=>∃ a C,x=.ref a/\rG/\ziY /\
  (((R7 (XN a C none))/\∀ dx,H2 dx=none->D.nx Z (upd (zeQ H2 zgY) a zwR)) \/
   ∃ dx fs,(fS,R7 zwR,tX dx L3,zbP,D.nx Z (zeQ H2 KW)))
inductive xzr (K:Zd) (f:Str) (x:V) (H1:Hp) (Q:VK):Prop
 | mk (a C dx fs v) (e_:BJ) (r_:H1 a=some (XO a C oB)/\(fb,yB dx L3,rG,ziY,XM,Q v H1))
noncomputable def tXF (K:Zd) (ta:TE) (f:Str):TE:=(zO,xzr K f x H1 Q)
section
variable {X:Cx}{o e value:Expr}{f:Str}{pos pos' tpos:Pos}{ta tv te:TE}
def xb6 (ha:zfo) (hv:zcl) (hs:zZd):znH zod (sXF X.K ta tv f):=by
 show(zGM,(iJ (zww j) u B y M L p q (zdR,ha j B Z M _ L q,ov,hV 1084 a C ex c n q2)));ext zWF;rcases q2 with⟨ea,q2⟩|⟨dx,fs,ea,ed,hl,q2⟩
 .exact xtd I2 ea c n p λ dx z J m=>(gM,Z,_,m,q2 dx J)
 .exact xr9 I2 ea ed hl c n p λ z m=>gM Z _ m q2
def xb8 (he:vt) (hb:zIb):zQM (tXF X.K te f):=by
 show(zRA,(lW u P x L J m ⟨a,C,dx,fs,v,y,B,z,c,n,l,q⟩ ?_));ext tM y m;exact xvb J B z c n l λ M O D p=>gU v L D p q
#check _
structure XMk (K:Zd) (C f:Addr):Prop where
 makes:zjp
 init:znf
 fn:Ur
 kp:zXj
noncomputable def xxt (C:Addr) (sp:Sp) (dvs:eB) (t:TA):TE:=λZ H Q=>t Z H λ vs H1=>vs.length<=1000/\∀ e,(U3 e) ->
 sp (Ue pE) (upd H1 e zdQ) (λ v a=>v=.non/\Q pE a) Cl
noncomputable def xyl (K:Zd) (te:TE) (E:A6):TS:=(qm,te Z H λ v H1=>∃ e C od,(jH,v,pE,yB e zxl,zjp,E Z e C (upd H1 e LD)))
section
variable {X:Cx}{k:Nat}{f C:Addr}{fd:FuncData}{ps:List Str}{sp:Sp}{dvs:List V}{ds:List Value}{E:St->XK}{x m:Str}{p pos apos:Pos}{e o:Expr}{es:List Expr}{ta te:TE}{t:TA}
theorem xqt {pins:fP}{Z:St}{H:Hp}{s:Shared}{Q:VK}{us:fD}{vs:eB} (M:XMk X.K C f) (F:FnOk q0 X.prog X.w X.K X.mg X.base PV k f fd ps sp) (hr:PN) (hb:zY) (hd:An)
    (I:eR) (r:GD) (hl:vs.length<=1000)
    (h:∀ e,G7->sp (Ue pE) LC (zRO pE) Cl) :
    uY zvx:=by
  obtain⟨nm,qn,N,bs,⟨bm,hz,sn,sub,ab,aa,dd,k0,k1,k2,k3,k5,gC,T⟩⟩:121:=xhd I.kIn M.makes;have R:PySem.W.typeIn X.K No=some zqx:=beq_iff_eq.mp M.fn;obtain⟨oI,gI,cI⟩:62:=Zg.mp (show (X.K.lookup f).map (·.cls)=some zqx from R);have lu:zro:=by
    have:=r.length;rw[<- this,Qf]
    lia
  ext zUD;refine xpg PySem.F.excBase_ValueError T gC (λ A' Q' E' s' kk q=>PySem.W.looks_findIn I.kIn M.init A' Q' E' s' kk q) (I.kIn _ _ gI) cI lu (ib h' e hm se);have hn:G7:=I.hok.fresh se;obtain⟨t0,ge,_,_⟩:63:=(hm.there)
  show(eC,P,zMZ,zMg ge,D,sG LC ⟨h',gg,d,L,Y⟩,zYS se (xot P));have O:=h e hn;have r2:Vals (Ue zAw) zTP:=zLC;have J:zeS (zvL++ds):=by
    show(S2,r2.length,zxW O,z.symm)
  refine Qc (Qi (F.run _ X.stack _ _ (mh zvL) zTP _ _ Cl zVH
    (D.env0.make C us []) (hb _ zvL D.kIn J) r2 O) (fJ r s' j))
  cases r with
  | error e'=>exact (xv pins Z _ _ e' s' D j)
  | ok fl =>
    cases fl with
    | ret u =>
      show(o7,v,H',I3,S,ev,U,D.after j);subst ev;show(fc,S,jf zAw H' I3 U)
    | next=>exact JP j
    | brk=>exact JP j
    | cont=>exact JP j
def xck (M:XMk X.K C f) (F:FnOk q0 X.prog X.w X.K X.mg X.base PV k f fd ps sp) (hr:PN) (hg:uq) (hm:zgZ) (hb:zY) (hd:An)
    (ha:Az) (hdb:autoParam (qP) aDec._auto_1) (he:autoParam (xS) aRfl._auto_1) (hpl:autoParam ((Cy).any (·.1)=false) aRfl._auto_1) :
    Rv (xxt C sp dvs t):=by
  show(zkN,M.kp,(thn zjK λ us z ⟨1084,vs,B,j,r,u,q⟩=>jF j.kIn));exact xqt M F hr hb hd j r u q
def Inv.toXO {pins:fP}{Z:St}{H:Hp}{s:Shared}{e:Addr}{od:i5} (I:eR) (h:fO e zxl):sG (jj e LD) s:=by
 have x:=xk9 I h;obtain⟨a,_,c,_⟩:82:=id x;exact I.write (x:=e) (e:=e) (t':=s.toks) (eP h Jq) jO (λ b u _ z=>z) (jU c) (xt2 (xpw x))
def xki {h:Heap}{bm:fD} (T:zSn):zFS:=T.hasType gH
def xcd (hh:zUh) (tk:xhq X E) (he:vt):PS X (.Raise zjF none pos) (xyl X.K te E):=by
 ext tq b;rw[arm_exec_Raise];refine Zb (WJ ?_);show(tN,raiseStmt X.env (some (do let v <- yj; standAt pos; pure v)) none);refine xv6 hh (Zb (thn (RO b) (lW,v,p,x,H1,f,r,iC 1104 a C od Q j mk q,Zb (WJ (Zh ?_)))));subst Q;show(ij,v=uK,r);obtain⟨nm,u,N,bs,⟨U,hz,m,sub,Y,c,S,M,L,J,B,y,P,T⟩⟩:121:=xhd f.kIn mk;have x:=xk9 f j;exact(ir,a,od,C,nm,ir u N bs U (ir,hz,m,sub,Y,ir c S M L ⟨125,J,B,y,_,rfl,xki T,P,x,tk b Z _ p a C od none (f.toXO j) x xh (λ T' z=>by ext mB) q⟩))
#check _
#check L2
namespace XL
open PySem PySem.W
section
variable {M:Model}{A:Around}{E:Value->Shared->Prop}{s:Shared}
def xs6 {fs:eV}{e T:Addr}{cls:Value}{od:i5}{Q:oq} (x:Xat s.heap e cls od Ha) (nf:∀ b∈fs,Vo)
    (k:(CI,Stp fs e Ha s.heap h',zRo,(),kZ)):D3 zLZ:=by
  obtain⟨K,vs,C,L,J,D,H,y⟩:86:=x;rcases y with⟨z,_⟩|⟨T',oT,ts,z,h1,nTe,gT,dT,h3⟩
  . ext mB
  . cases z
    unfold setFlight;show(fQ,Jn C D h1 ?_);rw[fe zMF];have v:3<ts.size:=qaF;have j:∀ b,Vo->(s.heap.update T (Q1 (·.setIfInBounds 3 ((none:i5).elim Jg zZt)))).get? b=zZO:=zOB;refine Qn gT dT v (k _ ⟨λ b o c _ O _=>(j b λ q=>O (congrArg some q.symm)).trans c,λ b o c bf=>(R8,(j b (nf b bf)).trans c)⟩ ?_);exact⟨86,K,vs,(j e (Zz nTe)).trans C,L,J,D,H,.inr ⟨106,T,_,_,rfl,h1,nTe,zvl gT dT,Yp dT _,ip v⟩⟩
variable {nm qn nm' qn':Str}{C N C' N':Addr}{bs bm bs' bm':List Value}{hz hz':Bool}{sn sn':List Str}{sub sub':List Value}{ab ab':Bool}{col col':Option Bool}{dd dd':Option Addr}{k0 k1 k2 k3 k5 j0 j1 j2 j3 j5:Option Value}{ni ni':String}
def xna {h:Heap}{g:zrp}{d:Drawn}{t:Nat}{os:OsState}{e:Addr}{oe:Obj}{b:Bool}{Q:AD}
    (gC:qV C (excClassObj nm qn C N bs bm hz sn sub ab col dd k0 k1 k2 k3 k5 ni)) (gC':qV C' (excClassObj nm' qn' C' N' bs' bm' hz' sn' sub' ab' col' dd' j0 j1 j2 j3 j5 ni'))
    (ge:qV e oe) (ce:oe.cls=gZ) (bB:bm'.contains (jK "BaseException")=true) (hm:(Lc).contains zAN=b)
    (k:Q b E2):wpAny M A (excMatches (.ref e) zAN) Q E E2:=by
  have j:(Zl C'::bm').contains (jK "BaseException")=true:=zaK bB
  have m:=tc_notTuple;unfold excMatches
  repeat (first|(with_reducible ext ziF ge ce)|with_reducible refine JM gC' ?_|(with_reducible ext ziE gC' j)|(with_reducible ext ziE gC hm)|ext js)
  cases b<;>(wp_walk; exact k)
#check _
#check XL
namespace L2
open PySem PySem.Spec PyProof.Rows XL
variable {q0:Bool}
noncomputable abbrev Cx.tryc (X:Cx) (pins:fP) (xe:fM):Cx:={ X with xe:=xe,pn:=CK }
noncomputable abbrev Cx.hand (X:Cx) (e:Addr):Cx:={ X with A:=X.A.mark (fX e),calm:=false,xe:=yh }
section
variable {X:Cx}{pins:List (Addr × Obj)}{Z:St}{H:Hp}{s:Shared}
def Cx.Ok.tryc (ok:X.Ok) (pins:fP) (xe:fM):(Kj).Ok :=
 zei
def Cx.Ok.untryc {xe:fM} (ok:(Kj).Ok):X.Ok :=
 zei
def Cx.Ok.hand (ok:X.Ok) (e:Addr):(LY).Ok :=
 zBu nB
def Inv.tryc (I:eR) (xe:fM):Inv Kj [] Z H s :=
 (VO,I.ok.tryc pins xe,λ p j=>I.pin p Pn)
def Inv.untryc {xe:fM}{pl:fP} (I:Inv Kj pl Z H s):eR :=
 (VO,I.ok.untryc,λ p j=>I.pin p (ZP _ j))
def Inv.hand (I:eR) (e:Addr):Inv LY pins Z H s :=
 (ziC,I.ok.hand e)
def Inv.unhand {e:Addr} (ok:X.Ok) (I:Inv LY pins Z H s):eR :=
 ziC ok
def Inv.gone {h':Heap}{m m':im}{n:Str}{j t':Nat} (I:eR) (hN:X.N.Nodup) (hj:hU X.N n) (hl:zFf)
    (hm:zmK) (hv:∀(i:Nat) (x:Str) (v:V),gb wL zwT Pf zGy)
    (n':h'.Ns X.env.locals m') (e':Xx n) (sb:FT X.env.locals):GZ zcX H MK:=by
  show(gq,B,zdw X.env.locals lI uW,(HE,nb,(sb.2 b nb).trans g),D,zFP,zLN,trk,HJ EX,(Hz,A,pj z I.free A A))
  refine⟨I.ok,I.os,I.bare,(zkX,λ b o e n A J=>B b o zAf (zbG A J),A,J,λ b o e n J=>zbp J),
    (eG,m',n',iR i x v T L e3),zfQ,I.free,I.freeC,Gz,fJ b u A,eP List.length_set I.len⟩
  . show(Vl,U,zbF A J,U,B b _ zAf q)
  . show(Vl,R,zrG J,R,B b R zAf q)
  . have K:i≠j:=λz=>by
      subst z;have O:i<Z.length:=(eP,I.len,ui hj)
      show(iF,Wy O,L,L)
    rw[YL (Zz K)] at L;show(kS,nx,x≠n,K (xij hN T (eP z hj)));show(U9,hv i x v T L e3);ext kR u r;rcases l with⟨k,z⟩|⟨k,c,e,o,M,P⟩
    . show(DS,k,(eP,e' x nx,z))
    . show(iY,(gY,k,c,e,o,B c o zdH M,P))
  . ext o6 v o M P Ro
    exact(gM,v,o,B c o zdH M,P)
  . ext yL e a S Y d FN
    exact(iu,B fK jJ S e,a,S,Y,d)
  . refine (I.hok b u A).stay (ib c v Q q) zys (Dx q)
    rcases Q with rfl|Q
    . exact B c v (trk c u A) q
    . exact B c v (trk c _ Q) q
#check _
noncomputable def endH (D:Ends) (j:Nat):Ends:={ nx:=λ Z H=>D.nx zcX H,rt:=D.rt,bk:=λ Z H=>D.bk zcX H,ct:=λ Z H=>D.ct zcX H }
noncomputable def tTry (K:Zd) (C0:Addr) (j:Nat) (E:A6) (tb th:TS):TS:=(qm,tb D Z H/\∀ σ' e C H',E σ' e C H'->zjp/\(zoj C C0)/\th (endH D j) (σ'.set j (fX e)) H')
section
variable {X:Cx}{pos np hpos:Pos}{body hbody:List Stmt}{b0:Stmt}{cx n:Str}{C0:Addr}{j:Nat}{E:St->XK}{tb th:TS}
theorem xqa (hg:Gl X cx) (hm:X.mg cx=some (.ref C0)) (mk0:xbf X.K C0=true) (hN:X.N.Nodup) (hj:hU X.N n) (hl:zFf) (hf:zIk) (hst:X.stack=PM)
    (hb:∀ pins xe,xhq Kj E->PSs Kj body tb) (hh:∀ e,PSs LY (b0::hbody) th) (hdb:autoParam (sD cx (ji "__debug__")) aDec._auto_1) :
    PS X (.Try body zCH [] [] pos) (tTry X.K C0 j E tb th):=by
  intro pins s Z H D I ⟨h1,h2⟩;refine wpAny_Try_except ?_;have ok:=I.ok;have T:xhq (X.tryc pins (λ e s₁=>rW (noteFrame e X.env) (λ_ s₂=>rW (setFlight e none) (λ_ s₃=>rW (handleBy e X.env zCH) ztL s₃) s₂) s₁)) E:=by
    intro pl σ' H' s' e C od af I' x he ae q;have J:=I'.untryc;have ac:Tbs X pins H' af:=λ T z=>by
      show(zyo,ae T z,a3,a4,(zp,a5 p (ZP _ hp)))
    show(nF,ai,mro,ak,h2 σ' e C H' q);show(rq,fr,X.A.frames=some PM,iz hst J.ok.frames,ff,s'.heap.FunFrames X.base PM,iz hst J.stack,xqy (L:=X.env.locals) fr ff hf x (fW h' T st sT x'));rw[<- hst] at st;have Y:=J.noted he ac st x';have ay:X.base.objs.size<=s'.heap.objs.size:=Z5 J.ok.bsz J.sz;have az:h'.FunFrames X.base X.stack:=Y.stack;have nT:∀ b∈vd,Vo:=λb hb z=>by
      obtain⟨_,o,ho,ax⟩:=J.stack.mem hb;show(h7,z,ho,absurd (Zu ho) (Wr.mpr sT))
    have fresh:=J.size_lt sT;have aa:Tbs X pins H' Ha:=λ T' z=>by
      cases z;exact(iu,Z5 J.sz sT,fresh.1,fV fresh,ux fresh,zB fresh)
    obtain⟨nm,qn,N,bs,⟨bm,hz,sn,sub,ab,a6,dd,k0,k1,k2,k3,k5,gC,TC⟩⟩:121:=xhd Y.kIn ai;obtain⟨av,au,N',a7,⟨a8,aw,as,aq,a9,ar,a0,j0,j1,j2,j3,j5,ao,ap⟩⟩:121:=xhd Y.kIn mk0;refine wpAny_handleBy_cons (codeAny_handlers_test (xex (X:=LY) (Y.hand e) hg hm ?_ hdb)) (by intro z; ext mB);obtain⟨oe,_,ge,ce,_⟩:83:=id x';have am:(Lc).contains (.ref C0)=true:=by
      show(eE,cd,e1,e2,Option.bind_eq_some_iff.mp mro);have e3:Lc=cd.mro:=by
        unfold PySem.W.clsIn at e1;split at e1
        . rename_i c1 d1 cd1 sl1 ho
          cases e1;have z:=(Y.kIn _ _ ho).symm.trans gC;show(zWk,_)
          injection z with z
          rw[z]
        . cases e1
      rw[e3];split at e2
      . cases e2
      . exact ZR.inj e2
    refine xna (M:=rV) gC ao ge ce (xki ap) am ?_;show codeAny _ _ _ _ _;refine codeAny_handlers_suite_as (xs6 (fs:=vd) x' nT (fJ h3 ah x3));show(jR,J3,GZ σ' H' { s' with heap:=h3 },Y.noted he aa ah x3,xgo (v:=zAw) J3 hN hj (.inl hl) rfl (eQ s4 J4) (.inr hl));show(Ck,hh e pins s4 _ H' _ (J4.hand e) ak,fJ f s5 q5);have R:∀{σ5:St}{B:Hp}{Q:oq},Inv LY pins σ5 B s5->(∀ U,(GZ (σ5.set j none) B U)->Q () U) ->
        (rW (do bindName X.env n Jg; unbindBehindTheSuite X.env n hpos) Q s5):=λ{σ5 B Q} S kq=>by
      have P:GZ σ5 B s5:=Inv.unhand ok S;show(eE,m,ad,aj,P.loc)
      refine xrd (show X.env.kindOf n=some .local from hl) ad (ip ok.kind) λ h6 m6 n6 e6 U=>kq _ (P.gone hN hj hl ad aj n6 e6 U)
    cases f with
    | next =>
      ext zkP
    | brk =>
      ext zkP
    | cont =>
      ext zkP
    | ret u =>
      show(yG,v,σ5,B,S,r,z,q5);exact R S λ U P=>oM v _ B P r z
  refine Ji (hb pins _ T [] s Z H D (I.tryc _) h1) (rR f s1) λ u s1 q=>q;cases f with
  | next =>
    ext NF J z q;exact Q7 (gM σ' H' J.untryc z)
  | brk =>
    ext zIq
  | cont =>
    ext zIq
  | ret u =>
    show(yG,v,σ',H',J,r,z,q);exact oM v σ' H' J.untryc r z
#check _
#check L2
namespace XL
open PySem PySem.W
def xqe {K:Frag}{x C:Addr} (c:rG):KitX K mQ gZ (λ h=>∃ ox od,InstAt h x ox C od) where
 ty:=λ_ _ _ ⟨1081,_,_,I⟩=>I.type
 it:=λ_ _ X _=>by
  ext zQy
  ext zRY
  .rename_i c' d' cd' sl' ho
   intro J D H s' k q;unfold isType loadHead;exact Zb (QJ (k _ _ (X _ _ ho)) (Zh q))
  .cases b
 ne:=λ h tp B its n A X u=>by
  ext zQy
  refine Jw.mpr (iy q);show(wW,C,tp,Zl.inj (beq_iff_eq.mp q));ext zRY
  .rename_i c' d' cd' sl' ho
   have z:=(zfW).symm.trans u;ext mB
  .cases b
 ca:=λ X ⟨ox,od,I⟩ k=>xtn X c I k
#check XL
namespace L2
open PySem PySem.Spec PyProof.Rows XL
variable {q0:Bool}
noncomputable def clsV:V->(iH Value)
 | .ty n=>some (jK n)
 | fE=>jS
 | _=>none
theorem xic {c:V}{u cv:Value} (e:zou) (r:RelV c u):u=cv:=by
 cases c<;>first|(ext mC; exact r)|cases e
noncomputable def xpn:eB->(iH fD)
 | []=>some []
 | c::r=>(clsV c).bind λ a=>(xpn r).map (a::·)
theorem xj6:∀{cs:eB}{us cv:fD},zQO->(zr cs)->us=cv
 | [],_,_,e,.nil=>by ext mC; rfl
 | c::r,_,_,e,.cons rc rr=>by
  show(eE,a,u,j,Option.bind_eq_some_iff.mp e);ext tR b h j;rw[xic u rc,xj6 h rr]
section
variable {X:Cx}{pins:List (Addr × Obj)}{Z:St}{H:Hp}{s:Shared}{A:Around}{E:Value->Shared->Prop}{Q:Value->Shared->Prop}
theorem xok {a C:Addr}{od:i5} (I:eR) (h:zaV) (hd:∀ d,(D0,od,d,∃ o,yY)):∃ ox odx,PySem.W.InstAt s.heap a ox C odx:=by
 show(o7,ox,vs,g,f,b,c,xt4 I h);cases e:od with
 | none=>exact(gY,ox,none,g,f,xfu c,by rw[b,e]; trivial)
 | some d =>
  show(Au,o,i,hd d e,⟨ox,some o,g,f,xfu c,yU b e i⟩)
#check _
inductive xzo (K:Zd) (xs:eB) (H:Hp) (Q:VK):Prop
 | mk (x c) (e_:xs=[x,c]) (r_:((∃ t cv b,(fS,TyOf K H x t,zou,Y3 K t cv=some b,uN b))\/(∃ a C od cv b,NH zaV (fb,zlb,rG,zou,Y3 K gZ cv=some b,uN b))\/(∃ a C od p cs cv b,(qu,BJ,zaV,zlb,rG,c=iX,SqT K H p cs,zQO,PySem.W.kitAny K gZ cv=some b,uN b))))
section
variable {X:Cx}
def xa1:xc0 X (vN "isinstance") (xzo X.K):=by
 intro D s Z H us xs Q I r h;obtain⟨x,c,rfl,h⟩:=h;show(jb,u,v,rfl,y,m,xi3 r);rcases h with⟨t,cv,b,ty,ec,ek,q⟩|⟨a,C,od,cv,b,rfl,ha,hd,xc,ec,ek,q⟩|⟨a,C,od,p,cs,cv,b,rfl,ha,hd,xc,rfl,hp,ec,ek,q⟩
 .show(nK,xic ec m);exact xqz I y ty ek zmE
 .show(nK,xic ec m);show(ij,u=uK,y);refine JG (xqe xc) I.kIn zRH ek nB zmE
  ext zCA
 .show(ij,u=uK,y);show(ij,v=Zl p,m);show(rX,its,L,O,I.tuple hp);show(nK,xj6 ec L);obtain⟨o,g,J,⟨n,j⟩⟩:63:=O;ext NQ S R P M
  dsimp only at J j
  subst J j;refine PySem.W.kia_tup (xqe xc) I.kIn zRH g ek nB zmE
  ext zCA
#check _
noncomputable def xeq (scope:Scope):eO:=(scope.names.filter λ x=>zud).map (·.1)
noncomputable def Cx.clo (X:Cx) (scope:Scope):zcv:=(LL).reverse.map λ n=>(n,(zaa).getD 0)
theorem xji {env:Env}{f:Str->Addr}:∀(l:zSr) (acc:zcv),(∀ x∈l,jh=.free->env.cells.lookup gG=some (f gG)) ->
    (forIn l acc λ x cs=>(if zud then do let c <- zYq; zki ((gG,c)::cs) else zki cs:Sem (ForInStep zcv))) =
      pure ((((l.filter λ x=>zud).map (·.1)).reverse.map λ n=>(n,f n))++acc)
  | [],acc,_=>rfl
  | x::r,acc,h=>by
    have j:=λ a=>xji r a λ y hy=>h y (Zm _ hy);rw[W0];by_cases q:jh=.free
    . show(mq,e,h x Zn q,b,rC jh WM,jn q)
      rw[fe b,Wj,fe b];have z:zYq=pure (f gG):=by unfold cellOf; rw[e]
      rw[z];simp only[pure_bind];rw[j];simp
    . show(oJ,b,jh == WM,zbg)
      rw[zuJ,Wj,zuJ];simp only[pure_bind];rw[j]
def xrm {X:Cx}{scope:Scope} (h:zNB):closureFor scope X.env=pure (X.clo scope):=by
 unfold closureFor;have z:=xji (env:=X.env) (f:=λ n=>(zaa).getD 0) scope.names [] λ x hx hf=>by
  show(ou,c,h gG (Zj.mpr (jv x (SK,hx,ip hf))));rw[e];rfl
 rw[W2] at z;refine (bind_pure (m:=Sem) _).trans ?_;ext lT
def xv9 {X:Cx}{scope:Scope}{n:Str}{c:Addr} (h:(K6).lookup n=some c):Ut/\c=(zaa).getD 0:=by
 have z:=JW h;unfold Cx.clo at z;show(eE,y,a,e,Zj.mp z);injection e with e1 e2
 subst e1;show(fc,List.mem_reverse.mp a,e2.symm)
theorem xf5 {f:Str->Addr}{n:Str}:∀{l:eO},n∈l->(l.map λ y=>(y,f y)).lookup n=some (f n)
 | [],h=>yg
 | y::r,h=>by
  rw[Zs,Zy];by_cases q:n=y
  .subst q;simp
  .rw [show sD n y from zbg];exact xf5 ((zhF).resolve_left q)
def xnk {X:Cx}{scope:Scope}{n:Str}{c:Addr} (hn:Ut) (h:OB):(K6).lookup n=some c:=by
 have z:=xf5 (f:=λ n=>(zaa).getD 0) (List.mem_reverse.mpr hn);unfold Cx.clo;rw[z,h];rfl
noncomputable def xek:TT:=(NL,Q true H)
noncomputable def PIf (X:Cx) (ifs:o5) (t:TT):Prop :=
 ∀(pins:List (Addr × Obj)) (s:Shared) (Z:St) (H:Hp) (Q:AC),eR->MG ->
  (zpX (zCr X.env (yK c)))
def xbk {X:Cx}:PIf X [] xek:=(zcE,Zh (eG H I h))
def xhp {X:Cx}{c:Expr}{t:TT} (hc:PT X c t):PIf X [c] t:=λa s Z H Q I h=>by
 rw[W0];ext MW;show(sQ,iT,Ji (hc a s Z H Q I h) (λ b e q=>Hw) Uw);exact Zh q
def xpv {env:Env}{scope:Scope} (nc:zlq) (n:Str) (h:(Pd).names.lookup n=some .cell\/(Pd).names.lookup n=some .free):Ut:=by
 have v:∀ k,(Pd).names.lookup n=some k->(k=.cell\/k=.free)->Ut:=λ k e hk=>by
  show(eE,y,B,A,Zj.mp (JW e));obtain⟨m,j⟩:=y
  dsimp only at A
  split at A
  .rename_i q
   injection A with e1 e2
   subst e1;have:j=.free:=by
    simp only[Z1,beq_iff_eq] at q;exact (rT).1
   ext Ec;show(zb,(pR,_,SK B eS,rfl))
  .injection A with e1 e2
   subst e1 e2;rcases hk with z|z
   .exact absurd z (nc _ B)
   .subst z;show(zb,(jo,SK B eS))
 rcases h with h|h
 .exact v _ h (.inl rfl)
 .exact v _ h (.inr rfl)
def xpb {env:Env}{scope:Scope}{n:Str} (h:scope.names.lookup n=some .free):(Pd).names.lookup n=some .cell\/(Pd).names.lookup n=some .free:=by
  have b:∀(l:zSr),l.lookup n=some .free->(zBs).lookup n=some .cell \/
      (zBs).lookup n=some .free:=λ l=>by
    induction l with
    | nil=>intro e; ext vR
    | cons y r ih =>
      intro e;obtain⟨m,k⟩:=y;rw[Zs];rw[Zy] at e;cases q:n == m with
      | true =>
        ext gQ q e e
        dsimp only
        split
        . left; rw[Zy,q]
        . right; rw[Zy,q]
      | false =>
        rw[q] at e;have z:=ih e
        dsimp only
        split<;>(ext ig Zy q z)
  exact b _ h
section
variable {P:Program}{w:World}{K:Zd}{mg:Str->Option Value}{base:Heap}
def Fun.okx {x qual:Str}{st:Stmt}{f:Addr}{fd:FuncData}{N ps:eO}{k:Nat}{sp:Sp} (F:Y2) (S:zcL) (len:Ig)
    (hbody:∀(cdv:Value) (A:Around) (outer:List Env) (s:Shared) (H:Hp) (vs:List V) (Q:VK) (E:XK),Room q0 k (A.deeper (envOfC qual (xu st) s.heap.objs.size f cdv))->CA ->
      (Ox (cxOf q0 eW P w K mg base N qual kE f cdv A outer s H E) kN)):FnOk q0 P w K mg base eW iw f fd ps sp:=by
  obtain⟨C,od,D,y,⟨B,an,cdv,I,q,rfl,u,m⟩⟩:121:=(F.ex)
  show(zHU,hbody cdv A outer s H vs Q E v c)
def Fun.okn {x qual:Str}{st:Stmt}{f:Addr}{fd:FuncData}{N ps:eO}{k:Nat}{sp:Sp} (F:Y2) (S:zcL) (len:Ig)
    (hbody:∀(cdv:Value) (A:Around) (outer:List Env) (s:Shared) (H:Hp) (vs:List V) (Q:VK) (E:XK),Room q0 k (A.deeper (envOfC qual (xu st) s.heap.objs.size f cdv))->CA ->
      (Ox,(cxOf q0 eW P w K mg base N qual kE f cdv A outer s H E).nox,kN)):FnOk q0 P w K mg base eW iw f fd ps sp:=by
  obtain⟨D,od,I,B,⟨C,an,cdv,J,u,rfl,v,m⟩⟩:121:=(F.ex)
  show(zCS,hbody cdv A outer s H vs Q E y c)
#check _
#check L2
namespace L2
open PySem PySem.Spec PyProof.Rows XL
def ifP {b:Bool}{A B:Prop} (h:DN) (q:A):zG A B:=by
 ext eY zjB q
def ifN {b:Bool}{A B:Prop} (h:iK b) (q:B):zG A B:=by
 show(sK,ve h,q)
section
variable {X:Cx}
def xf3:Ad .LtE (Ub,∃ i j,(gL,x,.str i,y=.str j,uN (!(hR (j.cps.toList<i.cps.toList))))):=by
 intro a s Z H x y v u Q I m f h;show(jb,i,j,rfl,rfl,q,h);ext jq m;ext kQ f;exact PySem.P.le_str (xa5 I q rfl)
def xm4:(Cm,jK "range",zXo (Fd (jj p (.rng i j)))):=by
 ext sV c;ext zDh m;refine call_range_2 (zcH,I.laid (t':=Ma) wH f8 (show xbe X.prog X.w _ _ _ (.rng i j) from gF 101 _ _ _ lY))
#check _
#check L2
namespace L2
open PySem PySem.Spec PyProof.Rows
variable {q0:Bool}
section
variable {X:Cx}
theorem xn0:∀{us:fD}{ys:eB},us.length=ys.length->(∀(j:Nat) (y:V) (u:Value),Ks us u lz)->(zr ys)
 | [],[],_,_=>.nil
 | Vj,rN,hl,h=>.cons (h 0 y u rfl rfl) (xn0 zqo λ j a b e f=>h oR a b e f)
noncomputable def rngL (lo hi:Int):eB:=(Zx (mV hi lo)).map (ua,V.int (lo+jT))
def xk7 (hc:qW):xc0 X zuO (λxs H Q=>∃ p lo hi,xs=[iX]/\(xK zvF)/\(fS,-nH<=lo,lo<nH,-nH<=hi,hi<nH)/\FK<=1000 /\
    ∀ l,qg->Q gS (iE H l (rngL lo hi))):=by
  ext sV B;obtain⟨p,lo,hi,rfl,O,⟨T,S,R,P⟩,D,q⟩:105:=h;show(eE,u,rfl,K,xdm r);cases K;obtain⟨t1,t2,t3,g⟩:101:=(show xbe X.prog X.w H s.heap p zvF from uH p O)
  refine call_list_range rZ g (small_one T S R P) (n:=FK) zmd (Z5 D eJ) λ h' J v c' M e C=>?_;show(zy,len,v.toList.length,(rngL lo hi).length,by rw[rngL,Za,ZU]; exact C.1,(zcH,I.laid (t':=J) M f8 (show Rk _ _ (.lst (rngL lo hi)) from ⟨?_,(gM,v.toList,c',xn0 len (fW j y u x U),ya)⟩)))
  . rw[rngL,Za,ZU]
    exact Z5 D eJ
  . have A:hU v u:=zpK
    obtain⟨t,Y⟩:=C.2 j u A;have lt:j<FK:=by
      have:=(Zi.mp x).1;simpa [rngL] using this
    rw[rngL,Zf,JK lt] at x;cases x;show(fc,t,hZ Y Int.mul_one)
#check _
structure FunD (K:Zd) (x qual:Str) (st:Stmt) (T f:Addr) (fd:FuncData):Prop where
 ex:∃(oc:Value) (od:i5) (kV doc pm:Value) (an:i5) (cdv ct:Value) (osl:zM),
  (gL,fd,Jd x qual mP kN kE Bd kV doc pm an cdv ct,O6 fd,OZ)
 kp:Uz
section
variable {P:Program}{w:World}{K:Zd}{mg:Str->Option Value}{base:Heap}
def FunD.okx {x qual:Str}{st:Stmt}{T f:Addr}{fd:FuncData}{N ps:eO}{k:Nat}{sp:Sp} (F:zpU fd) (S:zcL) (len:Ig)
    (hbody:∀(cdv:Value) (A:Around) (outer:List Env) (s:Shared) (H:Hp) (vs:List V) (Q:VK) (E:XK),Room q0 k (A.deeper (envOfC qual (xu st) s.heap.objs.size f cdv))->CA ->
      (Ox (cxOf q0 eW P w K mg base N qual kE f cdv A outer s H E) kN)):FnOk q0 P w K mg base eW iw f fd ps sp:=by
  obtain⟨C,od,D,y,⟨B,an,cdv,I,q,rfl,u,m⟩⟩:121:=(F.ex)
  show(zHU,hbody cdv A outer s H vs Q E v c)
def FunD.binds {x qual:Str}{st:Stmt}{T f:Addr}{fd:FuncData}{ps:eO}{o:Obj}{items:jM}{n:Nat}{ds:fD} (F:zpU fd) (ho:zbq T) (hs:o.data=.seq items n) (m:Nat) (hm:(GY,m+ds.length))
    (h:∀(kV doc pm:Value) (an:Option Addr) (cdv ct:Value) (us:List Value),us.length=m ->
      ∃ k,bindArgs (Jd x qual mP kN kE Bd kV doc pm an cdv ct) (mh us)=seqItems? (.ref T)>>=k/\k (some items)=pure (ps.zip M5)):xb2 K fd ps ds:=by
  obtain⟨C,od,kV,doc,⟨pm,an,cdv,ct,c,rfl,D,v⟩⟩:121:=(F.ex)
  intro s us y j;rw[Zt] at j;show(eE,k,B,A,h kV doc pm an cdv ct us eA);exact BindsTo.of_defaults rfl (y _ _ ho) hs B A
def xfg {x qual:Str}{st:Stmt}{T f:Addr}{oc:Value}{od an:i5}{osl:zM}{kV doc pm cdv ct:Value} (l:O6 (Jd x qual mP kN kE Bd kV doc pm an cdv ct))
    (c:OZ) (k:Uz):zpU (Jd x qual mP kN kE Bd kV doc pm an cdv ct):=zDg
#check _
#check L2
namespace L2
open PySem PySem.Spec PyProof.Rows XL
variable {q0:Bool}
noncomputable abbrev Cx.blkG (X:Cx) (scope:Scope) (zs:eO) (ys:eO) (C:Addr) (ex:eV) (s:Shared) (H:Hp) (pn:fP):Cx where
 prog:=X.prog
 w:=X.w
 K:=X.K
 mg:=X.mg
 base:=X.base
 A:=X.A
 N:=UV
 s₀:=s
 H₀:=H
 env:=zTb C
 outer:=X.stack
 stack:=X.stack
 ex:=ex
 fn:=λ_=>false
 calm:=X.calm
 pn:=pn
 xe:=yh
theorem xjh {prog:Program}{w:World}{A:Around}{R:zuG}{s:Shared}{elt target iter:Expr}{ifs:o5}{scope:Scope}{pos:Pos}{it acc:Value}{env:Env} (I:zyQ)
    (turn:∀ n s,I n s->wpAny jk A (pyNext it) (λ r s₁=>match r with
      | none=>R (.ok .next) s₁
      | ku=>wpAny (model prog w) A (letOwnedTupleGo target it v) (λ_ s₀=>wpAny (model prog w) A (assign target env v) (λ_ s₂ =>
          wpAny (model prog w) A (zCr env (eval c env)) (λ ok s₃ =>
            if ok=true then wpAny (model prog w) A (Vx elt) (λ x s₄ =>
              SD (zxG "list.append" [acc,x]) (λ_ s₅=>(zfx,I m s₅)) s₄) (notedBy (model prog w) A env λe s'=>R (.error e) s') s₃
            else (zfx,I m s₃)) (notedBy (model prog w) A env λe s'=>R (.error e) s') s₂) (notedBy (model prog w) A env λe s'=>R (.error e) s') s₀) (notedBy (model prog w) A env λe s'=>R (.error e) s') s₁) zQf s)
    (n:Nat) (h:I n s):codeAny jk A (.compLoop (zlk target) 0 it acc env) R s:=by
  refine codeAny_loop rfl I (rR n s) n h;show zI _ A ((compTurn (zlk target) 0 it acc env).onRaise (λ x=>do noteFrame x env; theTreesLotGoes x)) _ _;refine wpAny_noted ?_;show(sQ,compTurn_list,WJ (Zb (Ji (turn n s q) (fJ r s₁ f) KI)));cases r with
  | none=>exact Zh f
  | some v =>
    show(fQ,Ji f (λ_ s₀ h₀=>Zb (Ji h₀ (λ_ s₂ h₂=>Zb (Ji h₂ (fJ ok s₃ h₃) KI)) KI)) KI);cases ok with
    | false=>exact Zh (iW h₃)
    | true =>
      exact Zb (Zb (Ji h₃ (λ x s₄ j=>Zb (Ji j (λ_ s₅ h₅=>N6 (iW h₅)) KI)) KI))
structure BlkG (X:Cx) (scope:Scope) (zs:eO) (ys:eO) (fr:kg):Prop where
 kind:scope.kind=.function
 own:∀ x∈zs,scope.names.lookup x=some .local
 ncell:zlq
 names:∀ y∈scope.names,y.2=.local->(zlQ .local)
 free:∀ n∈LL,X.env.scope.names.lookup n=some .cell
 has:∀ n,((wp).names.lookup n=some .cell\/(wp).names.lookup n=some .free)->Ut
 slots:fr.map (λ i=>X.N[i]?)=ys.map some
 ysf:∀ y∈ys,y∈LL
 ysc:∀ y∈ys,(wp).names.lookup y=some .cell\/(wp).names.lookup y=some .free
 nd:X.N.Nodup
 ndb:Gf
noncomputable def blk0 (Z:St) (fr:kg) (n:Nat):St:=QK n none++zKe
section
variable {X:Cx}{pins:List (Addr × Obj)}{Z:St}{H:Hp}{s:Shared}{scope:Scope}{zs:List Str}{ys:List Str}{fr:List Nat}{fp:List Addr}
def BlkG.cells (B:B5) (I:eR):zNB:=λ n b=>I.ok.has n (.inl (B.free n b))
def BlkG.sub (B:B5) (I:eR) {n:Str}{c:Addr} (h:(K6).lookup n=some c):OB:=by
 show(jY,a,b,xv9 h,d,e,B.cells I n a);rw[e] at b;rw[b,e];rfl
def Inv.blkG {h1:Heap}{m1:im}{t':Nat} (B:B5) (I:eR) (hf:zjJ) (hz:∀ b∈fp,(tK b)) (n1:h1.Ns s.heap.objs.size m1) (k1:(sN,lI,h1.get? b=some o)) :
    Inv (zqK s.heap.objs.size fp CK) [] zaj H (zny h1):=by
  have sub:∀ n c,(K6).lookup n=some c->OB:=λ n c h=>B.sub I h;have cz:∀ n c,OB->(tK c):=λ n c e=>by
    obtain⟨v,o,J,_⟩:82:=I.cell n c e;exact Zu J
  have O:∀ b∈fp,b∉vd:=(vZ,D,(zrD z).elim (fV Uv) (ux Uv));have fz:(uR,b∈vd,tK b):=λ b D=>by
    obtain⟨_,o,J,_⟩:=I.stack.mem D;exact Zu J
  refine⟨⟨I.ok.mod,B.kind,I.ok.glob,I.ok.blt,f8,λ y z c h1 h2=>I.ok.inj y z c (sub y c h1) (sub z c h2),zxb,(λ y c hy _=>nomatch hy),I.ok.hd,I.ok.frames,jO,λ b D=>⟨?_,λ y c h=>(UZ Uv).1 y c (sub y c h)⟩,
      I.bs,zTU,yW e D,λ b D=>O b D,I.stack,I.stkFree⟩,
    rfl,I.bare,Un.kept k1,(eG,m1,n1,iR i y v e1 T e3),fJ y c h,xX,λ y c h=>I.freeC y c (sub y c h),Gz,I.hok.kept k1,?_⟩
  . show(ou,c,B.cells I y (B.has y hy))
    show(fc,c,xnk (B.has y hy) e)
  . exact ZE (hz b D)
  . rcases U0 Uv with z|z
    . exact I.ok.noex b o e z
    . show(Dg,Z4 (Zu zoY) z)
  . have P:(QK zs.length (none:iM)).length=zs.length:=W5
    by_cases lt:zuC
    . have A:gf zaj ku:=T
      unfold blk0 at A;rw[Jf (eP P lt),Wo] at A;ext Ta A
    . obtain⟨k,rfl⟩:∃ k,i=zum:=(zh,i-zs.length)
      have A:sZ zKe ku:=by
        have z:pi zaj zum ku:=T;unfold blk0 at z;rw[JF (uc P),P] at z;simpa using z
      have K:sZ ys y:=by
        have z:pi UV zum y:=e1;rw[JF eA] at z;simpa using z
      rw[Zf] at A;show(eE,j,Y,M,Zg.mp A);have ev:hU Z ku:=by
        cases q:Z[j]? with
        | none=>ext iF q M M
        | some w=>rw[q] at M; ext M0 some M
      have eN:hU X.N y:=by
        have z:=Ee (λ l=>l[k]?) B.slots;simp only[Zf,Y,K,Q9] at z;exact ZR.inj z
      have L:y∈ys:=Zo K;show(S3,m,U,I.loc)
      show(U9,U j y v eN ev (zgN zNX));show(jV,u,r,.inr (jF,B.ysc y L));rcases l with⟨kk,_⟩|⟨_,c,e,o,J,R⟩
      . have z:=zNX
        show(HH,show X.env.scope.names.lookup y=some .local from kk)
      . exact(gF,c,xnk (B.ysf y L) e,o,k1 c o J,R)
  . show(o6,v,o,J,R,I.cell y c (sub y c h))
    exact(gM,v,o,k1 c o J,R)
  . have Q:p∈CK:=zSx
    show(ztI,I.pin p Q);exact(iu,k1 _ _ a1,a2,Ek a1,λ z=>(Zr.mp (I.stkSub _ z)).elim a3 a4,a5)
  . have z:=Em B.slots
    simp only[Za] at z;simp[blk0,z]
#check _
section
variable {X:Cx}{pins:List (Addr × Obj)}{Z:St}{H:Hp}{s:Shared}{scope:Scope}{zs:List Str}{ys:List Str}{fr:List Nat}{fp:List Addr}
def Inv.unblkG {C:Addr}{s':Shared}{h2:Heap}{σ':St}{H':Hp}{pl:fP} (I:eR) (hf:zjJ) (hC:zce C) (J:Inv (zqK C fp CK) pl σ' H' s') (sb:zUS) :
    HN znL:=by
  have B:(zdw,C,s'.heap.get? b=some o,h2.get? b=some o):=(HE,nb,(sb.2 b nb).trans g);have x:(sN,lI,b≠C):=λ b o g=>ZE (Z4 (Zu g) hC);have trk:(By,H' b=some u,b≠C):=λb u m z=>by
    have f:zkc C:=J.free;ext Ep z f m m
  refine I.call' (s':=znL) J.os (ch:=fp) (hV,λ b o e n m A=>B b o zAg (J.base.keep b o e n m A),LQ m A,λ b o e n A=>J.base.free b o e n A,yW e A,J.base.tups,J.base.frzs,J.base.tbls) (fJ b u m) J.bare (qH m)
  . show(Vl,L,J.base.slot b o e n m A,L,B b _ zAg q)
  . show(Vl,K,J.base.there b o e A,K,B b K zAg q)
  . refine (J.hok b u m).stay (ib c v D q) zys (Dx q)
    rcases D with rfl|D
    . exact B c v (trk c u m) q
    . exact B c v (trk c _ D) q
  . obtain⟨_,a1,_,a3,O,M⟩:46:=hf b m
    exact gX a3 a1 O M
#check _
noncomputable def GOk (n:Nat) (g:TG):Prop:=∀ v Z H Q,g v Z H Q->g v Z H VQ
def xbv {i n:Nat} (h:lS):GOk n (xc4 i):=λ v Z H Q q=>eG q eS zVU
noncomputable def xem (J:It) (n:Nat) (g:TG) (Z:St) (fr:kg) (tc:TT) (te:TE) (l:Addr) (H1:Hp) (Q:VK):Prop:=∃ W:S8 Dl,(∃ m,W 0 m [] zwQ)/\∀ i m xs H2,W i m xs H2 ->
 (J.stop i H2/\zik)\/(J.go i H2/\∀ v H3,zUJ->g v FE H3 λ σ' a=>tc σ' a λ b H4=>if DN then
  (te σ' H4 λ y c=>c l=some nG/\Km/\(zwf Tk (iE c l Tk))) else zwf xs H4)
noncomputable def xms (wi:TI) (n:Nat) (g:TG) (fr:kg) (tc:TT) (te:TE):TE:=(rJ,wi Z H λ J H1=>∀ l,yX->xem J n g Z fr tc te l H1 Q)
section
variable {X:Cx}{scope:Scope}{zs:List Str}{ys:List Str}{fr:List Nat}{elt iter tg:Expr}{g:TG}{ifs:List Expr}{px pos:Pos}{wi:TI}{tc:TT}{te:TE}
def xiu {pins:fP}{s:Shared}{Z:St}{H:Hp}{Q:VK}{U:iH (Value->Sem Unit)}{R:fM} (hc:qW) (B:B5) (hi:zcQ) (hg:∀ C ex s H pn,(∀ x∈zs,(wp).names.lookup x=some .local)->Gf->PG KR tg g) (gok:zqh)
    (hif:zlK) (he:zlU) (I:eR) (h:xms wi zs.length g fr tc te Z H Q)
    (fin:∀ C l H' s' m,(fS (EJ C) (zwz C) (Cj C) (PZ C))->(gR,zkc C,s'.heap.Ns C m,(∀ h2,zUS->(HN znL)),Q gS H',compPost rV X.A X.xe U R gS C (.ok .next) s')) :
    wpAny (model X.prog X.w) X.A (eval iter X.env) (λv s1=>wpAny (model X.prog X.w) X.A (pyIter v) (λ it s2=>wpAny (model X.prog X.w) X.A (newList []) (λ acc s3 =>
      wpAny (model X.prog X.w) X.A (newFunctionEnv scope X.env.globals K6 [] X.env.qual none .none (some X.env)) (λ cenv s4 =>
        codeAny rV X.A (.compStart Mo 0 it acc { cenv with scope:=wp }) (zWy acc cenv.locals) s4) X.xe s3) X.xe s2) X.xe s1) X.xe s:=by
  show(qz,RN pins,zyg s1 zWY);obtain⟨it,fp,tn,J,⟨O,rfl,I2,T,ab,f2,aj⟩⟩:121:=h2;have hN:O s2.heap.objs.size=none:=I2.hok.fresh (Zk _);obtain⟨W,⟨m0,w0⟩,ac⟩:62:=aj s2.heap.objs.size hN;refine JS ?_;generalize ah:NS { s2 with heap:=s2.heap.push (jt,"list",.seq zVv) }=s3;have k3:(sN,s2.heap.get? b=some o,s3.heap.get? b=some o):=λ b o g=>iz ah Nc
  have I3:sG zmN s3:=by
    show(sL,ah,I2.laid (t':=s2.toks) zuL f8 ⟨lQ,gM [] 0 .nil lY⟩)
  have z2:∀ b∈fp,b<s2.heap.objs.size:=λ b D=>by
    ext zMT g
  have z3:∀ b∈fp,b<s3.heap.objs.size:=λ b D=>by
    show(zMT,k3 b o g)
  show(rq,f3,znl zmN,λ b D=>⟨(eP,xo (ZE (z2 b D)),(f2 b D).1),(f2 b D).2⟩,ao,tn 0 s3.heap,(zgA,ab,λ b _ o g=>k3 b o g),wpAny_newFunctionEnv B.ncell (by intro y hy; simp at hy) (fJ h1 n1 ap) B.kind);have k4:(sN,s3.heap.get? b=some o,h1.get? b=some o):=λ b o g=>ap.extBut b o (Ek g) Nc;have I4:=I3.blkG (t':=zLi) B f3 z3 n1 k4;show(eC,ae,tn 0 h1,(zgA,ao,λ b _ o g=>k4 b o g),af,∀ x∈zs,(wp).names.lookup x=some .local,(El,lookup_relabel_local (B.own x hx)))
  -- the iterator's objects,through the M
  have K:(zOw,FpOk Id [] H' b):=λ hn b D=>by
    obtain⟨_,a1,a2,a3,a4,a5⟩:46:=f3 b D;exact(jx,hn b D,ZE (z3 b D),λ z=>(Zr.mp (I3.stkSub b z)).elim a1 a2,.inl D,λ y c h=>a4 y c (B.sub I3 h),(zp,a5 p zSx))
  have M:∀ s4:Shared,s4={ s3 with heap:=h1,toks:=zLi } ->
      codeAny rV X.A (.compLoop Mo 0 yP XQ (zTb s3.heap.objs.size))
        (zWy XQ s3.heap.objs.size) s4:=by
    rintro s4 rfl;refine xjh (λ n s'=>(zIg,s',s'.heap,W i n xs H')) ?_ m0
      (sU,0,[],_,I4,ae,λ b D=>(f3 b D).1,w0)
    rintro n s5 (⟨i,xs,H5,I5,ad,ai,w5⟩:104);rcases ac i n xs H5 w5 with⟨stop,q⟩|⟨go,step⟩
    . show(Ck,T.done Id rfl rfl rfl hc i [] s5 _ H5 yh I5 (K ai) ad stop,(λ r s6 ⟨1042,hr,I6⟩=>?_))
      subst hr;show(jL,m,hm,I6.loc)
      exact fin _ _ H5 s6 m ⟨I3.sz,(I3.size_lt (Zk _)).2⟩ I6.free hm (λ h2 sb=>I3.unblkG f3 f8 I6 sb) q
    . show(Ck,T.item Id rfl rfl rfl hc i [] s5 _ H5 yh I5 (K ai) ad go,Aj r s6 u hr h6)
      subst hr;show(Ck,h6,(λ_ s7 ⟨1085,y,H7,I7,r7,y7,aa,as⟩=>?_));have av:=I7.pinned (K as) (T.obj _ _ aa);show(Ck,hg _ _ _ _ _ af B.ndb _ s7 _ H7 y u _ av r7 (gok _ _ _ _ (step y H7 y7)),(λ_ s8 ⟨1084,σ8,H8,I8,q8,l8,k8⟩=>?_));have P:∀{s9:Shared}{H9:Hp}{Y:eB},Inv Id ([]++xg9 fp s7.heap) σ8 H9 s9->(SX,n,W f7 m' Y H9) ->
          (zfx (zIg,s9,s9.heap,W i m xs H')):=λ{s9 H9 Y} I9 ⟨m',lt,w9⟩=>by
        show(jV,m',lt,(sU,f7,Y,H9,I9.unpinned.weak l8.symm (nR j v),(zgA,aa,λ b D o e=>(I9.pin Hv (Z7 _ (Z7 _ (xep D e)))).1),qH D,w9))
        . by_cases lj:j<zs.length
          . unfold blk0 at e
            rw[Jf (eP W5 lj),Wo] at e;ext Ta e
          . show(tf,k8 j eA)
        show(eE,o,e,d,T.obj _ _ aa b D);exact fV (I9.pin Hv (Z7 _ (Z7 _ (xep D e))))
      show(Ck,hif _ _ _ _ _ _ s8 _ H8 _ I8 q8,Aj ok s9 H9 I9 q9);cases ok with
      | false =>
        rw[zia] at q9 ⊢;exact P I9 q9
      | true =>
        rw[iT] at q9 ⊢;show(Ck,he _ _ _ _ _ _ s9 _ H9 _ I9 q9,(λ ev aq ⟨1085,yv,ak,ax,ar,hl,len,am⟩=>?_));refine Ji (xcy (X:=Id) _ aq _ ak XQ [yv] XQ [ev] (λ v H'=>H'=(iE ak s2.heap.objs.size (xs++[yv]))) ax rfl (.cons ar .nil) (BE,_,xs,yv,mS hl len rfl))
          (λ_ ay ⟨1083,_,az,aw,_,au⟩=>?_) (Hs z.elim)
        subst au;exact P aw am
  exact codeAny_compStart_list (M _ rfl) (T.self _ 0 _ _ _ ae (M _ rfl))
def xbo (hc:qW) (B:B5) (hi:zcQ) (hg:∀ C ex s H pn,(∀ x∈zs,(wp).names.lookup x=some .local)->Gf->PG KR tg g) (gok:zqh) (hif:zlK) (he:zlU)
    (hs:zkK:=by ext Va):PE X Mo zJt:=by
  ext Et;rw[eval_ListComp];refine wpAny_comprehension_free (use:=none) rfl hs zUW B.kind B.names (xiu hc B hi hg gok hif he I h λ C l H' s' m _ _ z y q=>?_);show(fU,m,z,λ A sb=>(jf,gS,H',y A sb,q))
def xdh {j:Nat}{y:Str}{py spos:Pos} (hc:qW) (B:B5) (hi:zcQ) (hg:∀ C ex s H pn,(∀ x∈zs,(wp).names.lookup x=some .local)->Gf->PG KR tg g) (gok:zqh) (hif:zlK) (he:zlU)
    (hj:hU X.N y) (hy:Loc X.env.scope y) (hf:X.fn y=true\/X.env.scope.names.lookup y=some .local:=by first|ext A5|ext DJ|ext jd)
    (hsw:autoParam (zqC Mo (some zeB) spos.line true) aRfl._auto_1)
    (hs:zkK:=by ext Va):PS X (.Assign [zeB] Mo spos) (tAsg zJt (xc4 j)):=by
  ext tq K;show(sQ,exec_Assign_Name_used _ _ _ _ hsw,WJ (Zb ?_));show(tN,do let _ <- comprehension Mo scope X.env _ (newList []) false (yK iter) zMw);refine Zb (Ji (wpAny_comprehension_free (use:=zMw) (Q:=λ_ s'=>SP X K D .next s') rfl hs zUW B.kind B.names
    (xiu hc B hi hg gok hif he I h λ C l H' s' m M U Y T q=>?_)) (λ_ s' z=>Zh (Zh z)) zvB)
  show(mF,assign zeB X.env gS);have J:mW K H' s':=T s'.heap (.refl ..);refine wpAny_assign_Name (xk3 (v:=V.ref l) J B.nd hj hy rfl (Aj P J2 a sb ha) hf);have S:a≠C:=by
    rcases ha with z|z
    . rw[z]; exact Zz (fV M)
    . exact (jr M).1 _ _ z
  refine(eG,m,?_,eQ h2 O)
  . ext GS o es ep g r Y
    exact(Mb,es,ep,(sb.2 C (Zz S)).trans g)
  . exact(gM,_,H',J2.turned (t':=P.toks) (HE,R,(O.2 b R).trans g) U (fV M) (.inr M.1) (ux M) (zB M),q)
#check _
noncomputable def xl1 (scope sc0:Scope) (N0:eO) (zs:eO) (ys:eO) (fr:kg):Bool :=
 scope.kind == .function&&zs.all (λ x=>scope.names.lookup x == some .local)&&(zVR,y.2 != .cell)&&(zVR,y.2 != .local||scope.names.lookup y.1 == some .local) &&
 (LL).all (λ n=>sc0.names.lookup n == some .cell)&&fr.map (λ i=>N0[i]?) == ys.map some&&ys.all (λ y=>zOL == some .free)&&(hR N0.Nodup)&&(hR Gf)
def xs0 {X:Cx}{scope sc0:Scope}{N0:eO}{zs:eO}{ys:eO}{fr:kg} (chk:zHv) (es:zVy) (eN:X.N=N0):B5:=by
 unfold xl1 at chk;simp only[Z1,beq_iff_eq,YU,decide_eq_true_eq] at chk;obtain⟨⟨⟨⟨⟨⟨⟨⟨a1,a2⟩,a3⟩,D⟩,C⟩,B⟩,j⟩,A⟩,u⟩:=chk;show(fR,i,zlq,λ y b=>(Cv,a3 y b),⟨a1,a2,i,rR y b,λ n hn=>(eP,es,C n hn),λ n h=>xpv i n h,eP eN B,eQ y b,λ y b=>xpb (j y b),eP eN A,u⟩)
 .show(S9,D y b,q);simpa using z
 .show(zb,(jv (y,.free) (SK,JW (j y b),eS)))
def xa8 {X:Cx}{scope sc0:Scope}{N0:eO}{zs:eO}{ys:eO}{fr:kg} (chk:zHv) (es:zVy) (eN:X.N=N0) (_:X.stack=PM):B5:=xs0 chk es eN
def xcv {K:Zd}{m n:Nat}{t:TGs} (h:zIi):GOk n (gTup K m t):=λ v Z H Q q=>by
 obtain⟨a,xs,e,b,c,q⟩:=q;exact gY a xs e b c zub
def xcl {n:Nat}:(zBb,gNil vs Z H Q,gNil vs Z H VQ):=λ vs Z H Q q=>by
 show(tY,e,xui q);ext iL;ext zq q oY
def xat {i n:Nat} (hi:lS) {t:TGs} (h:zIi) :
    zBb (zXZ Q) (zXZ VQ):=λ vs Z H Q q=>by
  show(o6,v,r,rfl,q,xt0 q);have z:=zub;have p:∀(j:Nat),zqg wN Z:=zVU
  have u:(wN).length=Z.length:=eS
  have f:(DB (znt,(wN).length,∀ j,zqg σ' wN))=(λ σ' (H':Hp)=>(znt,Z.length,∀ j,zqg σ' Z)):=by
    funext σ' H';rw[u];refine propext ⟨(zJv,(c j hj).trans (p j hj)),(zJv,(c j hj).trans (p j hj).symm)⟩
  ext h7 f z z
def xd5 {J:It}{n:Nat}{g:TG}{Z:St}{fr:kg}{tc:TT}{te:TE}{l:Addr}{H1:Hp}{Q:VK} (len:Nat) (Pv:Nat->Dl) (h0:Pv 0 [] zwQ) (hgo:∀ i xs H,NP->Pv i xs H->zyF)
    (step:∀ i xs H2 v H3,NP->Pv i xs H2->zUJ->∀ N:Dl,(∀ xs' H',qap->N xs' H')->g v FE H3 λ σ' H3'=>tc σ' H3' λ b H4=>if DN then
      (te σ' H4 λ y H5=>(Mf l nG)/\Km/\N Tk (iE H5 l Tk)) else N xs H4)
    (fin:∀ xs H2,Pv len xs H2->J.stop len H2/\zik):xem J n g Z fr tc te l H1 Q:=by
  refine(pR,λ i m xs H=>(gL,m,len-i,i<=len,Pv i xs H),fY len eS lQ h0,?_);rintro i m xs H2 (⟨rfl,a,p⟩:43);by_cases lt:NP
  . show(VF,hgo i xs H2 lt p,λ v H3 y=>step i xs H2 v H3 lt p y (λ xs' H'=>∃ m',(fS,m'<len-i,m'=len-f7,f7<=len,qap)) λ xs' H' q=>mY _ eA rfl lt q)
  . ext wW i len eA;show(je,fin xs H2 p)
section
variable {X:Cx}{pins:List (Addr × Obj)}{Z:St}{H:Hp}{s:Shared}
def Inv.adopt {p:Addr}{o:HO} (I:eR) (n:ut) (h0:EJ p) (hL:p≠X.env.locals) (hC:Cj p) (hp:∀ q∈CK,rT≠p)
    (new:xbe X.prog X.w (jj p o) s.heap p o):sG (jj p o) s:=by
  show(fR,A,(HJ,b≠p),(jE,xp e n),⟨I.ok,I.os,I.bare,(hV,I.base.keep,I.base.slot,fW b ob e D B,I.base.there,Su,λ b ob u e=>?_,nR b ps),I.loc,I.cell,?_,zfQ,eQ q hq,C9,I.len⟩)
  . show(eY,xo (ZE (AZ h0)),I.base.free b ob e D B)
  . have z:=zRc
    ext lC zzN z
  . have z:=I.base.frzs b ob u e
    ext lC zzN z
  . show(ye,m,z,zQT,m,jp zzN z)
  . show(D8,hL,I.free)
  . show(eY,xo (hC x c e),zcr)
  . show(nF,a1,a2,a3,I.pin q hq)
    show(fU,a1,(eP,xo (hp q hq),a2),a3)
  . by_cases hb:b=p
    . ext ztO e
    . rw[xo hb] at e
      exact (zul).stay zcM (λ c q=>zTp) (Dx zTp)
def Inv.thaw {d:Addr}{o:Obj}{u:HO} (I:eR) (e:xM ST) (nf:Ez):sG (jj d u) s:=by
 have A:∀ b v,(pP v)->(∀ o' u',v≠.frz o' u')->b≠d:=λ b v h1 h2 z=>by
  ext rA z e h1 h1;exact h2 _ _ rfl
 have j:R6 d:=λb h1 z=>by
  subst z;ext uT h1
 refine⟨I.ok,I.os,I.bare,(hV,I.base.keep,I.base.slot,fW b ob q J D,I.base.there,rR b xs,λ b ob v q=>?_,rR b ps),I.loc,I.cell,?_,rR x c,Gz,rR b v,I.len⟩
 .have z:=I.base.free b ob q J D;show(eY,xo (j b z),z)
 .have z:=I.base.tups b xs q;show(lC,A b _ z zoI,z)
 .have z:=I.base.frzs b ob v q;have B:b≠d:=λ w=>by
   subst w;exact nf _ _ q
  ext lC B z
 .obtain ⟨m,z⟩:=I.base.tbls b ps q;show(fc,m,jp (A b _ z zoI) z)
 .show(ie,xo (j _ I.free),I.free)
 .rw [xo (j _ (I.freeC x c q))];exact I.freeC x c q
 .obtain ⟨a1,a2,a3⟩:43:=FN;show(fU,a1,jp (j _ a2) a2,a3)
 .have st:∀(a:Addr) (v:HO),xbe X.prog X.w H s.heap a v->xbe X.prog X.w (jj d u) s.heap a v:=λ a v k =>
   k.stay zcM (λ c q=>zPa) (Dx zPa)
  by_cases B:b=d
  .ext rA B xh q q;obtain⟨g,ok⟩:=uH b e;exact st _ _ ok
  .rw [xo B] at q;exact st _ _ (I.hok b v q)
def Inv.nofrz {d:Addr}{kvs:gD} (I:eR) (e:Tu):Ez:=λ o' u' z=>by
 ext zIo
theorem KV.get:∀{kvs:gD}{vs:zbO}{i:Nat}{k:Key}{x:V},tW->tJ->∃ u,(gf vs (k,u))/\vo
 | _,_,_,_,_,.nil,e=>F2
 | _,(_,_)::_,0,_,_,zwH,e=>by
  ext FH;obtain⟨r1,r2⟩:=r
  dsimp only at r1 r2
  subst r1;exact h8 r2
 | _,_,f7,k,x,Si,e=>by
  show(pZ,u,b,a,KV.get (i:=i) (k:=k) (x:=x) t ya,u,Po,a)
def xqi {P:Program}{w:World}{k:Key}{u:Value} (h:(yS).is k u=true):zsb:=by
 rcases xb4 (wD,xgp k u,h) with⟨i,t,rfl,rfl⟩|⟨x,t,rfl,rfl⟩
 .exact Ux
 .exact Ux
def xjd {d:Addr}{o:Obj}{kvs:gD}{ep:Nat} (I:eR) (e:zmW) (hep:zxt):(ziP,s.heap.DictAt va d vs ep):=by
 obtain⟨g,_,_,⟨vs,j,B,x,y,g',v,b,u,n,q⟩⟩:44:=uH d e;ext gQ g g' g';obtain⟨es,m⟩:=hep;ext HG m;show(fU,vs,j,iQ 86 o _ g v m u n q)
#check _
noncomputable def Iti (d:Addr) (o:Obj) (kvs:gD):It :=
 (zKa,∃ p k x,zWL tJ N9)
def xor {P:Program}{w:World}{K:Zd}{elts:o5}{x1}{tpos:Pos} (d it:Addr) (o:Obj) (kvs:gD) (ep:Nat) (hep:zxt) :
    (zOI,Iti d o kvs,∃ ok ov,zak h i kvs.length) where
  mem:=eS
  obj:=λi h st b C=>by
    show(zd,by simpa using C);ext ztJ;exact⟨_,st,λ v z=>by
      ext Pw z' z⟩
  keep:=zEy
  item:=by
    intro X hP Y hK hc i A s Z H E I hf st hg;ext zeR Y;ext yI lt hg;ext zaI m;ext zFh;ext zkC
    show(eE,u,hv,ru,m.get hx);rw[S] at st;refine wpAny_pyNext_items_item st da hv λ L h' R Q ht hz aa=>?_;show(zPy,Q,fJ D B O);show(zxL,(ziA,D.get? b=some o),C,(O.2 b C).trans (aa b o C g),zqu A D,zV kk U f1 f3 f4 f5);show(gq,M,tK it,Zu st,J,zbH it,Yb M,hp,zGL L,(O.2 _ J).trans ht);refine(iC,85,mE,zap N9 x,VN [L,u] (xqi R) ru,rfl,xI _ k x hx n0 rfl,?_,qH C)
    . rw[<- S] at B
      exact hB _ B
    . show(zd,by simpa using C);ext D8 J U
  done:=by
    intro X hP Y hK hc i A s Z H E I hf st hg;ext zeR Y;ext yI le hg;ext zaI m;ext zFh;show(h7,S,st,wpAny_pyNext_items_end rZ st da (Cv zoZ) (O7 C U f1 f3 f4 f5))
  self:=zDj
noncomputable def xw6 (X:Cx) (to:TE):TI:=(zkE,pA,Ez->R (Iti d ob kvs) (zL H1))
section
variable {X:Cx}{o:Expr}{to:TE}{elts:List Expr}{x1:_}{tpos apos cpos:Pos}
def xsd (ho:FW) (hbase:autoParam (qbj) aRfl._auto_1) (hline:autoParam (ED) aRfl._auto_1) :
    zTn (xw6 X to):=by
  ext zCN M U;show(qS,hd,vs,Y,S,xhs I1.hok e);obtain⟨ob,es,Q,g,ex,P,hk,hp,hn⟩:106:=id S;refine zBZ S.typeIs
  . ext zQo
  show(zDW,S.typeIs,meets_dict_items va d hd,⟨vs,S⟩);show(jR,da,(zEX).DictAt va d vs Q,qJ ob es Nc ex P hk hp hn,wpAny_pyIter_items (s:=zob) FB da ?_);have I2:mW B U zob:=I1.kept (t':=M.toks) wH;generalize aa:NS zob=J at I2;show(eC,g2,J.heap.get? d=some ob,iz aa Nc,I3,mW B (zL U) J,I2.write (t':=J.toks) (x:=d) (e:=d) vk jO zcN (Hl g2) ⟨g2,qbh⟩);have I4:mW B (zL U) zCa :=
    I3.kept (t':=J.toks) wH
  have ab:PIE X B Z Ca R (.ref J.heap.objs.size) zCa:=by
    refine Ej J.heap.objs.size [J.heap.objs.size] (ue,zL U,I4,xor d _ ob kvs Q ⟨es,P⟩,nQ .none .none,Dk,q ob (I1.nofrz e))
    . show(Pb,hl,Y.length)
      show IsItemIter _ _ d 0 kvs.length Q .none .none;ext eY hl lY
    . show(zFp,J.heap.objs.size)
  exact ab
def xti {pins:fP}{Z:St}{Q:VK}{u:Value}{s:Shared} (h:EP X pins Z (λ v H2=>zDq) u s):Sn u s:=by
 obtain⟨v,H2,c,r2,⟨d,ob,u',e,b,q⟩⟩:83:=h;exact(gU,v,_,c.thaw e b,r2,q)
def xut {e:Expr}{t:TE} (h:BS t):BS (rJ,t Z H λ v H2=>zDq):=λ a s Z H Q I q =>
 thn (Tx a q) (Hs,xti z)
#check _
#check L2
namespace PySem.F
def xl_plain_dict_loop:plainId "dict.update.loop"=true:=gH
def xl_entry_dict_loop:entryFor table "dict.update.loop"=some Builtin.«dict.update.loop»:=entryFor_of_tree (by kernel_rfl)
def xl_list_nokeys:zXP "list" "keys" none:=by rw[typeLookup_type,builtinLookup_eq_fast]; kernel_rfl
#check PySem.F
namespace L2
open PySem PySem.Spec PyProof.Rows XL
variable {q0:Bool}
def xqq {prog:Program}{w:World}{A:Around}{E:fM}{s:Shared}{a:Addr}{o:Obj}{xs:jM}{k:Nat}{Q:AX}
    (hx:EK a) (hc:R9 "list") (hdat:o.data=.seq xs k) (hd:zuz) (hA:E8)
    (h:∀ h' tk,(sN lI uW)->Q none (B2 tk)):jQ (getAttr? fE "keys"):=by
  ext NQ c H J z;simp only at hc hdat hd;subst hc hdat hd;ext vi C d tk B;have v:∀ j,(NS,gF C g d j B).TypeIs fE "list":=λ_=>jo hx
  show(eK,R,sub_AttributeError,P,Wb.lookup);show(eK,O,Wb.bind (.ref a),M,am_list_getattr_none);unfold getAttr? getAttrBy? getAttrBy
  repeat (any_goals (first|ext jd|exact v _|((with_reducible show(mF,call (Q0 "list.__getattribute__") _ _)); refine call_meets Wb (v _) am_entry_list_getattribute (F.args_list_getattribute_2 _ _) (meets_getattribute_miss_list a xs k z "keys" _ F.xl_list_nokeys gH ztm) (eG,hx,hA,ib h' j e m))|ext js))
  show(GT,t',K,L,m.there)
  have D:=m.of.keeps;show(mF,getattributeRaised _ _ _ _ _ _ _);unfold getattributeRaised
  repeat (any_goals (first|ext jd|ext js))
  exact h _ _ D
section
variable {X:Cx}{pins:List (Addr × Obj)}{Z:St}{H:Hp}{s:Shared}{a:Addr}{y v:V}{u r:Value}{A:Around}{E:Value->Shared->Prop}
def xqm {H':Hp}{Q:oq} (hu:zti) (I:eR) (g:zVI) (ry:lz) (rv:RelV v r) (h:PY MJ) :
    DC (dictSet a u r):=by
  rcases g with⟨kvs,k,e,ey,l,eH⟩|⟨kvs,k,b,e,ey,eb,l,eH⟩
  . subst ey eH
    show(qS,D,vs,f,J,xhs I.hok e);show(zNC,f.length,wpAny_dictSet_pairs (hsz:=hz) DG J zTS);have L:Xi:=let ⟨q,_,_,x,_⟩:=j; zje;exact xew I vk B L (xje C D (f.put k rv) j)
  . subst ey eH
    cases (LJ,u=Zl b);show(qS,D,xs,f,J,xlb I.hok e);show(rq,hz,yb,(iz,YC f,z),C,zpP,zpO,wpAny_dictSet_heap (hsz:=hz) (show (Xh).room A from hu) Fs J zTS);obtain⟨q,S,T,x,R,P,O,_,M⟩:106:=j;refine xew I vk B zje (gF,C,D,_,(f.put k eb rv).keeps (fJ c ys K),zE q S T x R P O M);show(lC,xej K e nB,K)
def DPut.stay {d b:Addr}{H':Hp}{o:HO} (g:zVJ) (e:pP o) (n1:∀ kvs,o≠pA) (n2:∀ kvs,o≠vw):zWe:=by
 rcases g with⟨kvs,k,e2,_,_,rfl⟩|⟨kvs,k,b2,e2,_,_,_,rfl⟩
 .show(ie,xo (xej e e2 (n1 _)),e)
 .show(ie,xo (xej e e2 (n2 _)),e)
def DPut.free {d b:Addr}{H':Hp} (g:zVJ) (e:i8):FG:=by
 rcases g with⟨kvs,k,e2,_,_,rfl⟩|⟨kvs,k,b2,e2,_,_,_,rfl⟩
 .ext zYs
 .ext zYs
#check _
inductive xfc (d:Addr):Hp->zAv
 | nil {H:Hp}:xfc d H [] H
 | cons {H H1 H2:Hp}{y v:V}{r:zzc}:DPut H d y v H1->xfc d H1 r H2->xfc d H ((y,v)::r) H2
theorem xh9 {X:Cx}{pins:fP}{Z:St}{A:Around}{R:zuG} (hh:A.in1.handled=none) (hu:zUf) {l it d:Addr} :
    ∀(ps:Kz) (pre:eB) (j:Int) (H H2:Hp) (s:Shared),eR->(BU (.lst (pre++zNA)))->zns->xfc d H (ps.map (·.2)) H2 ->
      s.heap.IsListIter it l pre.length->FpOk X pins H it->(∀ s',(Oe H2)->R zTW s') ->
      codeAny rV A (.builtin "dict.update.loop" (mh [vJ,yP,rawInt j,.none])) R s
  | [],pre,j,H,H2,s,I,hl,hp,dp,st,fo,fin=>by
    cases dp;show(IT,J,I.lstM hl);ext zZZ;show(zBQ,wpAny_pyNext_list_end hh st (yM e lA) (by simp at J ⊢; lia) (eQ h' eb));show wpAny _ A.in1 (Builtin.Dict.addKeywords d []>>=_) _ _ _;exact Zb (N6 (fin _ (zV (qo,B,eb b o B e) U S Q P O)))
  | (a,y,v)::ps,pre,j,H,H2,s,I,hl,hp,dp,st,fo,fin=>by
    have ad:=fo;ext zZZ;cases dp with
    | @cons _ H1 _ _ _ _ g dp =>
    show(IT,J,I.lstM hl);show(eE,u,aa,ru,r.get (i:=pre.length) (x:=fE) eS);show(ij,u=uK,ru);show(zBQ,wpAny_pyNext_list_item st (yM e lA) (x:=fE) (by simpa using aa) (xG C sb));have I1:BV kZ:=zV (qo,B,(sb.2 b B).trans e) U S Q P O;obtain⟨z2,ts,rt,ot,et,ct,nt,dt⟩:=I1.hok a _ (hp _ Zn);show(jb,uk,uv,rfl,rk,rv,xi3 rt);show wpAny _ A.in1 (holding pK _>>=_) _ _ _;refine Zb (Jv ?_);refine Zb (wpAny_tryCatch ?_);unfold Builtin.Dict.pairItems;show(fQ,QE (T:="tuple") (eG ot et ct) ?_);show(sQ,fe eJ,Yd et dt (Zh ?_));show wpAny _ A.in1 (holding [uk,uv] (dictSet d uk uv)) _ _ _;have ob:∀ b∈[it],(WW uW):=λ b B=>by
      ext zd zUm;show(gP,o,e,c,d,id C);ext zQx
    have ae:=I1.pinned (fp:=[it]) (λ b B=>by
      ext zd zUm;exact ad) ob
    refine Jv (xqm hu ae g rk rv (eQ s' I2));ext zIP;have ac:FpOk X pins H1 it:=(jx,g.free U,S,f2,Q,P,O)
    have Y:s'.heap.IsListIter it l (zXk).length:=by
      rw[Zt];exact C.at λ o e=>(I2.pin (it,o) (Z7 _ (Z7 _ (xep eS e)))).1
    refine xh9 hh hu ps zXk oR H1 H2 s' I2.unpinned ?_ (BR ab) dp Y ac fin
    . have z:=g.stay hl zbb zbb
      rw[z];simp
    . exact g.stay (hp p (Zm _ ab)) zbb zbb
inductive xu2 (xs:eB) (H:Hp) (Q:VK):Prop
 | mk (l:Addr) (ps:Kz) (e_:xs=[gS]) (r_:(BU (zeW,λ p=>.ref fK))/\zns/\∀ d,(gz d)->∃ e H2,(e=.dK []\/e=.dT [])/\xfc d (jj d e) (ps.map (·.2)) H2/\Q vJ H2)
def xdk {X:Cx} (hc:qW) (hu:(pT,X.A.units+3)):xc0 X zuF xu2:=by
 ext sV v;obtain⟨l,ps,rfl,K,hp,q⟩:=h;ext Xy rx l;refine callType_codes (Q₁:=λ obj Y=>obj=mE/\Y=zPT) F.kt_called_dict (F.kt_typeCall_dict_1 _) F.entry_dict_init (kt_code_dict_new _ wT) ?_;rintro obj Y ⟨rfl,rfl⟩;show(jb,e,H2,he,P,q2,q s.heap.objs.size I.fresh);have I1:mW v (zpm e) zPT:=by
  refine qaN zuL ?_;rcases he with rfl|rfl
  .exact xib s.heap I.big
  .exact xln s.heap I.big
 have hT:(Shared.mk Ii s.gens s.drawn s.toks s.os).TypeIs (.ref s.heap.objs.size) "dict":=TY
 have nl:l≠s.heap.objs.size:=λ z=>by
  show(Ep,z,I.fresh,K,K)
 have J:kK H s.heap.objs.size e l (zeW,λ p=>.ref fK):=jp nl K
 obtain⟨z,its,n,rr,aa,L⟩:=I1.lstM J;show(kR,hT,F.args_dict_init_2 _ _);unfold Builtin.«dict.__init__»;ext MW;unfold Builtin.Dict.selfAndRest;show(fQ,Qt hT ?_);show(mF,(pure (s.heap.objs.size,[Zl l])));ext ud;show(mF,Builtin.Dict.updateFrom "dict.__init__" s.heap.objs.size gS [] .none);unfold Builtin.Dict.updateFrom;show(fQ,QE (T:="list") (jo L) ?_);show(sQ,fe eJ,xqq L rfl rfl rfl rZ (xG U hk));have S:=I1.kept (h':=h') (t':=U) hk;show(NB,rule _);refine Zb (wpAny_rule ?_);show(fQ,(QT (yM,hk _ _ L,lA) ?_));ext zIP;show(jR,I3,mW v (zpm e) _,S.kept (t':=U) (h':=h'.push (jt,"list_iterator",.fields #[gS,SW])) wH,xh9 (A:=X.A.in1) rZ (yy (pT,X.A.units+1+1)) ps [] 0 _ H2 _ I3 zUl (BR B) P ?_ ?_ (eQ s' I'))
 .rw [kG (hp p B) I.fresh];exact hp p B
 .exact FB
 .exact S.fpOk f8 (S.hok.fresh (Zk _))
 .exact iW (jf,.ref _,H2,I',q2)
def xhk {X:Cx}{e:Expr}{t1 t2:TE} (h1:BS t1) (h2:BS t2):BS (rJ,t1 Z H Q\/t2 Z H Q):=(zcE,h.elim (h1 a s Z H Q I) (h2 a s Z H Q I))
noncomputable def Itrs (lo d:Int) (n:Nat):It:=(zEU,.int zwG)
def xm7 {P:Program}{w:World}{K:Zd}{tg:Expr} (it:Addr) (lo d:Int) (n:Nat):zGr ztQ d where
 mem:=eS
 obj:=λi h st b f=>by
  have e:b=it:=by simpa using f
  subst e;exact⟨_,st,λv z=>by
   ext Pw R z⟩
 keep:=zdS ztp
 item:=by
  intro X B x C A i c s Z H E I q st y;ext zBA d;have I1:zYL:=zGo;exact h8 (zCe,.int zwG,Ux)
 done:=by
  intro X B x C A i c s Z H E I q st y;ext zBF
 self:=zEF
def xge (a b:Int):Builtin.Range.rangeSize a b (-1)=(vn,b,a,a-b,0):=by
 unfold Builtin.Range.rangeSize;ext lG eJ;simp only[Int.neg_neg,Int.ediv_one];ext rB
def xpr {a b:Int} (ha:-nH<=a) (ha':a<nH) (hb:-nH<=b) (hb':b<nH):Builtin.Range.small a b (-1)=true:=by
 unfold Builtin.Range.small;rw[xge];simp only[Builtin.Range.rangeFitsLong,Z1,Bool.or_eq_true,decide_eq_true_eq,beq_iff_eq,(Al,¬ ((gk,-1)>0)),if_false];ext rB
section
variable {X:Cx}{tg:Expr}
def xj9 {pins:fP}{Z:St}{H:Hp}{s:Shared}{R:TB}{E:fM}{lo hi d:Int}{n:Nat}{t u v:Tok}{tk:Nat} (I:eR) (sm:Builtin.Range.small lo hi d=true) (sz:(zmw d)=n)
    (q:R ztQ H):zDA d:=by
  refine wpAny_pyIter_range (IsRange.new ..) sm ?_;have c:Inv X pins Z H { s with heap:=s.heap.push { cls:=.type "range",data:=.fields #[.int lo t,.int hi u,.int d v] },toks:=tk }:=I.kept λb o e=>Ze _ e;refine⟨121,zpF,[zpF],_,_,⟨66,H,rfl,
    zQW,xm7 _ lo d n,?_,Dk,q⟩⟩
  . show(eC,B,lo+DI*d=lo,eS,x,(kh n)-DI=(zmw d),AF sz)
    show IsRangeIter _ _ (lo+DI*d) ((kh n)-DI) d;ext ig B x lY
  . ext zHi zpF
noncomputable def xza (ta:TA):TI:=(OQ,∃ i j d:Int,(zGR,vs=[fF,hX,.int d],(d=1/\R (Itrs i 1 (mV j i)) H1)\/(d=-1/\R (Itrs i (-1) (mV i j)) H1)))
theorem xk1 {a b c:Expr}{ta:TA}{p pos:Pos} (hg:ztg) (hm:ztb) (ha:PA X zzx ta) (hs:autoParam (Rt zzx [(false,zdj),(false,KP),(false,yK c)]) aRfl._auto_1) (hs2:autoParam (Rt [b,c] (zuH,KP,yK c)) aRfl._auto_1) :
    Ib (zzm zzx) (xza ta):=by
  show(OE,f,boot_range,zok (zva f D J A u));obtain⟨i,j,d,e,⟨u,z,y,x⟩,q⟩:103:=u;ext iL;cases r1 with
  | cons r rr =>
    cases rr with
    | cons r' rr =>
      cases rr with
      | cons r'' rr =>
        ext zuY;ext kQ r';ext wQ B r'';rcases q with⟨rfl,q⟩|⟨rfl,q⟩
        . exact call_range_3 eJ (xj9 A (small_one u z y x) zmd q) (YD (Ww eJ))
        . exact call_range_3 eJ (xj9 A (xpr u z y x) (by rw[xge]; ext rB) q) (YD (Ww eJ))
#check _
def xh5 {xs:eB}{us:fD} (r:rh) {j:Nat} (h:j<us.toArray.size):∃ x,(hU xs x)/\RelV x zZH:=by
 show(mq,B,r.length,b,j<xs.length,RP h)
 show(eE,u,q,f,r.get (x:=Vs) (Zc b));show(kR,Vs,Zc b);have:zZH=u:=by
  have z:=Zi.mp q;ext U7 v z;simpa using c
 ext eY this f
def xgg {A:Around}{k:Nat} (hr:Cz):(pT,A.units+3):=mM hr.un
def xb9 {A:Around}{k:Nat} (hr:Cz):(pT,A.units+20):=mM hr.un
def xp6 {X:Cx}:(zvc,∃ a kvs,gL xs pK GE (ub kvs.length)):=by
 ext sV c;show(jb,a,kvs,rfl,e,q,h);show(eE,u,rfl,j,xdm r);show(ij,u=uK,j);exact x0e I zjx λ t s' m=>BC jC m Ux
inductive Ents (w:World):iA zbS gD
 | nil:Ents w [] []
 | cons {k:Key}{x:V}{key val:Value}{h:Int}{es:zbS}{kvs:gD} (hh:h=keyH w k) (hk:RelV (kV k) key) (hv:RelV x val) (r:zZe):Ents w ((eG h key val)::es) ((k,x)::kvs)
noncomputable def xpq (w:World) (K:Zd) (D:Addr) (kvs:gD):Prop:=(Fm D)/\∃(es:uZ) (ep:Nat),(EQ,D,zuF,none,.dict es ep,#[])/\Ents w es.toList kvs/\(kvs.map (·.1)).Nodup
theorem Ents.ok {P:Program}{w:World}{es:zbS}{kvs:gD} (h:zZe):∃ vs,tW/\Pairs yS es vs/\∀ e∈es,∃ k,(yS).is k e.key=true/\e.hash=(yS).hash k:=by
 induction h with
 | nil=>exact(fY,[],.nil,.nil,λ e z=>nomatch z)
 | @cons k x key val h es kvs hh hk hv _ ih =>
  show(sI,vs,a,b,c,ih,(fY,(k,val)::vs,.cons (iW hv) a,.cons (xdw hk) rfl b,eQ e f));rcases GI with rfl|z
  .exact (eG,k,xdw hk,hh)
  .exact c e z
section
variable {X:Cx}{pins:List (Addr × Obj)}{Z:St}{H:Hp}{s:Shared}{D:Addr}{kvs:List (Key × V)}
def xth (I:eR) (g:zRw):(ziP,s.heap.DictOf va D vs):=by
 obtain⟨_,q,u,l,v,j⟩:=g;show(gP,vs,a,b,c,v.ok (P:=X.prog));show(jV,vs,a,⟨106,_,q,u,I.kIn _ _ l,Ge,rfl,λ e m=>c e IX,b,?_⟩);show(sL,a.keys,j)
noncomputable def tGIn (kvs:gD) (neg:Bool) (ty:TE):TE:=(zpj,∃ k:Key,zfP/\(zu (ztY zxu) H1))
def xqo {i:Expr}{ty:TE}{x:Str}{p:Pos} (hi:LB) (hg:uq) (hm:KQ (.ref D)) (g:zRw) (hd:autoParam (qP) aDec._auto_1):PC X .NotIn i zfu (tGIn kvs true ty):=by
 ext BH;show(qz,RN c,(lW,P,A,y,z,M,B,fh 1062 k J C,thn (xb0 (v:=.ref D) hg hm rfl hd c A Z z (λ v H2=>v=.ref D/\H2=z) M wT) λ u s2 ⟨1084,x,H2,I2,rx,e1,e2⟩=>?_));subst J e1 e2;show(ij,u=Zl D,rx);show(eE,vs,j,L,xth I2 g);refine wpAny_notIn_of (xdw B) g.1 L.mapOf ?_;rw[<- (j.val k).isSome_eq];exact(jf,uB,_,I2.tok _,C)
#check _
theorem xh8 {ns:gK}{f:SQ} (h:∀ j (l:zuA),f j=ns[j]):(zXh,preSum f j=(zfr).sum):=by
 intro j
 induction j with
 | zero=>ext Va
 | succ j ih =>
  intro l;have b:zuA:=l;show preSum f j+f j=_;rw[ih (Yl b),h j b,Ja,Zc b,List.sum_append];simp
theorem xx8 {ns:gK} (B:Int) (hb:(zYo,-B,B)) (h0:0<=B):-(ns.length*B)<=ns.sum/\ns.sum<=ns.length*B:=by
 induction ns with
 | nil=>simp
 | cons a r ih =>
  have:=ih λ n hn=>hb n (Zm _ hn);have:=hb a Zn;rw[List.sum_cons,ZB];have e:(kh zvS)*B=r.length*B+B:=by rw[Int.natCast_add,Int.add_mul]; simp
  rw[e]
  lia
inductive x0d (K:Zd) (xs:eB) (H:Hp) (Q:VK):Prop
 | mk (p:Addr) (ns:gK) (e_:xs=[iX]) (r_:SqL K H p zdi/\(ns.length<=1000/\(zYo,-1000000,1000000))/\(ub ns.sum))
def xj5 {X:Cx} (hc:qW):xc0 X (vN "sum") (x0d X.K):=by
 ext sV x;obtain⟨p,ns,rfl,T,⟨C,M⟩,q⟩:=h;ext Xy S p;obtain⟨its,R,⟨o,n,g,c,_,d⟩,_⟩:63:=I.list T;show(eC,J,IntsAre its ns,xpc R,B,zJK,zOe)
 show(ou,zs,J.allInts.items);have P:ns=zs.toList.map (·.1):=by rw[<- J.numsOf,<- nums_intItems,<- e]
 rw[e] at B;have sz:zs.size=ns.length:=tt P Za Js
 have v:∀ j (l:zuA),numAt zs j=ns[j]:=λ j l=>by
  rw[numAt_eq,<- P];simp[List.getD,l]
 have U:(zXh,InLong (zfr).sum):=λ j l=>by
  have:=xx8 1000000 (ns:=zfr) (λ n hn=>M n (WA hn)) eJ;have Y:(zfr).length<=1000:=uc JY
  unfold InLong
  lia
 refine sum_intList rZ B (Om zAm) (ib h' tk t' hk)
 .rw [v j eA];have:=M ns[j] Of;unfold InLong
  lia
 .show(ie,xh8 v oR eA,U _ eA)
 .refine (gU,jC,H,I.kept hk,uj t',?_);rw[sz,xh8 v _ f8,Jz];ext nh
inductive x0b (K:Zd) (xs:eB) (H:Hp) (Q:VK):Prop
 | mk (p:Addr) (bs:F1) (e_:xs=[iX]) (r_:SqL K H p (bs.map V.bl)/\Q (.bl (bs.all id)) H)
theorem xxy {bs:F1}:∀{us:fD},Vals (bs.map V.bl) us->us=bs.map Yo:=by
 induction bs with
 | nil=>intro us h; ext qK h
 | cons b r ih =>
  intro us h;cases h with
  | cons h1 h2 =>
   show(NZ,ih h2);ext nK h1;rfl
def xp2 {bs:F1}:(ztj).all znQ=bs.all id:=by
 have h:(ztj).map znQ=bs:=by
  apply List.ext_getElem
  .simp
  .intro i c b
   simp[List.getD,b]
 calc _=((ztj).map (λ i=>zXn)).all id:=jn List.all_map
  _=_:=kU h
def xq9 {X:Cx} (hc:qW):xc0 X (vN "all") (x0b X.K):=by
 ext sV x;obtain⟨p,bs,rfl,O,q⟩:=h;ext Xy M p;obtain⟨its,J,⟨o,n,g,c,_,d⟩,_⟩:63:=I.list O;have B:zJK:=zOe
 show(nK,xxy J);have f:tK p:=Zu g;refine call_all_walk (QT B ?_);refine Av (iQ,105,_,_,znQ,rfl,Walks.list (A:=X.A.in1) rZ _ p (ZE f) (bs.map Yo).toArray,⟨FB,B.push _⟩,?_,xG tk hk)
 .intro i v s' S T C R
  simp only[List.getElem?_toArray,Zf,Zg] at C;ext oK b P C;have:zXn=b:=by simp[List.getD,P]
  rw[<- this];exact Zh R
 .rw [Z9,Za,xp2];exact(jf,uB,H,I.kept (old_kept hk),q)
section
variable {X:Cx}{pins:List (Addr × Obj)}{Z:St}{H:Hp}{s:Shared}{h':Heap}
def Inv.turnedL {t':Nat}{ch:eV} (I:eR) (k:AO G3 lI uW) (hf:∀ b∈ch,FpOk X pins H b):zAD:=by
 have A:HJ G3:=λb u e z=>by
  have:=(hf b z).1;ext iF this e e
 refine I.step (g':=s.gens) (d':=s.drawn) (ch:=ch) (qH D) (zeK j zwU) (zeK,j,R8 zwU) zXp
  (qo,j,Oj zwU) zvB zcS zRX (eQ m C) C9 I.bare
 .obtain ⟨S,O,R,M,K,J⟩:46:=Uv;exact gX M O K J
 .obtain ⟨o,P,Q,B,r⟩:102:=C;exact(Mb,P,Q,k _ o (λ z=>(hf _ z).2.1 rfl) B)
 .refine (zul).stay (λ c v j q=>k c v ?_ q) zfT Lk;rcases j with z|z
  .show(ie,z,A b u e)
  .exact A c _ z
#check _
structure Five (z TI TO i1 i2:Addr):Prop where
 TIz:TI≠z
 TOz:TO≠z
 i1z:i1≠z
 i2z:i2≠z
 TITO:TI≠TO
 TIi1:TI≠i1
 TIi2:TI≠i2
 TOi1:TO≠i1
 TOi2:TO≠i2
 i12:i1≠i2
def xds {a b:Nat} (h:Hu):(a:Addr)≠(b:Addr):=h
def xvi (n:Nat):Five (n+4) (n+2) (n+3) n m8 :=
 ⟨w8,w8,w8,w8,w8,w8,w8,w8,w8,w8⟩
def xgm {h:Heap}{a b:Addr}{x y:String} (ha:Gk M8 x) (hb:Gk oW y) (n:(sD,Wp x,Wp y)):Hu:=λ e=>by
 ext iL;ext eE o j m ha;ext eE u f i hb;ext gQ j f f;rw[m] at i;rw[i] at n;simp at n
noncomputable def Ite (K:Zd) (a:Addr):It :=
 (XU,zVw,v,∃ p x,zWL zZi fF,zKK)
def xp7 {P:Program}{w:World}{K:Zd}{elts:o5}{x1}{tpos:Pos} (e it l:Addr) (hei:e≠it) :
    Turn P w K Ca (Ite K l) [e,it] e (λ i h=>(∃ old,IsEnum h e it i old)/\h.IsListIter it l i) where
  mem:=eS
  obj:=λi h st b m=>by
    obtain⟨⟨old,A⟩,⟨o1,S,c1,d1⟩⟩:=st;ext OW m;rcases m with rfl|rfl
    . exact(hB,A,λ v k=>by ext Pw k' k)
    . exact(hB,S,zdv d1)
  keep:=λ i h h' ⟨1042,⟨old,A⟩,J⟩ k=>⟨⟨old,k e eS _ A⟩,J.at λ o z=>k it eS o z⟩
  item:=by
    intro X hP hw hK hc i B s Z H E I R st hg;ext zgo;ext o6 xs x Q O hg;ext zSM;show(eE,u,hu,ru,U.get O);ext zNc;show(Br,wpAny_pyNext_enum_item A J p.isList (x:=u) zpd hei (iR h' ho M hT hsz hk),(h8,wpAny_letOwnedTupleGo_enum (s:=B2 Ma) ho (fJ D ab C)));show(eC,ac,tK e,Zu A,Y,zbH e,Yb ac);have kk:(AO,b∉[e,it],lI,D.get? b=some o):=λb o m g=>by
      ext WS;exact (C.2 b m.1).trans (hk b o m.1 m.2 g)
    have I1:xO B { s with heap:=D,toks:=Ma }:=I.turnedL kk R;obtain⟨n0,nL,nC,nP⟩:44:=I.size_lt (Zk s.heap.objs.size);have hp:zGL zZp:=(C.2 _ Y).trans hT;refine⟨85,mE,zap fF x,VN [zZp,u] lA ru,rfl,
      (qI,_,x,λ zs hz=>(eP,I.list_inj hz Q,O),rfl,n0,rfl),?_,qH m⟩
    . show(fc,(mr,by simpa using ab),M.at λ o y=>(C.2 it (Zz hei)).trans y)
    . obtain⟨o,ho⟩:∃ o,lI:=by
        ext gP o1 S c1 d1 J;ext OW m;rcases m with rfl|rfl
        . ext we A
        . ext we S
      show(lC,Ek ho,(R b m).1)
  done:=by
    intro X hP hw hK hc i B s Z H E I R st hg;ext zgo;ext eE xs Q hl hg;ext zSM;have S:=U.length;ext zNc;refine wpAny_pyNext_enum_end rZ A J p.isList qX (zkm,O,zpL (yW m g) R)
    ext WS;exact O b o m.2 g
  self:=λ_ _ _ _ _ ⟨1042,mr st,_⟩ h=>wpAny_pyIter_enum st h
noncomputable def x0p (K:Zd) (ta:TA):TI:=(OQ,∃ a xs,D6/\P8/\R zhe H1)
section
variable {X:Cx}{elts:List Expr}{x1:_}{tpos:Pos}
def xl3 {a:Expr}{ta:TA}{p pos:Pos} (hg:Gl X "enumerate") (hm:L5 "enumerate") (ha:zug) (hs:autoParam (ztP) aRfl._auto_1) :
    PI X Ca (zza "enumerate" [a]) (x0p X.K ta):=by
  show(OE,c,PyProof.Rows.Boot.«enumerate»,J9 (iJ zjK us x vs M A r1 Q ?_) hs rfl);ext jb l xs e Y q Q;ext zKI P;show(gP,its,rv,S,U,A.list Y);refine call_enumerate_list S.isList (fW h' D h1 hsz hk);show(Hk,wpAny_pyIter_enum (s:=zPR) D ?_,I2,mW c M zPR,A.kept (t':=x.toks) hk,Ej _ [x.heap.objs.size+1,x.heap.objs.size] ⟨66,M,rfl,I2,xp7 _ _ l w8,⟨mr D,h1⟩,qH J,q⟩);have y:x.heap.objs.size<=b:=by
    ext OW J;rcases J with rfl|rfl
    . exact JH _ 1
    . exact f8
  exact A.fpOk y (A.hok.fresh y)
#check _
def xtg {K:Zd}{a:Addr}{xs:eB}{g:TG}{tb:TS}{D:Ends}{Z:St}{H:Hp} (Pv:GF) (h0:LW) (hl:zMq)
    (hs:∀ i x p Z H,(gb,tV,ut,Dc,g iX Z (ziL fF) IU)) (hd:zrf) :
    ∃ W:Nat->Nat->St->Hp->Prop,(∃ m,W 0 m Z H)/\∀ i m Z H,FV ->
      ((zhe).stop i H/\AL)\/((zhe).go i H/\(Fc (FJ,(zhe).yld i H x H',Z,H',LE N))):=by
  ext zDB v
  . ext zEY c
    show(o7,r,b,z,rfl,j,rfl,y);exact hs i b r Z H (z _ q) j p
  . ext zlR qba
#check L2
namespace L2
open PySem PySem.Spec PyProof.Rows XL
noncomputable def tMid (t:TS):TS:=(qm,∃ Pv:sA,t zSA Z H/\∀ σ' H',Pv σ' H'->D.nx σ' H')
theorem xcm {X:Cx}{st:Stmt}{t:TS} (h:zff):PS X st (tMid t):=by
 intro a s Z H D I q;ext eE Pv c b q;show(qz,h a s Z H zSA I c,uP e i);cases e with
 | next =>
  ext NF f r z;exact(gM,σ',H',f,b _ _ r)
 | _=>ext lT
#check L2
namespace XL
open PySem PySem.W
noncomputable def xno0 (K:Frag) (C:Addr):Bool:=match K.lookup C with
 | some ⟨_,_,zzE,_⟩=>xgv K cd.ns
 | _=>false
section
variable {prog:Program}{w:World}{A:Around}{E:Value->Shared->Prop}{h:Heap}{g:Array GenState}{d:Drawn}{t:Nat}{os:OsState}
variable {nm qn:Str}{C N:Addr}{bs bm bmB:List Value}{hz:Bool}{sn:List Str}{sub:List Value}{ab:Bool}{col:Option Bool}{dd:Option Addr}{k0 k1 k2 k3 k5:Option Value}{B ni ii:String}
def xov (F:Xt) (T:zaW) {mN:im}{Q:lK Fin}
    (gC:qV C (excClassObj nm qn C N bs bm hz sn sub ab col dd k0 k1 k2 k3 k5 ni)) (nN:h.Ns N mN) (iN:zOE)
    (kq:∀ h' e,zVG->zbL->Q (.done (zgB e)) zbd) :
    zIE (mh [gZ]):=by
  repeat (first|with_reducible ext zfv|with_reducible ext zQS|ext js)
  ext zBD lQ;show(ztz,_);generalize S:(Ci zVv:Obj)=D;show(oJ,U,D.isFreed,Lo S)
  generalize K:(zCV:Obj)=v;show(eC,R,zXJ,Lo K,up,(sN,oW,((zyE).push v).get? b=some o),λ b o q=>Ze v (Ze D q));show(mq,x,up _ _ gC,H,((zyE).push v).Ns N mN,let ⟨o,es,ep,e,r⟩:=nN; (Mb,es,ep,up _ _ e));have O:=T.keeps up;have J:((zyE).push v).get? Rf=some v:=by
    ext zWK D R
  have M:v.cls=gZ:=by rw[<- K]
  have P:(Lc).contains gZ=true:=eS
  unfold isInstance
  repeat (first|(with_reducible ext ziF J M)|(with_reducible refine YW x ?_; rw[P])|ext js)
  show(ztz,typeLookup (Zl C) _);refine wpAny_typeLookup_tail x H O F.mroIs F.init.lookup ?_;rw[iN];show(Uj,wpAny_of_eq (F.init.bind _) ?_);refine Zb (Qc (Q4 F.init.plain F.initEntry (wpAny_check_init_subT F O x J M ?_)));subst K
  wp_walk
  refine kq _ Rf (eG,fJ b o L,YM (Y5 _),(fY,zZF,?_,YM eA,?_)) (Y5 _)
  . show(eY,Jm _ _ (Yb (Nat.lt_succ_of_lt (Zu L))),Ze _ (up _ _ L))
  . rw[ZW _ (Ze _ J) rfl]
    simp only[Jp];rfl
  . show(eY,Jm _ _ (j9,Rf≠zZF),Heap.get?_push_at (by simp only[Jp]) rfl)
def xq2 (F:Xt) (T:zaW) {mN:im}{Q:fM}
    (gC:qV C (excClassObj nm qn C N bs bm hz sn sub ab col dd k0 k1 k2 k3 k5 ni)) (nN:h.Ns N mN) (iN:zOE)
    (kq:∀ h' e,zVG->zbL->Q pE zbd):yw (call gZ []) Q E2:=by
  ext zIO;show(jR,m,(NS E2).TypeIs gZ "type",jo gC,zLK);show(ztz,callAny (Zl C) _)
  repeat (any_goals (first|ext jd|with_reducible ext zfv|ext js))
  show(zBX,xov F T gC nN iN (ib h' e c a));exact kq h' e c a
#check _
#check XL
namespace L2
open PySem PySem.Spec PyProof.Rows XL
variable {q0:Bool}
noncomputable def xz1 (C:Addr):TE:=(rJ,∀ e,G7->Q pE LC)
section
variable {X:Cx}{C:Addr}{x:Str}{p pos:Pos}
def xwt (mk:xbf X.K C=true) (no:xno0 X.K C=true) (kp:ZC X.K gZ=true) (hg:uq) (hm:zgZ) (hdb:autoParam (qP) aDec._auto_1) :
    PE X (C1 zfu []) (xz1 C):=by
  ext pQ A;ext zmX;refine WH I.kIn kp ?_;obtain⟨nm,U,N,bs,⟨bm,hz,S,sub,ab,P,dd,k0,k1,k2,k3,k5,D,T⟩⟩:121:=xhd I.kIn mk;obtain⟨b,M,j⟩:∃ b,s.heap.Ns N b/\b "__init__"=none:=by
    unfold xno0 at no;split at no
    . rename_i c d cd sl ho
      have z:=(I.kIn _ _ ho).symm.trans D;show(zWk,_)
      injection z with z
      rw[z] at no;exact xt8 I.kIn no
    . cases no
  ext zUD;refine xq2 PySem.F.excBase_ValueError T D M j (ib h' e hm v);have q:G7:=I.hok.fresh v;obtain⟨R,O,_,_⟩:63:=(hm.there)
  have J:zMZ:=zMg O
  exact(jf,pE,_,zYS v (xot J),h e q)
#check _
#check L2
namespace L2
open PySem PySem.Spec PyProof.Rows XL
#check L2
namespace L2
open PySem PySem.Calls PyProof PyProof.Rows
theorem xzt {x y z:V}{us:fD} (r:zr [x,y,z]):∃ u v w,(jH,us,[u,v,w],vo,zyI,RelV z w):=by
 cases r with
 | cons r1 r2 =>
  cases r2 with
  | cons r3 r4 =>
   cases r4 with
   | cons r5 r6=>cases r6; exact sU _ _ _ rfl r1 r3 r5
def xrv {X:Cx} (hc:qW):(Cm,vN "min",∃ i j k:Int,xs=[fF,hX,zjM]/\∀ m:Int,(gR,m<=i,m<=j,m<=k,(qE,m,i,m,j,m=k),ub m)):=by
 ext sV x;show(GS,i,j,k,rfl,q,h);obtain⟨u,v,y,rfl,⟨t,rfl⟩,⟨t',rfl⟩,⟨A,rfl⟩⟩:104:=xzt r;refine min_three_ints (I.ok.hd hc) (xG z f);by_cases h1:j<i
 .rw [fe h1];by_cases h2:k<j
  .ext zFX
  .ext mz h2;exact⟨83,hX,H,zyX,lA,q j eA eA eA (zgN rfl)⟩
 .ext mz h1;by_cases h2:k<i
  .ext zFX
  .ext mz h2;exact(gU,fF,H,zyX,lA,q i eA eA eA jO)
noncomputable def eU (e:Ts) (u:Value):Bool:=match absV u with|some y=>e y|none=>false
def xuh {e:Ts}{y:V}{u:Value} (r:lz):eU e u=e y:=by unfold eU; rw[r.abs]
theorem xr4 {e:Ts}:(zca,rh->us.any (eU e)=xs.any e)
 | _,_,.nil=>rfl
 | y::xs,Vj,Ax=>by rw[Y1,Y1,xuh r,xr4 t]
theorem xn8:(zca,rh->∀ u∈us,∃ y∈xs,lz)
 | _,_,.nil=>λ u f=>nomatch f
 | y::xs,Vj,Ax=>λ h f=>by
  rcases GI with rfl|f
  .exact eG y Zn r
  .show(on,z,q,j,xn8 t h f);show(fU,z,Zm _ q,j)
#check L2
namespace PySem.F
#check PySem.F
namespace L2
open PySem PySem.Spec PyProof.Rows XL
variable {q0:Bool}
#check L2
namespace L2
open PySem PySem.Spec PyProof.Rows XL PySem.W
variable {q0:Bool}
def xjo {prog:Program}{w:World}{A:Around}{E:fM}{s:Shared}{a:Addr}{vs:fD}{n:Nat}{P:zXK}
    (h:zHk) (h2:2<=vs.length) (h64:vs.length<64)
    (hk:∀ s':Shared,s'.heap=(((s.heap.update a (Y7 λ x=>#[])).push (seqObj "tuple" vs.toArray 0)).push (seqObj "list" #[] 0))->s'={ s with heap:=s'.heap } ->
      wpAny jk A zPB (λ κ s''=>s''=s'/\KasT.kasWp (kas_ask prog w A κ vs) (kas_sort vs.length) (λ p s3=>s3=s'/\(zGk zlW)) s'') yh s') :
    zEA:=by
  ext vi C d K os;ext ztE
  repeat (any_goals (first|ext jd|ext js))
  have z:¬ vs.toArray.toList.toArray.size>sizeLine:=by
    simp;exact Yl (ZQ h64 eJ)
  ext lG z;generalize zPB=S at hk ⊢
  repeat (any_goals (first|ext jd|ext js))
  have J:=hk (zGV,((zKg).push (seqObj "tuple" vs.toArray 0)).push (seqObj "list" #[] 0)) rfl rfl;show(Ck,J,uP κ s'');ext tY e z;ext iL;show(NB,StateT.run (vn,vs.toArray.size,2,pure (),sortRuns') _);ext lG qX;show(fQ,(Ji (kat_run (E:=E) (Q:=λ v s'=>∃ p:iS,(fb,p.size=vs.length,arrOf v=QI (kas_item (vs.toArray.zip vs.toArray)) p,failedOf v=none,s'=_,(zWp (zGV,sortedHeap C a vs zlW)))) rfl h2 h64 (λ p v s' hp' e f B=>hV 65 p hp' e f B.1 B.2) q) (uP r s') Uw));obtain⟨u,st⟩:=r;show(Hj,p,H,e,f,rfl,B,z);have al:a<C.objs.size:=Zu h;have T:(((zKg).push (seqObj "tuple" vs.toArray 0)).push (seqObj "list" #[] 0)).get? a=some znC:=by
    refine zbV;rw[zvk];have z:((0:Nat) == vs.length)=false:=by
      cases vs with
      | nil=>simp at h2
      | cons=>rfl
    simp[Y7,z]
  have R:(if (rC,((λ x=>#[]) vs.toArray:jM).size,vs.toArray.size) then n else m8)=m8:=by
    rw[if_neg];simp
    lia
  simp only[R,f];have O:(zxS st)=zlW:=by
    rw[e,Array.map_map]
    congr 1
    funext i;show (kas_item (vs.toArray.zip vs.toArray) i).snd=_;unfold kas_item;by_cases c:zuD
    . simp[BK,c]
    . simp[Jo zoZ,c]
  simp only[O]
  repeat (any_goals (first|ext jd|ext js))
  have M:(Y7 (λ x=>zLk) znC).data.pastItsLine=none:=by
    show (La,(zLk).size>sizeLine+1,none)=none;rw[if_neg];rw[Array.size_map,H];have:zi vs.length:=ZQ h64 eJ
    lia
  rw[M];ext ud;rw[f];show(mF,mG (m8 != m8) _ _);show(N4,fH eS,B)
def xhl {prog:Program}{w:World}{A:Around}{E:fM}{s:Shared}{it d:Addr}{i ep:Nat}{o:Obj}{es:uZ}{en:DictEntry}{Q:AX}
    (st:s.heap.IsKeyIter it d i es.size ep) (hd:yY) (hx:o.ExactDict) (hdat:tF) (hi:zel)
    (h:(CI,h'.IsKeyIter it d f7 es.size ep,FT it,some en.key,kZ)):zht:=by
  ext zBw;have b:=st.typeIs;ext vi M O H L;obtain⟨⟨c,B,C,J⟩,j,q,m⟩:63:=st;ext zCO
  repeat (any_goals (first|ext jd|(with_reducible refine Y6 b ?_)|(with_reducible refine Qu b ?_)|(with_reducible ext E4)|(with_reducible ext E3)|ext js))
  have v:(zac i jT)=some en:=by
    ext ig Dm Yy hi
  rw[v]
  repeat (any_goals (first|ext jd|(with_reducible refine Y6 b ?_)|(with_reducible refine Qu b ?_)|(with_reducible ext E4)|(with_reducible ext E3)|ext js))
  show(gE,h8 zWH,(yM,ZW _ j rfl,?_));rfl
def xh7 {prog:Program}{w:World}{A:Around}{E:fM}{s:Shared}{it d:Addr}{ep:Nat}{o:Obj}{es:uZ}{Q:AX}
    (hA:E8) (st:s.heap.IsKeyIter it d es.size es.size ep) (hd:yY) (hx:o.ExactDict) (hdat:tF)
    (h:zqE zmI):zht:=by
  ext zBw;have j:=st.typeIs;ext vi R S M P;obtain⟨⟨c,J,L,O⟩,C,q,m⟩:63:=st;ext zCO
  repeat (any_goals (first|ext jd|(with_reducible refine Y6 j ?_)|(with_reducible refine Qu j ?_)|(with_reducible ext E4)|(with_reducible ext E3)|ext js))
  have H:(zac es.size qbL)=none:=by
    rw[Dm,Yy];simp
  rw[H]
  repeat (any_goals (first|ext jd|(with_reducible refine Y6 j ?_)|(with_reducible refine Qu j ?_)|(with_reducible ext E4)|(with_reducible ext E3)|ext js))
  ext zBC
def xmw {prog:Program}{w:World}{A:Around}{E:fM}{s:Shared}{d:Addr}{ep:Nat}{o:Obj}{es:uZ}{Q:fM}
    (hs:Fm d) (hd:yY) (hx:o.ExactDict) (hdat:tF)
    (h:Q mE (zqy "dict_keyiterator" zVa)):zZr d:=by
  have m:zYG:=wa hd hx.1
  ext NQ c v B H;ext nF x1 x2 q hx;simp only at x1 x2 q hdat;subst x1 x2 q hdat;refine wpAny_pyIter_slot m F.slot_dict_iter ?_;refine Jt F.slot_dict_iter m F.entry_dict_iter ?_ (F.args_dict_iter_1 _);ext vi K L C J;unfold Builtin.«dict.__iter__»
  repeat (any_goals (first|ext jd|(with_reducible refine Qt m ?_)|(with_reducible refine J8 hd rfl ?_)|(with_reducible refine Yj hd rfl ?_)|ext js))
  exact(pR,_,rfl,gU _ _ TY Yk.lookup h)
theorem xwo {prog:Program}{w:World}{d:Addr}{ep:Nat}{o:Obj}{es:uZ} (hs:Fm d) (hx:o.ExactDict) (hdat:tF) :
    KdlSrc prog w "dict" d d es.size (λ i v=>∃ en,zel/\v=en.key) (λ h=>G2) where
  type:=λ s h=>wa h hx.1
  there:=λ h e=>⟨Zu e,Zu e⟩
  keep:=λ h h' e k=>k d jO o e
  notList:=eJ
  notTuple:=eJ
  hint:=λ A E s Q h q=>kdl_hint_dict (wa h hx.1) q
  iter:=λ A s C h=>by
    show(jG,J,Zu h,(gY,zgC "dict_keyiterator" zVa,λ i h=>(zsP s.heap.objs.size es.size)/\G2,λ E Q q=>xmw hs h hx hdat q,?_,mT _ lY rfl,Ze _ h));have dn:d≠s.heap.objs.size:=ZE J;exact {
      sub:=λ b m=>by
        have e:b=s.heap.objs.size:=IX
        rw[e];simp
      frame:=zdS ⟨st.1.at λ o e=>k _ eS o e,k _ eS _ st.2⟩
      item:=λ i s' Q E B st q=>by
        refine xhl st.1 st.2 hx hdat (JJ B) λ h' u sb=>q _ h' s'.toks (jo,JJ B) ⟨u,(sb.2 d dn).trans st.2⟩ (qo m ?_);exact (sb.2 b IX).trans e
      done:=λ s' Q E st q=>by
        refine xh7 C st.1 st.2 hx hdat λ h' H=>q h' s'.toks (qo m ?_);exact H b o IX e
      self:=λ i s' Q E st q=>W8 st.1 q }
noncomputable def xer:Bx Key Key
 | .inl a,.inl b=>hR (a<b)
 | .inr a,.inr b=>hR (a.cps.toList<b.cps.toList)
 | _,_=>false
noncomputable def lexK:Bx jA jA
 | [],[]=>false
 | [],gO=>true
 | gO,[]=>false
 | xB,rN=>if xP then lexK xs ys else xer x y
noncomputable abbrev shp (k:jA):F1:=k.map Sum.isLeft
def xwr {a b:Str} (h:a.cps.toList=b.cps.toList):xQ:=by
 ext BF a b;simp at h;rw[h]
theorem xr2 (x:Key):(iK,xer x x):=by
 cases x with
 | inl a=>simp[xer]
 | inr a=>exact W9.irrefl a.cps.toList
def xs1 {x y z:Key} (h1:xer x y=true) (h2:xer y z=true):xer x z=true:=by
 cases x<;>cases y<;>cases z<;>simp only[xer,ZD] at h1 h2
 .show(eK,a,of_decide_eq_true h1,b,of_decide_eq_true h2);show(zds,Int.lt_trans a b)
 .exact W9.trans _ _ _ h1 h2
theorem xqk {x y:Key} (hs:x.isLeft=y.isLeft) (ne:x≠y) (h:(iK,xer x y)):xer y x=true:=by
 cases x with
 | inl a =>
  cases y with
  | inl b =>
   show(eC,h',¬ a<b,of_decide_eq_false h,c,Hu,λ e=>ne G4);show(zds,(j9,b<a))
  | inr b=>cases hs
 | inr a =>
  cases y with
  | inl b=>cases hs
  | inr b =>
   cases e:xer (.inr b) (.inr a) with
   | true=>rfl
   | false=>show(jB,(kU,xwr (W9.total _ _ h e)),ne)
theorem xma:∀ x:jA,(iK,lexK x x)
 | []=>rfl
 | xB=>by
  unfold lexK;rw[iT];exact xma xs
theorem xn3:∀{x y z:jA},(gR,zVj,shp y=shp z,zWr,lexK y z=true,lexK x z=true)
 | [],[],_,_,_,h,_=>jz
 | [],gO,_,h,_,_,_=>jz
 | gO,[],_,h,_,_,_=>jz
 | gO,gO,[],_,h,_,_=>jz
 | xB,rN,z::zs,h1,h2,h3,h4=>by
  simp only[shp,Zs,We.injEq] at h1 h2;unfold lexK at h3 h4 ⊢;by_cases xy:xP
  .subst xy;rw[iT] at h3;by_cases yz:x=z
   .rw [fe yz] at h4 ⊢;exact xn3 h1.2 h2.2 h3 h4
   .rw [fH yz] at h4 ⊢;exact h4
  .rw [fH xy] at h3;by_cases yz:y=z
   .subst yz;ext sK xy h3
   .rw [fH yz] at h4;have a:=xs1 h3 h4;show(eY,(su,e,pj e xr2 a a),a)
theorem xl7:∀{x y:jA},(gb,zVj,x≠y,(iK,lexK x y),lexK y x=true)
 | [],[],_,h,_=>qaD
 | [],gO,h,_,_=>jz
 | gO,[],h,_,_=>jz
 | xB,rN,h1,h2,h3=>by
  ext zol h1;unfold lexK at h3 ⊢;by_cases xy:xP
  .subst xy;rw[iT] at h3 ⊢;exact xl7 h1.2 (λ e=>h2 G4) h3
  .rw [fH xy] at h3;show(eY,(su,e,xy e.symm),xqk h1.1 xy h3)
theorem xl8 {prog:Program}{w:World}{A:Around}{s:Shared}{b:Bool}{Q:AD}:∀(xs ys:jA) (us vs:fD) (i:Nat),(gR,shp xs=shp ys,Vals (xs.map kV) us,Vals (ys.map kV) vs,Q (lexK xs ys) s,KatLex prog w A b false Q (us.zip vs) i s)
 | [],[],_,_,i,_,.nil,.nil,q=>kat_nil q
 | [],gO,_,_,_,h,_,_,_=>jz
 | gO,[],_,_,_,h,_,_,_=>jz
 | xB,rN,_,_,i,h,.cons ru r,.cons rv r',q=>by
  ext zol h;unfold lexK at q;cases x with
  | inl a =>
   cases y with
   | inr c=>cases i0
   | inl c =>
    ext Mi ru rv;refine kat_cons (wpAny_eqBool_int ?_);ext zTF
    .ext zDS
    .rw [(pW,e (Qz.inj z))] at q;ext lG ya;cases (b&&i == 0) with
     | true=>exact oneLt_int q
     | false=>exact kat_one _ _ (lt_int q)
  | inr a =>
   cases y with
   | inl c=>cases i0
   | inr c =>
    ext Mi ru rv;refine kat_cons (wpAny_eqBool_str ?_);ext zTF
    .ext zDS
    .rw [zSm] at q;ext lG ya;cases (b&&i == 0) with
     | true=>exact oneLt_str q
     | false=>exact kat_one _ _ (lt_str q)
def xk6 {prog:Program}{w:World}{A:Around}{E:fM}{s:Shared}{a:Addr}{vs:fD}{n:Nat}{P:zXK}
    (h:zHk) (h2:vs.length<2) (q':zGk vs.toArray) :
    zEA:=by
  ext vi c d B C;rcases vs with _|⟨v,_|⟨q,r⟩⟩
  . ext ztE
    repeat (any_goals (first|ext jd|ext js))
    show(mF,(pure (PUnit.unit,(zao,(zyu).zip #[],#[],7))));ext ud;have b:(zxS (zao,(zyu).zip #[],#[],7))=#[]:=by
      show QI zwb ((zyu).zip #[])=#[];simp
    simp only[b];have j:(((zKf).push (seqObj "tuple" #[] 0)).push (seqObj "list" #[] 0)).get? a=some (seqObj "list" #[] (n)):=by
      refine zbV;rw[zvk];rfl
    show(NB,seqEpoch a)
    repeat (any_goals (first|ext jd|ext js))
  . ext ztE
    repeat (any_goals (first|ext jd|ext js))
    show(mF,(pure (PUnit.unit,(zao,(zzS).zip HW,#[],7))));ext ud;have b:(zxS (zao,(zzS).zip HW,#[],7))=HW:=by
      show QI zwb ((zzS).zip HW)=HW;simp
    simp only[b];have j:(((zKf).push (seqObj "tuple" HW 0)).push (seqObj "list" #[] 0)).get? a=some znC:=by
      refine zbV;rw[zvk];rfl
    show(NB,seqEpoch a)
    repeat (any_goals (first|ext jd|ext js))
  . simp at h2
    lia
theorem xg8 {α:Type} (f:α->Addr):∀(es:i7),Vals (es.map λ x=>V.ref (f x)) (es.map λ x=>Zl (f x))
 | []=>.nil
 | x::r=>.cons rfl (xg8 f r)
theorem xrf {H:Hp}{kvs:i4}{es:wJ} (h:KT H kvs es):(∀ x∈es,(fO iG (.tup ((gG).map kV))))/\es.map (·.1)=kvs.map (·.1):=by
 induction h with
 | nil=>show(fc,qT,rfl)
 | @cons p x kvs es hp r ih =>
  ext FU b i hp;show(nM,eQ y f,by rw[Zs,Zs,ih.2,b]);rcases GI with rfl|z
  .rw [<- b];exact i
  .exact ih.1 y z
theorem xp8 {P:Program}{w:World}{H:Hp}{h:Heap} (ok:sH) {b:Bool}{sh:F1}:∀(es:wJ),(∀ x∈es,(fO iG (.tup ((gG).map kV))))->(∀ x∈es,shp gG=b::sh) ->
    ∃ fs,KatTups h (es.map λ x=>Zl iG) fs/\fs.length=es.length/\∀ v∈fs,(zG,∃ i t,v=YR i t,∃ i t,v=Wc i t)
  | [],_,_=>fY [] KatTups.nil rfl qT
  | x::es,h1,h2=>by
    show(gP,fs,k,l,m,xp8 ok es (λ y hy=>h1 y (Zm _ hy)) (λ y hy=>h2 y (Zm _ hy)));obtain⟨K,M,A,O,D,J,Q,I⟩:=ok iG _ (h1 x Zn);have f:=h2 x Zn;obtain⟨B,a1,L⟩:=x;cases B with
    | nil=>cases f
    | cons k0 kr =>
      ext zol f;simp only[Zs] at A;cases A with
      | @cons _ u _ us ru rr =>
        refine(fY,u::fs,KatTups.cons D J I eS k,ip l,eQ v C);rcases Zr.mp C with rfl|r
        . cases k0 with
          | inl i =>
            ext jq ru;rw[fe (wD b f.1.symm)];ext Ia i t
          | inr i =>
            ext jq ru;show(lG,show ¬ DN by rw[<- f.1]; simp);ext Ia i t
        . exact m v r
def xp5 {X:Cx}{pins:fP}{Z:St}{H:Hp}{s:Shared}{h1:Heap}{tk:Nat}{Q:VK}{sh:F1} (es':wJ) (I1:BV zzW)
    (hl:es'.length<64) (km:∀ x∈es',(fO iG (.tup ((gG).map kV)))) (shE:∀ x∈es',shp gG=sh) (hpos:0<sh.length) (hnd:(List.map (λ x=>x.fst) es').Nodup)
    (q:∀(l:Addr) (ts:ztf),qg->zHL->(ts.map (·.1)).Pairwise zwF->zEC) :
    wpAny rV X.A.in1 (newList (es'.map λ x=>Zl iG)>>=λ l=>holding [l] (call (.builtin "list.sort") [l] [])>>=λ_=>ret l) (λ fin s'=>∃ v,fin=Fin.done (Flow.ret v)/\(Sn v s')) X.xe zzW:=by
  show(eC,hz,ju es'.length,Yl (ZQ hl eJ),R,Vals (es'.map λ x=>zyD) B8,xg8 (λ x=>iG) es');have I2:=I1.lnew (t':=tk) R (pI hz);show(fQ,wpAny_newList ?_ (pI hz));show(eC,fr,gz h1.objs.size,I1.fresh,gl,(zma).get? h1.objs.size=some (seqObj "list" zwc 0),lY);refine Zb (Jv (Jt slot_list_sort (jo gl) entry_list_sort ?_ (args_list_sort _)));show(eK,J1,I2.lset (l:=h1.objs.size) (its:=B8) (its':=[]) (ys:=[]) (f:=λ_=>#[]) (t':=tk) xh gl rfl .nil lQ,J2,J1.kept (t':=tk) (h':=(((zma).update h1.objs.size (Y7 λ_=>#[])).push (seqObj "tuple" zwc 0)).push (seqObj "list" #[] 0)) (jE Rb));obtain⟨z9,U,n9,r9,ad,e9⟩:=J2.lstM xh;have done:∀(ts:ztf),zHL->(ts.map (·.1)).Pairwise zwF ->
      (Sn zSu (IB,sortedHeap zma h1.objs.size B8 (znd).toArray)):=by
    intro ts pm pw;have tl:ts.length=es'.length:=hZ pm.length_eq Za
    have J3:=J2.lset (l:=h1.objs.size) (its:=U) (its':=znd) (ys:=ts.map λ t=>V.ref t.2) (f:=λ_=>(znd).toArray) (t':=tk) xh e9 rfl (xg8 (λ t=>t.2) ts) (yU Za tl hz);rw[xfi,xfi] at J3;exact(jf,zSu,_,J3,q _ ts fr pm pw)
  by_cases few:es'.length<2
  . refine xk6 gl (pI few) (h8,Zh GO)
    have:=done (es'.map λ x=>(gG,iG)) vm ?_
    . ext h7 ZG this this
    . match es',few with
      | [],_=>ext mj
      | [x],_=>exact List.pairwise_singleton _ _
      | _::gO,h=>ext Ex h
  . refine xjo gl MI (pI hl) (fJ s' ac aa)
    obtain⟨b,S,rfl⟩:∃ b S,sh=b::S:=by
      cases sh with
      | nil=>simp at hpos
      | cons b r=>ext Ia b r
    rw[ac] at aa;subst aa;have O:∀ x∈es',(kK (jj h1.objs.size (.lst (es'.map λ x=>zyD))) h1.objs.size (.lst []) iG (.tup ((gG).map kV))):=λx hx=>by
      rw[zRJ,zRJ];exact km x hx
    show(gP,fs,kt,fl,fm,xp8 J2.hok es' O shE);show(jR,Y,2<=es'.length,eA,kat_kind (T:=(zG,jK "int",jK "str")) kt eA (eQ v hv) (by cases b<;>rfl) AW)
    . have z:=fm v hv
      cases b with
      | true =>
        show(zGp,"int")
      | false =>
        show(zGp,"str")
    rw[Za];have J:∀ i,KO->(gf es' Co):=λ i B=>by
      rw[List.getD_eq_getElem?_getD,Zc B];rfl
    have eM:∀ i,KO->Co∈es':=λ i B=>Zo (J i B);have K:∀ i,KO->(B8).getD i .none=.ref zhH:=λ i B=>by
      rw[List.getD_eq_getElem?_getD,Zf,J i B];rfl
    have I:∀ i j,KO->j<es'.length->shp (Co).1=shp (zYP).1:=λ i j B C=>(hZ,shE _ (eM i B),shE _ (eM j C))
    refine Srt.sort_wp (lt:=λ i j=>lexK (Co).1 (zYP).1) (eG,λ i B=>xma _,λ i j k B C hk=>xn3 zfb (I j k C hk),λ i j B C ne=>xl7 zfb λ e=>ne ?_) (iR i j B C Q' q') Y λ p arr srt=>(o8,Zh GO)
    . have e1:(es'.map (·.1))[i]?=(es'.map (·.1))[j]?:=by rw[Zf,Zf,J i B,J j C]; ext M0 some e
      exact (qaQ B hnd).mp e1
    . show(mF,keyLt' _ ((B8).getD i .none) ((B8).getD j .none))
      rw[K i B,K j C];obtain⟨_,ti,ri,oi,ei,_,ni,di⟩:=J2.hok _ _ (O _ (eM i B));obtain⟨_,tj,rj,oj,ej,_,nj,dj⟩:=J2.hok _ _ (O _ (eM j C));have l1:=Vals.length ri;show(eK,l2,Vals.length rj,l3,Em zfb);simp only[Za] at l1 l2 l3;refine kat_lt ei di ej dj ?_;show(eY,zdu qX,xl8 _ _ _ _ 0 zfb ri rj q')
    have pl:∀ i∈p.toList,KO:=λ i B=>by
      show(Hi,(Array.Perm.mem_iff arr.pm).mp (WC.mp B))
    have:=done (p.toList.map λ i=>((Co).1,zhH)) ?_ ?_
    . rw[ZG] at this
      have e2:(p.map λ i=>(B8).getD i .none)=(p.toList.map ((λ t:jA × Addr=>Zl t.2)∘λ i=>((Co).1,zhH))).toArray:=by
        rw[<- Array.toList_inj,Array.toList_map];exact YX λ i B=>K i (pl i B)
      ext eY e2 this
    . have e3:(es'.map λ x=>(gG,iG))=(Zx es'.length).map λ i=>((Co).1,zhH):=by
        refine QX (iy i);by_cases c:KO
        . rw[Zf,J i c,Zf,JK c]
          rfl
        . rw[Jo MI,Jo qX]
      rw[e3];refine Jy.map _ ?_;show(Hi,Array.Perm.toList arr.pm)
    . rw[ZG,Jk,Yt]
      intro i j B C ab;have z:=srt i j ab (by rw[<- arr.sz]; simpa using C);show(eC,gi,Srt.g p i=p.toList[i],zKE B,gj,Srt.g p j=p.toList[j],zKE C);ext C5 gi gj
inductive xtl (xs:eB) (H:Hp) (Q:VK):Prop
 | mk (d:Addr) (kvs:i4) (sh:F1) (e_:xs=[vJ]) (r_:zhq/\kvs.length<64/\(∀ p∈kvs,shp fK=sh)/\0<sh.length/\∀(l:Addr) (ts:ztf),qg->(∀ t∈ts,(fO t.2 (.tup (t.1.map kV))))->(ts.map (·.1)).Perm (kvs.map (·.1))->(ts.map (·.1)).Pairwise zwF->zEC)
def xlk {X:Cx} (hc:qW):xc0 X (vN "sorted") xtl:=by
 ext sV K;obtain⟨d,kvs,sh,rfl,hd,hl,Y,P,q⟩:=h;ext Xy ru d;show(qS,O,A,J,dd,xlb I.hok hd);obtain⟨o,es,ep,ho,M,T,R,ac,aa⟩:106:=dd;have ln:=YC J;have D:es.size=A.length:=zuU R
 refine Calls.call_function_entry kind_sorted plain_sorted entry_sorted (args_sorted1 _) ?_;unfold Builtin.sorted;ext Fv;show(NB,collect (.ref d));show(fQ,(kdu_collect (xwo O M T) rZ ho (by rw[D,<- ln]; ext lT) (fW h1 tk B keep C)));have ab:B.toList=A.map λ x=>Zl iG:=by
  refine QX (iy j);obtain⟨i1,i2⟩:=C;by_cases c:j<A.length
  .show(eC,c',j<B.size,yU i1 D c,e,(hU,B,B[j]),JJ c');show(eE,en,he,hv,i2 j B[j] e);rw[J7,e,hv];have S:hU es.toList en:=eP J7 he
   rw[R,Zf,BK] at S;rw[Zf,BK];have:=ZR.inj S;rw[<- this];rfl
  .rw [Jo (by rw[Js,i1,D]; lia),Jo MI]
 rw[ab];have I1:xO K zzW:=I.kept keep;obtain⟨km,ke⟩:=xrf J;have U:∀ x∈A,shp gG=sh:=λ x M=>by
  have m:gG∈kvs.map (·.1):=qbt ke (jv x M)
  ext Fk hp;rw[<- e];exact Y p hp
 refine xp5 A I1 (iz ln hl) km U P aa λ l ts fr pm pw=>q l ts fr zwM ?_ pw
 .show(on,x,M,rfl,Zj.mp (pm.mem_iff.mp ht));exact km x M
 .have:=pm.map (·.1);rw[ZG] at this;ext sL ke this
def xli {prog:Program}{w:World}{K:Type} [DecidableEq K] {knd:HeapKind prog w K}{A:Around}{E:fM}{s:Shared}{d a b:Addr}{xs:l9 K zsp}{k:K}{v:Value}{i:Nat}{Q:lK (iH DictEntry)}
    (hr:knd.room A) (hk:knd.is s.heap k a) (dd:Heap.DictOfH knd s.heap d xs) (hi:gf xs (k,b,v)) (hz:yb)
    (h:(CI,Heap.DictOfH knd h' d zZN,zqO,(some (entryOfKey knd (k,b,v))),B2 zOz)):jQ (Builtin.Dict.takeOut d fE):=by
  obtain⟨o,R,ep,M,Y,q,C,P,J⟩:106:=dd;have U:R.size=xs.length:=zuU C
  unfold Builtin.Dict.takeOut;show(Uj,knd.pyHash hr hk ?_);show(fQ,(wpAny_dictFind_heap (s:={ s with toks:=zOz }) hr hk M q C P J (λ no=>absurd hi (no i (b,v))) (fJ j p hj)));have X:j=i:=by
    have e1:(xs.map (·.1))[j]?=(xs.map (·.1))[i]?:=by rw[Zf,Zf,hj,hi]; rfl
    exact (qaQ,ui hj,J).mp e1
  subst X;show(fQ,J8 M q ?_);show(lM,e,entry_at C j,hi);show(sQ,e,(wpAny_updateDictKeys M q zWH (eP U hz) (mM,size_eraseIdxIfInBounds_le R j)));refine⟨106,_,_,_,ZW _ M (Obj.isFreed_of_dict zLo),Y.mapDictKeys _,zLo,?_,eQ x T,?_⟩
  . have Z:(R.eraseIdxIfInBounds j).toList=R.toList.eraseIdx j:=eS
    rw[Z,C];simp[Qs,Q2,Q3]
  . exact knd.keeps (P x (List.mem_of_mem_eraseIdx T)) M q zWq
  . exact Qd.sublist (List.Sublist.map _ (List.eraseIdx_sublist _ _)) J
theorem Paired.erase {α β:Type}{F:zvA}{l₁:i7}{l₂:zhT} (h:zoy):∀ i,Paired F (l₁.eraseIdx i) (l₂.eraseIdx i):=by
 induction h with
 | nil=>exact λ i=>.nil
 | cons r t ih =>
  intro i;cases i with
  | zero=>exact t
  | succ i=>show(uD,r,ih i)
theorem Paired.at_ {α β:Type}{F:zvA}{l₁:i7}{l₂:zhT} (h:zoy):∀{i:Nat}{x:α},(gf l₁ x)->∃ y,(gf l₂ y)/\F x y:=by
 induction h with
 | nil=>intro i x e; ext vR
 | @cons a b l₁ l₂ r t ih =>
  intro i x e;cases i with
  | zero =>
   ext FH;ext zq b r
  | succ i=>ext A4
theorem xiy {κ:Type} [PP]:∀{kvs:j7}{i:Nat}{k:κ}{v:V},(kvs.map (·.1)).Nodup->(gf kvs zj)->FX=kvs.eraseIdx i
 | [],i,k,v,_,h=>yg
 | vT,0,k,v,nd,h=>by
  simp at h;subst h;ext FP;show zWf=r;rw[JB eS];refine List.filter_eq_self.mpr (eQ q c);have:rT≠k:=λ e=>nd.1 (e▸Zj.mpr (pR q c rfl));ext RS
 | vT,f7,k,v,nd,h=>by
  ext FP;show(eC,h',gf r zj,xY,b,fK≠k,λ e=>nd.1 (zXA (jv,zj,Zo h')));show zWf=p::r.eraseIdx i;rw[JA Po];have:=xiy xH h';unfold xc5 at this;rw[this]
theorem xjt {κ:Type} [PP]:∀{kvs:j7}{k:κ}{v:V},(D0,wO,v,∃ i:Nat,gf kvs zj)
 | [],k,v,h=>jz
 | vT,k,v,h=>by
  ext FQ
  .ext Tf Hx;show(fc,0,by simp[<- e])
  .ext lF D7;show(ye,i,a,xjt h,f7,zpJ)
def xxb {X:Cx}{pins:fP}{Z:St}{H:Hp}{s:Shared}{A:Around}{E:fM}{a b:Addr}{kvs:i4}{k:jA}{v:V}{Q:fM} (hu:zUf) (I:eR) (e:Ms) (eb:Mx) (l:zdF)
    (h:O3 (Oe (rF H a FX)) zxm):NG "dict.pop" [fE,jD]:=by
  show(qS,hd,xs,j,dd,xlb I.hok e);obtain⟨km,ke⟩:=xrf j;have ln:=YC j;obtain⟨i,hi⟩:=xjt l;obtain⟨x,hx,rx⟩:∃ x,(fS,tV,(zj:jA × V).1=gG,fO iG zbA,RelV v Bo):=L2.Paired.at_ j hi;obtain⟨k',b',w'⟩:=x;obtain⟨ek,_,L⟩:43:=rx;simp only at ek;subst ek;have ah:=dd;obtain⟨o,es,ep,S,C,B,aa,am,U⟩:106:=dd;have M:(kvs.map (·.1)).Nodup:=iz ke U
  refine Jt Qv (wa S C.1) PySem.F.entry_dict_pop ?_ (PySem.F.args_dict_pop_2 _ _);have ti:zov:=wa S C.1
  unfold Builtin.«dict.pop»;have ap:es.isEmpty=false:=by
    have:es.size=xs.length:=zuU aa
    have:zuM:=zAd;rw[Array.isEmpty_eq_false_iff_exists_mem];show(fc,es[i]' eA,eS)
  ext NQ c0 d0 aj ak;ext nF x1 x2 x3 C;simp only at x1 x2 x3 B;subst x1 x2 x3 B
  repeat (any_goals (first|ext jd|(with_reducible refine Qt ti ?_)|(with_reducible refine J8 S rfl ?_)|((with_reducible show(mF,Builtin.Dict.takeOut _ _)); refine xli (show (Xh).room A.in1 from hu) Fs ah hx (iz ln z) (xG ai hs))|ext js))
  refine(h8,h w' _ ?_ L);have af:=ai;obtain⟨o',ad,ae,J,R,ac,ab,ao,Y⟩:106:=af;refine xew I vk hs ⟨o',J⟩ ?_;refine gF zTA hd zZN ?_ ⟨105,o',ad,ae,J,R,ac,ab,Y⟩;rw[xiy M hi];refine Paired.mapP (L2.Paired.erase j i) λ p q K=>(eG,K.1,?_,jr K)
  show(eY,xo (xej (fV K) e nB),fV K)
noncomputable def xxj (td ty:TE):TE:=(Xb,∃ kvs k b v,(fb,R7 vw,y=jD,H2 b=some zbA,zdF,Q v (rF H2 a FX)))
section
variable {X:Cx}{o e:Expr}{td ty:TE}{apos cpos:Pos}
def xsk (hu:Cd) (ho:AA) (he:zho) (m:zru "pop"):Hh "pop" [e] (xxj td ty):=by
 ext Et;refine QU m.base m.few m.line Yh Qv PySem.F.type_dict_pop (sO,ho j s Z H _ I h,u,J,H1,z,L,zjT S d O);ext tM S L;show(FU,D,B,xjk z d);ext kR D B;rw[m.trees];refine JI rfl (YN (Yr (iJ,he j J Z H1 _ z O,P,s2,y,H2,I2,K,⟨1125,kvs,k,b,v,U,R,T,l,M⟩,YH ?_)));subst R;show(ij,P=Zl b,K);exact xxb hu I2 U T l (zYe Y)
#check _
#check L2
namespace L2
open PySem PySem.Spec PyProof.Rows XL PySem.W
inductive DV where
 | non
 | bl (b:Bool)
 | int (i:Int)
 | str (x:Str)
 | tup (xs:wZ)
 | lst (xs:wZ)
mutual
def dEq:DV->DV->Bool
 | .non,.non=>true
 | .bl a,.bl b=>a == b
 | .bl a,.int b=>(if a then 1 else 0) == b
 | .int a,.bl b=>a == (if b then 1 else 0)
 | .int a,.int b=>a == b
 | .str a,.str b=>a == b
 | .tup xs,.tup ys=>dEqs xs ys
 | .lst xs,.lst ys=>dEqs xs ys
 | _,_=>false
def dEqs:List DV->List DV->Bool
 | [],[]=>true
 | x::xs,y::ys=>dEq x y&&dEqs xs ys
 | _,_=>false
end
theorem and_t {a b:Bool} (h:a=true) (k:b=true):(a&&b)=true:=by rw[h,k]; rfl
theorem and_l {a b:Bool} (h:(a&&b)=true):a=true/\b=true:=by simpa using h
theorem dTT (a b:List DV):dEq (.tup a) (.tup b)=dEqs a b:=rfl
theorem dLL (a b:List DV):dEq (.lst a) (.lst b)=dEqs a b:=rfl
mutual
theorem xbw:∀ d,dEq d d=true
 | .non=>rfl
 | .bl _=>beq_self_eq_true _
 | .int _=>beq_self_eq_true _
 | .str _=>beq_self_eq_true _
 | .tup xs=>xe4 xs
 | .lst xs=>xe4 xs
theorem xe4:∀ xs,dEqs xs xs=true
 | []=>rfl
 | x::xs=>and_t (xbw x) (xe4 xs)
end
mutual
def DV.pl:DV->Bool
 | .bl _=>false
 | .tup xs=>pls xs
 | .lst xs=>pls xs
 | _=>true
def pls:List DV->Bool
 | []=>true
 | x::xs=>x.pl&&pls xs
end
mutual
theorem xrx:∀{d e:DV},d.pl=true->e.pl=true->dEq d e=true->d=e
 | .non,.non,_,_,_=>rfl
 | .int a,.int b,_,_,h=>by rw[eq_of_beq (a:=a) (b:=b) h]
 | .str a,.str b,_,_,h=>by rw[eq_of_beq (a:=a) (b:=b) h]
 | .tup xs,.tup ys,p,q,h=>by
  rw[xjw p q h]
 | .lst xs,.lst ys,p,q,h=>by
  rw[xjw p q h]
 | .bl _,_,p,_,_=>(Bool.false_ne_true p).elim
 | .non,.bl _,_,q,_=>(Bool.false_ne_true q).elim
 | .int _,.bl _,_,q,_=>(Bool.false_ne_true q).elim
 | .str _,.bl _,_,q,_=>(Bool.false_ne_true q).elim
 | .tup _,.bl _,_,q,_=>(Bool.false_ne_true q).elim
 | .lst _,.bl _,_,q,_=>(Bool.false_ne_true q).elim
 | .non,.int _,_,_,h=>(Bool.false_ne_true h).elim
 | .non,.str _,_,_,h=>(Bool.false_ne_true h).elim
 | .non,.tup _,_,_,h=>(Bool.false_ne_true h).elim
 | .non,.lst _,_,_,h=>(Bool.false_ne_true h).elim
 | .int _,.non,_,_,h=>(Bool.false_ne_true h).elim
 | .int _,.str _,_,_,h=>(Bool.false_ne_true h).elim
 | .int _,.tup _,_,_,h=>(Bool.false_ne_true h).elim
 | .int _,.lst _,_,_,h=>(Bool.false_ne_true h).elim
 | .str _,.non,_,_,h=>(Bool.false_ne_true h).elim
 | .str _,.int _,_,_,h=>(Bool.false_ne_true h).elim
 | .str _,.tup _,_,_,h=>(Bool.false_ne_true h).elim
 | .str _,.lst _,_,_,h=>(Bool.false_ne_true h).elim
 | .tup _,.non,_,_,h=>(Bool.false_ne_true h).elim
 | .tup _,.int _,_,_,h=>(Bool.false_ne_true h).elim
 | .tup _,.str _,_,_,h=>(Bool.false_ne_true h).elim
 | .tup _,.lst _,_,_,h=>(Bool.false_ne_true h).elim
 | .lst _,.non,_,_,h=>(Bool.false_ne_true h).elim
 | .lst _,.int _,_,_,h=>(Bool.false_ne_true h).elim
 | .lst _,.str _,_,_,h=>(Bool.false_ne_true h).elim
 | .lst _,.tup _,_,_,h=>(Bool.false_ne_true h).elim
theorem xjw:∀{xs ys:List DV},pls xs=true->pls ys=true->dEqs xs ys=true->xs=ys
 | [],[],_,_,_=>rfl
 | x::xs,y::ys,p,q,h=>by
  have p:=and_l (a:=x.pl) (b:=pls xs) p;have q:=and_l (a:=y.pl) (b:=pls ys) q;have h:=and_l (a:=dEq x y) (b:=dEqs xs ys) h;rw[xrx p.1 q.1 h.1,xjw p.2 q.2 h.2]
 | [],_::_,_,_,h=>(Bool.false_ne_true h).elim
 | _::_,[],_,_,h=>(Bool.false_ne_true h).elim
end
theorem xj1 {d e:DV}{α:Type}{x y:α} [zbN] (p:d.pl=true) (q:e.pl=true) (f:d=e↔xP):N2 Mq xP:=by
 by_cases c:xP
 .show(uM,zbf,f.mpr c,xbw _)
 .rw [zSs];cases z:Mq with
  | false=>rfl
  | true=>exact absurd (f.mp (xrx p q z)) c
theorem xil:∀{xs ys:wZ}{e:LH},(zSw,e j=zAr)->((Zx (min xs.length ys.length)).all e&&xs.length == ys.length)=zvr
 | [],[],_,_=>rfl
 | [],gO,_,_=>by show _=false;simp
 | gO,[],_,_=>by show _=false;simp
 | xB,rN,e,h=>by
  show(eK,f,xil (xs:=xs) (ys:=ys) (e:=λ j=>e oR) (λ j a b ha hb=>h oR a b (by simpa using ha) IQ),i,h 0 x y rfl rfl);rw[ZB,ZB,(j9,min (xs.length+1) (ys.length+1)=min xs.length ys.length+1),Wx,YZ,List.all_map];show _=(zAr&&zvr)
  rw[<- f,i];have z:((xs.length+1 == ys.length+1):Bool)=(xs.length == ys.length):=by
   rw[JO];simp
  rw[z,Bool.and_assoc];rfl
theorem xmr:∀{xs ys:wZ},xs.length≠ys.length->dEqs xs ys=false
 | [],[],h=>qaD
 | [],gO,_=>rfl
 | gO,[],_=>rfl
 | xB,rN,h=>by
  show iK (zAr&&zvr);show(eY,xmr (xs:=xs) (ys:=ys) (λ z=>h (ip z)),Qo _)
inductive Dv (K:Zd) (H:Hp):Nat->(iA V DV)
 | non {n:Nat}:lE n .non .non
 | bl {n:Nat}{b:Bool}:lE n mU mU
 | int {n:Nat}{b:Int}:lE n zjD zjD
 | str {n:Nat}{b:Str}:lE n Nx Nx
 | tup {n:Nat}{a:Addr}{xs:eB}{ds:wZ} (ha:KL) (hl:zPG) (h:zDY):lE m8 fE (.tup ds)
 | lst {n:Nat}{a:Addr}{xs:eB}{ds:wZ} (ha:Ai) (hl:zPG) (h:zDY):lE m8 fE (.lst ds)
theorem Dv.le {K:Zd}{H:Hp}{n:Nat}{x:V}{d:DV} (h:zez):∀{m:Nat},n<=m->(lE m x d):=by
 induction h with
 | non=>intro m _; exact .non
 | bl=>intro m _; exact .bl
 | int=>intro m _; exact .int
 | str=>intro m _; exact .str
 | tup ha hl h ih =>
  ext zGi
  exact .tup ha hl λ j x d c a=>ih j x d c a eA
 | lst ha hl h ih =>
  ext zGi
  exact .lst ha hl λ j x d c a=>ih j x d c a eA
section
variable {X:Cx}{pins:List (Addr × Obj)}{Z:St}{H:Hp}{s:Shared}
def xkz {h:Heap}{a:Addr}{i j:jM} (p:h.IsTuple a i) (q:PlainL h a j):False:=by
 ext rX o e c p;obtain⟨m,n,b,f,_⟩:83:=q;ext gQ e b b;rw[c] at f;ext jB f eJ
def xq8 {xs ys:wZ} (h:znZ) (f:zSw xP):xs=ys:=by
 refine QX (iy j);by_cases c:j<xs.length
 .rw [BK,Zc eA,f j _ _ BK (Zc eA)]
 .rw [Jo eA,Jo eA]
theorem xlr (I:eR) {n:Nat}{x:V}{d:DV} (h:zWN):∀{m:Nat}{e:DV},(Sy x)->d=e:=by
 induction h with
 | non=>ext zbB
 | bl=>ext zbB
 | int=>ext zbB
 | str=>ext zbB
 | @tup n a xs ds ha hl h ih =>
  intro m e b;cases b with
  | @tup m _ ys es hb kl k =>
   show(nK,I.tuple_inj ha hb);refine congrArg DV.tup (xq8 eA zWE);have lt:j<xs.length:=by
    show(iP,(Zi.mp f).1)
   exact ih j Vs d qv f zYf
  | @lst m _ ys es hb kl k =>
   show(zDQ,I.tuple ha,I.list hb)
 | @lst n a xs ds ha hl h ih =>
  intro m e b;cases b with
  | @lst m _ ys es hb kl k =>
   show(nK,I.list_inj ha hb);refine congrArg DV.lst (xq8 eA zWE);have lt:j<xs.length:=by
    show(iP,(Zi.mp f).1)
   exact ih j Vs d qv f zYf
  | @tup m _ ys es hb kl k =>
   show(zDQ,I.tuple hb,I.list ha)
noncomputable def at2 (f:Bx DV DV) (ds es:wZ) (j:Nat):Bool:=match ds[j]?,es[j]? with|some d,zjF=>f d e|_,_=>false
def xjf {f:Bx DV DV}{ds es:wZ}{j:Nat}{d e:DV} (h:hU ds d) (h2:hU es e):at2 f ds es j=f d e:=by
 unfold at2;rw[h,h2]
theorem xt6 (I:eR) {n:Nat}{x:V}{d:DV} (h:zWN):∀{m:Nat}{y:V}{e:DV},(Sy y)->∀{A:Around}{u v:Value},(pT,A.units+n+m)->vo->zyI ->
    Z0 A s u v Mq/\ZL A s u v Mq/\Z8 A s u v (! Mq):=by
  induction h with
  | @non n =>
    ext zeO Jg;cases M with
    | @non  =>
      show(Ku,Z0.same _,ZL.none_none,Z8.none_none)
    | @bl _ b2 =>
      show(IN,Z0.none_bool _,ZL.none_bool _,Z8.none_bool _)
    | @int _ b2 =>
      show(uV,Z0.none_int _ _,ZL.none_int _ _,Z8.none_int _ _)
    | @str _ b2 =>
      show(uV,Z0.none_str _ _,ZL.none_str _ _,Z8.none_str _ _)
    | @tup m b ys es hb kl k =>
      show(Ov,Z0.none_tuple C eA,ZL.none_tuple C eA,Z8.none_tuple C eA)
    | @lst m b ys es hb kl k =>
      show(Ow,Z0.none_list C.isList eA,ZL.none_list C.isList eA,Z8.none_list C.isList eA)
  | @bl n b1 =>
    show(zeO,Yo _);cases M with
    | @non  =>
      show(Ku,Z0.bool_none _,ZL.bool_none _,Z8.bool_none _)
    | @bl _ b2 =>
      show(IN,Z0.bool_bool _ _,ZL.bool_bool _ _,Z8.bool_bool _ _)
    | @int _ b2 =>
      show(uV,Z0.bool_int _ _ _,ZL.bool_int _ _ _,Z8.bool_int _ _ _)
    | @str _ b2 =>
      show(uV,Z0.bool_str _ _ _,ZL.bool_str _ _ _,Z8.bool_str _ _ _)
    | @tup m b ys es hb kl k =>
      show(Ov,Z0.bool_tuple _ C eA,ZL.bool_tuple _ C eA,Z8.bool_tuple _ C eA)
    | @lst m b ys es hb kl k =>
      show(Ow,Z0.bool_list _ C.isList eA,ZL.bool_list _ C.isList eA,Z8.bool_list _ C.isList eA)
  | @int n b1 =>
    ext zTZ;cases M with
    | @non  =>
      show(Ku,Z0.int_none _ _,ZL.int_none _ _,Z8.int_none _ _)
    | @bl _ b2 =>
      show(IN,Z0.int_bool _ _ _,ZL.int_bool _ _ _,Z8.int_bool _ _ _)
    | @int _ b2 =>
      show(uV,Z0.int_int _ _ _ _,ZL.int_int _ _ _ _,Z8.int_int _ _ _ _)
    | @str _ b2 =>
      show(uV,Z0.int_str _ _ _ _,ZL.int_str _ _ _ _,Z8.int_str _ _ _ _)
    | @tup m b ys es hb kl k =>
      show(Ov,Z0.int_tuple _ _ C eA,ZL.int_tuple _ _ C eA,Z8.int_tuple _ _ C eA)
    | @lst m b ys es hb kl k =>
      show(Ow,Z0.int_list _ _ C.isList eA,ZL.int_list _ _ C.isList eA,Z8.int_list _ _ C.isList eA)
  | @str n b1 =>
    ext zTZ;cases M with
    | @non  =>
      show(Ku,Z0.str_none _ _,ZL.str_none _ _,Z8.str_none _ _)
    | @bl _ b2 =>
      show(IN,Z0.str_bool _ _ _,ZL.str_bool _ _ _,Z8.str_bool _ _ _)
    | @int _ b2 =>
      show(uV,Z0.str_int _ _ _ _,ZL.str_int _ _ _ _,Z8.str_int _ _ _ _)
    | @str _ b2 =>
      show(uV,Z0.str_str _ _ _ _,ZL.str_str _ _ _ _,Z8.str_str _ _ _ _)
    | @tup m b ys es hb kl k =>
      show(Ov,Z0.str_tuple _ _ C eA,ZL.str_tuple _ _ C eA,Z8.str_tuple _ _ C eA)
    | @lst m b ys es hb kl k =>
      show(Ow,Z0.str_list _ _ C.isList eA,ZL.str_list _ _ C.isList eA,Z8.str_list _ _ C.isList eA)
  | @tup n a xs ds ha hl h ih =>
    show(zeO,Zl _);show(gP,its,r1,J,R,I.tuple ha);have l1:=r1.length;cases M with
    | @non  =>
      show(Ku,Z0.tuple_none J eA,ZL.tuple_none J eA,Z8.tuple_none J eA)
    | @bl _ b2 =>
      show(IN,Z0.tuple_bool _ J eA,ZL.tuple_bool _ J eA,Z8.tuple_bool _ J eA)
    | @int _ b2 =>
      show(uV,Z0.tuple_int _ _ J eA,ZL.tuple_int _ _ J eA,Z8.tuple_int _ _ J eA)
    | @str _ b2 =>
      show(uV,Z0.tuple_str _ _ J eA,ZL.tuple_str _ _ J eA,Z8.tuple_str _ _ J eA)
    | @tup m b ys es hb kl k =>
      ext zdk;show(gP,B,r2,C,O,I.tuple hb);have Q:=r2.length;have step:zCo qbw zUF:=λ j h1 M=>by
        ext zBl
      have all:=xil (xs:=ds) (ys:=es) (e:=at2 dEq ds es) λj x y h1 M=>xjf h1 M;have both:ZL A s (.ref a) (.ref b) (dEqs ds es)/\Z8 A s (.ref a) (.ref b) (!dEqs ds es):=by
        show(eK,R,ZL.tuples (A:=A) (e:=KA) (zTH its.toArray J) zGb eA step,O,Z8.tuples (A:=A) (e:=KA) (zTH its.toArray J) zGb eA step);ext zCM
        rw[e1,e2,all] at R O;ext fc R O
      simp only[dTT,dLL];refine⟨?_,both⟩;by_cases q:a=b
      . subst q
        have ed:DV.tup ds=DV.tup es:=xlr I (Dv.tup ha hl h) (Dv.tup hb kl k);ext zDf
      . ext zWU
    | @lst m b ys es hb kl k =>
      show(Ow,Z0.tuple_list J C.isList eA,ZL.tuple_list J C.isList eA,Z8.tuple_list J C.isList eA)
  | @lst n a xs ds ha hl h ih =>
    show(zeO,Zl _);show(gP,its,r1,J,R,I.list ha);have l1:=r1.length;cases M with
    | @non  =>
      show(Ku,Z0.list_none J.isList eA,ZL.list_none J.isList eA,Z8.list_none J.isList eA)
    | @bl _ b2 =>
      show(IN,Z0.list_bool _ J.isList eA,ZL.list_bool _ J.isList eA,Z8.list_bool _ J.isList eA)
    | @int _ b2 =>
      show(uV,Z0.list_int _ _ J.isList eA,ZL.list_int _ _ J.isList eA,Z8.list_int _ _ J.isList eA)
    | @str _ b2 =>
      show(uV,Z0.list_str _ _ J.isList eA,ZL.list_str _ _ J.isList eA,Z8.list_str _ _ J.isList eA)
    | @tup m b ys es hb kl k =>
      show(Ov,Z0.list_tuple J.isList C eA,ZL.list_tuple J.isList C eA,Z8.list_tuple J.isList C eA)
    | @lst m b ys es hb kl k =>
      ext zdk;show(gP,B,r2,C,O,I.list hb);have Q:=r2.length;have step:zCo qbw zUF:=λ j h1 M=>by
        ext zBl
      have all:=xil (xs:=ds) (ys:=es) (e:=at2 dEq ds es) λj x y h1 M=>xjf h1 M;have both:ZL A s (.ref a) (.ref b) (dEqs ds es)/\Z8 A s (.ref a) (.ref b) (!dEqs ds es):=by
        ext zCM
        show(mX,ds.length,es.length)
        . show(eK,R,ZL.lists (A:=A) (e:=KA) J.isList C.isList eA eA step,O,Z8.lists (A:=A) (e:=KA) J.isList C.isList eA eA step);have aa:(Zx ds.length).all KA=zwa:=by
            rw[<- all,c,Nat.min_self];simp
          rw[e1,aa] at R O;ext fc R O
        . rw[xmr c]
          show(fc,ZL.lists_lengths (A:=A) J.isList C.isList zJZ eA,Z8.lists_lengths (A:=A) J.isList C.isList zJZ eA)
      simp only[dTT,dLL];refine⟨?_,both⟩;by_cases q:a=b
      . subst q
        have ed:DV.lst ds=DV.lst es:=xlr I (Dv.lst ha hl h) (Dv.lst hb kl k);ext zDf
      . ext zWU
#check _
def Same.seqL {K:Zd}{H H':Hp}{a:Addr}{xs:eB} (s:gu) (h:Ai):zZv:=by
 rcases h with (h|⟨ob,h⟩)|h
 .ext Se GQ
 .show(Lx,Hl GQ)
 .ext iY h
inductive rNeV (K:Zd) (x:V) (y:V) (H:Hp) (Q:VK):Prop
 | mk (n m:Nat) (d e:DV) (e_:zez) (r_:zMh e (! Mq))
inductive rInV (K:Zd) (neg:Bool) (x:V) (y:V) (H:Hp) (Q:VK):Prop
 | mk (n m:Nat) (d:DV) (es:wZ) (e_:zez) (r_:zMh (.lst es) (ztY zNx))
section
variable {X:Cx}
def xcz (hu:znU):OpR X (compareOp .NotEq) (rNeV X.K):=by
 intro a s Z H x y u v Q I z j h;obtain⟨n,m,d,e,C,B,D,J,q⟩:=h;exact PySem.W.cmp_ofNotEq ((xt6 I C B (A:=X.A) eA z j).2.2 X.prog X.w X.xe _ (HD uB q))
theorem xq4 {α β:Type}{f:SM}{g:β->Bool}:∀{xs:i7}{ys:zhT},znZ->(∀(j:Nat) (x:α) (y:β),(zUw,f x=g y))->xs.any f=ys.any g
 | [],[],_,_=>rfl
 | [],gO,h,_=>jz
 | gO,[],h,_=>jz
 | xB,rN,h,k=>by
  rw[Y1,Y1,k 0 x y rfl rfl,xq4 (xs:=xs) (ys:=ys) xY λ j a b u q=>k oR a b (by simpa using u) zbg]
noncomputable def eOf (K:Zd) (H:Hp) (m:Nat) (d:DV) (z:V):Bool:=@dite Bool (∃ e,lE m z e) (Classical.propDecidable _) (λ h=>dEq h.choose d) λ_=>false
def xpx {pins:fP}{Z:St}{H:Hp}{s:Shared} (I:eR) {m:Nat}{d e:DV}{z:V} (h:Sy z):eOf X.K H m d z=dEq e d:=by
 unfold eOf;rw[dif_pos ⟨e,h⟩];have a:∃ e,Sy z:=⟨e,h⟩
 rw[xlr I a.choose_spec h]
theorem xr7 (hu:znU):Ad .NotIn (rInV X.K true):=by
 intro C s Z H x y v u Q I O M h;obtain⟨n,m,d,B,T,S,U,Y,q⟩:=h;cases S with
 | @lst m a xs _ ha hl k =>
  cases M;ext zpW ha;have get:∀ z∈xs,∃(j:Nat) (e:DV),(hU xs z)/\(hU B e)/\(Sy z):=λz hz=>by
   show(U7,j,List.getElem?_of_mem hz);show(BW,B.length,(iz,hl,(Zi.mp c).1))
   exact(gU,j,B[j],c,qv,k j z _ c qv)
  refine SeqAt.notIn_listAt (eU zrV) pl.isList (eQ w R) zvw
  .show(on,z,P,D,xn8 r w (by simpa using R));obtain⟨j,e,_,_,J⟩:83:=get z P;show(ig,xuh D,xpx I J,(xt6 I J T (A:=X.A.in1) (yy (pT,X.A.units+1+m+n)) D O).1)
  .rw [(zOP,eU zrV,its.any (eU zrV)),xr4 r,xq4 (g:=λ z=>dEq z d) hl λ j z e g1 g2=>xpx I (k j z e g1 g2)];ext nh
#check _
#check L2
namespace L2
open PySem PySem.Spec PyProof.Rows XL PySem.W
noncomputable def Tp (H H':Hp):Prop:=zN
def Same.tp {H H':Hp} (s:gu):zBf:=qal
def Tp.trans {H H' H'':Hp} (s:zBf) (r:Tp H' H''):Tp H H'':=(l0,r b xs (s b xs e))
def xp3 {H:Hp}{l:Addr}{xs ys:eB} (h:GC):Tp H zuf:=λ b zs e=>by
 show(tf,xo (λ z=>pj z h e e))
section
variable {J:It}{n:Nat}{g:TG}{Z:St}{fr:List Nat}{tc:TT}{te:TE}{l:Addr}{H1:Hp}{Q:VK}
def xjr (len:Nat) (hlen:zi len) (hl:yX) (x:Nat->V) (hgo:∀ i H,NP->zjn->zyF) (hy:∀ i H v H',(gb,NP,zjn,J.yld i H v H',H'=H/\v=x i)) (hst:∀ H,zjn->J.stop len H)
    (p:LH) (F:Mu) (stab:Ij)
    (step:∀ i H2,NP->Same H1 H2->∀(N:V->Hp->Prop) (M:Hp->Prop),(∀ y H',Same H2 H'->p i=true->F i y H'->N y H')->zlr ->
      g (x i) FE H2 zne)
    (fin:(OM,((Zx len).filter p).length,(∀(j:Nat) (y:V) (i:Nat),Ks ((Zx len).filter p) i zgk))):xem J n g Z fr tc te l H1 Q:=by
  show(zIN,len,((Zx i).filter p).length,∀(j:Nat) (y:V) (k:Nat),(Ks,(Zx i).filter p,k,F k y H2))
  . refine(gX,C9,xh,rfl,λ j y k e=>F2)
    ext tf Tv
  . ext zSL
    exact hgo i H2 lt s
  . rintro i ys H2 v H3 lt (⟨s,I,C,f⟩:44) L N K
    show(wQ,rfl,hy i H2 v H3 lt s L);refine step i H3 lt s _ _ (fW y H' s' pt O) (fJ H' s' pf)
    . have B:=s' _ _ I
      have D:zi ys.length:=by
        rw[C];refine Jr xb ?_;rw[ZU]
        lia
      refine(eG,B,D,K _ _ ⟨44,C9,xh,?_,zWD⟩)
      . show(eY,Tv,s' _ _ Dp)
      . rw[Yw,QM,Zt,Zt,C,JA pt]
        rfl
      . rw[Yw,QM,JA pt] at q
        by_cases c:j<ys.length
        . rw[Jf c] at A
          show(h7,Jf eA,q,stab _ _ _ _ ((Same.tp s').trans (xp3 B)) (f j z k A q))
        . rw[JF eA] at A q
          rw[<- C] at q;cases hj:j-ys.length with
          | zero =>
            rw[hj] at A q;simp at A q;subst A q;exact stab _ _ _ _ (xp3 B) O
          | succ m =>
            rw[hj] at A;simp at A
    . refine K _ _ (gX,s.trans s',s' _ _ I,?_,zWD)
      . rw[Yw,QM,JB (ip pf)]
        simpa using C
      . rw[Yw,QM,JB (ip pf)] at q
        simp only[List.filter_nil,W2] at q;exact stab _ _ _ _ (Same.tp s') (f j z k A q)
  . rintro ys H2 (⟨s,I,C,f⟩:44)
    show(fc,hst _ s,fin ys H2 s I C f)
def xen {K:Zd}{a:Addr}{xs:eB} (hs:P8) (hlen:Km) (hl:yX) (p:LH) (F:Mu) (stab:Ij)
    (step:∀(i:Nat) (x:V) (H2:Hp),tV->Same H1 H2->∀(N:V->Hp->Prop) (M:Hp->Prop),(∀ y H',Same H2 H'->p i=true->F i y H'->N y H')->zlr ->
      g x FE H2 zne)
    (fin:(OM,((qbD).filter p).length,(∀(j:Nat) (y:V) (i:Nat),Ks ((qbD).filter p) i zgk))):xem Dh n g Z fr tc te l H1 Q:=by
  refine xjr xs.length hlen hl (λ i=>xs.getD i .non) (λ i H lt s=>(gM,xs,xs[i],zrr,qv)) zMU (λ H s=>zZj) p F stab zKq fin
  . ext yI f y
    have z:=f xs (Same.seqL s hs);refine jF e;simp[z]
  . show(uG,e,gf xs (xs.getD i .non),ip qv,step i _ H2 e s N M h1 h2)
def xg1 {i:Nat}{x:V}{σ0:St}{H2:Hp}{N:Bl}{M:zzb}{g:TG}{te:TE} (h:g x σ0 H2 XX):g x σ0 H2 λ σ' H3=>xek σ' H3 zlN:=by
 have e:(λ(σ':St) (H3:Hp)=>xek σ' H3 zlN)=XX:=by
  funext σ' H3;show (mG,true,te σ' H3 N,M H3)=te σ' H3 N;rw[iT]
 ext eY e h
def filter_all (m:Nat):(Zx m).filter Sr=Zx m:=eS
def xby {K:Zd}{a:Addr}{xs:eB} (hs:P8) (hlen:Km) (hl:yX) (F:Mu) (stab:Ij)
    (step:∀(i:Nat) (x:V) (H2:Hp),(zsW,tV,zPb zoz))
    (fin:zzk xs.length):xem Dh n g Z fr xek te l H1 Q:=by
  refine xen hs hlen hl Sr F stab (λ i x H2 hx s N M h1 h2=>ziI (step i x H2 hx s N zlJ)) zrT;show(zCB,b,(Zi.mp b).1)
def xm1 {lo:Int}{m:Nat} (hlen:zi m) (hl:yX) (p:LH) (F:Mu) (stab:Ij)
    (step:∀(i:Nat) H2,i<m->Same H1 H2->∀(N:V->Hp->Prop) (M:Hp->Prop),(∀ y H',Same H2 H'->p i=true->F i y H'->N y H')->zlr ->
      g KY FE H2 zne)
    (fin:(OM,((Zx m).filter p).length,(∀(j:Nat) (y:V) (i:Nat),Ks ((Zx m).filter p) i zgk))):xem (Itr lo m) n g Z fr tc te l H1 Q:=by
  exact xjr m hlen hl (λ i=>KY) (λ i H lt s=>lt) (λ i H v H' lt s y=>y) (λ H s=>f8) p F stab (λ i H2 lt s N M h1 h2=>step i H2 lt s N M h1 h2) fin
def xph {lo:Int}{m:Nat} (hlen:zi m) (hl:yX) (F:Mu) (stab:Ij)
    (step:∀(i:Nat) H2,(zsW,i<m,(∀ y H',zoz)->g KY FE H2 XX))
    (fin:zzk m):xem (Itr lo m) n g Z fr xek te l H1 Q:=by
  refine xm1 hlen hl Sr F stab (λ i H2 hi s N M h1 h2=>ziI (step i H2 hi s N zlJ)) zrT;show(zCB,a,(Zi.mp a).1)
#check _
theorem xf6 {α:Type}{f:Vh}:∀{as:i7}{ys:eB},(DD as.length)->(∀(i:Nat) (y:V) (a:α),F6->zxB->y=f a)->ys=as.map f
 | [],[],_,_=>rfl
 | [],gO,h,_=>jz
 | gO,[],h,_=>jz
 | a::as,rN,h,k=>by
  rw[Zs,k 0 y a rfl rfl,xf6 (as:=as) (ys:=ys) xY λ i b q j c=>k f7 b q Pn pU]
theorem xny {α:Type} (q:SM):∀(as:i7) (p:LH),zGE->((Fq).filter p).filterMap (λ i=>as[i]?)=zuy
 | [],_,_=>rfl
 | a::as,p,h=>by
  have j:=xny q as (λ i=>p f7) λ i b hb=>h f7 b IQ;rw[ZB,Wx];have e:((Fq).map Nat.succ).filter p=((Fq).filter (λ i=>p f7)).map Nat.succ:=by
   rw[W1];rfl
  have v:=h 0 a rfl;by_cases c:q a=true
  .rw [JA (eP v c),JA c,e,JL];simp only[List.getElem?_cons_zero,QN];rw[<- j];rfl
  .rw [JB (eP v c),JB c,e,QN,<- j];rfl
theorem xju {α:Type} (q:SM) {as:i7}{p:LH} (h:zGE):((Fq).filter p).length=(zuy).length/\∀ j i:Nat,(hU ((Fq).filter p) i)->as[i]?=zuy[j]?:=by
 rw[<- xny q as p h];have all:∀ i∈(Fq).filter p,∃ a,zxB:=λ i hi=>by
  have:=ZF.mp (ZV.mp hi).1;show(fc,as[i],Zc this)
 generalize (Fq).filter p=b at all
 induction b with
 | nil=>show(fc,rfl,λ j i e=>F2)
 | cons i b ih =>
  show(jY,a,c,all i Zn,u,s,ih λ k hk=>all k (Zm _ hk))
  rw[JL,c];show(nM,ip u,nR j k);cases j with
  | zero =>
   ext FH;exact c
  | succ m=>exact s m k ya
#check L2
namespace XL
open PySem PySem.MeetsSeq PySem.MeetsSeq2 PySem.MeetsSeq3 PySem.SeqAt
open AutoSeq1 (wpAny_loadPart')
#check XL
namespace L2
open PySem PySem.Spec PyProof.Rows XL PySem.W
theorem Room.mark {q0:Bool}{j k:Nat}{A:Around} (r:Cz) (h:j<=k) {e:CJ}:Room false j (A.mark e) :=
 (fh,nB,zLb A.depth j,zJB A.units j,r.gd)
noncomputable def xrs:Expr->Bool
 | .Starred _ _=>false
 | _=>true
def xpl {e:Expr}{es:o5}{env:Env} (h:qaI):starEach qw env=(false,zew)::starEach es env:=by
 cases e<;>first|rfl|cases h
def xaw {X:Cx}{e:Expr}{es:o5}{te:TE}{t:TA} (ha:vt) (hr:zfm) (hn:qaI):zQE:=xg ha hr (xpl hn)
#check L2
namespace XL
open PySem L2
open PyProof.Rows (assign_Tuple)
#check XL
namespace L2
open PySem PySem.Spec PyProof.Rows XL PySem.W
#check L2
namespace L2
open PySem PySem.Spec PyProof.Rows XL PySem.W PySem.Builtin PySem.Builtin.Str
#check L2
namespace L2
open PySem PySem.Spec PyProof.Rows XL
open AutoSeq1 (wpAny_loadPart')
#check L2
namespace L2
open PySem PySem.Spec PyProof.Rows XL
noncomputable def Itkd (d:Addr) (o:Obj) (kvs:gD):It :=
 (zKa,H'=H/\∃ k x,tJ/\v=kV k)
def xq3 {P:Program}{w:World}{K:Zd}{tg:Expr} (d it:Addr) (o:Obj) (kvs:gD) (ep:Nat) (hep:zxt) :
    (Xm,Itkd d o kvs,zsP it kvs.length) where
  mem:=eS
  obj:=λi h st b p=>by
    ext zDo
  keep:=zDM
  item:=by
    intro X L D M hc i m s Z H E I C st J;subst L D M;ext yI lt J;ext zaI j;ext zGu;ext zkC
    show(eE,u,hv,ru,j.get hx);rw[B] at st;refine wpAny_pyNext_dict_item st da hv (fW aa h' z f hs);show(sI,o2,g2,c2,d2,id f,zMV eJ);have I1:xO m kZ:=zV (HE,p,(hs.2 b p).trans g) U T S R O;rw[<- B] at f;exact(iC,85,N9,H,I1,xqi z,(iW,gM k x hx rfl),f,λ b p=>(C b p).1)
  done:=by
    intro X L D M hc i m s Z H E I C st J;subst L D M;ext yI le J;ext zaI j;ext zGu;show(h7,B,st,wpAny_pyNext_dict_end rZ st da (Cv zoZ) (O7 p U T S R O))
  self:=zKr
noncomputable def xz4 (to:TE):TI:=(zkE,pA,R zZA (zL H1))
section
variable {X:Cx}{o:Expr}{to:TE}{tg:Expr}
def xwd (ho:FW):Ib o (xz4 to):=by
 ext Gq m R;show(qz,K4 m,lW v B x Q P r1 T ?_);ext zlY T;show(qS,hd,vs,L,dd,xhs P.hok e);obtain⟨ob,S,J,g,ex,C,hk,U,Y⟩:106:=id dd;have da:B.heap.DictAt va d vs J:=qJ ob S g ex C hk U Y
 refine wpAny_pyIter_dict hd da ?_;have M:mW m (zL Q) B:=P.write (t':=B.toks) (x:=d) (e:=d) vk jO zcN (Hl g) ⟨g,P.hok d _ e⟩;have I4:mW m (zL Q) { B with heap:=B.heap.push (jt,"dict_keyiterator",.fields (zpN vs.length J)) } :=
  M.kept (t':=B.toks) wH
 refine Ej B.heap.objs.size [B.heap.objs.size] (ue,zL Q,I4,xq3 d _ ob kvs J ⟨S,C⟩,?_,Dk,q ob)
 .show(Pb,hl,L.length);show Heap.IsKeyIter _ _ d 0 kvs.length J;rw[hl];exact FB
 .show(zA,eb,b,B.heap.objs.size,IQ);exact M.fpOk f8 (M.hok.fresh (Zk _))
#check _
#check L2
namespace L2
open PySem PySem.Spec PyProof.Rows XL
open AutoSeq1 (wpAny_loadPart')
#check L2
namespace L2
open PySem PySem.Spec PyProof.Rows XL
#check L2
namespace L2
open PySem PySem.Spec PyProof.Rows XL PySem.W PySem.Builtin PySem.Builtin.Str
section
variable {J:It}{n:Nat}{g:TG}{Z:St}{fr:List Nat}{tc:TT}{te:TE}{l:Addr}{H1:Hp}{Q:VK}
def xi2 {K:Zd}{a:Addr}{xs:eB} (hs:P8) (hlen:Km) (hl:yX) (F:Nat->Dl) (F0:∀ H,zjn->F 0 [] H) (stab:∀ i ys zs H H',(gb,BU zhy,B1 l,F i ys H,F i ys H'))
    (step:∀(i:Nat) (x:V) (ys:eB) H2,(gR,tV,vz,zxH,F i ys H2,∀(N:Bl),(zPb,zeI->F f7 (ys++[y]) H'->N y H')))
    (fin:(OM,xs.length,F xs.length ys H2)):xem Dh n g Z fr xek te l H1 Q:=by
  show(zIN,xs.length,i,F i ys H2)
  . have p:Os zwQ:=λb u e=>by
      ext tf Tv
    exact(gX,p,xh,rfl,F0 _ p)
  . ext zSL
    exact(gM,xs,xs[i],zrr,qv)
  . rintro i ys H2 v H3 lt (⟨s,j,m,f⟩:44) ⟨rfl,z⟩ N B
    have A:=z xs (Same.seqL s hs);refine ziI (step i v ys H3 A s j f _ (ib y H' s' C));have c:=s' _ _ j;show(jV,c,eA,B _ _ (gX,C9,xh,ip m,stab _ _ _ _ _ c Tj C))
    . show(eY,Tv,s' _ _ Dp)
    . ext lC nb e
  . rintro ys H2 (⟨s,j,m,f⟩:44)
    show(fc,zZj,fin ys H2 s j m f)
#check _
#check L2
namespace L2
open PySem PySem.Spec PyProof.Rows XL PySem.W
#check L2
namespace L2
open PySem PySem.Spec PyProof.Rows XL PySem.W PySem.Builtin PySem.Builtin.Str
#check L2
namespace L2
open PySem
noncomputable def th (a b:Int):Int:=reduceHash (Builtin.Tuple.tupleHashOf [hashInt a,hashInt b])
#check L2
namespace XL
open PySem PySem.Spec PyProof.Rows
noncomputable def xwl (acc:eO) (x:Str):eO:=if acc.any (· == x)=true then acc else SH
#check XL
namespace L2
open PySem PySem.Spec PyProof.Rows XL
noncomputable def x06 (xs:eO):Nat:=(xs.foldl xwl []).length
#check L2
namespace XS
open PySem PySem.SetTable
noncomputable def Up (xs:iS):Prop:=∀ a b,a<b->b<xs.size->xs.getD a 0<xs.getD b 0
def xoi {xs:iS}{k d e:Nat} (h:k<xs.size):xs.getD k d=xs.getD k e:=by
 simp[Qx,h]
theorem xip {xs:iS}{j:Nat} (up:Up xs):∀(fuel lo hi:Nat),hi-lo<=fuel->ziW->hi<=xs.size->(∀ k,k<lo->zuR<j)->(zMO,hi<=k) ->
    (zIc zmB)
  | 0,lo,hi,hf,hl,hs,h1,h2=>by
    ext zPi
  | fuel+1,lo,hi,hf,hl,hs,h1,h2=>by
    unfold below.go;by_cases c:lo<hi
    . rw[ma]
      show(eC,h,Cw<hi,eA,m,lo<=Cw,eA)
      show (let a:=Cw; _)<=_/\_;simp only[];by_cases d:xs.getD Cw j<j
      . rw[fe d]
        refine xip up fuel _ hi eA eA hs (eQ k f) h2;rw[xoi (e:=0) eA] at d;rcases YS k Cw with z|z
        . exact ZQ (up k _ z eA) d
        . have:k=Cw:=eA
          ext eY this d
      . ext lG d
        rw[xoi (e:=0) eA] at d;refine xip up fuel lo _ eA eA eA h1 (fJ k f b);rcases YS Cw k with z|z
        . exact Yl (Jr (Wh d) (up _ k z b))
        . have:k=Cw:=eA
          rw[this];exact Wh d
    . ext lG c
      ext zPi
def xiw {xs:iS} (up:Up xs) (j:Nat):zIc RY :=
 xip up xs.size 0 xs.size eA eA f8 (λ k a=>eA) (λ k h1 h2=>eA)
def xs3 {xs:iS} (up:Up xs) {j i:Nat} (h:gf xs j):below xs j=i:=by
 show(ou,b,JV.mp h);have g:xs.getD i 0=j:=by simp[Qx,b,e]
 show(nF,q,n,f,xiw up j);rcases Nat.lt_trichotomy RY i with z|z|z
 .show(He,f RY f8 eA,up _ i z b)
 .ext lT
 .show(iP,n i z)
def xks {t:SetTable} (up:RZ) {j i:Nat}:(zZ j)↔zXm:=by
 ext qbM;constructor
 .intro h
  split at h
  .rename_i c
   cases h;exact Qw c
  .ext Ta h
 .intro h
  rw[xs3 up h,fe (eP h zRk)]
def xjb {t:SetTable} (up:RZ) (dm:zcm) {j:Nat} (h:∀ i:Nat,t.place[i]?≠some j):Ag j:=by
 ext qbM;rw[(su,c,h _ (Qw c)),dm,if_neg];unfold has;simp
def xwc {t:SetTable} (up:RZ) (dm:zcm) (j:Nat):(Ag j)\/∃ i,zZ j:=by
 by_cases c:∃ i:Nat,zXm
 .obtain ⟨i,f⟩:=c;show(VF,i,(xks up).mpr f)
 .show(je,(xjb up dm λ i z=>c ⟨i,z⟩))
structure Ps where
 j:Nat
 more:Nat
 i:Nat
 pt:Nat
noncomputable def adv (mask:Nat) (p:Ps):Ps:=if p.more>0 then { p with j:=p.j+1,more:=p.more-1 } else (fh,zbt,(C4 zbt)-zbt,zbt,(Vw p.i p.pt).2)
noncomputable def st0 (mask:Nat) (h:Int):Ps:=(fh,uf,(C4 uf)-uf,uf,Hd)
noncomputable def way (mask:Nat) (h:Int):Nat->Ps
 | 0=>st0 mask h
 | m8=>ztU
noncomputable def toP (p:Ps):Probe:=gF p.j p.more p.i p.pt none
theorem xqx (t:SetTable) (p:Ps):t.advance Eb=zQr:=by
 unfold advance adv;by_cases c:p.more>0
 .rw [fe (show (Eb).more>0 from c),ma];rfl
 .rw [fH (show ¬ (Eb).more>0 from c),ur];rfl
noncomputable def rnd (mask:Nat) (h:Int):Nat->zeq
 | 0=>(uf,Hd)
 | r+1=>Vw lR HU
noncomputable def nAt (mask:Nat) (h:Int):Nat->Nat
 | 0=>0
 | r+1=>n8+D9+1
def xiv (mask i:Nat):i<=(C4 i)/\(C4 i)-i<=9:=by
 unfold runEnd;ext rB
theorem xj0 {mask:Nat}{h:Int}{r:Nat} (e:zLh) :
    ∀ k,k<=D9->(AQ (n8+k))=(fh,lR+k,Ua-lR-k,lR,HU)
  | 0,_=>e
  | iw,hk=>by
    show(zYd,AQ (n8+k),xj0 e k eA);rw[fe (j9,Ua-lR-k>0)];show Ps.mk _ _ _ _=_
    congr 1
theorem xjz (mask:Nat) (h:Int):∀ r,zLh
 | 0=>rfl
 | r+1=>by
  have e:=qbI;show(zYd,AQ (n8+D9),xj0 e _ f8);rw[fH (j9,¬ Ua-lR-D9>0)];rfl
theorem xrg (mask:Nat) (h:Int):∀ r,n8<=10*r
 | 0=>f8
 | r+1=>by
  have:=qbH;have:=xiv mask lR;show n8+_+1<=_
  lia
def xrc (mask:Nat) (h:Int) (r k:Nat) (hk:k<=D9):(AQ (n8+k)).j=lR+k:=by
 rw[xj0 qbI k hk]
theorem xtv (mask:Nat) (h:Int):∀ r,HU=Hd / 32 ^ r
 | 0=>(Nat.div_one _).symm
 | r+1=>by
  show HU / 32=_;rw[xtv mask h r,Nat.div_div_eq_div_mul,Nat.pow_succ]
theorem pt_0 (mask:Nat) (h:Int) (r:Nat) (hr:13<=r):HU=0:=by
 rw[xtv];refine Nat.div_eq_of_lt ?_;have b:Hd<vD:=by
  unfold bits;show(He,QP h (Al,(gk 0)<vD),W3 h (Al,(gk vD)≠0))
 refine Z4 b (Z5 (Al,vD<=32 ^ 13) (Nat.pow_le_pow_right eJ hr))
noncomputable def lcg (mask:Nat):S8 Nat
 | 0,i=>i
 | m+1,i=>((Gr m)*5+1) % nJ
theorem xnt (mask:Nat) (h:Int):∀ m,zZq=lcg mask m (ziM 13).1
 | 0=>rfl
 | m+1=>by
  show (Vw,zZq,(ziM (13+m)).2).1=_;unfold leap;rw[pt_0 mask h (13+m) eA,xnt mask h m];rfl
noncomputable def MkOk (mask:Nat):Prop:=qE mask 7 mask 31 (qE,mask,127,mask,511,mask=2047)
noncomputable def met (mask:Nat):gb Nat Nat Nat zeq
 | 0,i,a=>(i,a)
 | m+1,i,a=>met mask m ((i*5+1) % nJ) (a ||| (1 <<< i))
theorem xff (mask:Nat) (a:Nat):∀ b i,(Gr (a+b))=lcg mask b (Gr a)
 | 0,_=>rfl
 | b+1,i=>by
  show ((Gr (a+b))*5+1) % _=_;rw[xff mask a b i];rfl
theorem xog (mask:Nat):∀(n i a s:Nat),(met mask n i a).2.testBit s=true->a.testBit s=true\/∃ m,m<n/\(Gr m)=s
 | 0,_,_,_,h=>.inl h
 | m8,i,a,s,h=>by
  rcases xog mask n _ _ s h with z|⟨m,b,e⟩
  .rw [Nat.testBit_or,Bool.or_eq_true] at z;rcases z with z|z
   .ext je z
   .rw [Nat.one_shiftLeft,Nat.testBit_two_pow] at z;show(iY,(eG,0,Qm _,of_decide_eq_true z))
  .show(uA,(nQ,1+m,eA));ext tf xff
theorem xn5 (mask:Nat):∀(n i a:Nat),(met mask n i a).1=(Gr n)
 | 0,_,_=>rfl
 | m8,i,a=>by
  show (met mask n _ _).1=_;rw[xn5,Nat.add_comm n 1,xff];rfl
def cov {mask:Nat} (h:zHw) (i:Nat) (hi:i<=mask) (s:Nat) (hs:Tn):∃ m,m<=mask/\(Gr m)=s:=by
 have b:∀ s,Tn->∃ m,m<nJ/\lcg mask m 0=s:=λs hs=>by
  rcases xog mask nJ 0 0 s (by rw[h,Nat.testBit_two_pow_sub_one]; exact decide_eq_true (Nat.lt_succ_of_le hs)) with z|z
  .rw [Nat.zero_testBit] at z;ext mB
  .ext lT
 show(oK,a,q,b i hi);show(oK,c,j,b s hs);show(lM,e,xn5 mask nJ 0 0,h);by_cases z:a<=c
 .exact (eG,c-a,eA,by rw[<- xff,(j9,a+(c-a)=c)])
 .refine (nQ,nJ-a+c,eA);rw[<- xff,(j9,a+(nJ-a+c)=nJ+c),xff,<- e]
theorem xyi (mask:Nat) (h:Int):∀ r,lR<nJ
 | 0=>WP _ (Qm _)
 | r+1=>WP _ (Qm _)
def MkOk.met {mask:Nat} (mk:LF):zHw:=by
 rcases mk with rfl|rfl|rfl|rfl|rfl<;>decide +kernel
def xoa {mask:Nat} (mk:LF) (h:Int) (s:Nat) (hs:Tn):∃ r,r+1<R1/\lR=s:=by
 show(pZ,m,a,e,cov mk.met _ (Nat.le_of_lt_succ (xyi mask h 13)) s hs,13+m,by unfold turns; lia,hZ xnt e)
def xus {mask:Nat} (mk:LF) (h:Int) (s:Nat) (hs:Tn):∃ n,n<10*R1/\Es=s:=by
 show(eE,r,a,e,xoa mk h s hs);have:=qbH;show(fU,n8,eA,eP xjz e)
def xtf {t:SetTable}{hashAt:SQ}{h:Int}{f:Nat}{p:Ps} (z:Ag p.j):znz wf Eb (.empty p.j none):=by
 unfold probe.go;rw[zgH (Ag,(Eb).j)];rfl
def xu4 {t:SetTable}{hashAt:SQ}{h:Int}{f i:Nat}{p:Ps} (z:zZ p.j) (e:zsJ):znz wf Eb (.candidate p.j i (toP (adv t.mask p))):=by
 unfold probe.go;ext zYH;rw[fe (eP e zRk),xqx];rfl
def xwg {t:SetTable}{hashAt:SQ}{h:Int}{f i:Nat}{p:Ps} (z:zZ p.j) (e:zWW):probe.go t hashAt h wf Eb=probe.go t hashAt h f zQr:=by
 conv=>lhs; unfold probe.go
 ext zYH;rw[(su,q,e (Qw q)),xqx]
theorem xlz {t:SetTable} (up:RZ) (dm:zcm) (hashAt:SQ) (h:Int):∀(f n:Nat),(∃ m,n<=m/\m<n+f/\zhd) ->
    ∃ m,n<=m/\(∀ k,n<=k->k<m->∃ i,(zZ zyG)/\zWW) /\
      (((qav (.empty AK none))/\zhd) \/
        ∃ i,(qav (.candidate AK i (toP (LN (m+1)))))/\(zZ AK)/\zsJ)
  | 0,n,fh m a b _=>eA
  | wf,n,fh m a b c=>by
    rcases xwc up dm (LN n).j with z|⟨i,z⟩
    . exact(fY,n,f8,λ k A x=>eA,(Ds,xtf z,z))
    . by_cases e:zsJ
      . exact(fY,n,f8,λ k A x=>eA,.inr (fY,i,xu4 z e,z,e))
      . have H:n≠m:=λ q=>by rw[<- q,z] at c; cases c
        show(sI,B,I,D,C,xlz up dm hashAt h f m8 (fY m eA eA c),(fY,B,eA,fJ k A x,?_))
        . rcases YS n k with y|y
          . exact D k eA x
          . ext Ml k n;ext fU i z e
        . show(eY,xwg z e,C)
noncomputable abbrev Row:=Nat × ztv
structure Tab (t:SetTable) (es:AI) (L:SR):Prop where
 pl:t.place.toList=L.map (·.1)
 el:es.toList=L.map (·.2)
 srt:(L.map (·.1)).Pairwise (·<·)
 dm:zcm
 mok:MkOk t.mask
 bd:∀ e∈L,e.1<=t.mask
 rc:∀ e∈L,∃ n,(way t.mask Nq n).j=e.1/\∀ m,m<n->(way t.mask Nq m).j∈L.map (·.1)
variable {t:SetTable}{es:Array (Int × Value)}{L:List Row}
def Tab.size (T:rY):t.place.size=L.length/\es.size=L.length:=by
 constructor
 .rw [<- Js,T.pl,Za]
 .rw [<- Js,T.el,Za]
def Tab.at_ (T:rY) (i:Nat):t.place[i]?=(L[i]?).map (·.1):=by
 rw[<- J7,T.pl,Zf]
def Tab.es_ (T:rY) (i:Nat):es[i]?=(L[i]?).map (·.2):=by
 rw[<- J7,T.el,Zf]
def xh1 {xs:iS}{k:Nat}{v:Nat} (h:sZ xs v):xs.getD k 0=v:=by
 show(ou,a,JV.mp h);simp[Qx,a,e]
def Tab.up (T:rY):RZ:=by
 intro a b q f;rw[zgi] at f;have j:a<L.length:=eA
 rw[xh1 (rg,T.at_,Zc j),xh1 (rg,T.at_,Zc f)];show(Hi,Yt.mp T.srt a b (pI j) (pI f) q)
def Tab.live (T:rY) {j i:Nat}:(zZ j)↔∃ e,zyj/\e.1=j:=by
 rw[xks T.up,T.at_,Zg]
def Tab.free (T:rY) {j:Nat}:(Ag j)↔j∉L.map (·.1):=by
 constructor
 .intro h z
  show(eE,e,b,c,Zj.mp z);show(Du,q,x,Q5.mp b);show(Ka,T.live.mpr (eG,e,pJ q x,c),h)
 .intro h
  refine xjb T.up T.dm λ i z=>h ?_;rw[T.at_,Zg] at z;ext eE e b c z;show(zb,(pR,e,Zo b,c))
def Tab.some_free (T:rY) (lt:zaY) (h:Int):∃ n,n<zaB/\(Ag,(LN n).j):=by
 refine Jx vM;have all:∀ s,s<=t.mask->s∈L.map (·.1):=λs hs=>by
  refine Jx yR;show(eE,n,i,e,xus T.mok h s hs);exact c (eG,n,i,by rw[e]; exact T.free.mpr z)
 have:=Wi (n:=t.mask+1) |>.length_le_of_subset (l₂:=L.map (·.1)) (zo,all s (mM,ZF.mp hs))
 rw[ZU,Za] at this
 lia
def Tab.absent (T:rY) {h:Int}{m:Nat} (em:zhd) {P:Value->Prop} (seen:∀ k,k<m->∀ i e,(gb,zZ zyG,zyj,Nq=h,¬ P UT)):∀ e∈L,Nq=h->¬ P UT:=by
 intro e u C p;show(eE,n,q,B,T.rc e u);rw[C] at q B;have lt:n<m:=by
  rcases Nat.lt_trichotomy n m with z|z|z
  .ext lT
  .rw [z] at q;show(h7,q,em,absurd (Zj.mpr (jv e u)) qaR)
  .show(jB,B m z,qaR)
 show(Du,D,H,Q5.mp u);have A:zyj:=pJ D H
 exact seen n lt i e (T.live.mpr (eG e A q.symm)) A C p
def xlt {α:Type} (xs:Array α) (p:Nat) (x:α) (hp:p<=xs.size):(insertAt xs p x).toList=xs.toList.take p++x::xs.toList.drop p:=by
 unfold insertAt;simp[Array.toList_extract,List.extract];exact JU eS
def Tab.add (T:rY) {h:Int}{x:Value}{m:Nat} (em:zhd) (be:∀ k,k<m->zyG∈L.map (·.1)) (jm:AK<=t.mask) :
    ∃ L',L'.Perm ((AK,h,x)::L)/\Tab qaE (insertAt es (t.put AK).2 (h,x)) L'/\(qaE).mask=t.mask:=by
  generalize X:AK=j at *;have S:=T.free.mp em;show(nF,Q,b2,Z,xiw T.up j);show(eC,Y,(t.put j).2=zqp,rfl,K,(t.put j).1.mask=t.mask,rfl);rw[Y];generalize U:zqp=p at *;have pl:p<=L.length:=by ext h7 zgi Q Q
  have R:∀ e∈zgn,e.1<j:=λ e q=>by
    ext qac JY;show(zcd,b2 i eA,zGH List.getElem_take)
  have B:∀ e∈zgm,j<e.1:=λ e q=>by
    show(qac,List.length_drop);show(FR,Z (p+i) eA (uc zgi),zGH List.getElem_drop);refine Nat.lt_of_le_of_ne this λ z=>S ?_;rw[z];exact Zj.mpr (jv,e,List.mem_of_mem_drop q)
  have I:(zoQ).Perm ((j,h,x)::L):=by
    show(zzz,(Qy (a:=(j,h,x)) (l₁:=zgn) (l₂:=zgm)),YF)
  refine(fY,zoQ,I,hV ?_ ?_ ?_ ?_ T.mok ?_ ?_,K)
  . show (insertAt t.place zqp j).toList=_
    rw[U,xlt _ _ _ Q,T.pl,Zv,Zs,Q2,Q3]
  . rw[xlt _ _ _ (eP C8 pl),T.el,Zv,Zs,Q2,Q3]
  . rw[Zv,Zs,List.pairwise_append,Yq]
    have D:((zgn).map (·.1)).Pairwise (·<·):=zUg Q2 zju
    have C:((zgm).map (·.1)).Pairwise (·<·):=zUg Q3 (List.drop_sublist _ _)
    show(jV,D,⟨qH H,C⟩,ib a ha b H)
    . ext nE e q H
      exact B e q
    . ext nE e q ha
      rcases Zr.mp H with rfl|H
      . exact R e q
      . ext nE O A H
        exact ZQ (R e q) (B O A)
  . show (if has t.dummies j then eraseAt t.dummies (below t.dummies j) else t.dummies)=#[]
    rw[T.dm,if_neg];unfold has;simp
  . intro e q
    rcases zMt with rfl|q
    . exact jm
    . exact T.bd e q
  . intro e q
    have more:∀ s,s∈L.map (·.1)->s∈(zoQ).map (·.1):=λs hs=>by
      ext nE O A hs;show(zb,(jv,O,I.mem_iff.mpr (Zm _ A)))
    rcases zMt with rfl|q
    . show(fU,m,X,λ k J=>more _ (be k J))
    . show(pZ,n,a,b,T.rc e q,n,a,λ k J=>more _ (b k J))
#check XS
namespace XS
open PySem PySem.SetTable
noncomputable abbrev Own:=Array (Option Nat)
noncomputable def xco (o:Own) (j:Nat):Bool:=(zuc).isSome
theorem xj8 (mask:Nat) (h:Int) (o:Own):∀(fuel r:Nat),(∃ r',r<=r'/\r'<r+fuel/\(zxQ,(ziM r').1)) ->
    ∃ n,(fS,n8<=n,zYj fuel lR HU Es,zxQ Es,∀ m,n8<=m->m<n->(zfA,(AQ m).j))
  | 0,r,fh r' a b _=>eA
  | fuel+1,r,fh r' a b c=>by
    unfold layClean.free;have J:=xiv mask lR;cases hf:(zbK).find? λ k=>(zke (lR+k)).isNone with
    | some k =>
      simp only[];obtain⟨C,as,bs,e,B⟩:=List.find?_eq_some_iff_append.mp hf;have v:k∈zbK:=Je hf;have L:=ZF.mp v;show(fR,x,∀ m,m<=k->(AQ (n8+m)).j=lR+m,λ m hm=>xrc mask h r m eA,(mY,n8+k,eA,(kU,x k f8),?_,fJ m H A))
      . rw[x k f8]
        unfold xco;revert C;cases zke (lR+k)<;>simp
      . show(zab,m=n8+d,m-n8)
        rw[x d eA];have y:d∈as:=by
          have al:as.length=k:=by
            have g:pi zbK as.length k:=DQ
            rw[JK] at g
            . exact ZR.inj g
            . have:=congrArg YI e
              simp at this
              lia
          have g:pi zbK d d:=JK eA;rw[e,Jf eA] at g;exact Zo g
        show(zGj,B d y)
    | none =>
      simp only[];have all:=Jh.mp hf;have u:∀ d,d<=D9->(zfA (lR+d)):=λ d hd=>by
        show(zGj,all d (ZF.mpr eA))
      have K:r≠r':=λ q=>by
        have:=u 0 lQ;rw[Nat.add_zero,q,c] at this;cases this
      show(Dz,n,a1,a2,a3,I,xj8 mask h o fuel (r+1) (fY r' eA eA c));show(zy,nx,zTB,n8+D9+1,rfl,(mY,n,eA,a2,a3,fJ m H A));rcases YS m zTB with z|z
      . show(zab,m=n8+d,m-n8)
        show(eY,xrc mask h r d eA,u d eA)
      . exact I m z A
structure Lay (mask:Nat) (hs:gK) (k:Nat) (o:Own):Prop where
 sz:o.size=nJ
 own:∀ j i:Nat,(hU o y8)->∃ h,i<k/\(gf hs h)/\∃ n,Es=j/\∀ m,m<n->(zfA,(AQ m).j)
 has:∀ i:Nat,i<k->∃ j:Nat,hU o y8
 inj:∀ j j' i:Nat,(hU o y8)->(pi o j' y8)->j=j'
def xdp {o:Own}{j:Nat} (h:j<o.size) (d:iH Nat):hU o (o.getD j d):=by
 rw[JJ h];simp[Qx,h]
theorem Lay.room {mask k:Nat}{hs:gK}{o:Own} (Y:zVb) (lt:k<=mask):∃ s,Tn/\(zxQ s):=by
 refine Jx vM;have all:∀ s:Nat,s<nJ->∃ i:Nat,pi o s y8:=λs hs=>by
  show(kS,z,xco o s≠false,c (eG s eA z));have g:=xdp (o:=o) (j:=s) (eP Y.sz hs) Hc;unfold xco at z;cases e:o.getD s Hc with
  | none=>rw[e] at z; ext qp z
  | some i=>show(fc,i,hZ g e)
 have I:((Vn).map λ s=>(o.getD s none).getD 0).Nodup:=by
  rw[Qd,Jk];show(zyP,λ{a b} A y H e=>H ?_,Wi);show(tY,i,all a (ZF.mp A));obtain⟨K,x⟩:=all b (ZF.mp y);rw[Io A] at q;rw[Io y] at x;show(eK,C,ZR.inj q,B,ZR.inj x);rw[C,B] at e;ext wW i K e;refine Y.inj a b i ?_ ?_
  .rw [Io A,C]
  .rw [Io y,B]
 have:=I.length_le_of_subset (l₂:=Zx k) λ i q=>by
  ext nE s v q;show(tY,i,all s (ZF.mp v));obtain⟨_,J,_⟩:62:=Y.own s i q;rw[Io v] at q;rw[ZR.inj q];exact ZF.mpr J
 rw[Za,ZU,ZU] at this
 lia
def Lay.more {mask k:Nat}{hs:gK}{o:Own} (mk:LF) (Y:zVb) (lt:k<=mask) {h:Int} (hk:sZ hs h) :
    ∃ j,(zYj R1 uf Hd j)/\Lay mask hs iw B6:=by
  show(eE,s,P,st,Y.room lt);show(eE,r,X,e,xoa mk h s P);obtain⟨n,_,U,K,T⟩:64:=xj8 mask h o R1 0 (fY,r,lQ,eA,eP e st);generalize S:Es=j at *;have L:j<o.size:=by
    refine Jx vM;unfold xco at K;show(iF,(show zuc=some 0 by simp[Qx,c]),K,K)
  have Q:hU o none:=by
    rw[xdp L Hc];unfold xco at K;revert K;cases zuc<;>simp
  show(eC,x,hU B6 Nz,ip L,v,∀ p:Nat,p≠j->B6[p]?=o[p]?,λ p H=>Array.getElem?_setIfInBounds_ne (λ z=>H z.symm));have sz:(B6).size=o.size:=eS
  have O:∀ s,(zfA s)->xco B6 s=true:=λs hs=>by
    ext mX s j
    . subst c
      unfold xco;show(lM,g,xdp (o:=o.setIfInBounds s Nz) (j:=s) (eP sz L) Hc,x);rw[<- ZR.inj g];rfl
    . unfold xco at *
      rw[QG,v s c,<- QG];exact hs
  show(jV,j,U,(fh,eP sz Y.sz,fJ p i A,eQ i A,fW a b i ha hb))
  . ext mX p j
    . ext rA c x A A;exact(fY,h,Wg _,hk,(eG,n,S,λ m M=>O _ (T m lQ M)))
    . rw[v p c] at A
      obtain⟨h',a,b,⟨R,d,q⟩⟩:63:=Y.own p i A;exact fY h' eA b (eG,R,d,λ m M=>O _ (q m M))
  . rcases YS i k with z|z
    . obtain⟨p,C⟩:=Y.has i z
      have H:p≠j:=λ q=>pj q Q C C
      show(fc,p,(eP,v p H,C))
    . have:i=k:=eA
      ext Ec;ext fc j x
  . have J:∀ p i:Nat,p≠j->(pi B6 p y8)->i<k:=λ p i H A=>by
      rw[v p H] at A;show(zYw,Y.own p i A)
    by_cases ca:a=j<;>by_cases cb:b=j
    . rw[ca,cb]
    . rw[ca,x] at ha
      cases ha;show(Dg,J b k cb hb)
    . rw[cb,x] at hb
      cases hb;show(Dg,J a k ca ha)
    . rw[v a ca] at ha
      show(h7,v b cb,hb,Y.inj a b i ha hb)
def Lay.nil {mask:Nat}{hs:gK}:Lay mask hs 0 (Array.replicate nJ none):=by
 refine(fh,eS,fJ j i h,λ i h=>zgF h,ib a b i h)
 .show(lF,Array.getElem?_replicate);split at h<;>simp at h
 .show(lF,Array.getElem?_replicate);split at h<;>simp at h
def xwi {mask:Nat} (mk:LF) (hs:Array Int) (le:hs.size<=mask):∃ o,layClean mask hs=some o/\(zsX hs.size o):=by
  unfold layClean;rw[<- Array.foldl_toList];have v:∀(n:Nat) (l:gK) (k:Nat) (o:Own),hs.toList.drop k=l->(zsX k o)->k+l.length=hs.size->∃ b,l.foldl (λ acc h=>do
      let (owner,k) <- acc
      let j <- zNY owner
      pure (owner.setIfInBounds j Nz,iw)) (some (o,k))=some (b,hs.size)/\(zsX hs.size b):=by
    intro _ l
    induction l with
    | nil =>
      intro k o _ Y e;rw[QB,Nat.add_zero] at e;ext iL;ext zq o Y
    | cons h l ih =>
      intro k o d Y e;rw[ZB] at e;have x:sZ hs.toList h:=by
        have:=congrArg (·[0]?) d;ext RS
      show(DZ,j,f,A,Y.more mk eA x,b,q,y,ih iw B6 (by rw[<- List.drop_drop,d]; rfl) A eA);show(jV,b,?_,y);rw[List.foldl_cons];rw[<- q]
      congr 1
      show (do let j <- zNY o; pure (B6,iw))=_;rw[f];rfl
  show(pZ,o,q,Y,v 0 hs.toList 0 _ rfl Lay.nil eS,o,jn q,Y)
def xnd {mask i:Nat} (h:i<=mask):(C4 i)<=mask:=by
 unfold runEnd;ext rB
theorem xnf (mask:Nat) (h:Int):∀ n,Es+(NA).more<=mask
 | 0=>by
  show uf+((C4 uf)-uf)<=mask;have:uf<nJ:=WP (bits h) (Qm mask);show(He,xiv mask uf,xnd (mask:=mask) (i:=uf) eA)
 | m8=>by
  have a:=qaJ;show (ztU).j+(ztU).more<=mask;unfold adv;split
  .show Es+1+((NA).more-1)<=mask
   lia
  .show OU+((C4 OU)-OU)<=mask;have l:OU<nJ:=WP _ (Qm mask);generalize OU=i at *;show(He,xnd (mask:=mask) (i:=i) eA,xiv mask i)
def xpz (mask:Nat) (h:Int) (n:Nat):Es<=mask:=by
 ext iP qaJ
theorem xmt {α β:Type}{f:zui}{g:zjf}:∀{l:i7},(∀ x∈l,f x=some (g x))->l.filterMap f=l.map g
 | [],_=>rfl
 | BI,h=>by
  rw[JL,h x nO,xmt zPg];rfl
def xzu {mask:Nat} (mok:LF) (es:AI) (le:es.size<=mask) (finger moves:Nat) (led plain:Bool) :
    ∃ t' order L',laid mask finger moves led plain (es.map (·.1))=some (t',order)/\(L'.map (·.2)).Perm es.toList/\Tab t' (order.filterMap (es[·]?)) L'/\t'.mask=mask/\(gL,t'.led,led,t'.moves=moves,t'.plain=plain):=by
  obtain⟨o,eo,Y⟩:62:=xwi mok (es.map (·.1)) (eP Array.size_map le);rw[Array.size_map] at Y;have q:∀ j k,(j,k)∈((Vn).filterMap λ j=>(zco).map (j,·))↔(hU o Nz):=λ j k=>by
    rw[Ya];constructor
    . ext S5 a R e
      rw[Zg] at e;ext eE U T S e;cases S;rw[Io R,T]
    . intro e
      have X:j<nJ:=by
        show(sL,Y.sz,(JV.mp e).1)
      refine(nQ,j,ZF.mpr X);rw[xdp (eP Y.sz X) none] at e;rw[zyN];rfl
  have H:(((Vn).filterMap λ j=>(zco).map (j,·)).map (·.1)).Pairwise (·<·):=by
    rw[List.map_filterMap,List.pairwise_filterMap];refine List.pairwise_lt_range.imp λ{a b} ab x hx y Z=>?_;simp only[Option.map_map,Zg] at hx Z;show(Fi,62,hx);show(Fi,62,Z);exact ab
  have I:(((Vn).filterMap λ j=>(zco).map (j,·)).map (·.2)).Nodup:=by
    rw[Qd,Jk];have p1:=Jk.mp H;show(zyP,λ{a b} R hb lt e=>?_,p1);ext jY j k a O U b;ext wW k U e;have:=Y.inj j O k ((q j k).mp R) ((q O k).mp hb);ext BW O lt
    lia
  generalize hl:((Vn).filterMap λ j=>(zco).map (j,·))=live at *;have K:∀ B∈live,B.2<es.size:=λ B h=>by
    show(zYw,Y.own B.1 B.2 ((zrU).mp h))
  refine⟨106,{ mask,place:=(live.map (·.1)).toArray,dummies:=#[],finger,led,moves,plain },(live.map (·.2)).toArray,zKZ,?_,?_,?_,rfl,rfl,wT⟩
  . unfold laid
    rw[eo];show zjG=some _;rw[hl]
  . have pr:(live.map (·.2)).Perm (Zx es.size):=by
      refine (List.perm_ext_iff_of_nodup I Wi).mpr (iy k);rw[ZF,Zj];constructor
      . show(S5,B,h,rfl)
        exact K B h
      . intro h
        obtain⟨j,hj⟩:=Y.has k h;show(Ia,(j,k),(q j k).mpr hj)
    have T:(zKZ).map (·.2)=(live.map (·.2)).map λ k=>zPx:=by
      rw[ZG,ZG];rfl
    have S:es.toList=(Zx es.size).map λ k=>zPx:=by
      refine List.ext_getElem eS (fJ i h1 h2);have h3:i<es.size:=zaE
      simp[Qx,h3]
    show(ig,T,S,pr.map _)
  . refine(hV,?_,?_,?_,rfl,mok,eQ e Q,eQ e Q)
    . rw[ZG]
      rfl
    . rw[ZG,Array.toList_filterMap,List.toList_toArray,QN]
      have:∀ B∈live,((es[·]?)∘λ x:zeq=>jh) B=some XF:=λ B h=>by
        show es[B.2]?=_;rw[JJ (K B h)];simp[Qx,K B h]
      rw[xmt this];rfl
    . ext eY ZG H
    . ext nE B h Q
      show(FR,(JV.mp ((zrU).mp h)).1,Y.sz);show B.1<=mask
      lia
    . ext nE B h Q
      obtain⟨C,a,b,⟨n,c,d⟩⟩:63:=Y.own B.1 B.2 ((zrU).mp h);have eh:(XF).1=C:=by
        rw[J7,Array.getElem?_map,JJ a] at b;have:=ZR.inj b;simp[Qx,a];exact this
      show ∃ n,(way mask (XF).1 n).j=B.1/\_;rw[eh];show(jV,n,c,eQ m hm);show(eK,J,d m hm,wl,xpz mask C m);show zaT∈_;unfold xco at J;have g:=xdp (o:=o) (j:=zaT) (uc Y.sz) Hc;cases e:zke zaT with
      | none=>ext uT J
      | some k =>
        rw[e] at g;rw[ZG];exact Zj.mpr (jv,(zaT,k),(q _ _).mpr g)
#check XS
namespace XS
open PySem PySem.Spec PySem.SetTable
section
variable {prog:Program}{w:World}{K:Type} [DecidableEq K] {knd:KeyKind prog w K}{A:Around}{E:Value->Shared->Prop}{s:Shared}
theorem xnb (n:Nat) {v:Value} (h:zmV):ofAClassStatement n v=pure false:=by
 cases v with
 | ref a=>ext zXd
 | _=>first|rfl|simp[ofAClassStatement]|(unfold ofAClassStatement; rfl)
def xkx {ks:vK}{a:Addr}{Q:AD} (hk:zwS) (h:zxj):jQ (ofAClassStatement 8 fE):=by
 have C:=hk.typeIs;obtain⟨o,c,n,q,B,z,x⟩:104:=hk;unfold ofAClassStatement;show(fQ,wpAny_typeOf_ref q ?_);rw[B];show(tN,(if rC "tuple" "tuple" then zxg else isSubtype (.type "tuple") (jK "tuple"))>>=_);rw[fe eJ];ext Fv;ext Kg Wa;show(fQ,Yd q z ?_);simp only[];ext zEW;show(zSJ,zWj,x.byValue)
 .ext zRu v m;rw[xnb _ (hall v Zn)];ext Fv;ext zT;exact Zh (NW zMp)
 .ext zRC m;simp only at m;subst m;exact Zh h
def xx4 {ks:vK}{a:Addr}{Q:AD}{stored:fD} (hk:zwS) (hs:∀ y∈stored,zlV) (h:zxj):jQ (searchCouldBeSeen fE stored):=by
 unfold searchCouldBeSeen;ext MW;show(zSJ,∀ y∈rest,zlV,hs)
 .ext zRu y j;show(o6,ks',b,rfl,m,hall _ Zn);have nx:∀ u∈rest,∃ ks' b,u=jD/\(Ap s'.heap ks' b):=λ u hu=>hall u (Zm _ hu);simp only[];by_cases c:(M3||carriedByValue (.ref a)&&carriedByValue (.ref b))=true
  .rw [ma];exact Zh (NW nx)
  .ext mz c;ext zIQ hk;ext zIQ m;show(fQ,xkx hk ?_);ext zT;show(fQ,xkx m ?_);ext zT;exact Zh (NW nx)
 .ext zRC j;simp only at j;subst j;exact Zh h
#check _
section
variable {prog:Program}{w:World}{K:Type} [DecidableEq K] {knd:KeyKind prog w K}{A:Around}{E:Value->Shared->Prop}{s:Shared}
noncomputable def xgq (es:AI) (i:Nat):Int:=(es[i]?.map (·.1)).getD 0
theorem xl6 {d a:Addr}{o:Obj}{es:AI}{ep:Nat}{t:SetTable}{L:SR}{k:vK}{Q:lK SetFound} (T:rY) (ho:yY) (hd:OT) (hf:zNy)
    (hu:zti) (hk:yD k a) (keys:zDr)
    {n0:Nat} (he:(Ag,(way t.mask qR n0).j)) (hn0:n0<zaB)
    (yes:(∃ e∈L,∃ b,UT=jD/\(yD k b))->Q (.there none) s)
    (no:∀ m,(Ag znV)->(∀ i,i<m->zah∈L.map (·.1))->(∀ e∈L,zKn)->Q (.free znV false) s) :
    ∀(fuel n:Nat) (stand:iH Probe),n0-n<fuel->n<=n0->stand.getD (t.probeStart (tupleKeyHash knd k))=(zqI n)->(GW (zkI zah)) ->
      (jQ (setSearchFrom d fE qR true fuel stand))
  | 0,n,stand,h,_,_,_=>eA
  | fuel+1,n,stand,hfu,hn,hst,past=>by
    unfold setSearchFrom;ext zvg hf;simp only[];have ab:t.gaveWay=false:=by
      unfold gaveWay;rcases T.mok with e|e|e|e|e<;>rw[e]<;>decide
    rw[ab];ext zT;show(gP,m,nm,O,ae,xlz T.up T.dm (xgq es) qR zaB n (fY n0 hn eA he));have mn:m<=n0:=by
      refine Wh yR;show(jL,i,e,O n0 hn z);ext iF he e e
    have B:∀ i,i<m->(zkI zah):=λ i hi=>by
      rcases YS i n with z|z
      . exact past i z
      . show(eE,j,X,e2,O i z hi)
        show(eE,e,e3,e4,T.live.mp X);refine(gU,j,e,X,e3,λ q=>zH ?_ e2);unfold xgq;show(ig,T.es_,e3,q)
    have ac:∀ i,i<m->zah∈L.map (·.1):=λ i hi=>by
      obtain⟨j,e,X,e3,_⟩:83:=B i hi;show(eE,e',e4,e5,T.live.mp X);show(zb,(eG,e',Zo e4,e5))
    rw[hst];have Y:∀ met,probe.go t (xgq es) qR zaB (zqI n)=some met->t.probe (xgq es) qR (toP (way t.mask qR n))=some met:=λ_ e=>e;rcases ae with⟨pe,emp⟩|⟨i,pc,liv,hi⟩
    . split
      . ext zGh pe;refine Zh (no m emp ac (fW e U b J C));show(jb,k',b',h1,I,H,keys e U);have:k'=k:=by
          ext gQ J I I;exact H.inj C
        ext Ec;exact T.absent emp (P:=λ v=>∃ b,v=jD/\(yD k' b)) (λ i hi j X l1 l2 l3 ⟨1062,b1,l4,l5⟩=>by
          show(jb,j2,e2,x1,x2,x3,B i hi);ext gQ l1 x1 x1;ext gQ l2 x2 x2;exact x3 l3 b1 l4 l5) e U h1 (eG b J C)
      . ext zPo pe
    . show(eE,e,le,ej,T.live.mp liv)
      show(jb,k',b,h1,I,H,keys e (Zo le));obtain⟨pp,hv,v⟩:=e;ext zA I v jD I;have Z:gf es (nS hv b):=rg T.es_ le
      have sm:t.sameMemory t.moves t.mask=some true:=by
        unfold sameMemory;rw[if_pos (beq_self_eq_true _)]
      have af:m≠n0:=mK he liv
      have R:k'≠k->∀ i',i'<m+1->(zkI,(way t.mask qR i').j):=λ c i' hi'=>by
        rcases YS i' m with z|z
        . exact B i' z
        . ext Ml i' m;refine(gU,i,_,liv,le,λ_ b2 J C=>c ?_);have J:Zl b=Zl b2:=J;cases J;exact H.inj C
      have aa:∀ y∈(List.map (λ x:ztv=>x.snd) (Array.filter (λ x=>x.fst == qR) es).toList),zlV:=λ y hy=>by
        ext nE x hx hy;rw[Array.toList_filter,T.el] at hx;show(nE,e',ad,(ZV.mp hx).1);obtain⟨k2,b2,_,x2,x3⟩:83:=keys e' ad;exact gM k2 b2 x2 x3
      split
      . ext zGh pc;refine wpAny_ite_split (λ_=>Zb (xx4 hk aa ?_)) zAR
        . ext zT
          ext zCu
          . ext zCC
          . show(zBB,xl6 T ho hd hf hu hk keys he hn0 yes no fuel (m+1) zVn eA eA rfl (R c))
        . skip
          ext zCu
          . ext zCC
          . show(zBB,xl6 T ho hd hf hu hk keys he hn0 yes no fuel (m+1) zVn eA eA rfl (R c))
      . ext zPo pc
#check _
def Tab.plainly {t:SetTable}{es:AI}{L:SR} (T:rY) (b:Bool):Tab { t with plain:=b } es L:=hV T.pl T.el T.srt T.dm T.mok T.bd T.rc
def Tab.fits {t:SetTable}{es:AI}{L:SR} (T:rY) (le:zaY):zNy:=by
 unfold SetTable.fits fill;rw[zgi,C8,T.dm];simp;exact le
section
variable {prog:Program}{w:World}{K:Type} [DecidableEq K] {knd:KeyKind prog w K}{A:Around}{E:Value->Shared->Prop}{s:Shared}
theorem xoy (n:Nat) {v:Value} (h:zmV):∃ b,hashByValue n v=pure b:=by
 cases v with
 | ref a=>ext zXd
 | _=>cases n<;>exact(mr,by unfold hashByValue; rfl)
theorem xlv {ks:vK}{a:Addr}{Q:AD} (hk:zwS) (h:∀ b,Q b s):jQ (hashByValue 8 fE):=by
 have z:=hk.typeIs;obtain⟨o,c,n,m,C,x,q⟩:104:=hk;unfold hashByValue;show(fQ,wpAny_specialOf z F.slot_tuple_hash.lookup ?_);show(tN,seqItems? (.ref a)>>=_);show(fQ,Yd m x ?_);ext zEW;show(zHr,s'=s/\zWj,iW q.byValue)
 .rintro v rest r s' ⟨rfl,hall⟩;show(U8,B,xoy 7 (hall v Zn));rw[B];ext Fv;cases b with
  | true =>
   ext Kg Wa;exact Zh (iW zMp)
  | false =>
   show(zzr,Bool.not_false);exact Zh (Zh (h _))
 .rintro ⟨r1,r2⟩ s' ⟨rfl,_⟩;cases r1 with
  | none=>exact Zh (h _)
  | some b=>exact Zh (h _)
def xkr {h h':Heap}{ks:vK}{a d:Addr}{o:Obj}{es ep t} (x:Ap h ks a) (ho:G2) (hd:OT) (hs:ZY d h h'):Ap h' ks a:=by
 obtain⟨q,b,n,f,v,c,u⟩:104:=x;have p:a≠d:=by
  rintro rfl;show(ij,q=o,ZR.inj (f.symm.trans ho));show(h7,hd,c,nomatch c)
 exact(sU,q,b,n,(hs.2 a p).trans f,v,c,u)
noncomputable def Cap (m l:Nat):Prop:=(m=7/\l<=4)\/(m=31/\l<=18)\/(m=127/\l<=76)\/(m=511/\l<=306)\/(m=2047/\l<=1228)
noncomputable def xi8 (l m:Nat):Prop:=(l=5/\m=31)\/(l=19/\m=127)\/(l=77/\m=511)\/(l=307/\m=2047)
noncomputable def SetT (knd:KeyKind prog w K) (h:Heap) (d:Addr) (xs:Cq):Prop:=∃ o es ep t L,G2/\o.ExactSet/\OT/\rY/\(L.map (·.2)).Perm (xs.map λ x=>(nS,ztG gG,jh))/\(∀ x∈xs,(Ap h gG jh))/\Cap t.mask L.length
def SetT.nil {h:Heap}{d:Addr}{o:Obj}{ep fg mv:Nat}{led:Bool} (ho:G2) (hex:o.ExactSet) (hd:o.data=.set #[] ep (.fresh fg mv led)):AT h [] :=
 (ir,o,#[],ep,_,(iC,66,[],ho,hex,hd,hV rfl rfl Yc.nil rfl jO qT qT,vm,⟨qT,.inl (iW lQ)⟩))
def stored {h:Heap}{d:Addr}{o:Obj}{es:AI}{ep:Nat}{t:SetTable} (ho:G2) (hd:OT) (es':AI) (t':SetTable) :
    (h.update d (Wq es' t')).get? d=some { o with data:=.set es' (ep+1) t' }:=by
  show(zcd,ZW (Wq es' t') ho (jn zPe),zPe)
def xra {d:Addr}{o:Obj}{es:AI}{ep:Nat}{t:SetTable}{L:SR}{Q:oq} (T:rY) (le:zaY) {m5:Nat} (l5:xi8 L.length m5) (ho:yY) (hd:OT)
    (h:∀ es' t' L',(L'.map (·.2)).Perm (L.map (·.2))->(gb,Tab t' es' L',t'.mask=m5,L'.length=L.length,Q () { s with heap:=s.heap.update d (Wq es' t') })) :
    jQ (setRelay d (SetTable.grown L.length)):=by
  unfold setRelay;show(zvg,T.fits le);simp only[];show(eC,y,SetTable.sizeAbove zLQ=m5+1,(by rcases l5 with⟨e,rfl⟩|⟨e,rfl⟩|⟨e,rfl⟩|⟨e,rfl⟩<;>rw[e]<;>decide),j,MkOk m5/\L.length<=m5/\m5<=2047,by unfold MkOk; unfold xi8 at l5; lia)
  rw[y];have I:¬ (m5+1>sizeLine):=by
    have:ju (2048:Nat):=eJ
    lia
  ext lG I;obtain⟨t',c,L',J,B,D,mk,_⟩:105:=xzu (mask:=m5) j.1 es (eP,C8,fV j) t.finger (t.movedTo m5) t.led t.plain;have H:t.relaid (es.map (·.1)) zLQ=some (t',c):=by
    unfold relaid;ext eY y J
  rw[H];have C:L'.length=L.length:=by
    have:=B.length_eq;rw[Za,T.el,Za] at this;exact this
  have sz:(c.filterMap (es[·]?)).size=es.size:=tt D.size.2 C8 C
  ext MW;show wpAny _ _ (if (c.filterMap (es[·]?)).size != es.size then _ else _) _ _ _;show(lG,AF sz);ext ud;have x:(L'.map (·.2)).Perm (L.map (·.2)):=by
    show(sL,T.el,B)
  exact wpAny_storeSet_of ho hd (h _ _ L' x D mk C) (yU,sz,C8,Z5 (fV j) (Z5 (jr j) eJ))
def add {d a:Addr}{k:vK}{xs:Cq}{Q:AD} (hu:zti) (S:AT s.heap xs) (hk:yD k a) (small:xs.length<1000)
    (yes:k∈xs.map (·.1)->zxj) (no:k∉xs.map (·.1)->(CI zqO (AT h' zuk) true kZ)) :
    jQ (setAddHashed d fE qR):=by
  obtain⟨o,es,ep,t,L,O,ae,R,T,pm,ks,ah⟩:=S;have ll:L.length=xs.length:=by
    have:=pm.length_eq
    rwa [Za,Za] at this
  have H:=ah;unfold Cap at H;show(eC,le,zaY,eA,lt,L.length<t.mask,eA)
  have hf:=T.fits le;unfold setAddHashed setAddHashedIn;show(Uj,YG O R hf ?_);simp only[];show(oJ,nb,byScan fE es,rfl);rw[nb];ext zT;obtain⟨n0,ad,he⟩:=T.some_free le (tupleKeyHash knd k);have keys:zDr:=λ e D=>by
    have m:=pm.mem_iff.mp (Zj.mpr (jv e D));obtain⟨x,B,ex⟩:=Zj.mp m;refine gF gG jh ?_ ?_ ziS
    . rw[<- ex]
    . rw[<- ex]
  have ai:n0<100000:=by
    refine Z4 ad ?_;unfold turns;rcases T.mok with e|e|e|e|e<;>rw[e]<;>decide
  show(fQ,xl6 T O R hf hu hk keys he ad (iy hy) (ib m em inL nk) 100000 0 none eA lQ rfl (λ i hi=>zgF hi))
  . simp only[]
    refine Zh (yes ?_);obtain⟨e,D,b,eb,af⟩:=hy;have mm:=pm.mem_iff.mp (Zj.mpr (jv e D));obtain⟨x,B,ex⟩:=Zj.mp mm;have:jh=b:=by
      rw[<- ex] at eb;have eb:Zl jh=Zl b:=eb;injection eb
    ext lM kx ziS this;rw[af.inj kx];exact Zj.mpr (jv x B)
  . simp only[]
    have ac:k∉xs.map (·.1):=λ z=>by
      obtain⟨x,B,rfl⟩:=Zj.mp z;have mm:=pm.mem_iff.mpr (Zj.mpr (jv x B));obtain⟨e,D,ee⟩:=Zj.mp mm;exact nk e D jh (kU ee) ziS
    show(fQ,YG O R hf ?_);simp only[];obtain⟨I,ab,T',J⟩:=T.add (x:=fE) em inL (xpz _ _ _);generalize aj:t.put znV=tp at *;obtain⟨t1,p1⟩:=tp;simp only[] at *;have l1:I.length=L.length+1:=by
      show(zzz,ab.length_eq,ZB)
    have aa:(I.map (·.2)).Perm ((zuk).map λ x=>(ztG gG,Zl jh)):=by
      rw[Zv];have q1:(I.map (·.2)).Perm ((qR,uK)::L.map (·.2)):=ab.map λ x:Row=>jh;exact q1.trans ((pm.cons _).trans (List.perm_append_singleton _ _).symm)
    have kk:∀ h',zqO->∀ x∈zuk,zYx:=λ h' sb x B=>by
      rcases Z3.mp B with B|B
      . exact xkr ziS O R sb
      . show(eY,Zq.mp B,xkr hk O R sb)
    generalize ak:insertAt es p1 (qR,uK)=C at *;have U:∀ v:SetTable,Tab v C I->v.mask=t.mask->(jQ (do storeSet d C v; if (Ev,! false,v.tooFull) then do setRelay d (grown (es.size+1)); zxg else zxg)):=λ v T2 m2=>by
      show(fQ,(wpAny_storeSet_of O R ?_ (eP,T2.size.2,Z5 (eA:_<=1000) eJ)));show(eK,M,stored O R C v,sb,ZY.update s.heap d (Wq C v));have fl:v.fill=I.length:=by
        unfold fill;rw[T2.size.1,T2.dm];rfl
      by_cases c:v.tooFull=true
      . rw[c]
        simp only[Bool.not_false,Bool.and_self,if_true];have Y:=c;unfold tooFull at Y;rw[fl,m2] at Y;have Y:=of_decide_eq_true Y;obtain⟨m5,l5⟩:∃ m5,xi8 I.length m5:=by
          unfold xi8;rcases H with e|e|e|e|e
          . exact Wv 31 eA
          . exact Wv 127 eA
          . exact Wv 511 eA
          . exact Wv 2047 eA
          . exact Wv 0 eA
        have e5:es.size+1=I.length:=uc C8
        show(sQ,e5,xra T2 eA l5 M rfl λ X t' L2 p2 T3 m3 l3=>?_);have Z:=sb.trans (ZY.update (s.heap.update d (Wq C v)) d (Wq X t'));exact Zh (no ac _ Z ⟨_,X,_,t',L2,stored M rfl X t',ae,rfl,T3,p2.trans aa,kk _ Z,by rw[m3,l3]; unfold Cap; unfold xi8 at l5; lia⟩)
      . rw[Jw.mpr c]
        ext Kg Qo;refine Zh (no ac _ sb ⟨_,C,_,v,I,M,ae,rfl,T2,aa,kk _ sb,?_⟩);show(kS,Y,¬ (v.fill*5>=v.mask*3),c (decide_eq_true z));rw[fl,m2] at Y;rw[m2];unfold Cap
        lia
    refine wpAny_ite_split (λ_=>Zb (xlv hk (iy b))) (λ_=>Zb (Zh ?_))
    . cases b with
      | true=>exact U t1 T' J
      | false=>exact U _ (T'.plainly false) J
    . exact U t1 T' J
#check _
#check XS
namespace XS
open PySem PySem.Spec PyProof.Rows
section
variable {K:Type} [DecidableEq K]
noncomputable def oneT (acc:Cq) (x:vK × Addr):Cq:=if gG∈acc.map (·.1) then acc else SH
noncomputable def xbr (ky:Mv) (ad:FY) (i:Nat):Cq:=((Zx i).map λ j=>(ky j,ad j)).foldl oneT []
def xel (ky:Mv) (ad:FY) (i:Nat):zsT=oneT Am (ky i,ad i):=by
 unfold xbr;rw[Yw,Zv,List.foldl_append];rfl
theorem xga (ky:Mv) (ad:FY):∀ i,∀ x∈Am,∃ j,j<i/\x=(ky j,ad j)
 | 0,x,h=>nomatch h
 | f7,x,h=>by
  rw[xel] at h;unfold oneT at h;split at h
  .ext zHa
  .rcases Z3.mp h with h|h
   .ext zHa
   .exact (eG,i,eA,Zq.mp h)
theorem xi6 (ky:Mv) (ad:FY):∀ i,(Am).length<=i
 | 0=>f8
 | f7=>by
  have b:=xi6 ky ad i;rw[xel];unfold oneT;split
  .lia
  .rw [Zt,ZZ]
   lia
#check _
section
variable {pr:Program}{wd:World}{K:Type} [DecidableEq K] {knd:KeyKind pr wd K}
def SetT.move {h h':Heap}{d:Addr}{xs:Cq} (S:AT h xs) (g:∀ o,G2->(EY d)) (ks:∀ x∈xs,zYx):AT h' xs:=by
 obtain⟨o,j,n,t,⟨L,f,a,i,T,c,_,b⟩⟩:121:=S;exact ir o j n t (iC,66,L,g o f,a,i,T,c,⟨ks,b⟩)
def xif {h h':Heap}{k:vK}{a:Addr} (x:Ap h k a) (g:∀ o,M8->(EY a)):Ap h' k a:=by
 ext GS o b n c r x;exact(Mb,b,n,g o c)
variable {ar:Around}{R:Result->Shared->Prop}{it:Addr}{fp wr:List Addr}{G:Array GenState->Array GenState->Prop}{n:Nat}{P:Nat->Value->Prop}{St:Nat->Shared->Prop}
theorem xm6 (wk:WalksS pr wd ar.in1 it fp wr G n P St) (d:Addr) (nd:d∉fp) (ky:Mv) (ad:FY) (hv:∀ i v,P i v->v=ztZ) (far:(GW,ad i∉d::wr)) (hu:pT ar.in1.units) (small:zhr) :
    ∀(k i:Nat) (s:Shared),n-i=k->i<=n->St i s->(AT s.heap Am)->zIj ->
      (∀ s2,(zzh (d::wr))->(AT s2.heap (xbr ky ad n))->R zTW s2) ->
      codeAny (model pr wd) ar (.builtin "set.update.loop" (mh [vJ,yP])) R s:=by
  show(eC,Y,d∉wr,λ z=>nd (wk.sub _ z),more,∀ b∈wr,b∈d::wr,λ b z=>Zm _ z);have J:∀{s s2:Shared},(zzh (d::wr))->zIj->qaS:=λ mv C j hj=>xif (C j hj) λ o e=>mv.heap _ _ (far j hj) e;have I:∀{s s2:Shared}{i:Nat},(gR,i<=n,zzh wr,qaS,AT s.heap Am,AT s2.heap Am):=λ hi mv C S=>S.move (λ o e=>mv.heap d _ Y e) λx hx=>by
    show(oK,j,a,xga ky ad _ x hx);exact C j eA
  intro k
  induction k with
  | zero =>
    ext zZY;show(ij,i=n,eA)
    show(zCG,wk.done s _ _ st (eQ s2 mv));exact Zh (q s2 zsO (I f8 mv zQs M))
  | succ k ih =>
    ext zZY;have lt:lS:=eA
    show(zCG,wk.item i s _ _ lt st (fW v s2 pv D mv));show(nK,hv i v pv);show(eK,c,zQs,H,I le mv c M);show wpAny _ ar.in1 (holding [Zl (ad i)] (setAdd d ztZ)>>=_) _ _ s2;refine Zb (Jv ?_);unfold setAdd;show(Uj,wpAny_pyHash_tuple hu (c i lt) ?_);show(jR,X,(Am).length<1000,(mM,xi6 ky ad i),add (s:={ s2 with toks:=s2.toks+((ky i).length+1) }) hu H (c i lt) X (iy T) (ib nin h2 sb so3))
    . have U:zsT=Am:=by
        rw[xel];exact if_pos T
      refine Zh ⟨WL F.plain_set_update_loop _,ih f7 _ eA lt (zMX,λ b z o e=>e) (eP U H) c (fJ O B A)⟩;exact q O (zTl ((zsO).then_heap (JH _ _) (qo z e))) A
    . have U:zsT=Am++[(ky i,ad i)]:=by
        rw[xel];exact if_neg nin
      have Q:zLu h2:=λj hj=>xif (c j hj) λ o e=>by
        show(tf,sb.2 _ (λ L:ad j=d=>far j hj (L▸Zn)))
      refine Zh ⟨WL F.plain_set_update_loop _,ih f7 _ eA lt (zMX,λ b z o e=>?_) (eP U so3) Q (fJ O B A)⟩
      . show(tf,sb.2 b (λ L:b=d=>nd (L▸z)))
      . refine q O (zTl ((zsO).then_heap (JH _ _) (qo z ?_))) A
        show(tf,sb.2 b (λ L:b=d=>z (L▸Zn)))
#check _
#check XS
namespace XS
open PySem PySem.Spec PyProof.Rows XL
section
variable {pr:Program}{wd:World}{K:Type} [DecidableEq K] {knd:KeyKind pr wd K}{ar:Around}{E:Value->Shared->Prop}{s:Shared}
theorem xjc {l:Addr}{its:jM} (ky:Mv) (ad:FY) {Q:fM} (hd:ar.handled=none) (hu:pT ar.in1.in1.in1.units) (hl:s.heap.IsList l its) (hi:∀(i:Nat) (v:Value),(gf its v)->v=ztZ) (hk:∀ i,i<its.size->(yD (ky i) (ad i))) (small:its.size<=1000)
    (h:∀(h2:Heap) (tk:Nat),zEd->zGl->Q mE (IB h2)) :
    zI (model pr wd) ar (call (.type "set") [gS]) Q E:=by
  show(GT,c0,ai,ah,YT.mro)
  show(eK,U,YT.made,ae,YT.sub);refine Qc (codeAny_of_tree ?_);show(mF,callAny (.type "set") _);refine Zh ⟨Qe _ gH,Q8 F.entry_type_call ?_⟩;rw[Around.under_plain (weight_type_call_type "set" [gS] []) rfl];show(Bz,k1,YT.notType,k2,YT.canCreate,k3,F.typeCall_set_1 (.ref l))
  repeat (any_goals (first|ext jd|ext js))
  refine Qi (code_set_new_1 gS (E:=E) (Q₁:=λ ob s1=>∃ x:Bool,ob=mE/\s1=zPU) λ x=>jw x rfl) (fJ r s1 hr);cases r with
  | error e=>exact hr
  | ok fl =>
    cases fl with
    | ret ob =>
      show(oK,x,rfl,hr);show(eC,g0,(Ko).get? s.heap.objs.size=some zll,lY,H,Shared.TypeIs zPU mE "set",jo g0)
      show(eK,aj,YT.init.lookup,ak,YT.init.bind (.ref s.heap.objs.size))
      repeat (any_goals (first|ext jd|ext js))
      refine Qi (Q4 (R:=wants (λ r s2=>r=.none/\∃ h2 tk,gL s2 (IB h2) zEd zGl) E) YT.init.plain F.entry_set_init (check_set_init_1 H ?_)) (fJ r2 s2 hr2)
      . obtain⟨ol,gl,cl,⟨nl,dl⟩⟩:63:=hl
        obtain⟨af,B,P,A⟩:=ol;simp only at cl dl;subst cl dl;have aa:(Ko).get? l=some (zSy,B,.seq its nl,A):=Ze _ gl;show(eK,a1,F.sub_list_set,a2,F.sub_list_frozenset);show(eC,a3,(sD,Wp "list",Wp "dict"),eJ,l1,(Ko).IsList l its,(yM,aa,uj nl))
        unfold Builtin.«set.__init__» noKeywords Builtin.Frozenset.updateFrom;generalize ab:pyIter=PI
        wp_walk
        subst ab;refine QT l1 (Zb (wpAny_runValue ?_));have ll:tK l:=Zu gl;have h3:ar.in1.in1.in1.handled=none:=ip hd
        have n1:l≠qbN:=by
          rw[Jp];exact ZE (Z4 ll (Y5 _))
        have n2:s.heap.objs.size∉[qbN,l]:=by
          rw[Jp];simp only[Zr,J0,or_false,not_or];show(fc,zwL,Yb ll)
        have kl:∀ i,i<its.size->(tK,ad i):=λ i D=>by
          show(zya,o',Y,hk i D);exact Zu Y
        refine xm6 (knd:=knd) ((Walks.list h3 _ l n1 its).toS) s.heap.objs.size n2 ky ad hi (eQ i D) hu small (its.size-0) 0 _ eA lQ ⟨FB,(l1.push _)⟩ ?hS (Om,xif (hk j hj) λ o e=>Rb) ?hE
        . have:=kl i D
          rw[Jp];simp only[Zr,J0,or_false,not_or];show(fc,ZE this,ZE (Z4 this (Y5 _)))
        case hS =>
          show(uG,g1,((Ko).push (jt,"list_iterator",.fields #[gS,SW])).get? s.heap.objs.size=some zll,Ze _ g0,SetT.nil g1 Ge rfl)
        case hE =>
          intro s3 mv M;obtain⟨X,Z,ac,J,O⟩:=s3;show(ij,Z=s.gens,mv.gens);show(ij,ac=s.drawn,mv.drawn);show(ij,O=s.os,mv.os);refine N6 (iW,uE X J M (qo,lb,mv.heap b o ?_ Rb));rw[Jp];simp only[Zr,J0,or_false,not_or];show(fc,ZE lb,ZE (Z4 lb (Y5 _)))
      . cases r2 with
        | error e=>exact hr2
        | ok fl2 =>
          cases fl2 with
          | ret r =>
            obtain⟨rfl,h2,tk,rfl,M,kp⟩:=hr2
            repeat (any_goals (first|ext jd|ext js))
            exact h _ _ M kp
          | _=>exact hr2.elim
    | _=>exact hr.elim
#check _
#check XS
namespace L2
open PySem PySem.Spec PyProof.Rows XL XS
section
variable {K:Type} [DecidableEq K]
noncomputable def oneK (acc:GM) (x:vK):GM:=if x∈acc then acc else SH
noncomputable def xec (xs:GM):Nat:=(xs.foldl oneK []).length
theorem xmk:∀(xs:Cq) (acc:Cq),(xs.foldl oneT acc).map (·.1)=(xs.map (·.1)).foldl oneK (acc.map (·.1))
 | [],acc=>rfl
 | x::r,acc=>by
  rw[List.foldl_cons,xmk r,Zs,List.foldl_cons]
  congr 1
  unfold oneT oneK;split
  .rfl
  .rw [Zv];rfl
def xon (xs:GM) (ad:FY):(zGw).length=xec xs:=by
 unfold xec;rw[<- Za (f:=(·.1)),show (zGw).map (·.1)=xs.foldl oneK [] from ?_];unfold xbr;rw[xmk,ZG]
 congr 1
 refine List.ext_getElem eS (fJ i c b);simp[Zc b]
theorem xnu:∀(xs acc:GM),(zSb).length=zOC↔(∀ x∈xs,x∉acc)/\xs.Nodup
 | [],acc=>eS
 | x::r,acc=>by
  have le:∀(xs acc:GM),Be zSb zOC:=by
   intro xs
   induction xs with
   | nil=>intro acc; exact f8
   | cons x r j =>
    intro acc;refine Z5 (j _) ?_;rw[ZB];unfold oneK;split
    .lia
    .rw [Zt,ZZ]
     lia
  show ((r.foldl oneK (oneK acc x)).length=_)↔_;rw[ZB,ZM];by_cases hx:x∈acc
  .rw [show oneK acc x=acc from fe hx];constructor
   .intro z
    show(iP,le r acc)
   .intro z
    exact absurd hx (z.1 x nO)
  .rw [show oneK acc x=SH from fH hx];have j:=xnu r SH;rw[Zt,ZZ] at j;rw[(j9,acc.length+zvS=acc.length+1+r.length),j];constructor
   .rintro ⟨q,s⟩;show(jV,eQ y b,λ z=>q x z zhW,s);rcases GJ with rfl|b
    .exact hx
    .exact λ z=>q y b (ZP _ z)
   .rintro (⟨q,s,v⟩:43);show(nM,uP y b,v);rcases zAA with z|z
    .exact q y (Zm _ b) z
    .rw [TH] at b;exact s b
def xoo {xs:GM}:xec xs=xs.length↔xs.Nodup:=by
 have:=xnu xs [];unfold xec;ext RS
#check _
noncomputable def xsc (K:Zd) (ta:TA):TE:=(rJ,ta Z H λ vs H1=>∃(a:Addr) (qs:eV) (kss:List jA),vs=pK/\(fb,SqL K H1 a zde,qs.length=kss.length,zOk kss (yB q zbe),qs.length<=1000,Q (.int (gk,xec kss)) H1))
section
variable {X:Cx}
def xpi {a:Expr}{ta:TA}{p p2 pos pos2:Pos} (hu:znU) (hc:qW) (hg:Gl X "len") (hm:L5 "len") (hg2:Gl X "set") (hm2:L5 "set") (ha:zug)
    (hs:autoParam (ztP) aRfl._auto_1) (hs3:autoParam ((zeY,[V5],yK V5)) aRfl._auto_1) :
    PE X (C1 (.Name "len" p) [V5]) (xsc X.K ta):=by
  ext pQ M;refine JZ (xd1 I hg hm PyProof.Rows.Boot.«len» ?_);refine PyProof.Rows.callWith_builtin1 ?_ (jn hs3) rfl;rw[hs3];show(tN,(spliced ((false,yK V5)::backTo pos [])));refine Yr ?_;refine Call_ (xd1 I hg2 hm2 PyProof.Rows.Boot.«set» (J9 (thn (ha pos2 M s Z H _ I h) λ us s1 ⟨vs,H1,I1,r1,q1⟩=>?_) hs rfl));obtain⟨l,J,j,e,hq,S,ac,hx,q⟩:106:=q1;ext zKI ru;show(gP,its,rv,pl,hz,I1.list hq);show(lM,O,rv.length,Za);have sz:its.toArray.size=J.length:=hZ Z9 O
  refine xjc (knd:=va) (λ i=>j.getD i []) (λ i=>J.getD i 0) rZ ?hu pl.isList (nR i v) (eQ i hi) (eP sz hx) (ib h2 tk so kp)
  case hu =>
    show (pT,X.A.units+1+1+1)
    lia
  . have e':gf its v:=ya
    have lt:i<J.length:=by
      show(iP,ui e')
    show(eE,v',U,ab,rv.get (i:=i) (x:=V.ref J[i]) zzR);ext gQ e' U U;show(ij,v=Zl J[i],ab);simp[qv]
  . rw[sz] at hi
    have Y:i<j.length:=eA
    have:=xdz (P:=X.prog) (w:=X.w) I1.hok (ac i J[i] j[i] (Zc hi) (Zc Y));show(eC,e1,j.getD i []=j[i],(ip,Zc Y),e2,J.getD i 0=J[i],(ip,Zc hi))
    show IsTupleKey va s1.heap (j.getD i []) (J.getD i 0);ext ig e1 e2 this
  refine YH ?_;rw[sz,S] at so;have I2:mW M H1 { s1 with heap:=h2,toks:=tk }:=I1.kept (t':=tk) (Bq,kp b o (Zu e) e);obtain⟨o,es,ep,t,⟨L,ho,ad,hd,T,pm,_,aa⟩⟩:121:=so;have ll:es.size=xec j:=by
    have:=pm.length_eq;rw[Za,Za,xon] at this;rw[C8,this]
  refine call_len_set ho ad hd (T.fits (by ext qaM)) ?_ (gU,.int (gk,xec j),H1,I2.tok _,⟨tk+1,kU ll⟩,q);rw[C8];ext qaM
#check _
#check L2
namespace L2
open PySem PySem.Spec PyProof.Rows
#check L2
namespace L2
open PySem PySem.Spec PyProof.Rows XL PySem.W
def xk5 {prog:Program}{w:World}{A:Around}{E:fM}{s:Shared}{it d:Addr}{i ep:Nat}{o:Obj}{es:uZ}{en:DictEntry}{ok ov:Value}{Q:AX}
    (st:zak s.heap i es.size) (hd:yY) (hdat:tF) (hi:zel)
    (h:∀ h',(gR,IsItemIterOut h' it d f7 es.size ep en.key en.val s.heap.objs.size,h'.get? s.heap.objs.size=some (Ci zbi),h'.objs.size=nw,ziA uW,Q zNL kZ)):zht:=by
  have hT:Fx it "dict_itemiterator":=jo st
  ext zBL hT Z dr tk os;show(jR,il,it<Z.objs.size,Zu st,Zb <| Zh <| Zb <| Zb <| Zb <| Y4 hT <| Zh <| Zb <| wpAny_fieldsOf st rfl ?_)
  show(zzr,show Builtin.Dict_items.ownsTuple "dict_itemiterator"=true from eJ);show(mF,(La (rC,Zl d,Jg) _));show(lG,sM Z6);refine Zb <| Zh <| Zb <| J8 hd hdat ?_
  ext lG eS;refine Zb <| Zh <| Zb <| Yj hd hdat ?_
  ext lG eS;ext ud;have e1:(zac i jT)=some en:=by
    show(ig,fH SS,Yy,hi)
  simp only[e1];refine Zb <| Zb <| Y4 hT <| Zh <| Zb <| Y9 hT ?_
  show(NB,setField yP 3 (rawInt (jT+1)));refine Zb <| (VD st J Y C)
  show(rq,C,ZY it Z J,C,T1,Shared.TypeIs (gF J g dr tk os) yP "dict_itemiterator",jo Y,Zb <| Jv <| Zb <| Y9 T1 <| Zb <| Y9 T1 ?_)
  show(mF,Builtin.Dict_items.pairFromOwner yP 6 en.key en.val);unfold Builtin.Dict_items.pairFromOwner;refine Zb <| wpAny_newTuple ?_
  have H:=Ze (Ci zbi) Y;have M:(OC).get? Z.objs.size=some (Ci zbi):=by
    show(sL,C.1,lY)
  have L:(OC).objs.size=Z.objs.size+1:=hZ Jp C.1
  show(eC,X,∀ b ob,b≠it->Z.get? b=some ob->(OC).get? b=some ob,λ b ob K e=>Ze _ (C.extBut b ob K e),z1,J.objs.size=Z.objs.size,C.1);show wpAny _ _ (Builtin.Dict_items.ownedTupleIsFree (.ref it)>>=_) _ _ (gF OC g dr tk os);rw[z1];revert H M L X;generalize OC=h2;intro H M L X;clear C T1 Y z1;unfold Builtin.Dict_items.ownedTupleIsFree;refine Zb <| Zb <| Jn H rfl (x:=.none) rfl <| Hw
  ext KF;refine Zb <| Jn H rfl (x:=ok) rfl <| Zb <| Jn H rfl (x:=ov) rfl ?_
  refine Zb <| JD H eS (fJ h3 ad U)
  refine Zb <| (VD ad h4 ac S)
  refine Zb <| (VD ac h5 ab R)
  refine Zb <| (VD ab h6 aa P)
  have n1:=Yb il;refine Zb <| wpAny_letGo <| Zh <| Zh (h8,Zh (h h6 aa ?_ ?_ λ b ob K e=>?_))
  . exact P.extBut _ _ n1 (R.extBut _ _ n1 (S.extBut _ _ n1 (U.extBut _ _ n1 M)))
  . exact P.1.trans (R.1.trans (S.1.trans (U.1.trans L)))
  . exact P.extBut b ob K (R.extBut b ob K (S.extBut b ob K (U.extBut b ob K (X b ob K e))))
def xml {prog:Program}{w:World}{A:Around}{E:fM}{s:Shared}{it d:Addr}{ep:Nat}{o:Obj}{es:uZ}{ok ov:Value}{Q:AX}
    (hA:E8) (st:zak s.heap es.size es.size) (hd:yY) (hdat:tF)
    (h:zqE zmI):zht:=by
  have j:Fx it "dict_itemiterator":=jo st
  ext zBL j J K D H;have q:=st;unfold IsItemIter at q;unfold Builtin.«dict_itemiterator.__next__»
  repeat (any_goals (first|ext jd|(with_reducible refine Y4 j ?_)|(with_reducible refine Y9 j ?_)|(with_reducible ext E4)|(with_reducible ext E3)|ext js))
  have C:(zac es.size qbL)=none:=by
    rw[fH SS,Yy];simp
  rw[C]
  repeat (any_goals (first|ext jd|(with_reducible refine Y4 j ?_)|(with_reducible refine Y9 j ?_)|(with_reducible ext E4)|(with_reducible ext E3)|ext js))
  ext zBC
def xre {prog:Program}{w:World}{A:Around}{E:fM}{s:Shared}{v d:Addr}{ep:Nat}{o:Obj}{es:uZ}{Q:fM}
    (hv:EU v (zgC,"dict_items",#[vJ])) (hd:yY) (hdat:tF)
    (h:Q mE (zqy "dict_itemiterator" (zlj es.size ep))):zZr v:=by
  have q:Fx v "dict_items":=jo hv
  refine wpAny_pyIter_slot q F.slot_dict_items_iter ?_;refine Jt F.slot_dict_items_iter q F.entry_dict_items_iter ?_ (F.args_dict_items_iter_1 _);ext vi C D x B;unfold Builtin.«dict_items.__iter__»
  repeat (any_goals (first|ext jd|(with_reducible ext E4)|(with_reducible ext E3)|ext js))
  exact(h8,gU _ _ TY Yf.lookup h)
def xmx {prog:Program}{w:World} (d:Addr) (hd:Fm d) :
    MeetsIn prog w (Builtin.«dict.items» (mh [vJ])) (λ_ R s=>zYG /\
      R (.ok (zgB s.heap.objs.size)) (zqy,"dict_items",#[vJ])) :=
  .of_wp λ A R s ⟨1042,m,h⟩=>by
    unfold Builtin.«dict.items» Builtin.Dict.noArgs Builtin.Dict.showsAll;refine Zb <| Zb <| Qt m ?_
    show(tN,pure d);ext ud;show(sK,eP hd Z6,Zb <| Zh <| Zb <| JS <| Zh (h8 h))
theorem xq5 {H:Hp}:∀{kvs:i4}{xs:wJ}{i:Nat}{k:jA}{x:V},K5->tJ->∃ q u,(gf xs (k,q,u))/\Mw/\vo
 | _,_,_,_,_,.nil,e=>F2
 | _,(k',q,u)::_,0,k,x,zwH,e=>by
  ext FH;ext nF r1 r2 b r
  dsimp only at r1 r2 b
  subst r1;exact uE q u r2 b
 | _,_,f7,k,x,Si,e=>by
  show(jb,q,u,j,h,f,xq5 (i:=i) (k:=k) (x:=x) t ya);exact gU q u Pn h f
section
variable {X:Cx}{pins:List (Addr × Obj)}{Z:St}{H:Hp}{s:Shared}
def xh6 {d:Addr}{o:Obj}{kvs:i4}{es:uZ}{ep:Nat} (I:eR) (e:XG) (hdat:tF) :
    (fS,yY,o.ExactDict,es.size=kvs.length,∀(i:Nat) k x,tJ->∃ q en,(fS,zel,en.key=jc,Mw,RelV x en.val)):=by
  obtain⟨g,_,_,⟨xs,j,P,M,O,g',L,b,A,Q⟩⟩:44:=uH d e;ext gQ g g' g';ext HG hdat;refine(gX,g,L,?_,ib i k x B)
  . rw[<- Js,A,Za]
    exact (YC j).symm
  . show(jb,q,u,K,J,C,xq5 j B)
    exact(qI,q,_,by rw[<- J7,A,Zf,K]; rfl,rfl,J,C)
def Inv.nofrzT {d:Addr}{kvs:i4} (I:eR) (e:zhq):Ez:=λ o' u' z=>by
 ext zIo
#check _
noncomputable def Itkt (d:Addr) (o:Obj) (kvs:i4):It :=
 (XU,XG/\zdh,v,H'=H/\∃ k x q,tJ/\v=jc/\Mw,zQI)
noncomputable def Itit (d:Addr) (o:Obj) (kvs:i4):It :=
 (pR,λ i H=>XG/\zdh,λ i H v H'=>∃ p k x q,(fb,tJ,Mw,v=iX,ut,H'=(ziL jc)),λ i H=>zQI)
def xpk {P:Program}{w:World}{K:Zd}{tg:Expr} (d it:Addr) (o:Obj) (kvs:i4) (es:uZ) (ep:Nat) (hdat:tF) :
    (Xm,Itkt d o kvs,zsP it es.size) where
  mem:=eS
  obj:=λi h st b p=>by
    ext zDo
  keep:=zDM
  item:=by
    intro X J C L hc i j s Z H E I B st D;subst J C L;ext yI lt D;ext zal U;show(kL,T,S,f2,R,O,M,B it eS);ext zKV en;refine xhl st g U hdat he (xG m hs);show(sI,o2,g2,c2,d2,id m,zMV eJ);have I1:xO j kZ:=zV (HE,p,(hs.2 b p).trans g) T S R O M;exact(iC,85,zhS,H,I1,jn hk,(iW,oN 103 k x qa hx hq),m,λ b p=>(B b p).1)
  done:=by
    intro X J C L hc i j s Z H E I B st D;subst J C L;ext wQ e D;ext zal U;show(kL,T,S,f2,R,O,M,B it eS);rw[<- sz] at st;exact xh7 rZ st g U hdat (O7 p T S R O M)
  self:=zKr
def xm9 {P:Program}{w:World}{K:Zd}{elts:o5}{x1}{tpos:Pos} (d it:Addr) (o:Obj) (kvs:i4) (es:uZ) (ep:Nat) (hdat:tF) :
    (zOI,Itit d o kvs,∃ ok ov,zak h i es.size) where
  mem:=eS
  obj:=λi h st b A=>by
    ext zd zUk;ext ztJ;exact⟨_,st,λ v z=>by
      ext Pw z' z⟩
  keep:=zEy
  item:=by
    intro X hP R hK hc i m s Z H E I Y st U;ext zeR R;ext yI lt U;ext zal ex;show(kL,O,f1,f2,f3,f4,f5,Y it eS);ext zKV Q;refine xk5 st g hdat he (fW h' L ht hz S);show(zPy,L,fJ B M J);show(zxL,(ziA,B.get? b=some o),A,(J.2 b A).trans (S b o A g),zqu m B,zV kk O f1 f3 f4 f5);show(gq,D,tK it,Zu st,C,zbH it,Yb D,hp,B.get? s.heap.objs.size=some (Ci,#[Q.key,Q.val]),(J.2 _ C).trans ht);refine(iC,85,mE,zap zhS x,VN [Q.key,Q.val] (jn hk) hr,rfl,⟨125,_,k,x,qa,hx,hq,rfl,n0,rfl⟩,hB _ M,qH A);ext zd zUk;ext D8 C O
  done:=by
    intro X hP R hK hc i m s Z H E I Y st U;ext zeR R;ext wQ e U;ext zal ex;show(kL,O,f1,f2,f3,f4,f5,Y it eS);rw[<- sz] at st;exact xml rZ st g hdat (O7 A O f1 f3 f4 f5)
  self:=zDj
noncomputable def xyg (X:Cx) (to:TE):TI:=zTh zcq
noncomputable def xux (X:Cx) (to:TE):TI:=zTh zcp
section
variable {X:Cx}{o:Expr}{to:TE}{tg:Expr}{elts:List Expr}{x1:_}{tpos apos cpos:Pos}
def xsh (ho:FW):Ib o (xyg X to):=by
 ext Gq m R;show(qz,K4 m,lW v A x J C r1 P ?_);ext zlY P;obtain⟨z,S,⟨xs,M,ob,K,L,g,Y,B,Q,hn⟩⟩:43:=C.hok d _ e;refine xmw S g Y B ?_;have D:mW m (EG J) A:=C.write (t':=A.toks) (x:=d) (e:=d) vk jO zcN (Hl g) ⟨g,(C.hok d _ e).stay zcM (λ c q=>XI) (Dx XI)⟩;have I4:mW m (EG J) { A with heap:=A.heap.push (jt,"dict_keyiterator",.fields (zpN K.size L)) } :=
  D.kept (t':=A.toks) wH
 refine Ej A.heap.objs.size [A.heap.objs.size] (ue,EG J,I4,xpk d _ ob kvs K L B,FB,qH U,q ob (C.nofrzT e));show(zA,eb,b,A.heap.objs.size,zpK);exact D.fpOk f8 (D.hok.fresh (Zk _))
def xp9 (ho:FW) (hbase:autoParam (qbj) aRfl._auto_1) (hline:autoParam (ED) aRfl._auto_1) :
    zTn (xux X to):=by
  ext zCN J M;obtain⟨z,hd,⟨xs,aa,ob,U,Y,g,ex,K,ab,hn⟩⟩:43:=I1.hok d _ e;show(fR,P,J.TypeIs (.ref d) "dict",eG ob g ex.1,zBZ P)
  . ext zQo
  show(zDW,P,xmx d hd,P);refine xre (s:=zkB) lY Nc K ?_;have I2:mW B M zkB:=I1.kept (t':=J.toks) wH;generalize Q:NS zkB=D at I2;show(eC,g2,D.heap.get? d=some ob,iz Q Nc,I3,mW B (EG M) D,I2.write (t':=D.toks) (x:=d) (e:=d) vk jO zcN (Hl g2) ⟨g2,(qbh).stay zcM (λ c q=>XI) (Dx XI)⟩);have I4:mW B (EG M) zCh :=
    I3.kept (t':=D.toks) wH
  have S:PIE X B Z Ca R (.ref D.heap.objs.size) zCh:=by
    refine Ej D.heap.objs.size [D.heap.objs.size] (ue,EG M,I4,xm9 d _ ob kvs U Y K,eG .none .none lY,Dk,q ob (I1.nofrzT e));show(zFp,D.heap.objs.size)
  exact S
noncomputable def xzv (X:Cx) (t:TS):TS:=(qm,t { D with nx:=(DB,∃ d ob u,(kf d (.frz ob u))/\Ez/\D.nx σ' (upd H' d u)) } Z H)
theorem xnl {st:Stmt}{t:TS} (h:zff):PS X st (xzv X t):=by
 intro b s Z H D I q;show(qz,Tx b q,uP f j);cases f with
 | next =>
  obtain⟨σ',H',i,⟨d,ob,u,e,c,r⟩⟩:82:=z;exact(gM,σ',_,i.thaw e c,r)
 | _=>ext lT
#check _
section
variable {d:Addr}{ob:Obj}{kvs:List (List Key × V)}{g:TG}{tb:TS}{D:Ends}{Z:St}{H:Hp}
def xrt (Pv:GF) (h0:LW) (hl:zED)
    (hs:∀ i k x q Z H,(gb,tJ,Mw,Dc,g jc Z H IU)) (hd:zVQ) :
    ∃ W:Nat->Nat->St->Hp->Prop,(∃ m,W 0 m Z H)/\∀ i m Z H,FV ->
      ((zcq).stop i H/\AL)\/((zcq).go i H/\(Fc (FJ,(zcq).yld i H x H',Z,H',LE N))):=by
  ext zDk A
  . show(uA,⟨xD hlt,Hy,zaq j kvs.length SS j,zdM⟩)
    obtain⟨rfl,k,b,c,B,rfl,v⟩:=y;exact hs i k b c Z H' B v p
  . ext zGv
def xol (Pv:GF) (h0:LW) (hl:zED)
    (hs:∀ i k x q p Z H,(gR,tJ,Mw,ut,Dc,g iX Z (ziL jc) IU)) (hd:zVQ) :
    ∃ W:Nat->Nat->St->Hp->Prop,(∃ m,W 0 m Z H)/\∀ i m Z H,FV ->
      ((zcp).stop i H/\AL)\/((zcp).go i H/\(Fc (FJ,(zcp).yld i H x H',Z,H',LE N))):=by
  ext zDk C
  . show(uA,(fh,xD hlt,Hy,zaq v kvs.length SS v,zdM))
    obtain⟨j,k,b,c,I,A,rfl,B,rfl⟩:125:=y;exact hs i k b c j Z H I A B p
  . ext zGv
#check _
section
variable {X:Cx}{o e:Expr}{es:List Expr}{to:TE}{t:TA}{name:Str}{apos cpos:Pos}{T id:String}{r:V->List V->Hp->VK->Prop}
def xrb {K:Zd} (hk:X.K=K) (pa:ztl) (slot:zqL) (hty:zkO) (hm:zvm) (ho:FW) (ha:Az)
    (hbase:autoParam (zwW) aRfl._auto_1)
    (hfew:autoParam (((M9 qw).all (λ x=>! gG)&&(zfh).all (λ x=>zft)
      && (VU qw))=true) aRfl._auto_1)
    (hline:autoParam (ED) aRfl._auto_1) (hs:autoParam (xS) aRfl._auto_1) (hplain:autoParam ((ztd).any (·.1)=false) aRfl._auto_1) :
    Hh name qw (tBM K T r to t):=by
  subst hk;exact xfz pa slot hty hm ho ha hbase hfew hline hs hplain
#check _
#check L2
namespace L2
open PySem PySem.Spec PyProof.Rows XL PySem.W PySem.MeetsSeq3
#check L2
namespace L2
open PySem PySem.Spec PyProof.Rows XL PySem.W
#check L2
namespace L2
section
variable {D:Ends}{Z:St}{H:Hp}{i:Nat}{v:V}{N:St->Hp->Prop}{wi:TI}{g:TG}{a b u:TS}{c:TT}
def sq2 {t1 t2:TS} (k:Ch u2 t2 zbj):(tSeq t1 t2) D Z H:=k
def sq3 {t1 t2 t3:TS} (k:zcb u3 t3 u2 t2 zbj):(tSeq t1 (tSeq t2 t3)) D Z H:=k
def sq4 {t1 t2 t3 t4:TS} (k:Ch u4 t4 zmt):(tSeq t1 (MU t2 t3 t4)) D Z H:=k
def sq5 {t1 t2 t3 t4 t5:TS} (k:zcb u5 t5 u4 t4 zmt):(tSeq t1 (zrA t5)) D Z H:=k
def sq6 {t1 t2 t3 t4 t5 t6:TS} (k:Ch u6 t6 zms):(tSeq t1 (Ei t2 t3 t4 t5 t6)) D Z H:=k
def sq7 {t1 t2 t3 t4 t5 t6 t7:TS} (k:zcb u7 t7 u6 t6 zms):(tSeq t1 (zRz t7)) D Z H:=k
def sq9 {t1 t2 t3 t4 t5 t6 t7 t8 t9:TS} (k:Ch u9 t9 (Aw,u8,t8,u9,u7,t7,Aw u6 t6 u7 u5 t5 (Aw,u4,t4,u5,u3,t3,let u2:=tSeq t2 u3; zbj))):(tSeq t1 (zRz (MU t7 t8 t9))) D Z H:=k
def sq11 {t1 t2 t3 t4 t5 t6 t7 t8 t9 t10 t11:TS} (k:zcb u11 t11 u10 t10 zEg):(tSeq t1 (zrA (Ei t5 t6 t7 t8 (MU t9 t10 t11)))) D Z H:=k
def sq13 {t1 t2 t3 t4 t5 t6 t7 t8 t9 t10 t11 t12 t13:TS} (k:(Ch,u13,t13,let u12:=tSeq t12 u13; zHV)):(tSeq t1 (zrA (Ei t5 t6 t7 t8 (Ei t9 t10 t11 t12 t13)))) D Z H:=k
def sq14 {t1 t2 t3 t4 t5 t6 t7 t8 t9 t10 t11 t12 t13 t14:TS} (k:(Ch,u14,t14,Aw u13 t13 u14 u12 t12 zHV)):(tSeq t1 (Ei t2 t3 t4 t5 (Ei t6 t7 t8 t9 (Ei t10 t11 t12 t13 t14)))) D Z H:=k
def gn (k:N wN H):xc4 i v Z H N:=k
def nx {n r x y} (k:n Z H):Ends.nx qad Z H:=k
def gx {n r x y} (k:n wN H):xc4 i v Z H (Ends.nx qad):=k
def fo (k:(Ch,b,b,zzw d s)):zzw D Z:=k
def fq (k:(Dw,s,Z,b,b,zzw O9 s)):zzi (tFor wi g b):=k
def wo (k:(Ch,b,b,xhb c b d s H)):xhb c b D Z H:=k
def wq (k:(Dw,s,Z,b,b,xhb c b O9 s H)):zzi (xhb c b):=k
def io (k:(Dw,d,D,s,Z,zNW d)):tIfS c a b D Z H:=k
def iq (k:let s:=Z; zNW O9):zzi (tIfS c a b):=k
#check _
#check L2
namespace L2
open PySem PySem.Spec PyProof.Rows XL
section
variable {X:Cx}{x:Str}{e:Expr}{te:TE}{pos pos':Pos}
def pS (i:Nat) (hN:X.N.Nodup) (he:vt) (hi:autoParam (wL) aRfl._auto_1) (hx:ER:=by ext MV) (hs:autoParam (XT e zdf) aRfl._auto_1) (hf:Ey:=by first|ext A5|ext DJ) :
    zKz:=xeh hN hi hx he hs hf
def pN (i:Nat) (hN:X.N.Nodup) (hi:autoParam (wL) aRfl._auto_1) (hx:ER:=by ext MV) (hf:Ey:=by first|ext A5|ext DJ):zUL:=xjy hN hi hx hf
#check _
section
variable {X:Cx}{x:Str}{pos:Pos}{scope:Scope}{zs ys:List Str}
def pO (i:Nat) {C:Addr}{ex:eV}{s:Shared}{H:Hp}{pn:fP} (nd:Gf) (ow:∀ x∈zs,(wp).names.lookup x=some .local) (hi:autoParam (gf UV x) aRfl._auto_1) (hz:autoParam (x∈zs) aSmp._auto_1):zSQ:=xjy nd hi (YD (ow _ hz)) (QZ (ow _ hz))
def pM (i:Nat) (hi:autoParam (gf UV x) aRfl._auto_1) (hz:autoParam (x∈zs) aSmp._auto_1):∀(C:Addr) (ex:eV) (s:Shared) (H:Hp) (pn:fP),(∀ x∈zs,(wp).names.lookup x=some .local)->Gf->zSQ:=λ_ _ _ _ _ f h=>pO i h f hi hz
#check _
section
variable {X:Cx}{k k':Nat}{f C:Addr}{fd:FuncData}{ps:List Str}{sp:Sp}{x m:Str}{p pos apos:Pos}{e o:Expr}{es:List Expr}{ta:TE}{t:TA}{q0:Bool}
def pC (F:FnOk q0 X.prog X.w X.K X.mg X.base PV k f fd ps sp) (hr:Room q0 k' X.A) (hm:KQ No) (hk:zTM) (hb:xb2 X.K fd ps []) (ha:Az) (hl:autoParam (k<=k') aDec._auto_1) (hg:autoParam (uq) aRfl._auto_1)
    (hdb:autoParam (qP) aDec._auto_1) (he:autoParam (xS) aRfl._auto_1) (hpl:autoParam ((Cy).any (·.1)=false) aRfl._auto_1) :
    Rv (xty sp [] zUn t):=xcr F (hr.mono hl) hg hm hk hb .nil xv ha hdb he hpl
#check _
#check L2
namespace L2
open PySem PySem.Spec PyProof.Rows XL
variable {q0:Bool}
#check L2
namespace L2
open PySem PySem.Spec PyProof.Rows XL PySem.W
section
variable {prog:Program}{w:World}{A:Around}{E:Value->Shared->Prop}{s:Shared}
def xoh {it t:Addr}{i:Nat}{xs:jM}{x:Value}{Q:fM} (hi:zKL) (ht:zeZ t xs) (hx:tV) (q:(CI,h'.IsTupleIter it t f7,FT it,x,kZ)):zFd:=by
 show(zBj,b,j,Yd b j ?_);show(fQ,(Qn g d eS (Zh (jw,x,Zh (q _ (fY,_,zvl g d,(Obj.cls_mapFields ..).trans c,?_) zdb)))));rw[Yp d];simp[rawInt]
def xw2 {it t:Addr}{i:Nat}{xs:jM}{Q:fM} (hh:E8) (hi:zKL) (ht:zeZ t xs) (hx:xs[i]?=none) (q:∀ h' e,zmI->(Gk (EY e) "StopIteration")->E (.ref e) kZ):zFd:=by
 show(zBj,j,v,Yd j v ?_);show(fQ,wpAny_rule (Zb (Qn g d eS ?_)));show(Dq,newExc (.type "StopIteration") [],?_);simp only[newExc,newTuple];show(fQ,JS ?_ ztm);show(Dq,firstArgMember _ _,wpAny_of_eq (a:=Jg) (by first|rfl|(simp only[firstArgMember]; rfl)) (JS ?_ ztm));simp only[raiseNew];refine Zb (wpAny_handled ?_);have b:A.in1.handled=none:=hh
 first|rw[b]|rw[hh]
 exact Zb (Zh (wpAny_throw (q _ _ (((zdb).extBut.push _).push _) TY)))
def xru {T:Addr}{a b x:Value}{k:Nat}{Q:oq} (hT:IsPair s.heap T a b) (q:(CI,h'.get? T=some (jt,"tuple",.seq ((#[a,b]:jM).setIfInBounds k x)),FT T,(),kZ)):wpAny jk A (updateSeq T (·.setIfInBounds k x)) Q E s :=
 wpAny_updateSeq hT rfl (q _ (by rw[ZW _ hT rfl]; simp[Y7]) zdb)
structure ZA (z TI TO i1 i2 t1 t2:Addr):Prop extends zoo where
 a1:(fS,t1≠z,zzQ,t1≠i1,t1≠i2)
 a2:(fS,t2≠z,zzP,t2≠i1,t2≠i2)
def xvo {z TI TO i1 i2 t1 t2:Addr}{k:Nat}{xs ys:jM}{x y a b:Value}{Q:AX} (D:znc) (hz:zSf) (hI:zmu s.heap) (hO:zeP s.heap)
    (h1:zKb) (h2:zJS) (l1:zen) (l2:zef) (hx:sZ xs x) (hy:sZ ys y)
    (q:∀ h',(Lz h' (rawInt s.heap.objs.size))->IsPair h' TO x y->(gR,h'.IsTupleIter i1 t1 iw,h'.IsTupleIter i2 t2 iw,IsPair h' s.heap.objs.size x y,zEG,Q zNL kZ)):zMs:=by
  have ty:Fx z "zip":=zAq
  rw[pyNext];show(zkj,zpn ty W4 (Jt W4 ty F.entry_zip_next ?_ (F.args_zip_next_1 _)));show(zCl,?_);show(zBn,λ g1 z1 C=>Zb ?_)
  replace z1:zdW g1:=z1
  simp only[List.zipIdx_cons,List.zipIdx_nil,W0,List.forIn_nil];show(zEq,xoh zLn zJF hx λ g2 X K=>Hw);have o2:zeP g2:=K.extBut _ _ D.TOi1 (C.extBut _ _ D.TOz hO);show(fQ,Yd o2 rfl (Zb (xru o2 λ g3 o3 J=>Zb (wpAny_letGo (Zh ?_)))))
  replace o3:IsPair g3 TO x b:=o3
  show(eK,m2,((h2.extBut C.extBut D.i2z).extBut K.extBut D.i12.symm).extBut J.extBut D.TOi2.symm,p2,((l2.extBut C.extBut D.a2.1).extBut K.extBut (ux D.a2)).extBut J.extBut (fV D.a2));show(fQ,Zb (WK (Zb (m:=Builtin.SmallTypes.nextOf (.ref i2)) (xoh m2 p2 hy λ g4 U M=>Hw))));have o4:IsPair g4 TO x b:=M.extBut _ _ D.TOi2 o3;show(fQ,Yd o4 rfl (Zb (xru o4 λ v R L=>Zb (wpAny_letGo (N6 ?_)))))
  replace R:IsPair v TO x y:=R
  show(fQ,Yd R rfl (Zb (wpAny_newTuple ?_)));have sz:v.objs.size=s.heap.objs.size:=by rw[L.1,M.1,qO,K.1,C.1]
  show(rq,z5,zdW v,L.extBut _ _ D.TOz.symm (M.extBut _ _ D.i2z.symm (J.extBut _ _ D.TOz.symm (K.extBut _ _ D.i1z.symm z1))),lt,z<v.objs.size,Zu z5,Zb (m:=Builtin.SmallTypes.ownedTupleHandOut (.ref z) (.ref v.objs.size)) ?_);rw[Builtin.SmallTypes.ownedTupleHandOut];have z6:zdW (v.push (jt,"tuple",.seq #[x,y])):=Ze _ z5;show(fQ,VD z6 g7 Z e7)
  replace Z:Lz g7 (rawInt v.objs.size):=Z
  refine JD Z eS (fJ Y P e8)
  replace P:Lz Y (rawInt v.objs.size):=P
  show(eC,up,∀ c o,c≠z->v.get? c=some o->Y.get? c=some o,λ c o n e=>zTx n (Ze _ e),t8,IsPair Y v.objs.size x y,zTx (Yb lt) lY);rw[sz] at P t8;show(eK,j1,((X.extBut J.extBut D.TOi1.symm).extBut M.extBut D.i12).extBut L.extBut D.TOi1.symm,j2,U.extBut L.extBut D.TOi2.symm);refine Zh (h8 Hw);show Q (fX v.objs.size) _;rw[sz];refine q Y P (up _ _ D.TOz R) (let ⟨o,e,r⟩:=j1; (wa,up _ _ D.i1z e,r)) (let ⟨o,e,r⟩:=j2; (wa,up _ _ D.i2z e,r)) t8 λ c o X U n3 n4 e=>?_;exact up c o X (L.extBut _ _ U (M.extBut _ _ n4 (J.extBut _ _ U (K.extBut _ _ n3 (C.extBut _ _ X e)))))
def xx1 {z TI TO i1 i2 t1 t2:Addr}{k:Nat}{xs ys:jM}{a b:Value}{Q:AX} (hh:E8) (D:znc) (hz:zSf) (hI:zmu s.heap) (hO:zeP s.heap)
    (h1:zKb) (h2:zJS) (l1:zen) (l2:zef) (en:xs[k]?=none)
    (q:zqE zEG):zMs:=by
  have J:Fx z "zip":=zAq
  rw[pyNext];show(zkj,zpn J W4 (Jt W4 J F.entry_zip_next ?_ (F.args_zip_next_1 _)));show(zCl,?_);show(zBn,λ X j C=>Zb ?_)
  replace j:IsZip X z TI TO .ellipsis:=j
  simp only[List.zipIdx_cons,List.zipIdx_nil,W0,List.forIn_nil];show(zEq,xw2 hh zLn zJF en (ib U e L R));ext eE u v M R;show(rq,H,zdW U,L _ _ D.i1z.symm j,Y,e≠z,(λ y=>by ext rA y H v v; simp at M),JD H eS λ g3 _ K=>?_);show(fQ,(wpAny_isInstance (T:="StopIteration") (b:=true) (eG,u,K.extBut _ _ Y v,M) isSubtype_stop (Zh (q _ λ c o P _ Z _ y=>?_))));exact K.extBut _ _ P (L _ _ Z (C.extBut _ _ P y))
#check _
noncomputable abbrev itO (t:Addr):Obj:=(zgC,"tuple_iterator",#[DT,SW])
noncomputable abbrev zp1 (h:Heap) (t1 t2:Addr):Heap:=(h.push (itO t1)).push (itO t2)
noncomputable abbrev zp2 (h:Heap) (t1 t2:Addr):Heap:=(zp1 h t1 t2).push (jt,"tuple",.seq #[zUz,.ref (h.push (itO t1)).objs.size])
noncomputable abbrev zp3 (h:Heap) (t1 t2:Addr):Heap:=(zp2 h t1 t2).push (jt,"tuple",.seq #[.none,.none])
noncomputable abbrev zp4 (h:Heap) (t1 t2:Addr):Heap:=(zp3 h t1 t2).push (jt,"zip",.fields #[.none,RM,RM,.ref (zp1 h t1 t2).objs.size,.ref (zp2 h t1 t2).objs.size])
def xtm (t1 t2:Addr) (xs ys:jM):Meets (Builtin.«zip.__new__» (mh [jK "zip",.ref t1,.ref t2])) (λ_ R s=>zen/\zef/\R (.ok (zgB zlX)) { s with heap:=EV }) :=
 .of_wp λ prog w A R s ⟨1043,x,v,q⟩=>by
  ext vi n d c m;have sb:=sub_zip;show(eC,r1,zJV n t1 xs,x,r2,(zJV,n.push (itO t1),t2,ys),Heap.IsTuple.push v _)
  wp_walk using wpAny_pyIter_tuple r1,wpAny_pyIter_tuple r2
  exact h8 q
section
variable {prog:Program}{w:World}{A:Around}{E:Value->Shared->Prop}{s:Shared}
def xu3 {t1 t2:Addr}{xs ys:jM}{Q:fM} (k1:zen) (k2:zef)
    (q:∀ h',IsZip h' zoA zoD zoC .none->IsPair h' zoD mE (.ref nw)->(gR,IsPair h' zoC .none .none,h'.IsTupleIter s.heap.objs.size t1 0,h'.IsTupleIter nw t2 0,(∀ c o,(EK c)->(EY c)),Q (.ref zoA) kZ)):jQ (call (.type "zip") [.ref t1,.ref t2]):=by
  refine callType_new F.called_zip eJ (F.typeCall_zip_2 _ _) (F.newCall_zip_2 _ _) (λ obj=>F.args_object_init_3 obj _ _) F.entry_zip_new (xtm t1 t2 xs ys) (nQ k1 k2);show(eC,y1,zHP=nw,Jp ..,y2,(zp1 s.heap t1 t2).objs.size=zoD,hZ Jp y1)
  show(eC,v,(zp2 s.heap t1 t2).objs.size=zoC,hZ Jp y2,B,zlX=zoA,hZ Jp v)
  show(eC,x,(EV).get? zlX=some _,lY,D,(EV).get? (zp2 s.heap t1 t2).objs.size=some _,zqi);show(eC,m,∀{c o},(zp1 s.heap t1 t2).get? c=some o->(EV).get? c=some o,λ e=>Ze _ Rb,H,(EV).get? (zp1 s.heap t1 t2).objs.size=some _,Ze _ zqi);show(eC,J,(EV).get? zHP=some _,m lY,K,(EV).get? s.heap.objs.size=some _,m zqi);show _/\_;rw[y2,v,B] at x;rw[y1,y2] at H;rw[v] at D;rw[y1] at J;rw[B];show(fc,jo x,q _ x H D (yM K rfl) (yM J rfl) λ c o e=>m Rb)
#check _
noncomputable def Itzt (K:Zd) (t1 t2:Addr):It :=
  ⟨λ i H=>∃ xs ys x y,fS zrZ zsd tV F6,
   λ i H v H'=>∃ p x y,(fb,(∀ xs,zrZ->tV),(∀ ys,zsd->F6),v=iX,ut,H'=qay),
   λ i H=>∃ xs ys,zrZ/\zsd/\xs.length<=i⟩
noncomputable def ZtSt (z TI TO i1 i2 t1 t2:Addr) (i:Nat) (h:Heap):Prop:=(fb,Lz h .none,zmu h,(∃ a b,zeP h),h.IsTupleIter i1 t1 i,h.IsTupleIter i2 t2 i)
def xmp {z TI TO i1 i2 t1 t2:Addr}{i:Nat}{h:Heap}{xs ys:jM} (D:zoo) (n1:zzQ) (n2:zzP) (st:zIX) (k1:h.IsTuple t1 xs) (k2:h.IsTuple t2 ys):znc:=by
 obtain⟨hz,_,_,q,n⟩:45:=st;show(gq,f,Gk (Kq z) "zip",zAq,m,zPD i1,let ⟨o,e,c,_⟩:=q; zfM,j,zPD i2,let ⟨o,e,c,_⟩:=n; zfM);show(eC,b,Gk (Kq t1) "tuple",let ⟨o,e,c,_⟩:=k1; zfM,a,Gk (Kq t2) "tuple",let ⟨o,e,c,_⟩:=k2; zfM);show(fU,D,(gX,xgm b f eJ,n1,xgm b m eJ,xgm b j eJ),(gX,xgm a f eJ,n2,xgm a m eJ,xgm a j eJ))
def ZtSt.obj {z TI TO i1 i2 t1 t2:Addr}{i:Nat}{h:Heap} (st:zIX) {b:Addr} (hb:b∈zqc):WW oW:=by
 obtain⟨hz,m,⟨_,_,f⟩,⟨A,p,_,u⟩,⟨y,n,_,r⟩⟩:45:=st;ext OW hb;rcases hb with rfl|rfl|rfl|rfl|rfl
 .exact (hB,hz,λ v k=>nomatch (show QS _=QH v from k))
 .ext zEV m
 .ext zEV f
 .exact (hB,p,zdv u)
 .exact (hB,n,zdv r)
def xve {P:Program}{w:World}{K:Zd}{elts:o5}{x1}{tpos:Pos} (z TI TO i1 i2 t1 t2:Addr) (D:zoo) (n1:zzQ) (n2:zzP) :
    Turn P w K Ca (Itzt K t1 t2) zqc z (ZtSt z TI TO i1 i2 t1 t2) where
  mem:=eS
  obj:=(AH,m,st.obj m)
  keep:=λ i h h' ⟨1045,hz,R,eG a c hO,eG o1 e1 r1,eG o2 e2 r2⟩ k=>⟨45,k z eS _ hz,k TI eS _ R,(pR,a,c,k TO eS _ hO),(eG,o1,k i1 eS _ e1,r1),(eG,o2,k i2 eS _ e2,r2)⟩
  item:=by
    intro X hP hw hK hc i M s Z H E I hf st hg;ext zgo;obtain⟨xs,ys,x,y,J,C,hx,hy⟩:124:=hg;ext zFC;show(eE,u,hu,ru,rv.get hx);show(eE,u2,ad,aa,S.get hy);have A:=zQl;ext zGP;show(Br,xvo A hz R hO h1 h2 p U (x:=u) (y:=u2) zpd (by simpa using ad) λ h' a1 a2 a3 a4 a5 a7=>?_,(h8,wpAny_letOwnedTupleGo_zip (s:=kZ) a1 (fJ Q ac v)));have ab:s.heap.objs.size≠z:=Yb (Zu hz);have kk:(AO,b∉zqc,lI,Q.get? b=some o):=λb o m g=>by
      ext WS;exact (v.2 b m.1).trans (a7 b o m.1 (ux m) (U0 m) (UZ m) g)
    have I1:zqu M Q:=zpL kk hf;ext zFB;have hp:Q.get? s.heap.objs.size=some (Ci,#[u,u2]):=(v.2 _ ab).trans a5;have ae:h'.get? TI=_:=a7 TI _ A.TIz A.TITO A.TIi1 A.TIi2 R;refine⟨85,mE,zap x y,VN [u,u2] ru aa,rfl,
      (zE,_,x,y,zQZ J hx,zQZ C hy,rfl,n0,rfl),?_,qH m⟩
    . exact(iu,ac,v.extBut _ _ A.TIz ae,(hB,_,v.extBut _ _ A.TOz a2),a3.extBut v.extBut A.i1z,a4.extBut v.extBut A.i2z)
    . show(jL,o,ho,st.obj m)
      show(lC,Ek ho,(hf b m).1)
  done:=by
    intro X hP hw hK hc i M s Z H E I hf st hg;ext zgo;ext jb xs ys J C hl hg;ext zFC;show(eK,e1,rv.length,A,zQl);ext zGP;refine xx1 rZ A hz R hO h1 h2 p U qX (zkm,a7,zpL (yW m g) hf)
    ext WS;exact a7 b o m.1 (ux m) (U0 m) (UZ m) g
  self:=λ_ _ _ _ _ st h=>wpAny_pyIter_zip st.1 h
noncomputable def xzn (K:Zd) (ta:TA):TI:=(OQ,∃ a b xs ys,(jH,vs,[fE,jD],SqT K H1 a xs,SqT K H1 b ys,R zee H1))
section
variable {X:Cx}{elts:List Expr}{x1:_}{tpos:Pos}
def xvc {a b:Expr}{ta:TA}{p pos:Pos} (hg:Gl X "zip") (hm:L5 "zip") (ha:PA X Vq ta) (hs:autoParam (zQv) aRfl._auto_1) (hs2:autoParam (zeY [b] KP) aRfl._auto_1) :
    PI X Ca (zza "zip" Vq) (xzn X.K ta):=by
  show(OE,x,PyProof.Rows.Boot.«zip»,zok (zva x c H1 A q1));obtain⟨L,J,xs,ys,e,P,M,q⟩:124:=q1;ext iL;show(jb,u,u2,rfl,ru,D,xi3 r1);show(ij,u=Zl L,ru);show(ij,u2=Zl J,D);show(rX,its,rv,S,A.tuple P);show(rX,U,aa,Q,A.tuple M);have m1:L≠zoB:=by
    ext zKs S
  have m2:J≠zoB:=by
    ext zKs Q
  refine xu3 S Q λ h' hz hI hO h1 h2 hk=>?_;show(Hk,wpAny_pyIter_zip (s:=zPQ) hz ?_,I2,mW x H1 zPQ,A.kept (t':=c.toks) hk,⟨121,_,[c.heap.objs.size+4,c.heap.objs.size+2,zoB,c.heap.objs.size,c.heap.objs.size+1],_,_,(ue,H1,I2,xve _ _ _ _ _ L J (xvi c.heap.objs.size) m1 m2,(iu,hz,hI,hB _ hO,h1,h2),qH Y,q)⟩);have y:c.heap.objs.size<=b:=by
    ext OW Y;rcases Y with rfl|rfl|rfl|rfl|rfl
    . exact JH _ 4
    . exact JH _ 2
    . exact JH _ 3
    . exact f8
    . exact JH _ 1
  exact A.fpOk y (A.hok.fresh y)
#check _
def xsb {K:Zd}{a b:Addr}{xs ys:eB}{g:TG}{tb:TS}{D:Ends}{Z:St}{H:Hp} (len:znZ) (Pv:GF) (h0:LW) (hl:∀ i Z H,Dc->KL/\qbd)
    (hs:∀ i x y Z H p,(gR,tV,F6,Dc,ut,g iX Z qay IU)) (hd:zrf) :
    ∃ W:Nat->Nat->St->Hp->Prop,(∃ m,W 0 m Z H)/\∀ i m Z H,FV ->
      ((zee).stop i H/\AL)\/((zee).go i H/\(Fc (FJ,(zee).yld i H x H',Z,H',LE N))):=by
  show(zoh,xs.length,I);show(U7,j,hl i Z H p);rcases YS i xs.length with lt|J
  . show(uA,(fh,(iQ,124,xs,ys,_,_,j,c,qv,Zc (len▸lt)),Hy,λ σ' H' z=>(mY,xs.length-f7,eA,rfl,lt,z),fJ v H' y))
    obtain⟨q,x,y,C,B,rfl,A,rfl⟩:105:=y;exact hs i x y Z H q (C _ j) (B _ c) p A
  . show(zlR,gU xs ys j c f8)
noncomputable def xo4 (K:Zd) (cs:eV):Bool:=(qbB).all λ i=>(qbB).all λ j=>hR zCX
def xcq {K:Zd}{cs:eV} (h:zzo cs) {i j:Nat} (hi:i<cs.length) (hj:j<cs.length):zCX :=
 zsy (YU.mp (YU.mp h i (ZF.mpr hi)) j (ZF.mpr hj))
#check L2
namespace Geo
noncomputable def dn (y r:Int):Int:=(vn,y,r,1,-1)
noncomputable def upN (y r:Int):Nat:=(vn,y,r,mV r y,mV y r)
noncomputable def wayI (b:Bool):Int:=(Ao,-1,1)
noncomputable def lvN (w x:Int) (b:Bool):Nat:=(Ao,(x+1).toNat,(mV,w+2,x))
noncomputable def upL (x y r:Int):n7:=(Zx (upN y r)).map (ua (x,y+jT*dn y r))
noncomputable def lvL (w x:Int) (b:Bool) (r:Int):n7:=(Zx (lvN w x b)).map (ua (x+jT*wayI b,r))
noncomputable def cells (w x y:Int) (b:Bool) (r:Int):n7:=upL x y r++lvL w x b r
def xl2 {x y r u v:Int}:(u,v)∈upL x y r↔u=x/\zsD:=by
 unfold upL upN dn;rw[Zj];constructor
 .ext zKR b
  subst e1;refine AW;split at b
  .rename_i h
   rw[zjB] at e2;left; lia
  .rename_i h
   rw[zjw] at e2;right; lia
 .rintro ⟨rfl,h|h⟩
  .refine (nQ,mV v y,?_)
   .rw [ZF,TM]; lia
   .rw [fe eA];show(WY,v,y,v-y)
  .refine (nQ,mV y v,?_)
   .rw [ZF,Dm]; lia
   .ext mz eA;show(WY,y,v,y-v)
theorem xxh {w x r u v:Int}{b:Bool} (h1:Oc) (h2:x<=w):(u,v)∈lvL w x b r↔zFj:=by
 unfold lvL lvN wayI;rw[Zj];cases b with
 | true =>
  ext KF;constructor
  .ext zMj
  .rintro ⟨rfl,h⟩;show(kR,mV x u,uc ZF);show(WY,x,u,x-u)
 | false =>
  ext zT;constructor
  .ext zMj
  .rintro ⟨rfl,h⟩;show(kR,mV u x,uc ZF);show(WY,u,x,u-x)
def xf4 {w x y r u v:Int}{b:Bool} (h1:Oc) (h2:x<=w):(u,v)∈qai↔(u=x/\zsD)\/zFj:=by
 unfold cells;rw[Z3,xl2,xxh h1 h2]
noncomputable def btw (v a b:Int):Prop:=min a b<=v/\v<=max a b
instance (v a b:Int):Decidable (btw v a b):=inferInstanceAs (Decidable (_/\_))
noncomputable def meet (l m:n7):zAJ:=zRS
theorem xfk {l m:n7}{p:Prop} [Decidable p] {d:oh} (h:∀ c,c∈l/\c∈m↔p/\c=d):meet l m=(Bg p d):=by
 unfold meet;by_cases hp:p
 .rw [fe hp];obtain⟨u,s⟩:=(h d).mpr (uj hp);cases e:zRS with
  | none =>
   show(h7,Jh,e,absurd (decide_eq_true s) (e d u))
  | some c =>
   show(eK,a,QC e,b,Je e);rw[((h c).mp ⟨b,of_decide_eq_true a⟩).2]
 .rw [fH hp,Jh];intro c q j;exact hp ((h c).mp (xD,of_decide_eq_true j)).1
noncomputable def mir (w:Int) (c:oh):oh:=(w+1-uS,wg)
def xdv (w:Int) (c:oh):(zxM c)=c:=by
 unfold mir;rw[(j9,w+1-(w+1-uS)=uS)]
def xf1 (w x y:Int) (b:Bool) (r:Int):(uL Dj y (! b) r)=(qai).map (mir w):=by
 unfold cells upL lvL;rw[Zv,ZG,ZG]
 congr 1
 have e:lvN w Dj (! b)=lvN w x b:=by
  cases b
  .show(M0,Int.toNat,(j9,Dj+1=w+2-x))
  .show(M0,Int.toNat,(j9,w+2-Dj=x+1))
 rw[e];refine YX λ i _=>?_;cases b
 .exact congrArg (·,r) (j9,(zkn Dj)=w+1-(x+jT*1))
 .exact congrArg (·,r) (j9,Dj+jT*1=w+1-(zkn x))
def xjn {w:Int}{l:n7}{c:oh}:c∈zZx↔zzG∈l:=by
 rw[Zj];show(fc,(fun⟨1062,d,h,e⟩=>by rw[<- e,xdv]; exact h),λ h=>(hB,h,xdv w c))
def xmo {w xn yn rn xf yf rf:Int} (n1:1<=xn) (n2:xn<=w) (f1:1<=xf) (f2:xf<=w) (hr:Th) (hx:xn<xf) (c:oh) :
    zPr (uL xn yn true rn) (uL xf yf true rf):=by
  obtain⟨u,v⟩:=c;rw[xf4 n1 n2,xf4 f1 f2,Prod.mk.injEq];unfold btw;ext KF;constructor
  . rintro ⟨h|h,h'|h'⟩<;>lia
  . ext zSY
    show(nM,?_,.inr zhC);by_cases e:v=rn
    . show(iY,zh e)
    . ext je zhC
theorem xlu {w xn yn rn xf yf rf:Int}{b:Bool} (n1:1<=xn) (n2:xn<=w) (f1:1<=xf) (f2:xf<=w) (hr:Th) (hx:zpx) (c:oh) :
    zPr zqf zqe:=by
  cases b with
  | true=>exact xmo n1 n2 f1 f2 hr hx c
  | false =>
    have hx:xf<xn:=hx;have z:=xmo (w:=w) (yn:=yn) (yf:=yf) (xn:=w+1-xn) (xf:=w+1-xf) eA eA eA eA hr eA zzG;rw[zmF xn yn rn,zmF xf yf rf,xjn,xjn,xdv] at z;rw[z];refine and_congr_right λ_=>⟨iy e,λ e=>yZ⟩
    show(lM,e,congrArg (mir w) e,xdv);exact e.trans (xdv w zhV)
def xqr {w xn yn rn xf yf rf:Int}{b:Bool} (n1:1<=xn) (n2:xn<=w) (f1:1<=xf) (f2:xf<=w) (hr:Th) (hx:zpx) :
    meet zqf zqe=(Bg zdc zhV):=xfk (xlu n1 n2 f1 f2 hr hx)
def xst {w xn yn rn xf yf rf:Int}{b:Bool} (n1:1<=xn) (n2:xn<=w) (f1:1<=xf) (f2:xf<=w) (hr:Th) (hx:zpx) :
    meet zqe zqf=(Bg zdc zhV):=xfk λ c=>(eP,and_comm,xlu n1 n2 f1 f2 hr hx c)
def xj7 {w x1 y1 r1 x2 y2 r2:Int} (a1:1<=x1) (a2:x1<=w) (b1:1<=x2) (b2:x2<=w) (hx:zzA) :
    meet zat O4=(vn x2 x1 (KD,Ah,zgQ,Bg Cs zgR) none):=by
  have b:∀ u v,(u,v)∈O4↔(u=x2/\(zqA y2 r2))\/(gL,v,r2,x2<=u,u<=w+1):=λ u v=>by
    rw[xf4 b1 b2]; simp
  have x:∀ u v,(u,v)∈zat↔(u=x1/\(zqA y1 r1))\/(gL,v,r1,0<=u,u<=x1):=λ u v=>by
    rw[xf4 a1 a2]; simp
  by_cases hlt:Vc
  . rw[fe hlt]
    by_cases e:r1=r2
    . ext iL
      rw[fe (by unfold btw; lia)];unfold meet;show (zcK++zaQ).find? _=_;rw[List.find?_append];have A:(zcK).find? (λ c=>hR (c∈(uL x2 y2 false r1)))=none:=by
        rw[Jh];rintro ⟨u,v⟩ D C;show(eK,I,xl2.mp D,H,(b u v).mp (of_decide_eq_true C))
        lia
      rw[A];have B:zaQ=(x1,r1)::(zaQ).tail:=by
        unfold lvL lvN;obtain⟨n,A⟩:∃ n,(x1+1).toNat=m8:=zh x1.toNat
        simp only[if_true,A,Wx,Zs,List.tail_cons];simp
      rw[B,Ym (by show(zds,(b x1 r1).mpr (.inr zek)))];rfl
    . by_cases hb:Ah
      . have y:∀ c,c∈zcK/\c∈O4↔True/\c=zgQ:=by
          ext zOA xl2;unfold btw at hb;constructor
          . rintro ⟨h,h'|h'⟩<;>refine jF trivial<;>lia
          . rintro (⟨_,rfl,rfl⟩:43)
            show(fc,zhC,.inr zek)
        have z:=xfk y;rw[fe hb];unfold meet at z ⊢;show (zcK++zaQ).find? _=_;rw[List.find?_append,z];rfl
      . ext lG hb
        refine xfk (p:=Cs) (d:=zgR) ?_;ext zOA x;unfold btw at hb ⊢;constructor
        . rintro ⟨h|h,h'|h'⟩<;>lia
        . ext zSY
          show(nM,.inr zek,.inl zhC)
  . ext lG hlt
    have:=xfk (l:=zat) (m:=O4) (p:=False) (d:=(0,0)) (by
      rintro ⟨u,v⟩;rw[x,b];constructor
      . rintro ⟨h|h,h'|h'⟩<;>lia
      . rintro ⟨h,_⟩; exact h.elim)
    simpa using this
def xsy (w:Int) (l m:n7):meet zZx zZw=(meet l m).map (mir w):=by
 unfold meet;rw[List.find?_map];refine congrArg (WO (mir w)) (congrArg (List.find? · l) (funext λ c=>?_));show Ed (zzG∈zZw) _;rw[decide_eq_decide,xjn,xdv]
def xoq {w x1 y1 r1 x2 y2 r2:Int} (a1:1<=x1) (a2:x1<=w) (b1:1<=x2) (b2:x2<=w) (hx:zzA) :
    meet O4 zat=(vn x2 x1 (KD,Cs,zgR,Bg Ah zgQ) none):=by
  have z:=xj7 (w:=w) (x1:=w+1-x2) (y1:=y2) (r1:=r2) (x2:=w+1-x1) (y2:=y1) (r2:=r1) eA eA eA eA eA;rw[zmF x2 y2 r2,(kM,uL (w+1-x1) y1 false r1,_,xf1 w x1 y1 true r1),xsy] at z;have z:=Ee (WO (mir w)) z;rw[Option.map_map,(kM,mir w∘mir w,id,funext (xdv w)),Option.map_id_apply,zmZ,zmZ,zmZ] at z;rw[z];by_cases h:Vc
  . rw[TM,zjB]
    show (KD,Cs,zxM zgR,Bg Ah (zxM zgQ))=_;rw[xdv,xdv]
  . rw[Dm,zjw]
    rfl
def meet_at {l m:n7}{i:Nat}{c:oh} (hc:gf l c) (no:∀ d∈zyY,d∉m) (hm:c∈m):meet l m=some c:=by
 ext Ly h j hc;have e:zOx=l:=by
  ext zTs j
 have b:(zyY).find? (λ c=>ztt)=none:=by
  rw[Jh];intro d q z;ext zSS q
 have z:(zOx).find? (λ c=>ztt)=some c:=by
  rw[List.find?_append,b,Ym (by ext zds hm)];rfl
 ext h7 e z z
def meet_no {l m:n7} (no:∀ d∈l,d∉m):meet l m=none:=by
 unfold meet;rw[Jh];intro d a z;ext zSS a
def erase_ok {ls:gK}{k:Nat}{y:Int} (nd:ls.Nodup) (h:sZ ls y):(fS,(zsj).Nodup,y∉zsj,(∀ z∈zsj,z∈ls),y∈ls):=by
 show(tY,D,Zi.mp h);have e:ls.take k++y::ls.drop iw=ls:=by
  ext zTs q
 have v:ls.eraseIdx k=ls.take k++ls.drop iw:=Qs ls k;have i:=nd;rw[<- e,ZT,ZM] at i;obtain⟨C,⟨B,A⟩,j⟩:43:=i;refine(gX,?_,?_,(rO,List.mem_of_mem_eraseIdx hz),q▸Yn D)
 .rw [v,ZT];show(fU,C,A,λ a J b H=>j a J b (Zm _ H))
 .rw [v,Z3];rintro (z|z)
  .exact j _ z _ Zn rfl
  .exact B z
noncomputable def absI (a:Int):Int:=(vn,a,0,-a,a)
noncomputable def acr (w x:Int) (b:Bool):Int:=Ao x Dj
def tri {a b c:Int}:(lD a c)<=(lD a b)+(lD b c):=by
 ext zJq
def xgl {v a b:Int} (h:btw v a b):absI (a-b)=(lD a v)+(lD v b):=by
 unfold btw at h;ext zJq
def xoj {cn cf yn rn yf rf:Int} (hc:cn<cf) (hr:Th) (h:zdc) :
    zNp<zNq\/(zNp=zNq/\(zUG rn rf)<(zUG rf rn)):=by
  show(eK,e,xgl h,j,tri (a:=yf) (b:=rf) (c:=rn));by_cases c:absI (yf-rn)=(lD yf rf)+(lD rf rn)
  . show(uA,jF eA)
    rw[c,e,QR,QR];have p:0<(lD rf rn):=by
      unfold absI;ext rB
    show(iP,Int.mul_lt_mul_of_pos_right hc p)
  . ext je eA
def xte (a b:Int):absI (a-b)=(lD b a):=by
 unfold absI;ext ztH
def ex_pair {w x1 y1 r1 x2 y2 r2:Int}{b1 b2:Bool} (a1:1<=x1) (a2:x1<=w) (c1:1<=x2) (c2:x2<=w) (hx:zzA) (hs:(b1,r1)≠(b2,r2)) (hm:meet (uL x1 y1 b1 r1) (uL x2 y2 b2 r2)≠none) :
    zEZ<zFa \/
    (b1=b2/\zEZ=zFa /\
      zdO*(lD y1 r1)+acr w x2 b2*(lD y2 r2)<acr w x1 b2*(lD y1 r2)+zdN*(lD y2 r1)):=by
  by_cases hb:b1=b2
  . subst hb
    have j:r1≠r2:=λ e=>hs G4;by_cases hn:if b1 then x1<x2 else Vc
    . rw[xqr a1 a2 c1 c2 j hn] at hm
      have h:Ah:=by
        by_cases z:Ah
        . ext lT
        . ext IL z
      have p:zdO<zdN:=by
        ext zLU hn
      rcases xoj (yf:=y2) p j h with z|⟨z,f⟩
      . ext je eA
      . show(iY,Eg eA f)
    . have q:if b1 then Vc else x1<x2:=by
        cases b1<;>simp at hn ⊢<;>lia
      rw[xst c1 c2 a1 a2 (Zz j) q] at hm;have h:Cs:=by
        by_cases z:Cs
        . ext lT
        . ext IL z
      have p:zdN<zdO:=by
        ext zLU q
      rcases xoj (yf:=y1) p (Zz j) h with z|⟨z,f⟩
      . ext je eA
      . ext iY zek
  . refine .inl ?_
    show(Bz,v,tri (a:=y2) (b:=r2) (c:=r1),s,tri (a:=y1) (b:=r1) (c:=r2),x,xte r2 r1);cases b1 with
    | true =>
      cases b2 with
      | true=>ext qp hb
      | false =>
        rw[xj7 a1 a2 c1 c2 hx] at hm;by_cases z:Vc
        . rw[if_pos z] at hm
          have m:btw r2 y1 r1\/btw r1 y2 r2:=by
            by_cases z1:Ah
            . ext je z1
            . ext zOs
              . ext iY f
              . ext IL f
          unfold acr;simp only[if_true,ZD,if_false];rcases m with u|u
          . ext ziu
          . ext ziu
        . ext IL z
    | false =>
      cases b2 with
      | false=>ext qp hb
      | true =>
        rw[xoq c1 c2 a1 a2 (Zz hx)] at hm;by_cases z:x1<x2
        . rw[if_pos z] at hm
          have m:btw r2 y1 r1\/btw r1 y2 r2:=by
            by_cases z1:Ah
            . ext je z1
            . ext zOs
              . ext iY f
              . ext IL f
          unfold acr;simp only[if_true,ZD,if_false];rcases m with u|u
          . ext ziu
          . ext ziu
        . ext IL z
#check Geo
namespace Drw
variable {S:Type}
#check Drw
namespace Kp
noncomputable def pc (n:Nat):Nat:=if h:n=0 then 0 else n % 2+pc (n / 2)
termination_by n
decreasing_by lia
section
variable {N S:Type} [DecidableEq N] [DecidableEq S]
structure Mt (room:wE) (so:si) (ho:tT):Prop where
 iff:∀ n s,zMC
 rm:zML
def Mt.inj {room:wE}{so:si}{ho:tT} (m:zcu) {a b:N}{s:S} (ha:zqn) (hb:so b=some s):xQ:=by
 have x:=(m.iff a s).mp ha;show(h7,(m.iff b s).mp hb,x,(ZR.inj x).symm)
theorem xfj {so:si}:∀{T:DO},T.Nodup->(∀ a∈T,∀ b∈T,∀ s,zqn->so b=some s->xQ)->(zqW).Nodup
 | [],_,_=>YK
 | a::T,nd,inj=>by
  rw[ZM] at nd;have c:=xfj xH λ x hx y hy=>inj x (Zm _ hx) y (Zm _ hy);rw[JL];cases e:so a with
  | none=>exact c
  | some s =>
   refine ZM.mpr ⟨yR,c⟩;show(eE,b,h,j,Ya.mp z);rw[inj a nO b (Zm _ h) s e j] at nd;exact nd.1 h
theorem xd3 {so:si}:∀{T:DO},zKQ->(zqW).length=T.length
 | [],_=>rfl
 | a::T,h=>by
  rw[JL];cases e:so a with
  | none =>
   show(zst,h a nO)
  | some s =>
   show (s::zqW).length=_;rw[ZB,ZB,xd3 λ b c=>h b (Zm _ c)]
noncomputable def tog (room:wE) (T:DO) (s:S):Bool:=T.any λ n=>hR (s∈room n)
def hall {room:wE}{so:si}{ho:tT} (m:zcu) {ss:List S} (hr:zng) {T:DO} (nd:T.Nodup) (h:zKQ):T.length<=ss.countP (tog room T):=by
 rw[List.countP_eq_length_filter,<- xd3 h];show(zpa,xfj nd λ a _ b _ s y x=>m.inj y x,eQ s hs);show(eE,n,v,e,Ya.mp hs);ext zCK v
structure Crowd (room:wE) (so:si) (name:N) (hs:DO):Prop where
 nd:(Gd).Nodup
 has:∀ h∈hs,(so h).isSome
 all:∀ c∈Gd,∀ s∈room c,∃ h∈hs,so h=some s
def Crowd.count {room:wE}{so:si}{ho:tT} (m:zcu) {name:N}{hs:DO} (c:Crowd room so name hs) {ss:List S} (nd:ss.Nodup) (hr:zng):ss.countP (tog room Gd)=hs.length:=by
 rw[List.countP_eq_length_filter];have x:=zjV c.nd;refine Nat.le_antisymm ?_ ?_
 .rw [<- xd3 c.has];show(zpa,Yc.filter _ nd,zyq);show(eE,n,z,e,JR.mp (ZV.mp v).2);show(eE,h,A,D,c.all n z s zPO);exact Ya.mpr (eG h A D)
 .rw [<- xd3 c.has];show(zpa,xfj x λ a _ b _ s C B=>m.inj C B,zyq);show(eE,n,z,e,Ya.mp v);show(zCK,Zm _ z)
noncomputable def upd1 {α β:Type} [zbN] (f:zui) (a:α) (b:β):zui:=λ z=>(Bt,z,a,b,f z)
structure Hand (room:wE) (dom:zAk) (so:si) (ho:tT) (wait:S):Prop where
 iff:(Ef,s≠wait,zMC)
 rm:zML
 no:∀ n,so n≠some wait
 dm:∀ n,zZR=dom n
def Mt.hand {room:wE}{so:si}{ho:tT} (m:zcu) {s:S} (h:FF):zss (λ n=>zZR) :=
 (fh,λ n s _=>m.iff n s,m.rm,λ n e=>(NC,(m.iff n s).mp e,h),re)
def Hand.step {room:wE}{dom:zAk}{so:si}{ho:tT}{s s1:S}{a:N} (g:zss dom) (ra:G6) (e:zTX):Hand room dom (upd1 so a s) (upd1 ho s a) s1:=by
 show(fR,q,s1≠s,λ z=>g.no a (z▸e),(fh,fJ n x h,fJ n x h,eQ n h,iy n))
 .ext zTE
  .ext zOF
   .rw [fe h2,h2];simp
   .ext mz h2;constructor
    .ext Xs h2
    .intro z
     have:=(qar).mpr z;rw[e] at this;show(jB,(ZR.inj this).symm,h)
  .ext zVD
   .ext zTV
    .ext zVf
    .ext Xs h1
   .ext zQB
 .ext zTD
  .ext zWV zyZ
  .exact g.rm n x h
 .ext zTD
  .exact q (zyZ).symm
  .rename_i h1
   show(lM,x1,(g.iff n s1 q).mp h,(g.iff a s1 q).mp e);exact h1 (ZR.inj x1).symm
 .unfold upd1;split
  .rename_i h1
   rw[h1,<- g.dm a,e];rfl
  .exact g.dm n
def Hand.last {room:wE}{dom:zAk}{so:si}{ho:tT}{s:S}{a:N} (g:zss dom) (ra:G6) (e:G0 a):Mt room (upd1 so a s) (upd1 ho s a)/\∀ n,(upd1 so a s n).isSome=((i9 n a)||dom n):=by
 show(nM,⟨eQ n x,fJ n x hx⟩,iy n)
 .ext zTE
  .ext zOF
   .rw [fe h2,h2];simp
   .ext mz h2;constructor
    .ext Xs h2
    .intro z
     show(zst,(qar).mpr z)
  .ext zVD
   .ext zTV
    .ext zVf
    .ext Xs h1
   .ext zQB
 .unfold upd1 at hx;split at hx
  .ext zWV zwY
  .exact g.rm n x hx
 .unfold upd1;split
  .rename_i h1
   simp[h1]
  .rename_i h1
   rw[<- g.dm n];simp[h1]
#check _
inductive Rch {α:Type} (f:RG):iA α α
 | refl (a:α):Rch f a a
 | step {a b c:α}:Sm->f b=some c->zfl
theorem Rch.trans {α:Type}{f:RG}{a b c:α} (h:Sm) (g:Rch f b c):zfl:=by
 induction g with
 | refl=>exact h
 | step _ e ih=>exact .step ih e
theorem Rch.head {α:Type}{f:RG}{a b:α} (h:Sm):a=b\/∃ d,f a=some d/\Rch f d b:=by
 induction h with
 | refl=>ext A5
 | step g e ih =>
  rcases ih with rfl|⟨d,m,j⟩
  .show(iY,hB e ME)
  .show(iY,(eG,d,m,.step j e))
theorem Rch.lin {α:Type}{f:RG}{a b c:α} (h:Sm) (g:zfl):Rch f b c\/Rch f c b:=by
 induction h with
 | refl=>ext je g
 | step h e ih =>
  rcases ih with z|z
  .rcases z.head with rfl|⟨d,j,m⟩
   .show(iY,.step ME e)
   .rw [e] at j;cases j;ext je m
  .show(iY,.step z e)
def Rch.det {α:Type}{f:RG}{a b c:α} (h:Sm) (n1:f b=none) (g:zfl) (n2:f c=none):b=c:=by
 rcases h.lin g with z|z
 .rcases z.head with e|⟨d,j,_⟩
  .exact e
  .ext Bp n1 j
 .rcases z.head with e|⟨d,j,_⟩
  .exact e.symm
  .ext Bp n2 j
inductive KS (N S:Type) where
 | ask (crowd:DO) (asked:tT) (i j:Nat)
 | hand (so:si) (ho:tT) (asked:tT) (s:S)
 | out (crowd:DO)
 | fin (so:si) (ho:tT)
section
variable {N S:Type} [DecidableEq N] [DecidableEq S]
noncomputable def kstep (room:wE) (so:si) (ho:tT):KS N S->(iH (KS N S))
 | Gc=>match crowd[i]? with
  | none=>some (.out crowd)
  | some a=>match DW[j]? with
   | none=>some (Rs f7 0)
   | some s=>match oA with
    | zjG=>some (Rs i oR)
    | none=>match Ob with
     | none=>some zTJ
     | some h=>some zUK
 | zdd=>match oA with
  | none=>none
  | some a=>match so1 a with
   | none=>some (.fin zto ztq)
   | some l=>some zPj
 | .out _=>none
 | .fin _ _=>none
variable {room:N->List S}{so so1:N->Option S}{ho ho1 asked:S->Option N}{crowd:List N}{i j:Nat}{a h:N}{s l:S}
def k_end (e:crowd[i]?=none):EH Gc (.out crowd):=by
 simp only[kstep,e]
def k_next (e:Cr) (e2:DW[j]?=none):EH Gc (Rs f7 0):=by
 ext zrE
def k_old (e:Cr) (e2:zwV) (e3:asked s=some h):EH Gc (Rs i oR):=by
 simp only[kstep,e,e2,e3]
def k_free (e:Cr) (e2:zwV) (e3:PR) (e4:FF):EH Gc zTJ:=by
 simp only[kstep,e,e2,e3,e4]
def k_grow (e:Cr) (e2:zwV) (e3:PR) (e4:Kc):EH Gc zUK:=by
 simp only[kstep,e,e2,e3,e4]
def k_hand (e:zQ) (e2:so1 a=some l):EH zdd zPj:=by
 ext zrE
def k_fin (e:zQ) (e2:so1 a=none):EH zdd (.fin zto ztq):=by
 ext zrE
#check _
#check Kp
namespace Geo
noncomputable def vr (v y r:Int):Prop:=zsD
noncomputable def hz (b:Bool) (u x:Int):Prop:=(zG,u<=x,x<=u)
#check Geo
namespace S81
open PySem L2 XL
def hmm {j k A}(r:L2.Room true k A)(h:autoParam (j<=k) aDec._auto_1):L2.Room true j A:=r.mono h
noncomputable def top (i:Nat):Stmt:=PySem.Challenge.pw_rimnotes_k81_deeds_of_a_hand.main.body.getD i (.Pass zsE)
noncomputable abbrev s_bq:Stmt:=qF 4
noncomputable abbrev s_br:Stmt:=qF 5
noncomputable abbrev s_bf:Stmt:=qF 6
noncomputable abbrev s_a5:Stmt:=qF 7
noncomputable abbrev s_a6:Stmt:=qF 8
noncomputable abbrev s_bg:Stmt:=qF 9
noncomputable abbrev s_av:Stmt:=qF 11
noncomputable abbrev s_bh:Stmt:=qF 12
noncomputable abbrev s_bs:Stmt:=qF 13
noncomputable abbrev s_b3:Stmt:=qF 14
noncomputable abbrev s_bi:Stmt:=qF 15
noncomputable abbrev s_bt:Stmt:=qF 16
noncomputable abbrev s_bj:Stmt:=qF 19
noncomputable abbrev s_bn:Stmt:=rD 20 1
noncomputable abbrev s_a9:Stmt:=rD 20 2
noncomputable abbrev s_at:Stmt:=rD 20 3
noncomputable abbrev s_bd:Stmt:=rD 21 1
noncomputable abbrev s_a3:Stmt:=rD 21 2
noncomputable abbrev s_ao:Stmt:=rD 21 3
noncomputable abbrev s_a1:Stmt:=top 22
noncomputable abbrev s_bx:Stmt:=top 24
noncomputable abbrev xfw:Stmt:=top 26
noncomputable abbrev xhr:Stmt:=top 27
noncomputable abbrev s_b7:Stmt:=top 29
noncomputable abbrev xf0:Stmt:=top 31
noncomputable abbrev s_bl:Stmt:=top 32
noncomputable abbrev xeu:Stmt:=top 33
noncomputable abbrev s_a0:Stmt:=top 34
noncomputable abbrev xdy:Stmt:=top 35
noncomputable abbrev xgb:Stmt:=top 36
noncomputable abbrev s_a7:Stmt:=qF 38
noncomputable abbrev s_ai:Stmt:=rD 38 1
noncomputable abbrev s_t:Stmt:=rD 38 2
noncomputable abbrev xgw:Stmt:=top 39
noncomputable abbrev xlo:Stmt:=top 40
noncomputable abbrev s_by:Stmt:=top 41
noncomputable abbrev xg5:Stmt:=top 43
noncomputable abbrev s_bm:Stmt:=qF 46
noncomputable abbrev s_az:Stmt:=rD 46 1
noncomputable abbrev s_aw:Stmt:=rD 46 2
noncomputable abbrev s_ar:Stmt:=rD 46 3
noncomputable abbrev s_y:Stmt:=rD 46 4
noncomputable abbrev xhw:Stmt:=top 47
noncomputable abbrev xii:Stmt:=top 49
noncomputable abbrev s_b4:Stmt:=top 50
noncomputable abbrev s_cb:Stmt:=qF 52
noncomputable abbrev s_c:Stmt:=xC 1
noncomputable abbrev s_ci:Stmt:=xC 2
noncomputable abbrev s_b9:Stmt:=xC 3
noncomputable abbrev s_ca:Stmt:=xC 4
noncomputable abbrev s_ce:Stmt:=xC 5
noncomputable abbrev s_b1:Stmt:=xC 6
noncomputable abbrev s_aj:Stmt:=xC 7
noncomputable abbrev s_bz:Stmt:=xC 8
noncomputable abbrev s_b0:Stmt:=xC 9
noncomputable abbrev s_ap:Stmt:=xC 10
noncomputable abbrev s_al:Stmt:=xC 11
noncomputable abbrev s_bk:Stmt:=top 53
noncomputable abbrev s_an:Stmt:=top 55
noncomputable abbrev s_b5:Stmt:=top 56
noncomputable abbrev s_a8:Stmt:=pH 0
noncomputable abbrev s_b:Stmt:=pH 1
noncomputable abbrev s_ba:Stmt:=pH 2
noncomputable abbrev s_bb:Stmt:=pH 3
noncomputable abbrev s_o:Stmt:=pH 4
noncomputable abbrev s_s:Stmt:=pH 5
noncomputable abbrev s_n:Stmt:=pH 6
noncomputable abbrev s_j:Stmt:=pH 7
noncomputable abbrev s_ae:Stmt:=pH 8
noncomputable abbrev s_as:Stmt:=pH 9
noncomputable abbrev s_am:Stmt:=pH 10
noncomputable abbrev s_af:Stmt:=pH 11
noncomputable abbrev s_ax:Stmt:=pH 12
noncomputable abbrev s_e:Stmt:=pH 15
noncomputable abbrev s_ab:Stmt:=pH 16
noncomputable abbrev s_p:Stmt:=pH 17
noncomputable abbrev s_h:Stmt:=pH 18
noncomputable abbrev s_au:Stmt:=top 63
noncomputable abbrev s_aq:Stmt:=top 65
noncomputable abbrev s_b2:Stmt:=top 66
noncomputable abbrev s_b8:Stmt:=top 68
noncomputable abbrev s_be:Stmt:=top 69
noncomputable abbrev s_cd:Stmt:=top 70
noncomputable abbrev s_ak:Stmt:=top 71
noncomputable abbrev s_bc:Stmt:=top 72
noncomputable abbrev s_l:Stmt:=top 73
noncomputable abbrev s_bu:Stmt:=top 74
noncomputable abbrev s_bw:Stmt:=top 75
noncomputable abbrev s_a2:Stmt:=top 76
noncomputable abbrev s_bv:Stmt:=top 77
noncomputable abbrev s_bp:Stmt:=top 78
noncomputable abbrev xoz:Stmt:=top 79
set_option genInjectivity false in
set_option genSizeOf false in
set_option genInjectivity false in
set_option genSizeOf false in
structure Adr where
 f_bq:Addr
 d_bq:FuncData
 f_br:Addr
 d_br:FuncData
 f_bf:Addr
 d_bf:FuncData
 f_a5:Addr
 d_a5:FuncData
 f_a6:Addr
 d_a6:FuncData
 f_bg:Addr
 d_bg:FuncData
 f_av:Addr
 d_av:FuncData
 f_bh:Addr
 d_bh:FuncData
 f_bs:Addr
 d_bs:FuncData
 f_b3:Addr
 d_b3:FuncData
 f_bi:Addr
 d_bi:FuncData
 f_bt:Addr
 d_bt:FuncData
 f_bj:Addr
 d_bj:FuncData
 f_bn:Addr
 d_bn:FuncData
 f_a9:Addr
 d_a9:FuncData
 f_at:Addr
 d_at:FuncData
 f_bd:Addr
 d_bd:FuncData
 f_a3:Addr
 d_a3:FuncData
 f_ao:Addr
 d_ao:FuncData
 f_a1:Addr
 d_a1:FuncData
 f_bx:Addr
 d_bx:FuncData
 f_meeting:Addr
 d_meeting:FuncData
 f_total:Addr
 d_total:FuncData
 f_b7:Addr
 d_b7:FuncData
 f_upright:Addr
 d_upright:FuncData
 f_bl:Addr
 d_bl:FuncData
 f_exchangeable:Addr
 d_exchangeable:FuncData
 f_a0:Addr
 d_a0:FuncData
 f_exchanged:Addr
 d_exchanged:FuncData
 f_uncrossed:Addr
 d_uncrossed:FuncData
 f_a7:Addr
 d_a7:FuncData
 f_ai:Addr
 d_ai:FuncData
 f_t:Addr
 d_t:FuncData
 f_crowds:Addr
 d_crowds:FuncData
 f_fits:Addr
 d_fits:FuncData
 f_by:Addr
 d_by:FuncData
 f_kept:Addr
 d_kept:FuncData
 f_bm:Addr
 d_bm:FuncData
 f_az:Addr
 d_az:FuncData
 f_aw:Addr
 d_aw:FuncData
 f_ar:Addr
 d_ar:FuncData
 f_y:Addr
 d_y:FuncData
 f_least:Addr
 d_least:FuncData
 f_answer:Addr
 d_answer:FuncData
 f_b4:Addr
 d_b4:FuncData
 f_cb:Addr
 d_cb:FuncData
 f_c:Addr
 d_c:FuncData
 T_c:Addr
 f_ci:Addr
 d_ci:FuncData
 f_b9:Addr
 d_b9:FuncData
 f_ca:Addr
 d_ca:FuncData
 f_ce:Addr
 d_ce:FuncData
 f_b1:Addr
 d_b1:FuncData
 f_aj:Addr
 d_aj:FuncData
 f_bz:Addr
 d_bz:FuncData
 f_b0:Addr
 d_b0:FuncData
 f_ap:Addr
 d_ap:FuncData
 f_al:Addr
 d_al:FuncData
 f_bk:Addr
 d_bk:FuncData
 f_an:Addr
 d_an:FuncData
 f_b5:Addr
 d_b5:FuncData
 f_a8:Addr
 d_a8:FuncData
 f_b:Addr
 d_b:FuncData
 T_b:Addr
 f_ba:Addr
 d_ba:FuncData
 f_bb:Addr
 d_bb:FuncData
 f_o:Addr
 d_o:FuncData
 f_s:Addr
 d_s:FuncData
 f_n:Addr
 d_n:FuncData
 f_j:Addr
 d_j:FuncData
 f_ae:Addr
 d_ae:FuncData
 f_as:Addr
 d_as:FuncData
 f_am:Addr
 d_am:FuncData
 f_af:Addr
 d_af:FuncData
 f_ax:Addr
 d_ax:FuncData
 f_e:Addr
 d_e:FuncData
 f_ab:Addr
 d_ab:FuncData
 f_p:Addr
 d_p:FuncData
 f_h:Addr
 d_h:FuncData
 f_au:Addr
 d_au:FuncData
 f_aq:Addr
 d_aq:FuncData
 f_b2:Addr
 d_b2:FuncData
 f_b8:Addr
 d_b8:FuncData
 f_be:Addr
 d_be:FuncData
 f_cd:Addr
 d_cd:FuncData
 f_ak:Addr
 d_ak:FuncData
 f_bc:Addr
 d_bc:FuncData
 f_l:Addr
 d_l:FuncData
 f_bu:Addr
 d_bu:FuncData
 f_bw:Addr
 d_bw:FuncData
 f_a2:Addr
 d_a2:FuncData
 f_bv:Addr
 d_bv:FuncData
 f_bp:Addr
 d_bp:FuncData
 f_law:Addr
 d_law:FuncData
 C_a4:Addr
 C_ah:Addr
 C_z:Addr
 C_g:Addr
 C_f:Addr
 C_k:Addr
 C_r:Addr
 C_w:Addr
 C_d:Addr
 C_u:Addr
 C_v:Addr
 C_ay:Addr
 C_q:Addr
 C_ac:Addr
 C_dd:Addr
 C_x:Addr
 C_m:Addr
 C_aa:Addr
 C_i:Addr
 C_ag:Addr
 C_a:Addr
 D_ad:Addr
structure GB (K:Zd) (mg:im) (g x q:Str) (st:Stmt) (ps:eO) (f:Addr) (fd:FuncData):Prop where
 g:jZ g f
 F:Ce
 b:zgV
structure MB (K:Zd) (C:Addr) (m x q:Str) (st:Stmt) (ps:eO) (f:Addr) (fd:FuncData):Prop where
 F:Ce
 b:zgV
 m:Meth K C m f
structure Txt (w:World) (K:Zd) (mg:im) (t:Adr):Prop where
 g_a4:jZ "RimError" t.C_a4
 g_ah:jZ "NoName" t.C_ah
 g_z:jZ "NoCell" t.C_z
 g_g:jZ "NoSides" t.C_g
 g_f:jZ "NoWindow" t.C_f
 g_k:jZ "OldPoint" t.C_k
 g_r:jZ "NoPoint" t.C_r
 g_w:jZ "TooMany" t.C_w
 g_d:jZ "SameColumn" t.C_d
 g_u:jZ "SameRow" t.C_u
 g_v:jZ "NoSide" t.C_v
 g_ay:jZ "NoRow" t.C_ay
 g_q:jZ "OldSeat" t.C_q
 g_ac:jZ "NoSeat" t.C_ac
 g_x:jZ "LeftSide" t.C_x
 g_m:jZ "RightSide" t.C_m
 g_aa:jZ "Seating" t.C_aa
 g_i:jZ "Prices" t.C_i
 g_ag:jZ "Hand" t.C_ag
 g_a:jZ "Picture" t.C_a
 bq:oU t.C_ah "NoName.__init__" s_bq jy t.f_bq t.d_bq
 br:oU t.C_z "NoCell.__init__" s_br Cp t.f_br t.d_br
 bf:oU t.C_g "NoSides.__init__" s_bf (um "sides") t.f_bf t.d_bf
 a5:oU t.C_f "NoWindow.__init__" s_a5 zaC t.f_a5 t.d_a5
 a6:oU t.C_k "OldPoint.__init__" s_a6 jy t.f_a6 t.d_a6
 bg:oU t.C_r "NoPoint.__init__" s_bg jy t.f_bg t.d_bg
 av:oU t.C_d "SameColumn.__init__" s_av jy t.f_av t.d_av
 bh:oU t.C_u "SameRow.__init__" s_bh jy t.f_bh t.d_bh
 bs:oU t.C_v "NoSide.__init__" s_bs (um "side") t.f_bs t.d_bs
 b3:oU t.C_ay "NoRow.__init__" s_b3 (um "row") t.f_b3 t.d_b3
 bi:oU t.C_q "OldSeat.__init__" s_bi nA t.f_bi t.d_bi
 bt:oU t.C_ac "NoSeat.__init__" s_bt nA t.f_bt t.d_bt
 bj:oU t.C_dd "Side.__init__" s_bj (um "width") t.f_bj t.d_bj
 bn:MB K t.C_x "rim" "rim" "LeftSide.rim" s_bn iU t.f_bn t.d_bn
 a9:MB K t.C_x "way" "way" "LeftSide.way" s_a9 iU t.f_a9 t.d_a9
 B_at:MB K t.C_x "across" "across" "LeftSide.across" s_at C6 t.f_at t.d_at
 bd:MB K t.C_m "rim" "rim" "RightSide.rim" s_bd iU t.f_bd t.d_bd
 a3:MB K t.C_m "way" "way" "RightSide.way" s_a3 iU t.f_a3 t.d_a3
 ao:MB K t.C_m "across" "across" "RightSide.across" s_ao C6 t.f_ao t.d_ao
 a1:iB "side_of" "side_of" "side_of" s_a1 Pe t.f_a1 t.d_a1
 bx:iB "cells_of" "cells_of" "cells_of" s_bx zls t.f_bx t.d_bx
 B_meeting:iB "meeting" "meeting" "meeting" xfw Ir t.f_meeting t.d_meeting
 B_total:iB "total_meets" "total" "total" xhr nD t.f_total t.d_total
 b7:iB "is_giving" "is_giving" "is_giving" s_b7 zlM t.f_b7 t.d_b7
 B_upright:iB "upright" "upright" "upright" xf0 nD t.f_upright t.d_upright
 bl:iB "upright_of" "upright_of" "upright_of" s_bl zux t.f_bl t.d_bl
 B_exchangeable:iB "exchangeable" "exchangeable" "exchangeable" xeu nD t.f_exchangeable t.d_exchangeable
 a0:iB "may_exchange" "may_exchange" "may_exchange" s_a0 Ir t.f_a0 t.d_a0
 B_exchanged:iB "exchanged" "exchanged" "exchanged" xdy zmi t.f_exchanged t.d_exchanged
 B_uncrossed:iB "uncrossed" "uncrossed" "uncrossed" xgb nD t.f_uncrossed t.d_uncrossed
 a7:oU t.C_aa "Seating.__init__" s_a7 iU t.f_a7 t.d_a7
 ai:MB K t.C_aa "hand_on" "hand_on" "Seating.hand_on" s_ai zmb t.f_ai t.d_ai
 B_t:MB K t.C_aa "crowd_with" "crowd_with" "Seating.crowd_with" s_t znR t.f_t t.d_t
 B_crowds:iB "crowds" "crowds" "crowds" xgw vc t.f_crowds t.d_crowds
 B_fits:iB "fits" "fits" "fits" xlo vc t.f_fits t.d_fits
 B_by:iB "left_out_keeping" "left_out" "left_out" s_by tP t.f_by t.d_by
 B_kept:iB "kept_keeping" "kept" "kept" xg5 tP t.f_kept t.d_kept
 bm:oU t.C_i "Prices.__init__" s_bm Ac t.f_bm t.d_bm
 az:MB K t.C_i "let_in" "let_in" "Prices.let_in" s_az jy t.f_az t.d_az
 aw:MB K t.C_i "ask_on" "ask_on" "Prices.ask_on" s_aw Ix t.f_aw t.d_aw
 ar:MB K t.C_i "nearest" "nearest" "Prices.nearest" s_ar Ix t.f_ar t.d_ar
 B_y:MB K t.C_i "shift_prices" "shift_prices" "Prices.shift_prices" s_y zli t.f_y t.d_y
 B_least:iB "least" "least" "least" xhw vc t.f_least t.d_least
 B_answer:iB "answer" "answer" "answer" xii tP t.f_answer t.d_answer
 b4:iB "is_answer" "is_answer" "is_answer" s_b4 nD t.f_b4 t.d_b4
 cb:oU t.C_ag "Hand.__init__" s_cb Ac t.f_cb t.d_cb
 F_c:FunD K "come" "Hand.come" s_c t.T_c t.f_c t.d_c
 b_de:zEJ t.d_c
 b_c:xb2 K t.d_c zJ []
 ci:yV "go" "Hand.go" s_ci jy t.f_ci t.d_ci
 b9:yV "shift" "Hand.shift" s_b9 wm t.f_b9 t.d_b9
 ca:yV "unbar" "Hand.unbar" s_ca nA t.f_ca t.d_ca
 ce:yV "bar" "Hand.bar" s_ce nA t.f_ce t.d_ce
 b1:yV "kept" "Hand.kept" s_b1 iU t.f_b1 t.d_b1
 aj:yV "left_out" "Hand.left_out" s_aj iU t.f_aj t.d_aj
 bz:yV "pairs" "Hand.pairs" s_bz iU t.f_bz t.d_bz
 b0:yV "total" "Hand.total" s_b0 iU t.f_b0 t.d_b0
 ap:yV "picture_now" "Hand.picture_now" s_ap iU t.f_ap t.d_ap
 al:yV "settled" "Hand.settled" s_al iU t.f_al t.d_al
 bk:iB "moved_names" "moved_names" "moved_names" s_bk zoP t.f_bk t.d_bk
 an:iB "is_whole" "is_whole" "is_whole" s_an OK t.f_an t.d_an
 b5:iB "is_name" "is_name" "is_name" s_b5 Sq t.f_b5 t.d_b5
 a8:oU t.C_a "Picture.__init__" s_a8 XV t.f_a8 t.d_a8
 F_b:FunD K "put" "Picture.put" s_b t.T_b t.f_b t.d_b
 b_dc:zEJ t.d_b
 b_b:xb2 K t.d_b zJ []
 ba:rE "take" "Picture.take" s_ba jy t.f_ba t.d_ba
 bb:rE "move" "Picture.move" s_bb wm t.f_bb t.d_bb
 o:rE "open_seat" "Picture.open_seat" s_o nA t.f_o t.d_o
 s:rE "shut_seat" "Picture.shut_seat" s_s nA t.f_s t.d_s
 n:rE "points" "Picture.points" s_n iU t.f_n t.d_n
 j:rE "seats" "Picture.seats" s_j iU t.f_j t.d_j
 ae:rE "place_of" "Picture.place_of" s_ae jy t.f_ae t.d_ae
 B_as:rE "may" "Picture.may" s_as Ip t.f_as t.d_as
 am:rE "length" "Picture.length" s_am Ip t.f_am t.d_am
 af:rE "seats_for" "Picture.seats_for" s_af jy t.f_af t.d_af
 ax:rE "copied" "Picture.copied" s_ax iU t.f_ax t.d_ax
 e:rE "check_name" "Picture.check_name" s_e jy t.f_e t.d_e
 ab:rE "check_cell" "Picture.check_cell" s_ab Cp t.f_ab t.d_ab
 p:rE "check_lines" "Picture.check_lines" s_p wm t.f_p t.d_p
 h:rE "check_seat" "Picture.check_seat" s_h nA t.f_h t.d_h
 au:iB "picture_with" "picture_with" "picture_with" s_au zlg t.f_au t.d_au
 aq:iB "_law_cell" "_law_cell" "_law_cell" s_aq Xp t.f_aq t.d_aq
 b2:iB "_law_mix" "_law_mix" "_law_mix" s_b2 (zW "_law_k") t.f_b2 t.d_b2
 b8:iB "_law_names" "_law_names" "_law_names" s_b8 (zW "_law_many") t.f_b8 t.d_b8
 be:iB "_law_places" "_law_places" "_law_places" s_be zlv t.f_be t.d_be
 cd:iB "_law_size" "_law_size" "_law_size" s_cd zay t.f_cd t.d_cd
 ak:iB "_law_picture" "_law_picture" "_law_picture" s_ak E1 t.f_ak t.d_ak
 bc:iB "_law_refusal" "_law_refusal" "_law_refusal" s_bc zey t.f_bc t.d_bc
 l:iB "_law_thing" "_law_thing" "_law_thing" s_l (zW "_law_good") t.f_l t.d_l
 bu:iB "_law_deed" "_law_deed" "_law_deed" s_bu zlc t.f_bu t.d_bu
 bw:iB "_law_by_hand" "_law_by_hand" "_law_by_hand" s_bw zaZ t.f_bw t.d_bw
 a2:iB "_law_by_picture" "_law_by_picture" "_law_by_picture" s_a2 Xv t.f_a2 t.d_a2
 bv:iB "_law_both" "_law_both" "_law_both" s_bv zky t.f_bv t.d_bv
 bp:iB "_law_seen" "_law_seen" "_law_seen" s_bp zcx t.f_bp t.d_bp
 g_law:jZ "law" t.f_law
 F_law:Fun K "law" "law" xoz t.f_law t.d_law
 mk_a4:ja t.C_a4
 x_ah:XC K t.C_ah
 mk_ah:ja t.C_ah
 k_ah:XMk K t.C_ah t.f_bq
 x_z:XC K t.C_z
 mk_z:ja t.C_z
 k_z:XMk K t.C_z t.f_br
 x_g:XC K t.C_g
 mk_g:ja t.C_g
 k_g:XMk K t.C_g t.f_bf
 x_f:XC K t.C_f
 mk_f:ja t.C_f
 k_f:XMk K t.C_f t.f_a5
 x_k:XC K t.C_k
 mk_k:ja t.C_k
 k_k:XMk K t.C_k t.f_a6
 x_r:XC K t.C_r
 mk_r:ja t.C_r
 k_r:XMk K t.C_r t.f_bg
 x_w:XC K t.C_w
 mk_w:ja t.C_w
 x_d:XC K t.C_d
 mk_d:ja t.C_d
 k_d:XMk K t.C_d t.f_av
 x_u:XC K t.C_u
 mk_u:ja t.C_u
 k_u:XMk K t.C_u t.f_bh
 x_v:XC K t.C_v
 mk_v:ja t.C_v
 k_v:XMk K t.C_v t.f_bs
 x_ay:XC K t.C_ay
 mk_ay:ja t.C_ay
 k_ay:XMk K t.C_ay t.f_b3
 x_q:XC K t.C_q
 mk_q:ja t.C_q
 k_q:XMk K t.C_q t.f_bi
 x_ac:XC K t.C_ac
 mk_ac:ja t.C_ac
 k_ac:XMk K t.C_ac t.f_bt
 c_x:Cls K t.C_x
 k_x:Mk K t.C_x t.f_bj
 c_m:Cls K t.C_m
 k_m:Mk K t.C_m t.f_bj
 c_aa:Cls K t.C_aa
 k_aa:Mk K t.C_aa t.f_a7
 c_i:Cls K t.C_i
 k_i:Mk K t.C_i t.f_bm
 c_ag:Cls K t.C_ag
 k_ag:Mk K t.C_ag t.f_cb
 m_c:Meth K t.C_ag "come" t.f_c
 c_a:Cls K t.C_a
 k_a:Mk K t.C_a t.f_a8
 m_b:Meth K t.C_a "put" t.f_b
 cg:zkS
 ct:zmc
 n_cl:mD t.C_m "width"
 n_bo:ziG "placed"
 n_b6:ziG "height"
 n_cc:ziG "width"
 n_cg:ziG "opened"
 n_ch:mD t.C_aa "holder_of"
 n_cj:mD t.C_aa "seat_of"
 n_cm:Uc "lengths"
 n_cq:Uc "own"
 n_cr:Uc "rent"
 n_ck:Uc "seating"
 n_cn:Uc "picture"
 n_cf:mD t.C_ag "picture"
 n_co:mD t.C_ag "given"
 n_c2:S0 t.C_ah
 n_c9:mD t.C_z "x"
 n_da:mD t.C_z "y"
 n_cu:mD t.C_g "sides"
 n_cy:mD t.C_f "low"
 n_cv:mD t.C_f "high"
 n_cw:S0 t.C_k
 n_cp:S0 t.C_d
 n_cz:S0 t.C_u
 n_c0:S0 t.C_r
 n_c3:mD t.C_v "side"
 n_c8:mD t.C_ay "row"
 n_c1:mD t.C_q "side"
 n_c4:mD t.C_q "row"
 n_c5:mD t.C_ac "side"
 n_c7:mD t.C_ac "row"
 n_cs:mD t.C_x "width"
 n_abs:qe "abs"
 n_all:qe "all"
 n_bool:qe "bool"
 n_dict:qe "dict"
 n_enumerate:qe "enumerate"
 n_int:qe "int"
 n_isinstance:qe "isinstance"
 n_len:qe "len"
 n_list:qe "list"
 n_min:qe "min"
 n_range:qe "range"
 n_set:qe "set"
 n_sorted:qe "sorted"
 n_str:qe "str"
 n_sum:qe "sum"
 n_zip:qe "zip"
 mro_ah:sj t.C_ah
 mro_z:sj t.C_z
 mro_g:sj t.C_g
 mro_f:sj t.C_f
 mro_k:sj t.C_k
 mro_w:sj t.C_w
 ns_w:xno0 K t.C_w=true
 ns_db:li t.C_w
 mro_d:sj t.C_d
 mro_u:sj t.C_u
 mro_r:sj t.C_r
 mro_v:sj t.C_v
 mro_ay:sj t.C_ay
 mro_q:sj t.C_q
 mro_ac:sj t.C_ac
 kits:zzo [t.C_ah,t.C_z,t.C_g,t.C_f,t.C_k,t.C_w,t.C_d,t.C_u,t.C_r,t.C_v,t.C_ay,t.C_q,t.C_ac]
 v_c6:zna "MOST_ROWS" 16
 v_ct:zna "MOST_COLUMNS" 30
 v_cx:zna "MOST_POINTS" 12
 g_ad:jZ "MIRRORED_SIDES" t.D_ad
 D_ad:xpq w K t.D_ad [(.inr "left",zda),(.inr "right",.str "left"),(.inr "both",wG)]
@[elab_as_elim] theorem xzc {α:Type}{P:SO}:OD 1 (∀ a0,P [a0])
 | [a0],_,h=>h a0
@[elab_as_elim] theorem x0j {α:Type}{P:SO}:OD 2 (∀ a0 a1,P zih)
 | zih,_,h=>h a0 a1
@[elab_as_elim] theorem xy7 {α:Type}{P:SO}:OD 3 (∀ a0 a1 a2,P zeG)
 | zeG,_,h=>h a0 a1 a2
@[elab_as_elim] theorem xo8 {α:Type}{P:SO}:OD 4 (∀ a0 a1 a2 a3,P zcA)
 | zcA,_,h=>h a0 a1 a2 a3
@[elab_as_elim] theorem xt7 {α:Type}{P:SO}:OD 7 (∀ a0 a1 a2 a3 a4 a5 a6,P zMc)
 | zMc,_,h=>h a0 a1 a2 a3 a4 a5 a6
noncomputable def gI (K:Zd) (n:Str) (a:Addr):Prop:=zoi n jS
noncomputable def gN (K:Zd) (n:Str):Prop:=zoi n none
noncomputable def fN (K:Zd) (C:Addr) (n:Str):Prop:=zpo n
noncomputable def fI (K:Zd) (C:Addr) (n:Str) (a:Addr):Prop:=Fj n jS
noncomputable def fB (K:Zd) (C:Addr) (n:Str) (b:String):Prop:=Fj n (some (.builtin b))
def bi_1 {K:Zd}{x q:Str}{st:Stmt}{f:Addr}{fd:FuncData}{p0:Str} (F:Ce) (h:zkw (Jd x q mP kN kE .none kV doc pm an cdv ct):=by ext uz):S6 [p0]:=(Xj,xzc us j (h a b c d e f))
def bi_2 {K:Zd}{x q:Str}{st:Stmt}{f:Addr}{fd:FuncData}{p0 p1:Str} (F:Ce) (h:zkx (Jd x q mP kN kE .none kV doc pm an cdv ct):=by ext uz):S6 zid:=(Xj,x0j us j (h a b c d e f))
def bi_3 {K:Zd}{x q:Str}{st:Stmt}{f:Addr}{fd:FuncData}{p0 p1 p2:Str} (F:Ce) (h:zkv (Jd x q mP kN kE .none kV doc pm an cdv ct):=by ext uz):S6 zeD:=(Xj,xy7 us j (h a b c d e f))
def bi_4 {K:Zd}{x q:Str}{st:Stmt}{f:Addr}{fd:FuncData}{p0 p1 p2 p3:Str} (F:Ce) (h:zkt (Jd x q mP kN kE .none kV doc pm an cdv ct):=by ext uz):S6 zcy:=(Xj,xo8 us j (h a b c d e f))
structure GH (K:Zd) (g x q:Str) (st:Stmt) (f:Addr) (fd:FuncData):Prop where
 a:gI K g f
 F:Ce
structure MH (K:Zd) (C:Addr) (m x q:Str) (st:Stmt) (f:Addr) (fd:FuncData):Prop where
 a:fI K C m f
 F:Ce
 i:Ur
def gb_1 {K:Zd}{h:Heap}{mg:im}{g x q:Str}{st:Stmt}{f:Addr}{fd:FuncData}{p0:Str} (X:Bb) (G:EL) (H:zas) (hb:zkw (Jd x q mP kN kE .none kV doc pm an cdv ct):=by ext uz):zbC [p0]:=(zbY,bi_1 H.F hb)
def mb_1 {K:Zd}{C:Addr}{m x q:Str}{st:Stmt}{f:Addr}{fd:FuncData}{p0:Str} (H:X6) (hb:zkw (Jd x q mP kN kE .none kV doc pm an cdv ct):=by ext uz):zaG [p0]:=(gF,H.F,bi_1 H.F hb,H.a,H.i,H.F.kp)
def gb_2 {K:Zd}{h:Heap}{mg:im}{g x q:Str}{st:Stmt}{f:Addr}{fd:FuncData}{p0 p1:Str} (X:Bb) (G:EL) (H:zas) (hb:zkx (Jd x q mP kN kE .none kV doc pm an cdv ct):=by ext uz):zbC zid:=(zbY,bi_2 H.F hb)
def mb_2 {K:Zd}{C:Addr}{m x q:Str}{st:Stmt}{f:Addr}{fd:FuncData}{p0 p1:Str} (H:X6) (hb:zkx (Jd x q mP kN kE .none kV doc pm an cdv ct):=by ext uz):zaG zid:=(gF,H.F,bi_2 H.F hb,H.a,H.i,H.F.kp)
def gb_3 {K:Zd}{h:Heap}{mg:im}{g x q:Str}{st:Stmt}{f:Addr}{fd:FuncData}{p0 p1 p2:Str} (X:Bb) (G:EL) (H:zas) (hb:zkv (Jd x q mP kN kE .none kV doc pm an cdv ct):=by ext uz):zbC zeD:=(zbY,bi_3 H.F hb)
def mb_3 {K:Zd}{C:Addr}{m x q:Str}{st:Stmt}{f:Addr}{fd:FuncData}{p0 p1 p2:Str} (H:X6) (hb:zkv (Jd x q mP kN kE .none kV doc pm an cdv ct):=by ext uz):zaG zeD:=(gF,H.F,bi_3 H.F hb,H.a,H.i,H.F.kp)
def gb_4 {K:Zd}{h:Heap}{mg:im}{g x q:Str}{st:Stmt}{f:Addr}{fd:FuncData}{p0 p1 p2 p3:Str} (X:Bb) (G:EL) (H:zas) (hb:zkt (Jd x q mP kN kE .none kV doc pm an cdv ct):=by ext uz):zbC zcy:=(zbY,bi_4 H.F hb)
def mb_4 {K:Zd}{C:Addr}{m x q:Str}{st:Stmt}{f:Addr}{fd:FuncData}{p0 p1 p2 p3:Str} (H:X6) (hb:zkt (Jd x q mP kN kE .none kV doc pm an cdv ct):=by ext uz):zaG zcy:=(gF,H.F,bi_4 H.F hb,H.a,H.i,H.F.kp)
def txt_mk {w:World}{K:Zd}{h:Heap}{mg:im} (X:Bb) (G:EL) {C_a4 C_ah C_z C_g C_f C_k C_r C_w C_d C_u C_v C_ay C_q C_ac C_dd C_x C_m C_aa C_i C_ag C_a f_bq f_br f_bf f_a5 f_a6 f_bg f_av f_bh f_bs f_b3 f_bi f_bt f_bj f_bn f_a9 f_at f_bd f_a3 f_ao f_a1 f_bx f_meeting f_total f_b7 f_upright f_bl f_exchangeable f_a0 f_exchanged f_uncrossed f_a7 f_ai f_t f_crowds f_fits f_by f_kept f_bm f_az f_aw f_ar f_y f_least f_answer f_b4 f_cb f_c T_c f_ci f_b9 f_ca f_ce f_b1 f_aj f_bz f_b0 f_ap f_al f_bk f_an f_b5 f_a8 f_b T_b f_ba f_bb f_o f_s f_n f_j f_ae f_as f_am f_af f_ax f_e f_ab f_p f_h f_au f_aq f_b2 f_b8 f_be f_cd f_ak f_bc f_l f_bu f_bw f_a2 f_bv f_bp f_law:Addr}{d_bq d_br d_bf d_a5 d_a6 d_bg d_av d_bh d_bs d_b3 d_bi d_bt d_bj d_bn d_a9 d_at d_bd d_a3 d_ao d_a1 d_bx d_meeting d_total d_b7 d_upright d_bl d_exchangeable d_a0 d_exchanged d_uncrossed d_a7 d_ai d_t d_crowds d_fits d_by d_kept d_bm d_az d_aw d_ar d_y d_least d_answer d_b4 d_cb d_ci d_b9 d_ca d_ce d_b1 d_aj d_bz d_b0 d_ap d_al d_bk d_an d_b5 d_a8 d_ba d_bb d_o d_s d_n d_j d_ae d_as d_am d_af d_ax d_e d_ab d_p d_h d_au d_aq d_b2 d_b8 d_be d_cd d_ak d_bc d_l d_bu d_bw d_a2 d_bv d_bp d_law:FuncData}{oc_c kv_c dc_c pm_c cd_c ct_c:Value}{od_c an_c:i5}{sl_c:zM}{oc_b kv_b dc_b pm_b cd_b ct_b:Value}{od_b an_b:i5}{sl_b:zM}{tk0_c:Tok}{tk1_c:Tok}{tk0_b:Tok}{tk1_b:Tok}{toc_c:Value}{tod_c:i5}{tn_c:Nat}{tsl_c:zM}{toc_b:Value}{tod_b:i5}{tn_b:Nat}{tsl_b:zM}{tkc_c6:Tok}{tkc_ct:Tok}{tkc_cx:Tok}{D_ad:Addr}{ta0_ad tb0_ad:Tok}{ta1_ad tb1_ad:Tok}{ta2_ad tb2_ad:Tok}{ep_ad:Nat}
 (g_a4:gI K "RimError" C_a4)
 (g_ah:gI K "NoName" C_ah)
 (g_z:gI K "NoCell" C_z)
 (g_g:gI K "NoSides" C_g)
 (g_f:gI K "NoWindow" C_f)
 (g_k:gI K "OldPoint" C_k)
 (g_r:gI K "NoPoint" C_r)
 (g_w:gI K "TooMany" C_w)
 (g_d:gI K "SameColumn" C_d)
 (g_u:gI K "SameRow" C_u)
 (g_v:gI K "NoSide" C_v)
 (g_ay:gI K "NoRow" C_ay)
 (g_q:gI K "OldSeat" C_q)
 (g_ac:gI K "NoSeat" C_ac)
 (g_dd:gI K "Side" C_dd)
 (g_x:gI K "LeftSide" C_x)
 (g_m:gI K "RightSide" C_m)
 (g_aa:gI K "Seating" C_aa)
 (g_i:gI K "Prices" C_i)
 (g_ag:gI K "Hand" C_ag)
 (g_a:gI K "Picture" C_a)
 (B_bq:oS C_ah "NoName.__init__" s_bq f_bq d_bq)
 (B_br:oS C_z "NoCell.__init__" s_br f_br d_br)
 (B_bf:oS C_g "NoSides.__init__" s_bf f_bf d_bf)
 (B_a5:oS C_f "NoWindow.__init__" s_a5 f_a5 d_a5)
 (B_a6:oS C_k "OldPoint.__init__" s_a6 f_a6 d_a6)
 (B_bg:oS C_r "NoPoint.__init__" s_bg f_bg d_bg)
 (B_av:oS C_d "SameColumn.__init__" s_av f_av d_av)
 (B_bh:oS C_u "SameRow.__init__" s_bh f_bh d_bh)
 (B_bs:oS C_v "NoSide.__init__" s_bs f_bs d_bs)
 (B_b3:oS C_ay "NoRow.__init__" s_b3 f_b3 d_b3)
 (B_bi:oS C_q "OldSeat.__init__" s_bi f_bi d_bi)
 (B_bt:oS C_ac "NoSeat.__init__" s_bt f_bt d_bt)
 (B_bj:oS C_dd "Side.__init__" s_bj f_bj d_bj)
 (B_bn:MH K C_x "rim" "rim" "LeftSide.rim" s_bn f_bn d_bn)
 (B_a9:MH K C_x "way" "way" "LeftSide.way" s_a9 f_a9 d_a9)
 (B_at:MH K C_x "across" "across" "LeftSide.across" s_at f_at d_at)
 (B_bd:MH K C_m "rim" "rim" "RightSide.rim" s_bd f_bd d_bd)
 (B_a3:MH K C_m "way" "way" "RightSide.way" s_a3 f_a3 d_a3)
 (B_ao:MH K C_m "across" "across" "RightSide.across" s_ao f_ao d_ao)
 (B_a1:GH K "side_of" "side_of" "side_of" s_a1 f_a1 d_a1)
 (B_bx:GH K "cells_of" "cells_of" "cells_of" s_bx f_bx d_bx)
 (B_meeting:GH K "meeting" "meeting" "meeting" xfw f_meeting d_meeting)
 (B_total:GH K "total_meets" "total" "total" xhr f_total d_total)
 (B_b7:GH K "is_giving" "is_giving" "is_giving" s_b7 f_b7 d_b7)
 (B_upright:GH K "upright" "upright" "upright" xf0 f_upright d_upright)
 (B_bl:GH K "upright_of" "upright_of" "upright_of" s_bl f_bl d_bl)
 (B_exchangeable:GH K "exchangeable" "exchangeable" "exchangeable" xeu f_exchangeable d_exchangeable)
 (B_a0:GH K "may_exchange" "may_exchange" "may_exchange" s_a0 f_a0 d_a0)
 (B_exchanged:GH K "exchanged" "exchanged" "exchanged" xdy f_exchanged d_exchanged)
 (B_uncrossed:GH K "uncrossed" "uncrossed" "uncrossed" xgb f_uncrossed d_uncrossed)
 (B_a7:oS C_aa "Seating.__init__" s_a7 f_a7 d_a7)
 (B_ai:MH K C_aa "hand_on" "hand_on" "Seating.hand_on" s_ai f_ai d_ai)
 (B_t:MH K C_aa "crowd_with" "crowd_with" "Seating.crowd_with" s_t f_t d_t)
 (B_crowds:GH K "crowds" "crowds" "crowds" xgw f_crowds d_crowds)
 (B_fits:GH K "fits" "fits" "fits" xlo f_fits d_fits)
 (B_by:GH K "left_out_keeping" "left_out" "left_out" s_by f_by d_by)
 (B_kept:GH K "kept_keeping" "kept" "kept" xg5 f_kept d_kept)
 (B_bm:oS C_i "Prices.__init__" s_bm f_bm d_bm)
 (B_az:MH K C_i "let_in" "let_in" "Prices.let_in" s_az f_az d_az)
 (B_aw:MH K C_i "ask_on" "ask_on" "Prices.ask_on" s_aw f_aw d_aw)
 (B_ar:MH K C_i "nearest" "nearest" "Prices.nearest" s_ar f_ar d_ar)
 (B_y:MH K C_i "shift_prices" "shift_prices" "Prices.shift_prices" s_y f_y d_y)
 (B_least:GH K "least" "least" "least" xhw f_least d_least)
 (B_answer:GH K "answer" "answer" "answer" xii f_answer d_answer)
 (B_b4:GH K "is_answer" "is_answer" "is_answer" s_b4 f_b4 d_b4)
 (B_cb:oS C_ag "Hand.__init__" s_cb f_cb d_cb)
 (a_c:fI K C_ag "come" f_c)
 (l_c:(EQ,f_c,oc_c,od_c,.func (Jd "come" "Hand.come" (xbl s_c) (xbc s_c) (xu s_c) (.ref T_c) kv_c dc_c pm_c an_c cd_c ct_c),sl_c))
 (c_c:YJ K cd_c "Hand.come"=true)
 (k_c:li f_c)
 (i_c:zrO f_c)
 (t_c:(EQ,T_c,toc_c,tod_c,.seq #[zgz tk0_c,.int 1 tk1_c,.none] tn_c,tsl_c))
 (B_ci:zk "go" "Hand.go" s_ci f_ci d_ci)
 (B_b9:zk "shift" "Hand.shift" s_b9 f_b9 d_b9)
 (B_ca:zk "unbar" "Hand.unbar" s_ca f_ca d_ca)
 (B_ce:zk "bar" "Hand.bar" s_ce f_ce d_ce)
 (B_b1:zk "kept" "Hand.kept" s_b1 f_b1 d_b1)
 (B_aj:zk "left_out" "Hand.left_out" s_aj f_aj d_aj)
 (B_bz:zk "pairs" "Hand.pairs" s_bz f_bz d_bz)
 (B_b0:zk "total" "Hand.total" s_b0 f_b0 d_b0)
 (B_ap:zk "picture_now" "Hand.picture_now" s_ap f_ap d_ap)
 (B_al:zk "settled" "Hand.settled" s_al f_al d_al)
 (B_bk:GH K "moved_names" "moved_names" "moved_names" s_bk f_bk d_bk)
 (B_an:GH K "is_whole" "is_whole" "is_whole" s_an f_an d_an)
 (B_b5:GH K "is_name" "is_name" "is_name" s_b5 f_b5 d_b5)
 (B_a8:oS C_a "Picture.__init__" s_a8 f_a8 d_a8)
 (a_b:fI K C_a "put" f_b)
 (l_b:(EQ,f_b,oc_b,od_b,.func (Jd "put" "Picture.put" (xbl s_b) (xbc s_b) (xu s_b) (.ref T_b) kv_b dc_b pm_b an_b cd_b ct_b),sl_b))
 (c_b:YJ K cd_b "Picture.put"=true)
 (k_b:li f_b)
 (i_b:zrO f_b)
 (t_b:(EQ,T_b,toc_b,tod_b,.seq #[zgz tk0_b,.int 1 tk1_b,.none] tn_b,tsl_b))
 (B_ba:rP "take" "Picture.take" s_ba f_ba d_ba)
 (B_bb:rP "move" "Picture.move" s_bb f_bb d_bb)
 (B_o:rP "open_seat" "Picture.open_seat" s_o f_o d_o)
 (B_s:rP "shut_seat" "Picture.shut_seat" s_s f_s d_s)
 (B_n:rP "points" "Picture.points" s_n f_n d_n)
 (B_j:rP "seats" "Picture.seats" s_j f_j d_j)
 (B_ae:rP "place_of" "Picture.place_of" s_ae f_ae d_ae)
 (B_as:rP "may" "Picture.may" s_as f_as d_as)
 (B_am:rP "length" "Picture.length" s_am f_am d_am)
 (B_af:rP "seats_for" "Picture.seats_for" s_af f_af d_af)
 (B_ax:rP "copied" "Picture.copied" s_ax f_ax d_ax)
 (B_e:rP "check_name" "Picture.check_name" s_e f_e d_e)
 (B_ab:rP "check_cell" "Picture.check_cell" s_ab f_ab d_ab)
 (B_p:rP "check_lines" "Picture.check_lines" s_p f_p d_p)
 (B_h:rP "check_seat" "Picture.check_seat" s_h f_h d_h)
 (B_au:GH K "picture_with" "picture_with" "picture_with" s_au f_au d_au)
 (B_aq:GH K "_law_cell" "_law_cell" "_law_cell" s_aq f_aq d_aq)
 (B_b2:GH K "_law_mix" "_law_mix" "_law_mix" s_b2 f_b2 d_b2)
 (B_b8:GH K "_law_names" "_law_names" "_law_names" s_b8 f_b8 d_b8)
 (B_be:GH K "_law_places" "_law_places" "_law_places" s_be f_be d_be)
 (B_cd:GH K "_law_size" "_law_size" "_law_size" s_cd f_cd d_cd)
 (B_ak:GH K "_law_picture" "_law_picture" "_law_picture" s_ak f_ak d_ak)
 (B_bc:GH K "_law_refusal" "_law_refusal" "_law_refusal" s_bc f_bc d_bc)
 (B_l:GH K "_law_thing" "_law_thing" "_law_thing" s_l f_l d_l)
 (B_bu:GH K "_law_deed" "_law_deed" "_law_deed" s_bu f_bu d_bu)
 (B_bw:GH K "_law_by_hand" "_law_by_hand" "_law_by_hand" s_bw f_bw d_bw)
 (B_a2:GH K "_law_by_picture" "_law_by_picture" "_law_by_picture" s_a2 f_a2 d_a2)
 (B_bv:GH K "_law_both" "_law_both" "_law_both" s_bv f_bv d_bv)
 (B_bp:GH K "_law_seen" "_law_seen" "_law_seen" s_bp f_bp d_bp)
 (a_law:gI K "law" f_law)
 (F_law:Fun K "law" "law" xoz f_law d_law)
 (mk_a4:ja C_a4)
 (kc_ah:li C_ah)
 (ov_ah:r8 C_ah)
 (hd_ah:lJ C_ah)
 (sa_ah:nu C_ah)
 (ga_ah:tw C_ah)
 (gh_ah:tG C_ah)
 (ca_ah:tz C_ah)
 (mk_ah:ja C_ah)
 (kc_z:li C_z)
 (ov_z:r8 C_z)
 (hd_z:lJ C_z)
 (sa_z:nu C_z)
 (ga_z:tw C_z)
 (gh_z:tG C_z)
 (ca_z:tz C_z)
 (mk_z:ja C_z)
 (kc_g:li C_g)
 (ov_g:r8 C_g)
 (hd_g:lJ C_g)
 (sa_g:nu C_g)
 (ga_g:tw C_g)
 (gh_g:tG C_g)
 (ca_g:tz C_g)
 (mk_g:ja C_g)
 (kc_f:li C_f)
 (ov_f:r8 C_f)
 (hd_f:lJ C_f)
 (sa_f:nu C_f)
 (ga_f:tw C_f)
 (gh_f:tG C_f)
 (ca_f:tz C_f)
 (mk_f:ja C_f)
 (kc_k:li C_k)
 (ov_k:r8 C_k)
 (hd_k:lJ C_k)
 (sa_k:nu C_k)
 (ga_k:tw C_k)
 (gh_k:tG C_k)
 (ca_k:tz C_k)
 (mk_k:ja C_k)
 (kc_r:li C_r)
 (ov_r:r8 C_r)
 (hd_r:lJ C_r)
 (sa_r:nu C_r)
 (ga_r:tw C_r)
 (gh_r:tG C_r)
 (ca_r:tz C_r)
 (mk_r:ja C_r)
 (ov_w:r8 C_w)
 (hd_w:lJ C_w)
 (sa_w:nu C_w)
 (ga_w:tw C_w)
 (gh_w:tG C_w)
 (ca_w:tz C_w)
 (mk_w:ja C_w)
 (kc_d:li C_d)
 (ov_d:r8 C_d)
 (hd_d:lJ C_d)
 (sa_d:nu C_d)
 (ga_d:tw C_d)
 (gh_d:tG C_d)
 (ca_d:tz C_d)
 (mk_d:ja C_d)
 (kc_u:li C_u)
 (ov_u:r8 C_u)
 (hd_u:lJ C_u)
 (sa_u:nu C_u)
 (ga_u:tw C_u)
 (gh_u:tG C_u)
 (ca_u:tz C_u)
 (mk_u:ja C_u)
 (kc_v:li C_v)
 (ov_v:r8 C_v)
 (hd_v:lJ C_v)
 (sa_v:nu C_v)
 (ga_v:tw C_v)
 (gh_v:tG C_v)
 (ca_v:tz C_v)
 (mk_v:ja C_v)
 (kc_ay:li C_ay)
 (ov_ay:r8 C_ay)
 (hd_ay:lJ C_ay)
 (sa_ay:nu C_ay)
 (ga_ay:tw C_ay)
 (gh_ay:tG C_ay)
 (ca_ay:tz C_ay)
 (mk_ay:ja C_ay)
 (kc_q:li C_q)
 (ov_q:r8 C_q)
 (hd_q:lJ C_q)
 (sa_q:nu C_q)
 (ga_q:tw C_q)
 (gh_q:tG C_q)
 (ca_q:tz C_q)
 (mk_q:ja C_q)
 (kc_ac:li C_ac)
 (ov_ac:r8 C_ac)
 (hd_ac:lJ C_ac)
 (sa_ac:nu C_ac)
 (ga_ac:tw C_ac)
 (gh_ac:tG C_ac)
 (ca_ac:tz C_ac)
 (mk_ac:ja C_ac)
 (kc_x:li C_x)
 (pg_x:Fy C_x)
 (hd_x:lJ C_x)
 (po_x:C3 C_x)
 (sa_x:nu C_x)
 (mk_x:C2 C_x)
 (a_LeftSide_init:zYB C_x)
 (kc_m:li C_m)
 (pg_m:Fy C_m)
 (hd_m:lJ C_m)
 (po_m:C3 C_m)
 (sa_m:nu C_m)
 (mk_m:C2 C_m)
 (a_RightSide_init:zYB C_m)
 (kc_aa:li C_aa)
 (pg_aa:Fy C_aa)
 (hd_aa:lJ C_aa)
 (po_aa:C3 C_aa)
 (sa_aa:nu C_aa)
 (mk_aa:C2 C_aa)
 (kc_i:li C_i)
 (pg_i:Fy C_i)
 (hd_i:lJ C_i)
 (po_i:C3 C_i)
 (sa_i:nu C_i)
 (mk_i:C2 C_i)
 (kc_ag:li C_ag)
 (pg_ag:Fy C_ag)
 (hd_ag:lJ C_ag)
 (po_ag:C3 C_ag)
 (sa_ag:nu C_ag)
 (mk_ag:C2 C_ag)
 (kc_a:li C_a)
 (pg_a:Fy C_a)
 (hd_a:lJ C_a)
 (po_a:C3 C_a)
 (sa_a:nu C_a)
 (mk_a:C2 C_a)
 (cg:zkS)
 (ct:zmc)
 (n_cl:fN K C_m "width")
 (n_bo:fN K C_a "placed")
 (n_b6:fN K C_a "height")
 (n_cc:fN K C_a "width")
 (n_cg:fN K C_a "opened")
 (n_ch:fN K C_aa "holder_of")
 (n_cj:fN K C_aa "seat_of")
 (n_cm:Vy "lengths")
 (n_cq:Vy "own")
 (n_cr:Vy "rent")
 (n_ck:Vy "seating")
 (n_cn:Vy "picture")
 (n_cf:fN K C_ag "picture")
 (n_co:fN K C_ag "given")
 (n_c2:S1 C_ah)
 (n_c9:fN K C_z "x")
 (n_da:fN K C_z "y")
 (n_cu:fN K C_g "sides")
 (n_cy:fN K C_f "low")
 (n_cv:fN K C_f "high")
 (n_cw:S1 C_k)
 (n_cp:S1 C_d)
 (n_cz:S1 C_u)
 (n_c0:S1 C_r)
 (n_c3:fN K C_v "side")
 (n_c8:fN K C_ay "row")
 (n_c1:fN K C_q "side")
 (n_c4:fN K C_q "row")
 (n_c5:fN K C_ac "side")
 (n_c7:fN K C_ac "row")
 (n_cs:fN K C_x "width")
 (n_abs:gN K "abs")
 (n_all:gN K "all")
 (n_bool:gN K "bool")
 (n_dict:gN K "dict")
 (n_enumerate:gN K "enumerate")
 (n_int:gN K "int")
 (n_isinstance:gN K "isinstance")
 (n_len:gN K "len")
 (n_list:gN K "list")
 (n_min:gN K "min")
 (n_range:gN K "range")
 (n_set:gN K "set")
 (n_sorted:gN K "sorted")
 (n_str:gN K "str")
 (n_sum:gN K "sum")
 (n_zip:gN K "zip")
 (mro_ah:uh C_ah)
 (mro_z:uh C_z)
 (mro_g:uh C_g)
 (mro_f:uh C_f)
 (mro_k:uh C_k)
 (mro_w:uh C_w)
 (ns_w:xno0 K C_w=true)
 (ns_db:li C_w)
 (mro_d:uh C_d)
 (mro_u:uh C_u)
 (mro_r:uh C_r)
 (mro_v:uh C_v)
 (mro_ay:uh C_ay)
 (mro_q:uh C_q)
 (mro_ac:uh C_ac)
 (kits:zzo [C_ah,C_z,C_g,C_f,C_k,C_w,C_d,C_u,C_r,C_v,C_ay,C_q,C_ac])
 (v_c6:zvb "MOST_ROWS" 16 tkc_c6)
 (v_ct:zvb "MOST_COLUMNS" 30 tkc_ct)
 (v_cx:zvb "MOST_POINTS" 12 tkc_cx)
 (g_ad:gI K "MIRRORED_SIDES" D_ad)
 (l_ad:(EQ,D_ad,zuF,none,.dict #[(eG,hashStr w "left",.str "left" ta0_ad,.str "right" tb0_ad),(eG,hashStr w "right",.str "right" ta1_ad,.str "left" tb1_ad),(eG,hashStr w "both",zgz ta2_ad,zgz tb2_ad)] ep_ad,#[]))
 (ns_ad:Fm D_ad):∃ t,eX :=
  ⟨⟨Gb f_bq f_br f_bf f_a5 f_a6 f_bg f_av f_bh,f_bs,_,f_b3,_,Gb f_bi f_bt f_bj f_bn f_a9 f_at f_bd f_a3,f_ao,_,f_a1,_,f_bx,_,f_meeting,_,Gb f_total f_b7 f_upright f_bl f_exchangeable f_a0 f_exchanged f_uncrossed,Gb f_a7 f_ai f_t f_crowds f_fits f_by f_kept f_bm,Gb f_az f_aw f_ar f_y f_least f_answer f_b4 f_cb,f_c,_,T_c,f_ci,_,f_b9,_,f_ca,_,f_ce,_,f_b1,_,f_aj,_,f_bz,_,f_b0,_,f_ap,_,f_al,_,f_bk,_,f_an,_,f_b5,_,f_a8,_,f_b,_,T_b,f_ba,_,f_bb,_,f_o,_,Gb f_s f_n f_j f_ae f_as f_am f_af f_ax,f_e,_,f_ab,_,f_p,_,f_h,_,Gb f_au f_aq f_b2 f_b8 f_be f_cd f_ak f_bc,f_l,_,f_bu,_,f_bw,_,f_a2,_,f_bv,_,f_bp,_,f_law,_,C_a4,C_ah,C_z,C_g,C_f,C_k,C_r,C_w,C_d,C_u,C_v,C_ay,C_q,C_ac,C_dd,C_x,C_m,C_aa,C_i,C_ag,C_a,D_ad⟩,⟨jW g_a4,jW g_ah,jW g_z,jW g_g,jW g_f,jW g_k,jW g_r,jW g_w,jW g_d,jW g_u,jW g_v,jW g_ay,jW g_q,jW g_ac,jW g_x,jW g_m,jW g_aa,jW g_i,jW g_ag,jW g_a,mb_2 B_bq,mb_3 B_br,mb_2 B_bf,mb_3 B_a5,mb_2 B_a6,mb_2 B_bg,mb_2 B_av,mb_2 B_bh,mb_2 B_bs,mb_2 B_b3,mb_3 B_bi,mb_3 B_bt,mb_2 B_bj,mb_1 B_bn,mb_1 B_a9,mb_2 B_at,mb_1 B_bd,mb_1 B_a3,mb_2 B_ao,qj B_a1,gb_4 X G B_bx,D1 B_meeting,qj B_total,D1 B_b7,qj B_upright,qj B_bl,qj B_exchangeable,D1 B_a0,D1 B_exchanged,qj B_uncrossed,mb_1 B_a7,mb_3 B_ai,mb_3 B_t,qj B_crowds,qj B_fits,D2 B_by,D2 B_kept,mb_2 B_bm,mb_2 B_az,mb_3 B_aw,mb_3 B_ar,mb_4 B_y,qj B_least,D2 B_answer,qj B_b4,mb_2 B_cb,zmo,(zGY,(zmo).binds t_c rfl 4 rfl (zbn,xo8 us j zPS)),(zmo).binds t_c rfl 7 rfl (zbn,xt7 us j zKP),mb_2 B_ci,mb_4 B_b9,mb_3 B_ca,mb_3 B_ce,mb_1 B_b1,mb_1 B_aj,mb_1 B_bz,mb_1 B_b0,mb_1 B_ap,mb_1 B_al,qj B_bk,D1 B_an,D2 B_b5,mb_3 B_a8,zmp,(zGY,(zmp).binds t_b rfl 4 rfl (zbn,xo8 us j zPS)),(zmp).binds t_b rfl 7 rfl (zbn,xt7 us j zKP),mb_2 B_ba,mb_4 B_bb,mb_3 B_o,mb_3 B_s,mb_1 B_n,mb_1 B_j,mb_2 B_ae,mb_4 B_as,mb_4 B_am,mb_2 B_af,mb_1 B_ax,mb_2 B_e,mb_3 B_ab,mb_4 B_p,mb_3 B_h,gb_4 X G B_au,qj B_aq,qj B_b2,qj B_b8,D1 B_be,D2 B_cd,D2 B_ak,D2 B_bc,qj B_l,qj B_bu,D1 B_bw,D1 B_a2,gb_4 X G B_bv,D2 B_bp,jW a_law,F_law,mk_a4,uo ov_ah hd_ah sa_ah ga_ah gh_ah ca_ah,mk_ah,fh mk_ah B_bq.a B_bq.i kc_ah,uo ov_z hd_z sa_z ga_z gh_z ca_z,mk_z,fh mk_z B_br.a B_br.i kc_z,uo ov_g hd_g sa_g ga_g gh_g ca_g,mk_g,fh mk_g B_bf.a B_bf.i kc_g,uo ov_f hd_f sa_f ga_f gh_f ca_f,mk_f,fh mk_f B_a5.a B_a5.i kc_f,uo ov_k hd_k sa_k ga_k gh_k ca_k,mk_k,fh mk_k B_a6.a B_a6.i kc_k,uo ov_r hd_r sa_r ga_r gh_r ca_r,mk_r,fh mk_r B_bg.a B_bg.i kc_r,uo ov_w hd_w sa_w ga_w gh_w ca_w,mk_w,uo ov_d hd_d sa_d ga_d gh_d ca_d,mk_d,fh mk_d B_av.a B_av.i kc_d,uo ov_u hd_u sa_u ga_u gh_u ca_u,mk_u,fh mk_u B_bh.a B_bh.i kc_u,uo ov_v hd_v sa_v ga_v gh_v ca_v,mk_v,fh mk_v B_bs.a B_bs.i kc_v,uo ov_ay hd_ay sa_ay ga_ay gh_ay ca_ay,mk_ay,fh mk_ay B_b3.a B_b3.i kc_ay,uo ov_q hd_q sa_q ga_q gh_q ca_q,mk_q,fh mk_q B_bi.a B_bi.i kc_q,uo ov_ac hd_ac sa_ac ga_ac gh_ac ca_ac,mk_ac,fh mk_ac B_bt.a B_bt.i kc_ac,fh pg_x hd_x po_x sa_x,fh mk_x a_LeftSide_init B_bj.i kc_x,fh pg_m hd_m po_m sa_m,fh mk_m a_RightSide_init B_bj.i kc_m,fh pg_aa hd_aa po_aa sa_aa,fh mk_aa B_a7.a B_a7.i kc_aa,fh pg_i hd_i po_i sa_i,fh mk_i B_bm.a B_bm.i kc_i,fh pg_ag hd_ag po_ag sa_ag,fh mk_ag B_cb.a B_cb.i kc_ag,eG a_c i_c k_c,fh pg_a hd_a po_a sa_a,fh mk_a B_a8.a B_a8.i kc_a,eG a_b i_b k_b,cg,ct,n_cl,n_bo,n_b6,n_cc,n_cg,n_ch,n_cj,n_cm,n_cq,n_cr,n_ck,n_cn,n_cf,n_co,n_c2,n_c9,n_da,n_cu,n_cy,n_cv,n_cw,n_cp,n_cz,n_c0,n_c3,n_c8,n_c1,n_c4,n_c5,n_c7,n_cs,qG n_abs,qG n_all,qG n_bool,qG n_dict,qG n_enumerate,qG n_int,qG n_isinstance,qG n_len,qG n_list,qG n_min,qG n_range,qG n_set,qG n_sorted,qG n_str,qG n_sum,qG n_zip,mro_ah,mro_z,mro_g,mro_f,mro_k,mro_w,ns_w,ns_db,mro_d,mro_u,mro_r,mro_v,mro_ay,mro_q,mro_ac,kits,(mr,jW v_c6),(mr,jW v_ct),(mr,jW v_cx),jW g_ad,(gY,ns_ad,_,_,l_ad,zuT (zuT (zuT (.nil))),eJ)⟩⟩
def mkS {N P:eO}{sc:Scope} (a:autoParam (zSk) aRfl._auto_1) (b:autoParam (zPN) aRfl._auto_1) (c:autoParam (zPM) aRfl._auto_1) (d:N.Nodup:=by ext SF) (e:autoParam (zPn) aRfl._auto_1) (f:zRm:=by ext SF) (g:zHO:=by ext SF):xz N P sc:=hV a b c d e f g
def sc_bq:yH s_bq:=mkS
def sc_br:gc Cp Cp s_br:=mkS
def sc_bf:zfz "sides" s_bf:=mkS
def sc_a5:gc zaC zaC s_a5:=mkS
def sc_a6:yH s_a6:=mkS
def sc_bg:yH s_bg:=mkS
def sc_av:yH s_av:=mkS
def sc_bh:yH s_bh:=mkS
def sc_bs:zfz "side" s_bs:=mkS
def sc_b3:zfz "row" s_b3:=mkS
def sc_bi:Gs s_bi:=mkS
def sc_bt:Gs s_bt:=mkS
def sc_bj:zfz "width" s_bj:=mkS
def sc_bn:tZ s_bn:=mkS
def sc_a9:tZ s_a9:=mkS
def sc_at:gc C6 C6 s_at:=mkS
def sc_bd:tZ s_bd:=mkS
def sc_a3:tZ s_a3:=mkS
def sc_ao:gc C6 C6 s_ao:=mkS
def sc_a1:gc Pe Pe s_a1:=mkS
def sc_bx:gc zBT zls s_bx:=mkS
def xcp:gc zCw Ir xfw:=mkS
def xse:gc nD nD xhr:=mkS
def sc_b7:gc V1 zlM s_b7:=mkS
def xo0:gc nD nD xf0:=mkS
def sc_bl:gc ["picture", "pair", "name", "side", "row", "x", "y"] zux s_bl:=mkS
def xc1:zoU "number" "one" "other" "cell" nD xeu:=mkS
def sc_a0:gc ["picture", "one", "other", "name", "side", "row", "other_name", "other_side", "other_row"] Ir s_a0:=mkS
def xfv:gc zkQ zmi xdy:=mkS
def xb5:gc ["picture", "pairs", "now", "steps", "found", "name", "other", "cell"] nD xgb:=mkS
def sc_a7:tZ s_a7:=mkS
def sc_ai:zfH "asked_by" "free_seat" "seat" "name" "left_behind" zmb s_ai:=mkS
def sc_t:gc ["self", "name", "rooms", "crowd", "asked_by", "number", "asker", "seat"] znR s_t:=mkS
def xd8:gc ["picture", "names", "rooms", "seating", "found", "name", "crowd"] vc xgw:=mkS
def xns:gc ["picture", "names", "found"] vc xlo:=mkS
def sc_by:gc vc tP s_by:=mkS
def xnj:gc zvP tP xg5:=mkS
def sc_bm:gc Ac Ac s_bm:=mkS
def sc_az:gc zEt jy s_az:=mkS
def sc_aw:zGD Ix s_aw:=mkS
def sc_ar:gc ["self", "askers", "asked_by", "found", "asker", "seat", "length", "gap"] Ix s_ar:=mkS
def sc_y:zGD zli s_y:=mkS
def xgy:gc ["picture", "names", "crowd", "prices", "name", "pairs"] vc xhw:=mkS
def xed:zoU "own" "rent" "apart" "steps" tP xii:=mkS
def sc_b4:zoU "names" "shortest" "own" "rent" nD s_b4:=mkS
def sc_cb:gc Ac Ac s_cb:=mkS
def sc_c:gc zJ zJ s_c:=mkS
def sc_ci:yH s_ci:=mkS
def sc_b9:gc wm wm s_b9:=mkS
def sc_ca:Gs s_ca:=mkS
def sc_ce:Gs s_ce:=mkS
def sc_b1:tZ s_b1:=mkS
def sc_aj:tZ s_aj:=mkS
def sc_bz:tZ s_bz:=mkS
def sc_b0:tZ s_b0:=mkS
def sc_ap:tZ s_ap:=mkS
def sc_al:gc zPw iU s_al:=mkS
def sc_bk:gc zmh zoP s_bk:=mkS
def sc_an:gc OK OK s_an:=mkS
def sc_b5:gc Sq Sq s_b5:=mkS
def sc_a8:gc XV XV s_a8:=mkS
def sc_b:gc ["self", "name", "x", "y", "sides", "low", "high", "highest"] zJ s_b:=mkS
def sc_ba:yH s_ba:=mkS
def sc_bb:gc wm wm s_bb:=mkS
def sc_o:Gs s_o:=mkS
def sc_s:Gs s_s:=mkS
def sc_n:tZ s_n:=mkS
def sc_j:tZ s_j:=mkS
def sc_ae:yH s_ae:=mkS
def sc_as:gc ["self", "name", "side", "row", "x", "y", "sides", "low", "high"] Ip s_as:=mkS
def sc_am:zfH "name" "side" "row" "x" "y" Ip s_am:=mkS
def sc_af:yH s_af:=mkS
def sc_ax:tZ s_ax:=mkS
def sc_e:yH s_e:=mkS
def sc_ab:gc Cp Cp s_ab:=mkS
def sc_p:zfH "name" "x" "y" "others" "other" wm s_p:=mkS
def sc_h:Gs s_h:=mkS
def sc_au:gc ["width", "height", "points", "seats", "picture", "name", "x", "y", "sides", "low", "high", "side", "row"] zlg s_au:=mkS
def sc_aq:gc Xp Xp s_aq:=mkS
def sc_b2:gc (zrt "_law_k" "_law_number") (zW "_law_k") s_b2:=mkS
def sc_b8:gc zCR (zW "_law_many") s_b8:=mkS
def sc_be:gc ["_law_cell_here", "_law_size_here", "_law_many", "_law_left", "_law_found", "_law_k"] zlv s_be:=mkS
def sc_cd:gc zay zay s_cd:=mkS
def sc_ak:gc ["_law_script", "_law_width", "_law_height", "_law_most", "_law_many", "_law_names_here", "_law_xs", "_law_ys", "_law_picture_here", "_law_k", "_law_number", "_law_low", "_law_high", "_law_bar", "_law_row", "_law_side"] E1 s_ak:=mkS
def sc_bc:gc zey zey s_bc:=mkS
def sc_l:gc (zrt "_law_good" "_law_odd") (zW "_law_good") s_l:=mkS
def sc_bu:gc ["_law_picture_here", "_law_cell_here", "_law_numbers", "_law_names_here", "_law_name", "_law_sides", "_law_low", "_law_high", "_law_found", "_law_x", "_law_side"] zlc s_bu:=mkS
def sc_bw:gc zaZ zaZ s_bw:=mkS
def sc_a2:gc Xv Xv s_a2:=mkS
def sc_bv:gc ["_law_hand", "_law_picture_here", "_law_deed_here", "_law_short", "_law_one", "_law_other", "_law_found", "_law_e", "_law_same", "_law_first", "_law_second"] zky s_bv:=mkS
def sc_bp:gc zcx zcx s_bp:=mkS
def xdn:gc ["_law_script", "_law_picture_here", "_law_hand", "_law_k", "_law_before", "_law_same", "_law_told", "_law_now", "_law_behind", "_law_name", "_law_holders"] E1 xoz:=mkS
#check S81
namespace S81
open PySem L2 XL PyProof.Rows
def xcu {K:Zd}{v:Value}:Y3 K v v=some true:=fe eS
def xab {H H':Hp}{p:Addr}{o:HO} (s:gu) (hp:zkc p):mw (L2.upd H' p o):=λb u z=>by
 have a:=s b u z;show(eY,kG a hp,a)
def su_e {H H':Hp}{p:Addr}{o:HO} (hp:ut) (e:zRx):gu:=e▸zAn
def ug_e {H H':Hp}{p:Addr}{o:HO} (e:zRx):kf p o:=e▸xh
def xcx {n:Nat} (h:zhr):zi n:=Jr h eJ
def ne_f {H:Hp}{a b:Addr}{o u:HO} (h:UD) (h':kC) (d:o≠u:=by exact nB):Hu:=xej h h' d
def leS0:ju 0:=eJ
def leS1:1<=sizeLine:=eJ
def leS2:ju 2:=eJ
def leS3:ju 3:=eJ
def leS4:ju 4:=eJ
def leS5:ju 5:=eJ
def xlf {H:Hp}{x dx:Addr}{a b c:HO} (hx:gz x) (hd:zhZ):mw (upd (upd (jj dx a) x b) x c):=λ y o e=>by
 rw[TW,TW,m7 hd];exact e
noncomputable def xav (b:Bool):Str:=Ao "left" "right"
noncomputable def xe9 (t:Adr) (H:Hp) (p:Addr) (b:Bool) (w:Int):Prop:=∃ dx,xK (uJ (Ao t.C_x t.C_m) (zgK Nl))
inductive xx6 (K:Zd) (vs:eB) (H:Hp) (Q:VK) (_:XK):Prop
 | mk (p C dx:Addr) (n:Int) (e_:vs=[iX,Nm]) (r_:(fS,xK (uJ C []),Tl,xft K C "width",Q .non (jj p (uJ C (zgK Nm)))))
inductive sp1 (v:V) (vs:eB) (H:Hp) (Q:VK) (_:XK):Prop
 | mk (p:V) (e_:vs=[p]) (r_:Vk)
inductive xzh (vs:eB) (H:Hp) (Q:VK) (_:XK):Prop
 | mk (p:V) (x:V) (e_:vs=[p,x]) (r_:Q x H)
inductive xzl (t:Adr) (vs:eB) (H:Hp) (Q:VK) (_:XK):Prop
 | mk (p:Addr) (n:Int) (e_:vs=[iX]) (r_:zQm m8)
inductive x0a (t:Adr) (vs:eB) (H:Hp) (Q:VK) (_:XK):Prop
 | mk (p:Addr) (n x:Int) (e_:vs=[iX,G9]) (r_:zQm (n+1-x))
inductive xto (t:Adr) (vs:eB) (H:Hp) (Q:VK) (_:XK):Prop
 | mk (b:Bool) (n:Int) (e_:vs=[nI,Nm]) (r_:∀ p H',vq ut zWM gu iX)
section
variable {P:Program}{w:World}{K:Zd}{mg:Str->Option Value}{base:Heap}{t:Adr}
def ok_bj (T:eX):FnOk true P w K mg base eW 1 t.f_bj t.d_bj (um "width") (xx6 K):=by
 refine T.bj.F.okn (k:=0) sc_bj eZ (λ cdv A outer s H vs Q E hr h=>?_)
 .obtain ⟨p,C,dx,n,rfl,_⟩:=h;rfl
 .obtain ⟨p,C,dx,n,rfl,h⟩:=h;show(pb,Rw fG);ext Ew m c e;exact⟨126,p,C,dx,[],rfl,m,c,e,(U5 0),q⟩
def ok_bn (T:eX):FnOk true P w K mg base eW 1 t.f_bn t.d_bn iU (sp1 (.int 0)):=by
 refine T.bn.F.okn (k:=0) sc_bn eZ (λ cdv A outer s H vs Q E hr h=>?_)
 .ext Pc p
 .ext zRL
def ok_a9 (T:eX):FnOk true P w K mg base eW 1 t.f_a9 t.d_a9 iU (sp1 (.int (-1))):=by
 refine T.a9.F.okn (k:=0) sc_a9 eZ (λ cdv A outer s H vs Q E hr h=>?_)
 .ext Pc p
 .ext zcI p;show(vG,xug xrn (xt));show(zq,1,h)
def ok_at (T:eX):FnOk true P w K mg base eW 1 t.f_at t.d_at C6 (xzh):=by
 refine T.B_at.F.okn (k:=0) sc_at eZ (λ cdv A outer s H vs Q E hr h=>?_)
 .ext wt p x
 .ext wu p x;show(pb,yr 1);exact h
def ok_a3 (T:eX):FnOk true P w K mg base eW 1 t.f_a3 t.d_a3 iU (sp1 (.int 1)):=by
 refine T.a3.F.okn (k:=0) sc_a3 eZ (λ cdv A outer s H vs Q E hr h=>?_)
 .ext Pc p
 .ext zRL
def ok_bd (T:eX):FnOk true P w K mg base eW 1 t.f_bd t.d_bd iU (xzl t):=by
 refine T.bd.F.okn (k:=0) sc_bd eZ (λ cdv A outer s H vs Q E hr h=>?_)
 .ext wt p n
 .ext wu p n;show(zCt,GU gm)
def ok_ao (T:eX):FnOk true P w K mg base eW 1 t.f_ao t.d_ao C6 (x0a t):=by
 refine T.ao.F.okn (k:=0) sc_ao eZ (λ cdv A outer s H vs Q E hr h=>?_)
 .ext EO p n x
 .ext Fe p n x;show(zCt,x9 xfr (GU gm) fG)
theorem ok_a1 (T:eX):FnOk true P w K mg base eW 3 t.f_a1 t.d_a1 Pe (xto t):=by
 refine T.a1.F.okn (k:=2) sc_a1 eZ (λ cdv A outer s H vs Q E hr h=>?_)
 .ext wt b n
 .ext wu b n;refine⟨_,xk (xan (xa2 (xao xa1 rfl T.n_isinstance boot_isinstance (xg (pv 0) (xg zlZ (xj))))) (xk (Bk (LM fj) (zJj T.k_x T.g_x))
   (qZ (LM fj) (jI (zJj T.k_m T.g_m)))) (xac))
   Uu,?_⟩
  refine sq2 ?_; intros; ext Fa; cases b with
  | true =>
   show(zHh,o8 ?_);refine ifP gH ?_;exact (λ x dx q p u=>iI x t.C_x dx n (iI,45,xh,T.c_x,T.n_cs,h x _ q AU (xlf q p)))
  | false =>
   show(gE,IF rH yT,o8 ?_);refine ifN gH ?_;refine o8 ?_;refine ifP gH ?_;exact (λ x dx q p u=>iI x t.C_m dx n (iI,45,xh,T.c_m,T.n_cl,h x _ q AU (xlf q p)))
noncomputable def isNm (x:Str):Bool:=(i9 x.length 1)&&(zNl x.cps.toList)
inductive x0h (vs:eB) (H:Hp) (Q:VK) (_:XK):Prop
 | mk (i lo hi:Int) (e_:vs=[fF,zhQ,TQ]) (r_:lo<=i/\i<=hi/\(uN true))
inductive xzq (vs:eB) (H:Hp) (Q:VK) (_:XK):Prop
 | mk (x:Str) (e_:vs=[.str x]) (r_:(sr x)/\(uN true))
def xpa:(ji "a").cps.toList=[97]:=gH
def xt3:(ji "z").cps.toList=[122]:=gH
def ok_an (T:eX):FnOk true P w K mg base eW 1 t.f_an t.d_an OK (x0h):=by
 show(zRW,λ cdv A outer s H vs Q E hr h=>?_)
 .ext EO i m j
 .ext Fe i m j;show(vG,xc8 (zfK "int" T.n_int boot_int) (xc8 zGW (xe5 (xfm xhy xhy fG fj fZ))));ext vP u p;ext zDT
  .refine ?_;show Q (zfJ (i<=j)) H;show(eY,decide_eq_true p,q)
  .ext zad u c
def ok_b5 (T:eX):FnOk true P w K mg base eW 1 t.f_b5 t.d_b5 Sq (xzq):=by
 show(zRV,λ cdv A outer s H vs Q E hr h=>?_)
 .ext Pc x
 .ext zcI x;ext zBN j;unfold isNm at j;simp only[Z1,decide_eq_true_eq,Yz,decide_eq_false_iff_not] at j;ext nF m u p j;show(zPt,ve m)
  .refine (zuW,K9 d)
   .refine zuW ?_;show(ig,xt3,decide_eq_false p,q)
   .rw [xpa,decide_eq_false u] at d;ext qp d
  .show(zad,jn m,c)
structure Pt where
 nm:Str
 x:Int
 y:Int
 sd:Str
 lo:Int
 hi:Int
noncomputable def ptV (p:Pt):eB:=[.int p.x,.int p.y,.str p.sd,.int p.lo,zxs]
inductive Pl (H:Hp):iA eI gD
 | nil:Pl H [] []
 | cons {p:Pt}{q:Addr}{ps:eI}{kvs:gD} (h:kX (.tup (ptV p))) (r:wF):Pl H Vg ((nS,.inr p.nm,q)::kvs)
inductive PtsL (H:Hp):HK eI
 | nil:PtsL H [] []
 | cons {p:Pt}{q:Addr}{ps:eI}{qs:eV} (h:Iv) (r:Fn):PtsL H Vg xA
def xt5 {Z:L2.St}{H:Hp}{A B:zzb} (h:A H):xek Z H (λ b H4=>(zG,A H4,B H4)):=by
 show (mG,true,A H,B H)
 ext eY iT h
def xom {i:Nat}{v:V}{Z:L2.St}{H:Hp}{A B:vQ L2.St} (h:A wN H):xc4 i v Z H (λ σ' H'=>xek σ' H' λ b H4=>(zG,A σ' H4,B σ' H4)):=by
 show (mG,true,A wN H,B wN H)
 ext eY iT h
noncomputable def Tups (H H':Hp):Prop:=zN
theorem Pl.keep {H H':Hp} (s:pY) {ps:eI}{kvs:gD} (h:wF):Pl H' ps kvs:=by
 induction h with
 | nil=>ext mj
 | cons h _ ih=>ext Te
theorem PtsL.keep {H H':Hp} (s:pY) {ps:eI}{qs:eV} (h:Fn):zYN:=by
 induction h with
 | nil=>ext mj
 | cons h _ ih=>ext Te
theorem Pl.len {H:Hp}{ps:eI}{kvs:gD} (h:wF):zVW:=by
 induction h with
 | nil=>rfl
 | cons _ _ ih=>ext zD
theorem PtsL.len {H:Hp}{ps:eI}{qs:eV} (h:Fn):zXE:=by
 induction h with
 | nil=>rfl
 | cons _ _ ih=>ext zD
theorem Pl.find {H:Hp}{ps:eI}{kvs:gD} (h:wF) {nm:Str}{pt:Pt} (e:RX):∃ q,Hm T7 jc (kX (.tup (ptV pt))):=by
 induction h with
 | nil=>ext vR
 | @cons p q ps kvs h _ ih =>
  ext Sa
  .rw [Ym pU] at e;ext mC;show(fU,q,xbx (kU c),h)
  .rw [Qq pU] at e;show(eE,a,s,b,ih e);show(fU,a,(eP,Ud qbb,s),b)
theorem Pl.no {H:Hp}{ps:eI}{kvs:gD} (h:wF) {nm:Str} (e:zZV):zhx:=by
 induction h with
 | nil=>rfl
 | @cons p q ps kvs h _ ih =>
  rw[(Ud,e p Zn (ZI.inj z))];exact ih λ a b=>e a (Zm _ b)
theorem Pl.get {H:Hp}{ps:eI}{kvs:gD} (h:wF) {i:Nat}{k:Key}{x:V} (e:tJ):∃ p q,(fS,LI,k=.inr p.nm,x=jc,kX (.tup (ptV p))):=by
 induction h generalizing i with
 | nil=>ext vR
 | @cons p q ps kvs h _ ih =>
  cases i with
  | zero =>
   simp at e;exact sR p q e.1.symm e.2.symm h
  | succ j=>ext A4
theorem PtsL.get {H:Hp}{ps:eI}{qs:eV} (h:Fn) {i:Nat}{q:Addr} (e:F3):∃ p,LI/\Iv:=by
 induction h generalizing i with
 | nil=>ext vR
 | @cons p q' ps qs h _ ih =>
  cases i with
  | zero =>
   ext SC p
  | succ j=>ext A4
theorem Pl.snoc {H:Hp}{ps:eI}{kvs:gD} (h:wF) {p:Pt}{q:Addr} (e:kX (.tup (ptV p))):Pl H zhb (kvs++[(nS,.inr p.nm,q)]):=by
 induction h with
 | nil=>show(uD,e,.nil)
 | cons h _ ih=>ext Ul
theorem PtsL.snoc {H:Hp}{ps:eI}{qs:eV} (h:Fn) {p:Pt}{q:Addr} (e:Iv):PtsL H zhb (qs++[q]):=by
 induction h with
 | nil=>show(uD,e,.nil)
 | cons h _ ih=>ext Ul
noncomputable abbrev picF (w h:Int) (dp do_:Addr):lw:=[("width",Nl),("height",UL),nS "placed" dp,nS "opened" do_]
structure Pic (t:Adr) (H:Hp) (a dp do_:Addr) (w h:Int) (ps:eI):Prop where
 ins:∃ dx,pL (uJ t.C_a Kb)
 pl:∃ kvs,(fO dp pA)/\wF
 w1:1<=w
 w2:rM
 h1:1<=h
 h2:rL
 len:zZJ
def Same.tups {H H':Hp} (s:gu):pY:=qal
def Pic.same {t:Adr}{H H':Hp}{a dp do_:Addr}{w h:Int}{ps:eI} (s:gu) (p:zf H w h):zue :=
 zDK e zhn kvs (eG,kvs,Dp,q.keep (Same.tups s))
def xap {w h:Int}{dp do_:Addr}{m:Str} (e:((["width", "height", "placed", "opened"]:eO).all λ k=>zfd)=true):(Kb).lookup m=none:=by
 ext WT;obtain⟨q,j,c,b,_⟩:45:=e;unfold picF;ext zuP q zmk;ext zuP j zzC;show(znD,"opened",do_)
def lkW {w h:Int}{dp do_:Addr}:(Kb).lookup (ji "width")=some Nl:=by
 unfold picF;show(zdy,"width","width")
def lkH {w h:Int}{dp do_:Addr}:(Kb).lookup (ji "height")=some UL:=by
 unfold picF;show(OJ,"height","width",zmk)
def lkP {w h:Int}{dp do_:Addr}:(Kb).lookup (ji "placed")=some (.ref dp):=by
 show(zHH,"placed");show(OJ,"placed","height",zzC)
inductive xu5 (t:Adr) (vs:eB) (H:Hp) (Q:VK) (_:XK):Prop
 | mk (p dx:Addr) (w h:Int) (e_:vs=[iX,Nl,UL]) (r_:(xK zse)/\(fb,1<=w,rM,1<=h,rL,∀ H' dp do_,TK->(Bs (gz do_) (B1 p) (Gx H' p w h []) (kf do_ DH))))
inductive spCN (t:Adr) (vs:eB) (H:Hp) (Q:VK) (_:XK):Prop
 | mk (a dp do_:Addr) (pw ph:Int) (ps:eI) (nm:Str) (pt:Pt) (e_:xE hJ) (r_:fS j4 yQ RX zyJ)
inductive x0w (t:Adr) (vs:eB) (H:Hp) (Q:VK) (_:XK):Prop
 | mk (a dp do_:Addr) (pw ph:Int) (ps:eI) (e_:D6) (r_:j4/\∀ H' l qs,vq gu TV zYN gS)
inductive spCS (t:Adr) (vs:eB) (H:Hp) (Q:VK) (_:XK):Prop
 | mk (a dp do_:Addr) (pw ph:Int) (ps:eI) (b:Bool) (r:Int) (e_:zrY) (r_:(fS,j4,1<=r,Vi,ziR Sx))
inductive xzk (t:Adr) (vs:eB) (H:Hp) (Q:VK) (_:XK):Prop
 | mk (a dp do_:Addr) (pw ph:Int) (ps:eI) (nm:Str) (x y:Int) (sd:Str) (lo hi:Int) (hv:V) (e_:vs=[fE,hJ,G9,UM,ki,zhQ,hv]) (r_:j4/\(fb,(hv=.non/\hi=ph)\/hv=TQ,yQ,Oc,x<=pw,(qu,1<=y,y<=ph,zrR,1<=lo,ziW,hi<=ph,zJE,zcY,zAQ zhf (zdl (ps++[gY nm x y sd lo hi])))))
inductive x0n (t:Adr) (vs:eB) (H:Hp) (Q:VK) (_:XK):Prop
 | mk (a dp do_:Addr) (pw ph:Int) (ps:eI) (nm:Str) (pt:Pt) (e_:xE hJ) (r_:(fS,j4,yQ,RX,∀ H' q,gu->(kf q (yC,.int pt.x,pt.y))->Q jc H'))
noncomputable def lenI (w x y:Int) (b:Bool) (r:Int):Int:=(Ao x Dj)+(vn,y-r,0,-(y-r),y-r)
inductive xz8 (t:Adr) (vs:eB) (H:Hp) (Q:VK) (_:XK):Prop
 | mk (a dp do_:Addr) (pw ph:Int) (ps:eI) (nm:Str) (pt:Pt) (b:Bool) (r:Int) (e_:zTj) (r_:j4/\(fb,yQ,RX,1<=r,Vi,zgE (.int (lenI pw pt.x pt.y b r))))
def ok_a8 (T:eX):FnOk true P w K mg base eW 2 t.f_a8 t.d_a8 XV (xu5 t):=by
 refine T.a8.F.okn (k:=1) sc_a8 eZ (λ cdv A outer s H vs Q E hr h=>?_)
 .obtain ⟨p,dx,O,R,rfl,_⟩:=h;rfl
 .obtain ⟨p,dx,O,R,rfl,h⟩:=h;refine⟨_,xk (sS (zlT (zkY fG (zqS 30 T.v_ct.choose_spec)) (zkY fZ (zqS 16 T.v_c6.choose_spec))) Uu)
   (xk (MM fG)
   (xk (MM fZ)
   (xk zfV
   (Rw (xgx))))),?_⟩
  refine sq5 ?_; intros; ext kL Z M L X U q h;show(Ho,(zxN,O,30,M,L,iteF (zxN R 16 X U GN)),B0 p Z T.c_a T.n_cc 0,B0 p xh T.c_a T.n_b6 1);rw[xfi];show(Hk,eQ J x,C,p≠J,xp xh x,⟨126,p,_,dx,_,rfl,(jp C xh),T.c_a,T.n_bo,(U5 2),eQ m j⟩);show(i6,I,p≠m,xp xh j,S,J≠m,xp (eP zjq xh) j,B0 p (jp I xh) T.c_a T.n_cg 3);rw[zjq] at x;have D:gz m:=by
   have z:=j;rw[lB I,lB S,lB I] at z;ext lT
  refine q _ J m x D (Eh y ?_) (hV,AU,eG [] ?_ .nil,M,L,X,U,lQ) ?_
  .have Y:b≠J:=xp e x;have c2:b≠m:=λ z=>by
    subst z;rw[HQ,xo Y,HQ] at j;ext uT j
   rw[HQ,xo c2,HQ,xo Y,HQ];exact e
  .rw [zjq,xo S,zjq];exact xh
  .show(ie,lB I,xh)
def ok_e (T:eX):FnOk true P w K mg base eW 2 t.f_e t.d_e jy (spCN t):=by
 refine T.e.F.okn (k:=1) sc_e eZ (λ cdv A outer s H vs Q E hr h=>?_)
 .obtain ⟨a,u,m,v,x,ps,nm,pt,rfl,_⟩:=h;rfl
 .obtain ⟨a,u,m,v,x,ps,nm,pt,rfl,h⟩:=h;show(pb,qZ (qae (pC (ok_b5 T) hr T.b5.g T.b5.F.kp T.b5.b lZ)) Uu);ext Ew j z D;ext Iq dx y C j;show(jL,q0,e,pl.find D);exact(iI,nm,rfl,z,true,iteF (znE y (Kv,u,zie,e,qU nm C,iteF q)))
def ok_n (T:eX):FnOk true P w K mg base eW 1 t.f_n t.d_n iU (x0w t):=by
 refine T.n.F.okn (k:=0) sc_n eZ (λ cdv A outer s H vs Q E hr h=>?_)
 .obtain ⟨a,M,ab,pw,ph,ps,rfl,_⟩:=h;rfl
 .obtain ⟨a,M,ab,pw,ph,ps,rfl,h⟩:=h;show(AE,xq (x0 (xut (uX,(lH ["name", "rest"] [] [] iU s_n),xsd (xad fj rfl),Ou,Uq,oX,zlG fG))));ext qL O;ext Iq dx hp hk O;refine znE hp (uE,M,kvs,hk,ib ob nf l hl);have Z:l≠M:=λ z=>by
   ext Ep z xh hl hl
  have U:qg:=by rwa [xo Z] at hl
  refine xd5 kvs.length (λ i xs j=>∃ D:eV,xs=D.map V.ref/\(fb,D.length<=i,j M=some zaD,(tI,M,kC,j b=some u),j l=some nG,PtsL j So D)) ?_ ?_ ?_ ?_
  .refine (ue,[],f8,?_,Tj,xh,by simpa using PtsL.nil)
   .show(ie,lB Z,xh)
   .show(uM,m7 U,xo nb,e)
  .rintro i xs j lt (⟨D,_,_,J,_⟩:64);ext fc J lt
  .rintro i xs j v H3 lt (⟨D,rfl,ql,J,Y,C,pts⟩:66) ⟨p,k,x,hx,rfl,I,rfl⟩ N hN;show(o7,pt,q0,aa,rfl,rfl,S,pl.get hx);show(fR,e0,j q0=some (.tup (ptV pt)),Y _ _ (ne_f S hk) S,oO p xh);refine xt5 ?_;show(fR,n0,q0≠p,xp e0 I,⟨zxr,λ R h1=>iI R q0 _ zjb (kT,rfl,iZ xh,iZ ?_,eS,(DA,1+5),nB,zYz)⟩)
   .show(uM,kG (jp n0 e0) h1,xo n0,e0)
   have up:(By,j b=some u,(upd (o9 zqN R KN) p2 (.tup (KN++zjb))) b=some u):=λb u e=>by
    show(eC,c1,b≠p,xp e I,X,kK j p zYM b u,jp c1 e)
    show(eC,c2,b≠R,xp X h1,L,kK zqN R (.tup KN) b u,jp c2 X)
    show(eY,kG L h2,L)
   have c3:l≠p2:=xp (show kK zqN R (.tup KN) l zRj from by
    show(eC,c1,l≠p,xp C I,X,kK j p zYM l zRj,jp c1 C)
    show(eY,kG X h1,X)) h2
   have tk:ps.take f7=So++[pt]:=by
    rw[Ja,aa];rfl
   have ll:zi D.length:=ZQ (by show(He,pl.len,O.len):D.length<13) eJ;show(jV,up _ _ C,pI ll,hN _ _ (iC,66,D++[p2],eS,qX,?_,Tj,xh,?_))
   .show(ie,lB Z,up _ _ J)
   .have L:=up _ _ (Y b u nb e);show(eY,m7 U,L)
   .rw [tk];refine PtsL.snoc (PtsL.keep Su pts) ?_
    .have L:=up _ _ e;show(eY,w6 L (up _ _ C),L)
    .show(ie,lB c3,xh)
  .rintro xs j (⟨D,rfl,_,J,Y,C,pts⟩:66);show(nM,⟨J,f8⟩,⟨103,M,ob,_,J,nf,q _ l D C9 ?_ (PtsL.keep Su (by rw[pl.len,Jz] at pts; exact pts))⟩)
   .ext mX b M
    .ext rA c hk e e;exact xh
    .show(ie,xo c,Y b u c e)
   .show(ie,xo Z,C)
   .show(ie,w6 e J,e)
def ok_h (T:eX):FnOk true P w K mg base eW 4 t.f_h t.d_h nA (spCS t):=by
 refine T.h.F.okn (k:=3) sc_h eZ (λ cdv A outer s H vs Q E hr h=>?_)
 .obtain ⟨a,C,j,u,v,ps,b,r,rfl,_⟩:=h;rfl
 .obtain ⟨a,C,j,u,v,ps,b,r,rfl,h⟩:=h;refine⟨_,xk (xas (Oy fG))
   (qZ (GX (zkY fZ gm)) Uu),?_⟩
  refine sq2 ?_; intros; ext Ew e r1 r2;obtain⟨⟨dx,x⟩,_,_⟩:=id e;refine EF x (mT,b,u,fW p D z y m);exact⟨a,_,dx,_,_,rfl,iu (m _ _ x) T.c_a T.n_b6 lkH (zxN,r,v,r1,r2,iteF (q D m))⟩
def ok_ae (T:eX):FnOk true P w K mg base eW 3 t.f_ae t.d_ae jy (x0n t):=by
 refine T.ae.F.okn (k:=2) sc_ae eZ (λ cdv A outer s H vs Q E hr h=>?_)
 .obtain ⟨a,y,u,C,D,ps,nm,pt,rfl,_⟩:=h;rfl
 .obtain ⟨a,y,u,C,D,ps,nm,pt,rfl,h⟩:=h;refine⟨_,xk zkL
   (jI (xgz xqd zvE xhz (xhv (xt)))),?_⟩
  refine sq2 ?_; intros; ext Ew j L J;ext Iq dx I M j;show(eE,q0,e,v,pl.find J);refine⟨a,dx,_,rfl,I,gB,a,y,u,C,D,ps,nm,pt,rfl,j,L,J,?_⟩;exact znE I ⟨y,w4,rfl,(iz,e,qU nm M),2,rfl,q0,zjb,rfl,iZ v,(λ z=>zH z.2 (wC,¬ ((2:Nat)=5))),λ p x=>q _ p (kW x) xh⟩
theorem ok_am (T:eX):FnOk true P w K mg base eW 5 t.f_am t.d_am Ip (xz8 t):=by
 refine T.am.F.okn (k:=4) sc_am eZ (λ cdv A outer s H vs Q E hr h=>?_)
 .obtain ⟨a,S,v,z,J,ps,nm,pt,b,r,rfl,_⟩:=h;rfl
 .obtain ⟨a,S,v,z,J,ps,nm,pt,b,r,rfl,h⟩:=h;refine⟨_,xk (xcn (zld lZ) (xa4 rfl (tQ 4 sc_am.nd 5 sc_am.nd)))
   (xk zEp
   (jI (uQ (xhk (h9 (Oy fZ) T.c_x T.B_at.m (ok_at T) fA T.B_at.b xv TF) (zGF fZ TF)) (zQH (x9 xfr iO gV))))),?_⟩
  refine sq3 ?_; intros; ext kL u Y Z r1 r2 q h;ext zS dx D u;show(gE,⟨HY dx,D,gB,a,S,v,z,J,ps,nm,pt,rfl,u,Y,Z,λ H1 X y M=>oO X M⟩,⟨a,dx,_,rfl,y _ _ D,gB,a,S,v,z,J,ps,b,r,rfl,Pic.same y u,r1,r2,eQ H2 C⟩);cases b with
  | true =>
   refine .inl (zGz true);show(Au,R,L,j,⟨p,R,_,rfl,L,WX,_,_,rfl,_,rfl,q U ((y.trans C).trans I)⟩)
  | false =>
   show(uA,zGz false);show(Au,R,L,id j,⟨p,R,_,rfl,L,WX,p,z,_,rfl,j,_,rfl,q U ((y.trans C).trans I)⟩)
inductive xbb (H:Hp):HK n7
 | nil:xbb H [] []
 | cons {c:oh}{q:Addr}{cs:n7}{qs:eV} (h:X9) (r:FD):xbb H (c::cs) xA
theorem xbb.keep {H H':Hp} (s:pY) {cs:n7}{qs:eV} (h:FD):xbb H' cs qs:=by
 induction h with
 | nil=>ext mj
 | cons h _ ih=>ext Te
theorem xbb.len {H:Hp}{cs:n7}{qs:eV} (h:FD):znW:=by
 induction h with
 | nil=>rfl
 | cons _ _ ih=>ext zD
theorem xbb.get {H:Hp}{cs:n7}{qs:eV} (h:FD) {i:Nat}{q:Addr} (e:F3):∃ c,(gf cs c)/\X9:=by
 induction h generalizing i with
 | nil=>ext vR
 | @cons c q' cs qs h _ ih =>
  cases i with
  | zero =>
   ext SC c
  | succ j=>ext A4
theorem xbb.append {H:Hp}{cs ds:n7}{qs rs:eV} (h:FD) (h':xbb H ds rs):xbb H (cs++ds) (qs++rs):=by
 induction h with
 | nil=>exact h'
 | cons h _ ih=>ext Ul
def xbb.snoc {H:Hp}{cs:n7}{qs:eV} (h:FD) {c:oh}{q:Addr} (e:X9):xbb H (cs++[c]) (qs++[q]):=h.append (.cons e .nil)
def xc2 {Z:L2.St}{fr:kg}{te:TE}{l:Addr}{H1:Hp}{Q:VK}{lo d:Int}{n:Nat} (f:Nat->oh) (hl:yX) (hn:n<1000)
    (hte:∀(i:Nat) (H2:Hp) (R:VK),lS->(zHe,.int (f i).1,.int (f i).2)->te ((zur).set 0 (jN zwG)) H2 R)
    (fin:∀(H2:Hp) (qs:eV),(gb,vz,tX l qQ,xbb H2 ((Oo).map f) qs,zik)):xem ztQ 1 (xc4 0) Z fr xek te l H1 Q:=by
  show(zVC,H2,∃ qs:eV,(fb,xs=qs.map V.ref,qs.length<=i,vz,tX l nG,xbb H2 ((Zx i).map f) qs))
  . exact⟨65,[],rfl,f8,kW hl,xh,.nil⟩
  . rintro i xs H2 lt _
    exact lt
  . rintro i xs H2 v C lt (⟨qs,rfl,z,q,j,y⟩:65) ⟨rfl,rfl⟩ N B
    refine xom ?_;refine hte i _ _ lt λ p x=>(eG,?_,?_,B _ _ (hV,65,qs++[p],eS,qX,?_,xh,?_))
    . show(eY,kG j x,j)
    . show(eY,Za,Jr z zSN)
    . intro b u e
      have A:b≠l:=xp e hl;show(ig,xo A,kG (q _ _ e) x,q _ _ e)
    . rw[Yw,Zv]
      refine xbb.snoc (xbb.keep Su y) ?_
      . show(ig,w6 e j,m7 x,e)
      . show(D8,xp j x,xh)
  . rintro xs H2 (⟨qs,rfl,_,q,j,y⟩:65)
    show(fc,f8,fin H2 qs q j y)
inductive xwm (t:Adr) (vs:eB) (H:Hp) (Q:VK) (_:XK):Prop
 | mk (a dp do_:Addr) (pw ph:Int) (ps:eI) (nm:Str) (pt:Pt) (b:Bool) (r:Int) (e_:zTj) (r_:j4/\yQ/\(fb,RX,1<=r,Vi,(HC,1<=pt.x,pt.x<=pw,pt.y,pt.y<=ph),∀ H' l qs,(lX,gu,TV,xbb H' (Geo.cells pw pt.x pt.y b r) qs,qs.length<100,gS)))
def lno {m:Str}{v:V} (h:sD m (ji "width")):(zgK v:lw).lookup m=none:=by
 rw[Zy,h];rfl
def ok_bx (T:eX):FnOk true P w K mg base eW 6 t.f_bx t.d_bx zls (xwm t):=by
 refine T.bx.F.okn (k:=5) sc_bx eZ (λ cdv A outer s H vs Q E hr h=>?_)
 .obtain ⟨a,dp,U,z,ph,ps,nm,pt,b,r,rfl,_⟩:=h;rfl
 .obtain ⟨a,dp,U,z,ph,ps,nm,pt,b,r,rfl,h⟩:=h;refine⟨_,xk (xas (h9 fj T.c_a T.am.m (ok_am T) fA T.am.b xv Rg))
   (xk (xcn (zld lZ) (xa4 rfl (Gp (xjy (i:=4) sc_bx.nd rfl (QZ rfl)) (pN 5 sc_bx.nd))))
   (xk (pS 6 sc_bx.nd (Oy fZ))
   (xk (pS 7 sc_bx.nd (xik (N1 iO gV) (xt) (xug xrn (xt))))
   (xk (xdh rfl (zYh "x" 4) (xk1 rfl T.n_range (kH iO gV lP)) BM Bj oX (λ_ _ _ _ _=>xaq (hF fG fj)) (j:=8) rfl y0)
   (xk (xdh rfl (zYh "row" 3) (xk1 rfl T.n_range (kH ia (uQ (xhk (qy kI T.c_x T.bn.m (ok_bn T) fA T.bn.b xv) (qy kI T.c_m T.bd.m (ok_bd T) fA T.bd.b xv)) zBM) zBM)) BM Bj oX (λ_ _ _ _ _=>zuh) (j:=9) rfl y0)
   (jI (x9 xi0 zv BL))))))),?_⟩
  refine sq7 ?_; intros; obtain⟨S,hn,hf,r1,r2,⟨x1,x2,y1,y2⟩,q⟩:47:=h;ext Xg dx hp S;by_cases hd:pt.y<r<;>cases b
  .-- down right
   show(Ho,VL false,⟨a,dx,_,rfl,O _ _ hp,gB,a,dp,U,z,ph,ps,nm,pt,rfl,lN O S,hn,hf,λ H2 q2 s2 Y=>oO q2 Y⟩,EF (s2 _ _ (O _ _ hp)) (mT,false,z,fW p H3 ae X s3));show(gE,(h8,zbr hd ?_),oM pt.y r 1 rfl Pq zOo);refine xc2 (λ i=>zau) aa eA (UR k Lr) (fW H4 qs1 s4 hu4 cu4);ext zbl;show(eC,D,H4 p=some (zbD t.C_m),zhp,ab,zfy false,zfe)
   show(uA,⟨p,M,_,rfl,D,zjP,p,z,rfl,ab,zFl⟩);ext VT zbu;have c1:zjW qs1:=by
    have e:IH=(zXg).map (ua zau):=zHN zAW
    ext eY e XE
   have c2:ziD IA:=by
    have e:IA=(zMu).map (ua zbu):=by
     ext zCi
    ext eY e cu5
   ext XY;show(i6,b1,zgw 17,VY,b2,zgv IA,VX,VH);show(zcD,xab (((zev).trans s3).trans (s4.trans s5)) J,zer,(zcT).keep (Same.tups UC),Tq)
  .-- down left
   show(Ho,VL true,zks Y,EF (s2 _ _ (O _ _ hp)) (mT,true,z,fW p H3 ae X s3));show(gE,(h8,zbr hd ?_),oM pt.y r 1 rfl Pq zOo);refine xc2 (λ i=>zau) aa eA (UR k Lr) (fW H4 qs1 s4 hu4 cu4);ext zbl;show(eC,D,H4 p=some (zbD t.C_x),zhp,ab,zfy true,zfe)
   ext zEk;ext VT zcj;have c1:zjW qs1:=by
    have e:IH=(zXg).map (ua zau):=zHN zAW
    ext eY e XE
   have c2:ziD IE:=by
    have e:IE=(zNs).map (ua zcj):=by
     ext zCj
    ext eY e cu5
   ext XY;show(i6,b1,zgw 17,VY,b2,zgv IE,VX,VH);show(zcD,xab (((zev).trans s3).trans (s4.trans s5)) J,zer,(zcT).keep (Same.tups UC),Tq)
  .-- up right
   show(Ho,VL false,zks Y,EF (s2 _ _ (O _ _ hp)) (mT,false,z,fW p H3 ae X s3));show(gE,h8 zRT,oM pt.y r (-1) rfl Pq zOn);refine xc2 (λ i=>zbc) aa eA (UR k Lr) (fW H4 qs1 s4 hu4 cu4);ext zbl;show(eC,D,H4 p=some (zbD t.C_m),zhp,ab,zfy false,zfe)
   show(uA,⟨p,M,_,rfl,D,zjP,p,z,rfl,ab,zFl⟩);ext VT zbu;have c1:zjW qs1:=by
    have e:IH=(zXf).map (ua zbc):=zFe hd
    ext eY e XE
   have c2:ziD IA:=by
    have e:IA=(zMu).map (ua zbu):=by
     ext zCi
    ext eY e cu5
   ext XY;show(i6,b1,zgw 17,VY,b2,zgv IA,VX,VH);show(zcD,xab (((zev).trans s3).trans (s4.trans s5)) J,zer,(zcT).keep (Same.tups UC),Tq)
  .-- up left
   show(Ho,VL true,zks Y,EF (s2 _ _ (O _ _ hp)) (mT,true,z,fW p H3 ae X s3));show(gE,h8 zRT,oM pt.y r (-1) rfl Pq zOn);refine xc2 (λ i=>zbc) aa eA (UR k Lr) (fW H4 qs1 s4 hu4 cu4);ext zbl;show(eC,D,H4 p=some (zbD t.C_x),zhp,ab,zfy true,zfe)
   ext zEk;ext VT zcj;have c1:zjW qs1:=by
    have e:IH=(zXf).map (ua zbc):=zFe hd
    ext eY e XE
   have c2:ziD IE:=by
    have e:IE=(zNs).map (ua zcj):=by
     ext zCj
    ext eY e cu5
   ext XY;show(i6,b1,zgw 17,VY,b2,zgv IE,VX,VH);show(zcD,xab (((zev).trans s3).trans (s4.trans s5)) J,zer,(zcT).keep (Same.tups UC),Tq)
def xp4 {K:Zd}{Z:L2.St}{fr:kg}{te:TE}{l l1:Addr}{H1:Hp}{Q:VK}{qs:eV} (hl1:yB l1 qQ) (hl:yX) (hn:qs.length<1000)
    (hte:∀(q:Addr) (H2:Hp) (R:VK),(zHe jc Gi)->te ((zur).set 0 (fX q)) H2 R)
    (fin:∀(H2:Hp) (ws:Kz),vz->(tX l (.lst (ws.map λ p=>.ref fK)))->ws.map (·.2)=zHl->zNj->Q gS H2) :
    xem (Itl K l1) 1 (xc4 0) Z fr xek te l H1 Q:=by
  refine xd5 qs.length (λ i xs H2=>∃ ws:Kz,xs=zMv/\ws.length<=i/\vz/\(tX l nG)/\ws.map (·.2)=(qs.take i).map (λ q=>(V.ref q,V.bl true))/\zNj) ?_ ?_ ?_ ?_
  . exact(ue,[],f8,kW hl,xh,eS,λ p z=>nomatch z)
  . rintro i xs H2 lt (⟨ws,_,_,j,_⟩:64)
    exact(gM,_,.ref qs[i],zpD,ip lt)
  . rintro i xs H2 v M lt (⟨ws,rfl,D,j,c,A,B⟩:66) ⟨rfl,I⟩ N L
    show(lM,x,I _ zpD,Zf);ext tR q J x;refine xom ?_;refine hte q _ _ λ p y=>(eG,?_,?_,L _ _ (iC,66,ws++[(p,jc,Gi)],eS,qX,?_,xh,?_,?_))
    . show(eY,kG c y,c)
    . show(eY,Za,Jr D zSN)
    . intro b u e
      show(ig,Tv,kG Ty y,Ty)
    . rw[Ja,J,Zv,A]
      simp
    . intro H C
      rcases Z3.mp C with z|z
      . have e:=B H z
        show(ig,w6 e c,m7 y,e)
      . ext NZ TH;show(D8,xp c y,xh)
  . rintro xs H2 (⟨ws,rfl,_,j,c,A,B⟩:66)
    rw[Jz] at A;show(fc,hB zpD eS,fin H2 ws j c A B)
noncomputable abbrev ck (c:oh):jA:=[.inl uS,.inl wg]
def xxg {c d:oh} (h:ck c=ck d):c=d:=by
 ext jY a b c f e d;simp only[ck,We.injEq,Qz.injEq,and_true] at h;rw[i0,jX]
theorem xm8 {d:Addr}{H:Hp}{cs:n7}{qs:eV} (cl:FD) (hd:gz d):∀(kvs0:i4),kvs0.length+cs.length<1000 ->
    ∃ kvs,xfc d (rF H d kvs0) zHl (rF H d kvs)/\∀ c:oh,(lv (valV kvs (ck c)))↔c∈cs\/(lv (valV kvs0 (ck c))):=by
  induction cl with
  | nil=>exact λ kvs0 _=>(eG,kvs0,.nil,λ c=>eS)
  | @cons c q cs qs h _ ih =>
    intro kvs0 A;have C:kK H d (.dT kvs0) q (.tup ((Oa).map kV)):=by
      show(eY,kG h hd,h)
    show(lM,y,DPut.t (k:=Oa) (v:=Gi) (zXL,.dT kvs0) C (ZQ (RP A:kvs0.length<1000) eJ),xfi);have I:=xb3 kvs0 Oa (.bl true);show(eE,kvs,D,j,ih (putK kvs0 Oa (.bl true)) (RP A));show(jV,kvs,.cons y D,iy x);rw[j x,xdf];by_cases e:ck x=Oa
    . show(NZ,xxg e);simp
    . show(kS,B,x≠c,e (kU z))
      ext lG e;simp[B]
noncomputable def xun (H:Hp) (o:zAJ) (v:V):Prop:=(o=none/\zjj)\/∃ c q,o=some c/\v=jc/\X9
inductive xy0 (t:Adr) (vs:eB) (H:Hp) (Q:VK) (_:XK):Prop
 | mk (a dp do_:Addr) (pw ph:Int) (ps:eI) (o1 o2:Addr) (n1 n2:Str) (p1 p2:Pt) (b1 b2:Bool) (r1 r2:Int) (e_:zLL) (r_:j4/\(fb (Mg o1 (wj,n1,Gw b1,.int r1)) (Mg o2 (wj,n2,Gw b2,.int r2)) (HC (sr n1) (Mh,G1 n1,p1) r1 (fb,r1<=ph,1<=p1.x,p1.x<=pw,1<=p1.y,p1.y<=ph)) (HC (sr n2) (Mh,G1 n2,p2) r2 (fb,r2<=ph,1<=p2.x,p2.x<=pw,1<=p2.y,p2.y<=ph)) (zrK,xun H' (Geo.meet (Geo.cells pw p1.x p1.y b1 r1) (Geo.cells pw p2.x p2.y b2 r2)) v)))
def xo1 (T:eX):FnOk true P w K mg base eW 7 t.f_meeting t.d_meeting Ir (xy0 t):=by
 refine T.B_meeting.F.okn (k:=6) xcp eZ (λ cdv A outer s H vs Q E hr h=>?_)
 .obtain ⟨a,dp,j,C,ph,ps,o1,o2,n1,n2,Y,D,b1,b2,r1,r2,rfl,_⟩:=h;rfl
 .obtain ⟨a,dp,j,C,ph,ps,o1,o2,n1,n2,Y,D,b1,b2,r1,r2,rfl,h⟩:=h;refine⟨_,xk (VC fZ xcp.nd)
   (xk (pS 6 xcp.nd (zrF (Td "cell" zCw xfw) (xay zDi) (xeo)))
   (xk (VC fG xcp.nd)
   (xk (tL (xay zDi) 7 xcp.nd (qZ (zgu lP kI) (yr 7)))
   (jI (xdi))))),?_⟩
  refine sq5 ?_; intros; obtain⟨I,ae,ad,⟨m1,f1,u1,v1,g1⟩,⟨m2,f2,u2,v2,g2⟩,q⟩:46:=h;show(uw,o2,ad,⟨a,dp,j,C,ph,ps,n2,D,b2,r2,rfl,(kT,I,m2,f2,u2,v2,g2,λ H1 l1 qs s1 L U aj=>mH l1 L l hl)⟩);refine xp4 L hl eA (λ q H2 R k=>Lr) (iR H2 ws s2 hl2 he hw);refine gY l ws rfl hl2 hw zxz;show(eE,kvs,ah,ab,xm8 (U.keep (Same.tups s2)) hd [] (by have:=U.len; simp; lia));refine gU DH _ C7 (eP he ah) ?_;show(fR,X,mw (rF H2 d kvs),xab (s1.trans s2) hd,oO o1 (X _ _ ae));ext zmx; refine⟨a,dp,j,C,ph,ps,n1,Y,b1,r1,rfl,(kT,Pic.same X I,m1,f1,u1,v1,g1,λ H4 l4 aa s4 J S ai=>⟨63,l4,rfl,(mr,ft J),?_⟩)⟩;have af:H4 d=some vw:=oP xh;refine xce (xs:=aa.map V.ref) (Pv:=λi Z H5=>∃ v7:iM,Z=[jS,fX o1,fX o2,some (.str n1),some (Gw b1),jN r1,fX d,v7]/\H4=H5 /\
   ∀ c∈(Geo.cells C Y.x Y.y b1 r1).take i,c∉zKu) (ziO eS) (qbY,z,_,zSD J) ?_ ?_
  .ext zlm v7; ext Uk;ext tR q7 ac hv;show(eE,c,hc,M,S.get ac);have mm:=ab c;refine(zix,d,Um Oa af M,ite2 yR yR)
   .have hm:c∈zKu:=by
     rcases mm.mp z with y|y
     .exact y
     .simp [valV] at y
    exact (q _ _ zeu (.inr (jf,c,q7,Geo.meet_at hc no hm,M)))
   .refine (ziO,eQ c' O);rw[Ja,hc] at O;rcases Z3.mp O with y|y
    .exact no c' y
    .have:c'=c:=zpM
     ext Ec;exact λ y=>z (mm.mpr (.inl y))
  .ext zoM v7 no;rw[Za,S.len,Jz] at no;exact q _ _ zeu (Ds,Geo.meet_no no,rfl)
def lkO {w h:Int}{dp do_:Addr}:(Kb).lookup (ji "opened")=some (.ref do_):=by
 show(zHH,"opened");rw[Zy,zfa "opened" "height"];show Jj (ji "opened") zzC=_;show(OJ,"opened","placed",[("opened",V.ref do_)])
noncomputable abbrev Seat:=Bool × Int
noncomputable def xaf (s:Seat):jA:=[.inr (xav s.1),.inl nU]
noncomputable def xa6 (s:Seat):eB:=[zvQ,.int nU]
def xhm {a b:Bool} (h:zVh):xQ:=by
 cases a<;>cases b<;>first|rfl|ext jB h gH
def xe7 {s t:Seat} (h:xaf s=xaf t):s=t:=by
 simp only[xaf,We.injEq,ZI.injEq,Qz.injEq] at h;exact Prod.ext (xhm i0) UH
noncomputable def Sts (H:Hp) (do_:Addr) (ss:eF):Prop:=∃ kvs:i4,(fO do_ vw)/\kvs.map (·.1)=R0/\ss.Nodup/\ss.length<=32
def Sts.same {H H':Hp}{do_:Addr}{ss:eF} (s:gu) (h:yi):ziz ss:=let ⟨k,e,r⟩:=h; eG k Dp r
theorem xlp {kvs:i4}{ss:eF} (e:kvs.map (·.1)=R0) {s:Seat} (h:s∉ss):Us=none:=by
 cases z:Us with
 | none=>rfl
 | some v =>
  show(U7,i,xjt z);have m:kD∈kvs.map (·.1):=Zj.mpr (jo,Zo c);rw[e] at m;show(eE,t,b,f,Zj.mp m);show(jB,b,(eP,xe7 f,h))
theorem xjx {kvs:i4}{ss:eF} (e:kvs.map (·.1)=R0) {s:Seat} (h:DY):∃ v,Us=some v:=by
 cases z:Us with
 | some v=>show(fc,v,rfl)
 | none =>
  have m:kD∈kvs.map (·.1):=zXA (jv s h)
  show(eE,p,b,c,Zj.mp m);show(lM,a,xd6 (xaf s) kvs,z);have:(zwx,λ kv=>hR (vV=xaf s)):=JR.mpr (eG p b pU);ext iF this a a
inductive xbq (H:Hp):HK eF
 | nil:xbq H [] []
 | cons {s:Seat}{q:Addr}{ss:eF}{qs:eV} (h:GG) (r:RD):xbq H Vd xA
theorem xbq.keep {H H':Hp} (k:pY) {ss:eF}{qs:eV} (h:RD):xbq H' ss qs:=by
 induction h with
 | nil=>ext mj
 | cons h _ ih=>show(uD,k _ _ h,ih)
theorem xbq.len {H:Hp}{ss:eF}{qs:eV} (h:RD):qs.length=ss.length:=by
 induction h with
 | nil=>rfl
 | cons _ _ ih=>ext zD
noncomputable def xbz (s t:Seat):Prop:=(s.1=true/\(iK t.1))\/(s.1=t.1/\nU<t.2)
theorem xsu {s t:Seat} (h:lexK (xaf s) (xaf t)=true):xbz s t:=by
 ext jY a i s b j t;unfold xaf at h;ext zxZ;by_cases e:zVh
 .show(lF,fe G4);ext zxZ;by_cases e2:i=j
  .show(lF,U1 e2);ext zxZ;cases h
  .show(lF,(pW,e2 (Qz.inj z)));show(iY,⟨xhm e,of_decide_eq_true h⟩)
 .ext lF zSm;cases a<;>cases b
  .ext qp e
  .show(jB,h,(by show ¬ xer (.inr (xav false)) (.inr (xav true))=true; ext SF))
  .ext je wT
  .ext qp e
noncomputable def unK:jA->Seat
 | [.inr s,.inl r]=>zvd s
 | _=>(true,0)
def xmq (s:Seat):unK kD=s:=by
 ext U8 r s;cases b
 .show (zvd (ji "right"))=_;rw[decide_eq_false gH]
 .show (zvd (ji "left"))=_;rw[zoE]
def xql {kvs:i4}{ss:eF} (e:kvs.map (·.1)=R0) {s:Seat}:(zUZ).map (·.1)=(ss.filter λ t=>HF t s).map xaf:=by
 have j:(zUZ).map (·.1)=(kvs.map (·.1)).filter λ k=>HF k kD:=by
  unfold xc5;rw[W1];rfl
 rw[j,e,W1]
 congr 1
 refine List.filter_congr λ t _=>?_;show Ed (xaf t≠kD) (HF t s);ext mX t s
 .subst c;simp
 .show(kS,q,xaf t≠kD,c (xe7 z));simp[c,q]
inductive xyx (t:Adr) (vs:eB) (H:Hp) (Q:VK) (_:XK):Prop
 | mk (a dp do_:Addr) (pw ph:Int) (ps:eI) (ss:eF) (b:Bool) (r:Int) (e_:zrY) (r_:(ziy,1<=r,Vi,Vm∉ss,qaZ,zUX (ziz (ss++[Vm]))))
inductive xxv (t:Adr) (vs:eB) (H:Hp) (Q:VK) (_:XK):Prop
 | mk (a dp do_:Addr) (pw ph:Int) (ps:eI) (ss:eF) (b:Bool) (r:Int) (e_:zrY) (r_:j4/\(fb,yi,1<=r,Vi,Vm∈ss,zUX (zIH Vm)))
inductive xws (t:Adr) (vs:eB) (H:Hp) (Q:VK) (_:XK):Prop
 | mk (a dp do_:Addr) (pw ph:Int) (ps:eI) (ss:eF) (e_:D6) (r_:j4/\yi/\∀(l:Addr) (ss':eF) (qs:eV),(gR,qg,xbq H ss' qs,zuq,zUc,Q gS (jj l qQ)))
def Pic.but {t:Adr}{H H':Hp}{a dp do_:Addr}{w h:Int}{ps:eI}{kvs:i4} (e:fO do_ vw) (s:zrs) (p:zf H w h):zue :=
 (zDK,x,xr zop,k,(eG,k,zop,q.keep λ b xs x=>zop))
def ok_j (T:eX):FnOk true P w K mg base eW 1 t.f_j t.d_j iU (xws t):=by
 refine T.j.F.okn (k:=0) sc_j eZ (λ cdv A outer s H vs Q E hr h=>?_)
 .obtain ⟨a,dp,D,S,U,ps,ss,rfl,_⟩:=h;rfl
 .obtain ⟨a,dp,D,S,U,ps,ss,rfl,h⟩:=h;show(vG,(Ui,xlk rfl,T.n_sorted,PyProof.Rows.Boot.«sorted»,gm));ext vP I st;ext zS dx Z I;ext ztM M X;have kl:kvs.length=ss.length:=by
   show(Hi,Em M)
  refine oN a _ dx _ _ ⟨45,Z,T.c_a,T.n_cg,lkO,(iQ,D,kvs,[false,true],rfl,hk,eA,BR L,eJ,iR l ts fr tm pm pw')⟩
  .have m:fK∈kvs.map (·.1):=Zj.mpr (zC L);rw[M] at m;show(S3,s,e,Zj.mp m);rw[<- e];rfl
  rw[M] at pm;have u:∀ t∈ts,xaf (unK t.1)=t.1:=λ t ht=>by
   show(S3,s,e,Zj.mp (pm.mem_iff.mp (Zj.mpr (jv t ht))));rw[<- e,xmq]
  have z:=q l ((ts.map (·.1)).map unK) (ts.map (·.2)) fr ?_ ?_ ?_
  .rw [ZG] at z;ext lT
  .clear pm pw'
   induction ts with
   | nil=>ext mj
   | cons t ts ih =>
    refine .cons ?_ (ih (λ x C=>tm x (Zm _ C)) λ x C=>u x (Zm _ C));have e:=tm t Zn;rw[<- u t Zn] at e;exact e
  .have O:=pm.map unK;have e2:(R0).map unK=ss:=by
    show(ig,ZG,(kM,unK∘xaf,id,funext xmq),QQ _)
   ext h7 e2 O O
  .rw [Jk] at pw';rw[ZG,Jk];refine pw'.imp_of_mem λ{x y} C Y J=>xsu ?_;show lexK (xaf (unK gG)) (xaf (unK y.1))=true;show(ig,u x C,u y Y,J)
noncomputable def SsOk (h:Int) (ss:eF):Prop:=ss.Nodup/\Rc/\∀ s∈ss,(BB nU nU h)
theorem xbq.get {H:Hp}{ss:eF}{qs:eV} (h:RD) {i:Nat}{q:Addr} (e:F3):∃ s,(gf ss s)/\GG:=by
 induction h generalizing i with
 | nil=>ext vR
 | @cons s q' ss qs h _ ih =>
  cases i with
  | zero =>
   ext SC s
  | succ j=>ext A4
def xyo {α β:Type}{f:zjf} (inj:∀ a b,f a=f b->a=b) {l:i7} (h:l.Nodup):zVF:=by
 rw[JE,Jk];exact h.imp λ c e=>c (inj _ _ e)
theorem xc3 {α:Type}{R:iA α α} (as:∀ a b,R a b->¬ R b a):∀{l l':i7},(gb,l.Perm l',l.Pairwise R,l'.Pairwise R,l=l')
 | [],l',p,_,_=>(Jy.nil_eq p)
 | a::t,[],p,_,_=>zH p.symm (by intro z; exact absurd (Jy.nil_eq z) eS)
 | a::t,b::t',p,h,h'=>by
  show(eK,A,Yq.mp h,j,Yq.mp h');by_cases e:xQ
  .ext iL;rw[xc3 as ((List.perm_cons a).mp p) A.2 j.2]
  .have C:a∈t':=by
    have:=p.mem_iff.mp (Zn (a:=a) (l:=t));rcases Zr.mp this with z|z
    .ext jB z e
    .ext lT
   have B:b∈t:=by
    have:=p.mem_iff.mpr (Zn (a:=b) (l:=t'));rcases Zr.mp this with z|z
    .show(jB,z.symm,e)
    .ext lT
   show(jB,j.1 a C,as _ _ (A.1 b B))
def xea (a b:Seat) (h:zAE):¬ xbz b a:=by
 rintro (⟨x,y⟩|⟨x,y⟩)<;>rcases h with⟨z,w⟩|⟨z,w⟩
 .ext Bp x w
 .rw [x,y] at z; ext mB
 .rw [z,w] at x; cases x
 .lia
noncomputable def xez (s:Seat):DV:=yC zvQ nU
def xq1 {s t:Seat}:xez s=xez t↔s=t:=by
 constructor
 .intro h
  unfold xez at h;simp only[DV.tup.injEq,We.injEq,DV.str.injEq,DV.int.injEq,and_true] at h;exact Prod.ext (xhm i0) jX
 .intro h
  rw[h]
def xl9 (s t:Seat):(N2,dEq (xez s) (xez t),s=t):=xj1 rfl rfl xq1
theorem xjq {K:Zd}{H:Hp}{q:Addr}{s:Seat} (h:GG):lE 1 jc (xez s):=by
 ext zps zgg a
 match j,a,b with
 | 0,a,b=>ext zxT
 | 1,a,b=>ext RQ
 | j+2,a,b=>simp[xa6] at a
def xbq.dv {K:Zd}{H:Hp}{ss:eF}{qs:eV} (h:RD) {l:Addr} (e:AV):lE 2 gS (.lst (ss.map xez)):=by
 ext zkT;ext zrw;ext HG y;exact xjq z
theorem xbq.pick {H:Hp}:(zTC,eF,(∀(j:Nat) (y:V) (s:Seat),zsu ss s GG),xbq H ss rs)
 | [],[],_,_=>zsR
 | [],gO,h,_=>jz
 | gO,[],h,_=>jz
 | Vd,rN,h,k=>by
  show(zDz,xbq.pick (ss:=ss) (ys:=ys) xY zII)
theorem xjg {α:Type} [zbN]:∀{l m:i7},l.Nodup->(∀ x∈l,x∈m)->l.length<=m.length
 | [],m,_,_=>lQ
 | a::l,m,nd,sub=>by
  obtain⟨i,c⟩:=ZM.mp nd;show(eK,b,sub a Zn,z,xjg (l:=l) (m:=m.erase a) c (El,(List.mem_erase_of_ne (λ e:x=a=>i (e▸hx))).mpr (sub x (Zm _ hx))));rw[List.length_erase_of_mem b] at z;have:=List.length_pos_of_mem b;rw[ZB]
  lia
def xiq {h:Int}{ss:eF} (h16:rL) (o:zxc) (l:32<=ss.length) (s:Seat) (r1:1<=nU) (r2:nU<=h):DY:=by
 by_cases c:DY
 .exact c
 have all:∀ x∈Vd,x∈((Zx 16).map λ i:Nat=>(true,jT+1))++(Zx 16).map λ i:Nat=>(false,jT+1):=λx hx=>by
  have b:BB jh jh h:=by
   rcases Zr.mp hx with z|z
   .rw [z]; ext fc r1 r2
   .exact o.2.2 x z
  obtain⟨u,f⟩:=x;show(eC,q,(f-1).toNat∈Zx 16,ZF.mpr zMA,j,(gk,(f-1).toNat)+1=f,zMA)
  rw[Z3];cases u
  .exact .inr (Zj.mpr zYR)
  .exact .inl (Zj.mpr zYR)
 have z:=xjg (ZM.mpr ⟨c,o.1⟩) all;simp at z
 lia
noncomputable def ptD (p:Pt):DV:=.tup [F7,.int p.x,.int p.y,.str p.sd,.int p.lo,zxs]
theorem xzs {K:Zd}{H:Hp}{q:Addr}{p:Pt} (h:Iv):lE 1 jc (ptD p):=by
 ext zps zgg a
 match j,a,b with
 | 0,a,b=>ext zxT
 | 1,a,b=>ext RQ
 | 2,a,b=>ext RQ
 | 3,a,b=>ext zxT
 | 4,a,b=>ext RQ
 | 5,a,b=>ext RQ
 | j+6,a,b=>simp[ptV] at a
def PtsL.dv {K:Zd}{H:Hp}{ps:eI}{qs:eV} (h:Fn) {l:Addr} (e:AV):lE 2 gS (zeW ptD):=by
 ext zkT;ext zrw;ext HG y;exact xzs z
structure PtOk (w h:Int) (p:Pt):Prop where
 nm:sr p.nm
 x1:1<=p.x
 x2:p.x<=w
 y1:1<=p.y
 y2:p.y<=h
 sd:znA p.sd
 l1:1<=p.lo
 l2:p.lo<=p.hi
 l3:p.hi<=h
structure xb1 (w h:Int) (ps:eI):Prop where
 ok:∀ p∈ps,PtOk w h p
 nn:(ps.map (·.nm)).Nodup
 nx:(ps.map (·.x)).Nodup
 ny:(ps.map (·.y)).Nodup
 le:zZJ
def xev {α β:Type} (f:zjf) {ps:i7} (nd:(ps.map f).Nodup) {i:Nat} (hi:i<ps.length):∀ p∈So,f p≠f ps[i]:=λ p b e=>by
 have z:=nd;rw[<- YF i ps,YV hi,Zv,Zs,ZT] at z;exact z.2.2 _ Rh _ Zn e
def xni {α β γ:Type}{f:zjf}{g:α->γ}{k:β->γ} (e:∀ a,g a=k (f a)) (inj:Xa) {l:i7} (h:zVF):(l.map g).Nodup:=by
 show(S9,xyo inj h,ZG);show(eY,(kM,g,k∘f,funext e),z)
theorem PtsL.pick {H:Hp}:∀{ps:eI}{ys:eB},(zJr,ps.length,(∀(j:Nat) (y:V) (p:Pt),zsu ps p Iv),PtsL H ps rs)
 | [],[],_,_=>zsR
 | [],gO,h,_=>jz
 | gO,[],h,_=>jz
 | Vd,rN,h,k=>by
  show(zDz,PtsL.pick (ps:=ss) (ys:=ys) xY zII)
theorem xh4 {ps:eI} (nd:(ps.map (·.nm)).Nodup) {p:Pt} (hp:M7):zuS (λ q=>i9 q.nm p.nm) p:=by
 induction ps with
 | nil=>simp at hp
 | cons a ps ih =>
  ext FP;rcases Zr.mp hp with z|z
  .subst z;rw[Ym eS]
  .have c:¬ a.nm=p.nm:=λ y=>nd.1 (y▸Zj.mpr (zC z));show(eY,Qq pU,ih xH z)
def xb1.filt {w h:Int}{ps:eI} (o:zej) (f:zyH):xb1 w h (ps.filter f) :=
 (gF,λ p c=>o.ok p (ZV.mp c).1,o.nn.sublist (WI.map _),o.nx.sublist (WI.map _),o.ny.sublist (WI.map _),Z5 xb o.le)
noncomputable def xci (p:Pt) (s:Seat):Bool:=((i9 p.sd "both")||(hR (p.sd=xav s.1)))&&((hR (p.lo<=nU))&&(hR (nU<=p.hi)))
def xq0 (sd w:Str):inV ki [.str "both",.str w]=((i9 sd "both")||(i9 sd w)):=by
 have e:∀ a b:Str,N2 M3 (b=a):=λ a b=>by
  ext zqF beq_iff_eq;exact eq_comm
 show (((ji "both") == sd)||((w == sd)||false))=_;rw[Bool.or_false,e,e]
noncomputable def xhi (s2:eF) (p:Pt) (i:Nat):Bool:=match s2[i]? with|some s=>zgP|none=>false
def xhe {s2:eF}{p:Pt}{s:Seat}{i:Nat} (h:gf s2 s):xhi s2 p i=zgP:=by
 unfold xhi;rw[h]
inductive xxc (t:Adr) (vs:eB) (H:Hp) (Q:VK) (_:XK):Prop
 | mk (a dp do_:Addr) (pw ph:Int) (ps:eI) (ss:eF) (pt:Pt) (b:Bool) (i:Int) (e_:vs=[fE,Ls,nI,fF]) (r_:ziy (sr pt.nm) zRg zw NT (zzn ((hR Di)&&xci pt uC)))
inductive xx9 (t:Adr) (vs:eB) (H:Hp) (Q:VK) (_:XK):Prop
 | mk (a dp do_:Addr) (pw ph:Int) (ps:eI) (ss:eF) (pt:Pt) (e_:xE Ls) (r_:j4/\(fb,yi,SsOk ph ss,sr pt.nm,zRg,∀(H':Hp) (l:Addr) (srt:eF) (rs:eV),gu->qg->(lX,RH,Pk,sY zPL,xbq H' (srt.filter (xci pt)) rs,gS)))
def ok_as (T:eX):FnOk true P w K mg base eW 5 t.f_as t.d_as Ip (xxc t):=by
 refine T.B_as.F.okn (k:=4) sc_as eZ (λ cdv A outer s H vs Q E hr h=>?_)
 .obtain ⟨a,O,j,R,S,ps,ss,pt,b,i,rfl,_⟩:=h;rfl
 .obtain ⟨a,O,j,R,S,ps,ss,pt,b,i,rfl,h⟩:=h;refine⟨_,xk zkL
   (xk zEp
   (xk (xcn zvE (LR (pN 4 sc_as.nd) (xw (pN 5 sc_as.nd) (xw (pN 6 sc_as.nd) (tQ 7 sc_as.nd 8 sc_as.nd)))))
   (jI (xc8 (xw8 (xg7 oF (xaq Lq) gm)) (xc8 (xdl xr3 kI (xaq (hF (xaj) fZ)) vL) (xe5 (xfm xhy xhy lP gV zv))))))),?_⟩
  refine sq4 ?_; intros; obtain⟨C,st,hn,hf,i1,i2,q⟩:47:=h;ext Iq L Z hk C;show(gE,⟨a,L,_,rfl,Z,gB,a,O,j,R,S,ps,pt.nm,pt,rfl,C,hn,hf,?_⟩,⟨a,L,_,rfl,Z,gB,a,O,j,R,S,ps,b,i,rfl,C,i1,i2,eQ H1 M⟩);show(eE,q0,e0,Y,pl.find hf);show(eK,I,m9 Z,ab,m9 hk);show(gE,xV I ⟨O,w4,rfl,(iz,e0,qU pt.nm ab),q0,_,rfl,iZ (m9 Y),rfl,?_⟩,uF q1 X);generalize J:zpw=H2;ext wP s2 X J g2;show(eK,D,m4 I,y,M.trans s2);show(Dz,ko,aa,ek,nd,ac,id st);show(eK,x,y _ _ aa,qq,q);by_cases cin:Di
  .show(zzl,xjx ek cin);show(gE,EI D (zzq,j,ku,hv,Mn x,yT),uF q3 U);generalize J:qN H2 q3 wG nI=H3;ext xN s3 U J;show(eK,g3,ug_e J,z,qq H3 (y.trans s3));rw[decide_eq_true cin,JN] at z;unfold xci at z;refine mT q3 _ (gX,zxX g3,rfl,rfl,Ar)
   .ext zNg
    rw[c,JN] at z;refine K9 c2
    .rw [c2,JN] at z;ext lT
    .rw [Jw.mpr c2,Ye] at z;ext lT
   .ext zNg
    ext C5 zyL Ye
  .have n0:valV ko (xaf uC)=none:=xlp ek cin;have z:=qq H2 y;rw[zdu cin,Ye] at z;exact EI D (Kv,j,none,n0,Mn x,iteF z)
theorem ok_af (T:eX):FnOk true P w K mg base eW 6 t.f_af t.d_af jy (xx9 t):=by
 refine T.af.F.okn (k:=5) sc_af eZ (λ cdv A outer s H vs Q E hr h=>?_)
 .obtain ⟨a,dp,J,pw,ph,ps,ss,pt,rfl,_⟩:=h;rfl
 .obtain ⟨a,dp,J,pw,ph,ps,ss,pt,rfl,h⟩:=h;refine⟨_,xk zkL
   (jI (uX (lH zVr zTY [1,0] jy s_af) (xay (OA fj)) Ou Uq (λ_ _ _ _ _=>xhp (xa2 (zFw zYQ))) zuh)),?_⟩
  refine sq2 ?_; intros; ext kL D st X hn hf q h;ext zS S hp D;show(gE,⟨HY S,hp,gB,a,dp,J,pw,ph,ps,pt.nm,pt,rfl,D,hn,hf,?_⟩,⟨a,S,_,rfl,hp,gB,a,dp,J,pw,ph,ps,ss,BX D st l1 z aa ai Z O af⟩);show(X0,jj l1 (.lst (aa.map V.ref)),ai);show(eK,Y,Z.keep (Same.tups s1),ql,Z.len);show(fR,aj,z.length<=32,(eP,O.length_eq,fV X),mH l1 g1 l2 ab);refine xen (ft g1) (pI (MT,aa.length<33)) ab (xhi z pt) (zg,∃ s q,(gf z s)/\y=jc/\GG) (λ i y H H' tp ⟨1083,s,q,e1,e2,e3⟩=>(gU,s,q,e1,e2,uO e3)) (zpu H4 s4) (vC H4 s4 el4 f4)
  .ext ziv;ext za hx;show(eE,C,I,ep,Y.get ho);have L:=s1.trans s4;have R:C∈ss:=O.mem_iff.mp (Zo I);obtain⟨ad,ac⟩:=X.2.2 C R;show(uw,o,oP ep,⟨HY S,L _ _ hp,gB,a,dp,J,pw,ph,ps,ss,pt,C.1,C.2,rfl,lN L D,st.same L,hn,hf,ad,ac,eQ H5 s5⟩)
   .refine Ar
    .ext zEz;ext BY q6 ah;exact hN _ _ (s5.trans (xab lU ah)) (eP,xhe I,c) (jf C q6 I xh)
    .ext zEz;exact hM _ s5 (by rw[xhe I]; exact Jw.mpr c)
  .have fi:=xju (xci pt) (as:=z) (p:=xhi z pt) (λ i s hs=>xhe hs);rw[Za,ql] at ly f4;obtain⟨ae,e4,U⟩:62:=xbq.pick (H:=H4) (ss:=z.filter (xci pt)) (ys:=ys) qbc (λ j y s hy hs=>by
    have hj:j<((Zx z.length).filter (xhi z pt)).length:=by
     ext zuX
    show(jb,s',q',h1,h2,h3,f4 j y _ hy NO);rw[fi.2 j _ NO,hs] at h1;ext zWI)
   subst e4;exact q H4 l2 z ae (s1.trans s4) (s1.free ab) O af el4 U
noncomputable def scD:V->DV
 | fF=>fF
 | mU=>mU
 | pB=>pB
 | _=>.non
noncomputable def scV:Ts
 | jC=>true
 | uB=>true
 | rH=>true
 | .non=>true
 | _=>false
theorem x00 {K:Zd}{H:Hp}{v:V} (h:scV v=true):lE 0 v (scD v):=by
 cases v with
 | int i=>exact .int
 | bl b=>exact .bl
 | str s=>exact .str
 | non=>exact .non
 | _=>cases h
def xlq {K:Zd}{H:Hp}{xs:eB} (f:zoW) (j:Nat) (x:V) (d:DV) (h1:hU xs x) (h2:hU (xs.map scD) d):lE 0 x d:=by
 rw[Zf,h1] at h2;cases h2;exact x00 (YU.mp f x (Zo h1))
structure Dr (t:Adr) (H:Hp) (a dp do_:Addr) (w h:Nat) (ps:eI) (ss srt:eF):Prop where
 pic:qaU
 sts:yi
 ok:zes
 pm:RH
 lt:Pk
 nm:O0
def Dr.same {t:Adr}{H H':Hp}{a dp do_:Addr}{w h:Nat}{ps:eI}{ss srt:eF} (d:Dr t H a dp do_ w h ps ss srt) (s:gu):Dr t H' a dp do_ w h ps ss srt:=(gY,Pic.same s d.pic,d.sts.same s,d.ok,d.pm,d.lt,d.nm)
theorem Pl.drop {H:Hp}{ps:eI}{kvs:gD} (h:wF) (nm:Str):Pl H Iy (xc5 kvs (.inr nm)):=by
 induction h with
 | nil=>ext mj
 | @cons p q ps kvs h r ih =>
  unfold xc5 at ih ⊢;ext Sa
  .show(uM,JB (ip c),JB (ip c),ih)
  .show(kS,b,¬ (ZI p.nm:Key)=ZI nm,qbb);rw[JA pU,JA Po];ext Ul
noncomputable def mvP (nm:Str) (x y:Int) (p:Pt):Pt:=oZ p.nm nm znF p
theorem Pl.mv {H H':Hp}{nm:Str}{x y:Int}{q1:Addr}{ps:eI}{kvs:gD} (h:wF) (tp:pY) (hq:∀ p∈ps,p.nm=nm->(kf q1 (.tup (ptV znF)))):Pl H' (ps.map (mvP nm x y)) (kvs.map λ kv=>zlA q1):=by
 induction h with
 | nil=>ext mj
 | @cons p q ps kvs h r ih =>
  have b:=ih λ p' hp'=>hq p' (Zm _ hp');rw[Zs,Zs];ext Sa
  .rw [fe (kU c),kM Rn znF ma];show(uD,hq p Zn c,b)
  .rw [(pW,c (ZI.inj z)),kM Rn p ur];show(uD,uO h,b)
theorem xy2 {ps:eI} (nd:(ps.map (·.nm)).Nodup) {p q:Pt} (hp:M7) (hq:q∈ps) (e:p.nm=q.nm):p=q:=by
 induction ps with
 | nil=>exact (nomatch hp)
 | cons a ps ih =>
  ext FP;rcases Zr.mp hp with z|z<;>rcases Zr.mp hq with b|b
  .rw [z,b]
  .show(qaC,(eG,q,b,by rw[<- e,z]))
  .show(qaC,(eG,p,z,hZ e b))
  .exact ih xH z b
inductive Thg (H:Hp):iA V DV
 | non:Thg H .non .non
 | bl (b:Bool):Thg H mU (.bl b)
 | int (i:Int):Thg H fF fF
 | str (s:Str) (h:zbQ):SI pB s
 | lst {q:Addr}{xs:eB} (h:kX nG) (f:zoW):Thg H jc (.lst (xs.map scD))
 | tup {q:Addr}{xs:eB} (h:kX ro) (f:zoW):Thg H jc (.tup (xs.map scD))
theorem Thg.same {H H':Hp} (s:gu) {v:V}{d:DV} (h:Nv):zeC:=by
 cases h with
 | non=>exact .non
 | bl b=>exact .bl b
 | int i=>exact fF
 | str s h=>exact .str s h
 | lst h f=>exact .lst GQ f
 | tup h f=>exact .tup GQ f
theorem Thg.dv {K:Zd}{H:Hp}{v:V}{d:DV} (h:Nv):lE 1 v d:=by
 cases h with
 | non=>exact .non
 | bl b=>exact .bl
 | int i=>exact .int
 | str s h=>exact .str
 | lst h f=>exact .lst (ft h) (kU Za) (xlq f)
 | tup h f=>exact .tup zgg (kU Za) (xlq f)
noncomputable def xai:gb DV Int Int Bool
 | fF,lo,hi=>(hR (lo<=i))&&(hR (i<=hi))
 | _,_,_=>false
theorem xcf {d:DV}{lo hi:Int} (h:xai d lo hi=true):∃ i,(gL,d,fF,lo<=i,i<=hi):=by
 cases d with
 | int i =>
  ext zMo h;exact rK i i0 jX
 | _=>cases h
noncomputable def intD:DV->Int
 | fF=>i
 | _=>0
def xdu {i lo hi:Int} (h1:lo<=i) (h2:i<=hi):xai fF lo hi=true:=by
 simp[xai,h1,h2]
def Thg.int_of {H:Hp}{v:V}{i:Int} (h:Thg H v fF):v=fF:=qbT
theorem Thg.str_of {H:Hp}{v:V}{s:Str} (h:SI v s):v=pB:=qbT
noncomputable def xhx:DV->Bool
 | pB=>Ng
 | _=>false
noncomputable def xcb:DV->(iH Bool)
 | pB=>zEL
 | _=>none
theorem xs5 {d:DV}{b:Bool} (h:zpC):d=nI:=by
 cases d with
 | str s =>
  change zEL=some b at h;show(mX,s,"left")
  .ext Tf ma;rw[c];rfl
  .ext lF ur;by_cases c2:s="right"
   .ext Tf MD;rw[c2];rfl
   .ext Mc Mz
 | _=>cases h
def xef (b:Bool):xcb nI=some b:=by
 cases b<;>decide +kernel
inductive Er where
 | noName (v0:V)
 | noCell (v0:V) (v1:V)
 | noSides (v0:V)
 | noWindow (v0:V) (v1:V)
 | oldPoint (v0:V)
 | tooMany
 | sameColumn (v0:V)
 | sameRow (v0:V)
 | noPoint (v0:V)
 | noSide (v0:V)
 | noRow (v0:V)
 | oldSeat (v0:V) (v1:V)
 | noSeat (v0:V) (v1:V)
noncomputable def Er.cls (t:Adr):Er->Addr
 | .noName _=>t.C_ah
 | zuN=>t.C_z
 | .noSides _=>t.C_g
 | zsm=>t.C_f
 | .oldPoint _=>t.C_k
 | .tooMany=>t.C_w
 | zZQ=>t.C_d
 | .sameRow _=>t.C_u
 | zex=>t.C_r
 | zxF=>t.C_v
 | zyT=>t.C_ay
 | ztk=>t.C_q
 | zuE=>t.C_ac
noncomputable def Er.fs:Er->lw
 | zvN=>Ra
 | zsg=>[("x",v0),("y",v1)]
 | zuv=>[("sides",v0)]
 | zqs=>[("low",v0),("high",v1)]
 | zth=>Ra
 | .tooMany=>[]
 | zrk=>Ra
 | zuu=>Ra
 | zut=>Ra
 | zvM=>[("side",v0)]
 | zxn=>[("row",v0)]
 | zrj=>zLl
 | zsf=>zLl
noncomputable def Er.told:Er->eB
 | zvN=>Dy "name"
 | zsg=>ziw "cell"
 | zuv=>Dy "sides"
 | zqs=>ziw "window"
 | zth=>Dy "old point"
 | .tooMany=>[.str "many"]
 | zrk=>Dy "column"
 | zuu=>Dy "row taken"
 | zut=>Dy "no point"
 | zvM=>Dy "side"
 | zxn=>Dy "row"
 | zrj=>ziw "old seat"
 | zsf=>ziw "no seat"
noncomputable def ErAt (t:Adr) (H:Hp) (e:Addr) (er:Er):Prop:=(er.fs=[]/\(fO e (XO e Gg none)))\/(er.fs≠[]/\zEe)
noncomputable def xb7 (t:Adr) (H H':Hp) (e:Addr) (er:Er):Prop:=gu/\ErAt t H' e er
def xb7.pre {t:Adr}{H H1 H':Hp}{e:Addr}{er:Er} (s:zhB) (h:xb7 t H1 H' e er):zVO:=⟨s.trans h.1,jX⟩
noncomputable def Outs (t:Adr) (H:Hp) (out:wX) (E:XK) (D:Prop):Prop:=(∀ er,(D0,out,er,∀ e H',zVO->E e Gg H'))/\(out=none->D)
inductive spX1 (C:Addr) (f:Str) (vs:eB) (H:Hp) (Q:VK) (_:XK):Prop
 | mk (e:Addr) (v:V) (e_:vs=[pE,v]) (r_:zKD zKM)
inductive spX2 (C:Addr) (f g:Str) (vs:eB) (H:Hp) (Q:VK) (_:XK):Prop
 | mk (e:Addr) (v w:V) (e_:vs=[pE,v,w]) (r_:zKD (zeQ zKM (putF g w zhY)))
def lk_1 {f:Str}{v:V}{r:lw}:((f,v)::r).lookup f=some v:=eS
def lk_2 {f g:Str}{v w:V} (h:sD g f):([(f,v),(g,w)]:lw).lookup g=some w:=by
 rw[Zy,h];simp
def xa7 {t:Adr}{H:Hp}{e dx C:Addr}{er:Er}{fs:lw} (hc:zsH) (hf:er.fs=fs) (he:G7) (hdx:zXq) (hn:fs≠[]:=by (intro z; ext mB)):zmU (upd (upd LC dx L3) e (XN e C oB)) oB:=by
 ext zCE
 .rw [CU,CU,zvK,CU];ext nh
 .rw [xo a,xo a,xh]
def xd9 {t:Adr}{H:Hp}{e dx C:Addr}{er:Er}{fs fs0:lw} (hc:zsH) (hf:er.fs=fs) (he:G7) (hdx:zXq) (hn:fs≠[]:=by (intro z; ext mB)):zmU (upd (upd (zeQ LC fs0) e (XN e C oB)) dx L3) oB:=by
 ext zCE
 .rw [CU,zvK,CU,zvK,CU];ext nh
 .rw [xo a,xh]
def xd7 {H:Hp}{e dx C:Addr}{a b c:HO} (hdx:Hf H e a dx):kK (upd (upd (jj e a) dx b) e (XN e C oB)) dx c e (XN e C oB):=by
 ext zUv f
 rw[lB f,xh]
def xnr {t:Adr}{H:Hp}{e C:Addr}{er:Er} (hc:zsH) (hf:er.fs=[]) (he:G7):zmU LC none:=by
 subst hc;show(nM,rR y o,Ds hf xh);ext ig CU CU q
def ok_bq (T:eX):FnOk true P w K mg base eW 1 t.f_bq t.d_bq jy (SZ t.C_ah):=by
 refine T.bq.F.okn (k:=0) sc_bq eZ (λ cdv A outer s H vs Q E hr h=>?_)
 .ext DF
 .show(BZ,t.C_ah,T.x_ah,T.n_c2)
def ok_br (T:eX):FnOk true P w K mg base eW 1 t.f_br t.d_br Cp (spX2 t.C_z "x" "y"):=by
 refine T.br.F.okn (k:=0) sc_br eZ (λ cdv A outer s H vs Q E hr h=>?_)
 .ext zis
 .ext zit;refine⟨_,xk zck
   zav,?_⟩
  refine sq2 ?_; intros; show(V2,sR e t.C_z T.x_z T.n_c9 zaP)
  exact⟨84,e,t.C_z,rfl,T.x_z,T.n_da,VZ⟩
def ok_bf (T:eX):FnOk true P w K mg base eW 1 t.f_bf t.d_bf (um "sides") (spX1 t.C_g "sides"):=by
 refine T.bf.F.okn (k:=0) sc_bf eZ (λ cdv A outer s H vs Q E hr h=>?_)
 .ext DF
 .show(BZ,t.C_g,T.x_g,T.n_cu)
def ok_a5 (T:eX):FnOk true P w K mg base eW 1 t.f_a5 t.d_a5 zaC (spX2 t.C_f "low" "high"):=by
 refine T.a5.F.okn (k:=0) sc_a5 eZ (λ cdv A outer s H vs Q E hr h=>?_)
 .ext zis
 .ext zit;refine⟨_,xk zck
   zav,?_⟩
  refine sq2 ?_; intros; show(V2,sR e t.C_f T.x_f T.n_cy zaP)
  exact sR e t.C_f T.x_f T.n_cv VZ
def ok_a6 (T:eX):FnOk true P w K mg base eW 1 t.f_a6 t.d_a6 jy (SZ t.C_k):=by
 refine T.a6.F.okn (k:=0) sc_a6 eZ (λ cdv A outer s H vs Q E hr h=>?_)
 .ext DF
 .show(BZ,t.C_k,T.x_k,T.n_cw)
def ok_av (T:eX):FnOk true P w K mg base eW 1 t.f_av t.d_av jy (SZ t.C_d):=by
 refine T.av.F.okn (k:=0) sc_av eZ (λ cdv A outer s H vs Q E hr h=>?_)
 .ext DF
 .show(BZ,t.C_d,T.x_d,T.n_cp)
def ok_bh (T:eX):FnOk true P w K mg base eW 1 t.f_bh t.d_bh jy (SZ t.C_u):=by
 refine T.bh.F.okn (k:=0) sc_bh eZ (λ cdv A outer s H vs Q E hr h=>?_)
 .ext DF
 .show(BZ,t.C_u,T.x_u,T.n_cz)
def ok_bg (T:eX):FnOk true P w K mg base eW 1 t.f_bg t.d_bg jy (SZ t.C_r):=by
 refine T.bg.F.okn (k:=0) sc_bg eZ (λ cdv A outer s H vs Q E hr h=>?_)
 .ext DF
 .show(BZ,t.C_r,T.x_r,T.n_c0)
def ok_bs (T:eX):FnOk true P w K mg base eW 1 t.f_bs t.d_bs (um "side") (spX1 t.C_v "side"):=by
 refine T.bs.F.okn (k:=0) sc_bs eZ (λ cdv A outer s H vs Q E hr h=>?_)
 .ext DF
 .show(BZ,t.C_v,T.x_v,T.n_c3)
def ok_b3 (T:eX):FnOk true P w K mg base eW 1 t.f_b3 t.d_b3 (um "row") (spX1 t.C_ay "row"):=by
 refine T.b3.F.okn (k:=0) sc_b3 eZ (λ cdv A outer s H vs Q E hr h=>?_)
 .ext DF
 .show(BZ,t.C_ay,T.x_ay,T.n_c8)
def ok_bi (T:eX):FnOk true P w K mg base eW 1 t.f_bi t.d_bi nA (spX2 t.C_q "side" "row"):=by
 refine T.bi.F.okn (k:=0) sc_bi eZ (λ cdv A outer s H vs Q E hr h=>?_)
 .ext zis
 .ext zit;refine⟨_,xk zck
   zav,?_⟩
  refine sq2 ?_; intros; show(V2,sR e t.C_q T.x_q T.n_c1 zaP)
  exact sR e t.C_q T.x_q T.n_c4 VZ
def ok_bt (T:eX):FnOk true P w K mg base eW 1 t.f_bt t.d_bt nA (spX2 t.C_ac "side" "row"):=by
 refine T.bt.F.okn (k:=0) sc_bt eZ (λ cdv A outer s H vs Q E hr h=>?_)
 .ext zis
 .ext zit;refine⟨_,xk zck
   zav,?_⟩
  refine sq2 ?_; intros; show(V2,⟨84,e,t.C_ac,rfl,T.x_ac,T.n_c5,zaP⟩)
  exact sR e t.C_ac T.x_ac T.n_c7 VZ
inductive spWT (vs:eB) (H:Hp) (Q:VK) (_:XK):Prop
 | mk (x:V) (d:DV) (lo hi:Int) (e_:vs=[x,zhQ,TQ]) (r_:(Eo x)/\(uN (xai d lo hi)))
inductive spNT (vs:eB) (H:Hp) (Q:VK) (_:XK):Prop
 | mk (x:V) (d:DV) (e_:vs=[x]) (r_:(Eo x)/\Q (.bl (xhx d)) H)
noncomputable def xfh (d:DV) (x:V):wX:=match xcb d with|zjG=>none|none=>zhU
def xg6 {d:DV}{x:V}{b:Bool} (h:zpC):xfh d x=none:=zPP
def xc9 {d:DV}{x:V} (h:xcb d=none):xfh d x=some zxE:=zPP
inductive xva (t:Adr) (vs:eB) (H:Hp) (Q:VK) (E:XK):Prop
 | mk (x:V) (d:DV) (n:Int) (e_:vs=[x,Nm]) (r_:(Eo x)/\(sy (xfh d x) (∀ b p H',lX zpC ut zWM gu iX)))
theorem okT_an (T:eX):FnOk true P w K mg base eW 1 t.f_an t.d_an OK (spWT):=by
 show(zRW,λ cdv A outer s H vs Q E hr h=>?_)
 .obtain ⟨x,d,j,z,rfl,_⟩:=h;rfl
 .obtain ⟨x,d,j,z,rfl,h⟩:=h;show(vG,xc8 (zfK "int" T.n_int boot_int) (xc8 zGW (xe5 (xfm xhy xhy fG fj fZ))));ext qL C;cases C with
  | int i =>
   ext zDT
   .refine ?_;ext zHG;rw[c,JN] at q;ext nh
   .ext zHG;rw[zyL,Ye] at q;ext nh
  | bl b =>
   refine(Pg,true,mU,vL,jw true yT);exact Pg true mU xcu (BE,true,rfl,false,iteF q)
  | str y=>ext AN UJ
  | non=>show(AN,.non)
  | lst hq=>ext AN Tz
  | tup hq=>ext AN TJ
theorem okT_b5 (T:eX):FnOk true P w K mg base eW 1 t.f_b5 t.d_b5 Sq (spNT):=by
 show(zRV,λ cdv A outer s H vs Q E hr h=>?_)
 .ext wt v d
 .ext wu v d;ext zBN C;cases C with
  | str x xl =>
   show(zPt,(by first|exact Jr xl eJ|exact Z5 xl eJ|lia))
   .have j:x.length=1:=by
     have z:(gk x.length)=1:=pU
     lia
    ext zGs;rw[decide_eq_true j,JN] at q;refine(zuW,K9 d)
    .refine ⟨83,_,_,rfl,rfl,?_⟩;rw[xpa] at d;rw[xt3];rw[d,JN] at q;ext nh
    .rw [xpa] at d;rw[Jw.mpr d,Ye] at q;ext nh
   .show(kS,j,¬ x.length=1,c (jn z));ext zGs;rw[decide_eq_false j,Ye] at q;ext nh
  | int i=>ext AN fF
  | bl b=>ext AN mU
  | non=>show(AN,.non)
  | lst hq=>ext AN Tz
  | tup hq=>ext AN TJ
theorem okT_a1 (T:eX):FnOk true P w K mg base eW 3 t.f_a1 t.d_a1 Pe (xva t):=by
 refine T.a1.F.okx (k:=2) sc_a1 eZ (λ cdv A outer s H vs Q E hr h=>?_)
 .ext EO x d n
 .ext Fe x d n;refine⟨_,xk (xan (xa2 (xao xa1 rfl T.n_isinstance boot_isinstance (xg (pv 0) (xg zlZ (xj))))) (xk (Bk (LM fj) (zGT T.k_x T.g_x))
   (qZ (LM fj) (jI (zGT T.k_m T.g_m)))) (xac))
   (tE (xck T.k_v (ok_bs T) fA rfl T.g_v T.bs.b .nil zAy)),?_⟩
  refine sq2 ?_; intros; ext Fa; ext vP R L;cases R with
  | str y =>
   show(zHh,(o8,ite2 vM vM))
   .show(eC,e,y="left",zMM c,J,xcb UJ=some true,by rw[e]; exact xef true)
    exact (λ x dx M D U=>iI x t.C_x dx n (iI,45,xh,T.c_x,T.n_cs,q (xg6 J) true x _ J M AU (xlf M D)))
   .show(fR,Y,¬ y="left",λ z=>c (by rw[z]; exact decide_eq_true rfl),(o8,zeT O))
    .show(eC,e,y="right",zMM O,J,xcb UJ=some false,by rw[e]; exact xef false)
     exact (λ x dx M D U=>iI x t.C_m dx n (iI,45,xh,T.c_m,T.n_cl,q (xg6 J) false x _ J M AU (xlf M D)))
    .show(eC,X,¬ y="right",λ z=>O (by rw[z]; exact decide_eq_true rfl),J,xcb UJ=none,by show (Bt,y,"left",true,Bt y "right" false none)=none; rw[fH Y,fH X])
     show(fc,TD,λ e I=>(L9,zFg (xc9 J)))
  | int i=>exact⟨_,_,rfl,.inl (xI,_,_,false,fF,vL,jw false OL)⟩
  | bl b=>ext ID mU OL
  | non=>show(ID,.non,OL)
  | lst hq=>ext ID Tz OL
  | tup hq=>ext ID TJ OL
noncomputable def xes (ph:Int) (dx dr:DV) (x r:V):wX:=match M4 with
 | none=>zhU
 | zjG=>Ve Fz zgd
def xu1 {ph:Int}{dx dr:DV}{x r:V} (h:xcb dx=none):XR zxE:=by unfold xes; rw[h]
def xvv {ph:Int}{dx dr:DV}{x r:V}{b:Bool} (h:zSo) (h2:iK Fz):XR zgd:=zJg
def xvp {ph:Int}{dx dr:DV}{x r:V}{b:Bool} (h:zSo) (h2:Fz=true):zSP=none:=zJg
inductive xzf (t:Adr) (vs:eB) (H:Hp) (Q:VK) (E:XK):Prop
 | mk (a dp do_:Addr) (pw ph:Int) (ps:eI) (x r:V) (dx dr:DV) (e_:zua) (r_:fS j4 yq RU (sy zSP (∀ b i H',dx=nI->(Bs,dr=fF,zw,NT,gu))))
noncomputable def xda (ph:Int) (ss:eF) (dx dr:DV) (x r:V):wX:=match M4 with
 | none=>zhU
 | some b=>zdt Fz (qaB zTy) zgd
noncomputable def xdc (ph:Int) (ss:eF) (dx dr:DV) (x r:V):wX:=match M4 with
 | none=>zhU
 | some b=>zdt Fz (Ve zTy (.noSeat x r)) zgd
theorem xo6 {ph:Int}{ss:eF}{dx dr:DV}{x r:V}{er:Er} (h:XR er):(U2,xda ph ss dx dr x r):=by
 unfold xes at h;unfold xda;cases z:M4 with
 | none=>ext h7 z h h
 | some b =>
  ext zPA
  cases y:Fz with
  | true=>ext BA y
  | false=>ext h7 y h h
theorem xop {ph:Int}{ss:eF}{dx dr:DV}{x r:V}{er:Er} (h:XR er):(U2,xdc ph ss dx dr x r):=by
 unfold xes at h;unfold xdc;cases z:M4 with
 | none=>ext h7 z h h
 | some b =>
  ext zPA
  cases y:Fz with
  | true=>ext BA y
  | false=>ext h7 y h h
def xix {ph:Int}{ss:eF}{x r:V}{b:Bool}{i:Int} (h1:zw) (h2:NT):xda ph ss nI fF x r=(qaB Di):=by
 unfold xda;rw[xef,xdu h1 h2];rfl
def xi9 {ph:Int}{ss:eF}{x r:V}{b:Bool}{i:Int} (h1:zw) (h2:NT):xdc ph ss nI fF x r=(Ve Di (.noSeat x r)):=by
 unfold xdc;rw[xef,xdu h1 h2];rfl
inductive xu9 (t:Adr) (vs:eB) (H:Hp) (Q:VK) (E:XK):Prop
 | mk (a dp do_:Addr) (pw ph:Int) (ps:eI) (ss:eF) (x r:V) (dx dr:DV) (e_:zua) (r_:(ziy,ss.length<33,(ss.length=32->∀ b i,zw->NT->Di),yq,RU,(sy (xda ph ss dx dr x r) (zFU,uC∉ss,ziz zfR))))
inductive xvx (t:Adr) (vs:eB) (H:Hp) (Q:VK) (E:XK):Prop
 | mk (a dp do_:Addr) (pw ph:Int) (ps:eI) (ss:eF) (x r:V) (dx dr:DV) (e_:zua) (r_:fb j4 yi yq RU (sy (xdc ph ss dx dr x r) (zFU Di (zIH uC))))
def okT_h (T:eX):FnOk true P w K mg base eW 4 t.f_h t.d_h nA (xzf t):=by
 refine T.h.F.okx (k:=3) sc_h eZ (λ cdv A outer s H vs Q E hr h=>?_)
 .obtain ⟨a,dp,L,M,I,ps,x,r,dx,J,rfl,_⟩:=h;rfl
 .obtain ⟨a,dp,L,M,I,ps,x,r,dx,J,rfl,h⟩:=h;refine⟨_,xk (xas (xcr (okT_a1 T) fA rfl T.a1.g T.a1.F.kp T.a1.b .nil xae.pass (hF fG gm)))
   (qZ (GX zRa) (tE (xck T.k_ay (ok_b3 T) fA rfl T.g_ay T.b3.b .nil zAx))),?_⟩
  refine sq2 ?_; intros; ext yL D U X S q h;ext zS ab O D;refine zoe O ⟨x,dx,M,rfl,U,?_,?_⟩
  .ext Tb j
   unfold xfh at j;cases u:M4 with
   | none =>
    ext gQ u j j;exact S _ (xu1 u) e H' z
   | some b=>ext iF u j j
  .intro _ b p H1 u aa sa v
   refine nx ?_; refine io ?_; intros; refine X4 (v _ _ O) (iQ,r,J,1,I,rfl,X.same v,_,rfl,?_);cases wr:xai J 1 I with
   | true =>
    show(gP,i,ei,Z,Y,xcf wr);exact iteF (q (xvp u wr) b i H1 (xs5 u) ei Z Y v)
   | false=>exact iteT (RT,zir,he,L9 (wn,hdx,t.C_ay,xh,T.mk_ay,S zyT (xvv u wr) e _ (xb7.pre v zRp)))
def okT_o (T:eX):FnOk true P w K mg base eW 5 t.f_o t.d_o nA (xu9 t):=by
 refine T.o.F.okx (k:=4) sc_o eZ (λ cdv A outer s H vs Q E hr h=>?_)
 .obtain ⟨a,dp,j,pw,ph,ps,ss,x,r,dx,dr,rfl,_⟩:=h;rfl
 .obtain ⟨a,dp,j,pw,ph,ps,ss,x,r,dx,dr,rfl,h⟩:=h;refine⟨_,xk zDu
   (xk (sS (zgu A9 gm) (tE (xck T.k_q (ok_bi T) fA rfl T.g_q T.bi.b .nil As)))
   (xq (xdt oF gm A9 (xeo) rfl))),?_⟩
  refine sq3 ?_; intros; obtain⟨D,st,ae,L,tx,tr,⟨hE,q⟩⟩:47:=h;ext zS ad hp D;ext ztM X af;refine⟨a,ad,_,rfl,hp,gB,a,dp,j,pw,ph,ps,x,r,dx,dr,rfl,D,tx,tr,(zgD,ac,hE er (xo6 ac) e H' z),?_⟩;rintro _ b i H1 rfl rfl Z Y R;ext zIL ab;generalize M:zpw=H2;show(CB,O,ab,M,g2,J,O _ _ (R _ _ hk));show(eK,I,O _ _ (R _ _ hp),U,xix (ss:=ss) (x:=nI) (r:=fF) (b:=b) Z Y);by_cases c:Di
  .show(zzl,xjx X c);show(HL,ma,U,EI I ⟨j,ku,rfl,(iz,hv,Mn J),true,rfl,yT⟩);show(fc,wC zij,λ e he=>Ga e xh (wn,hdx,t.C_q,zii,T.mk_q,hE ztk (U) e _ (xb7.pre (R.trans O) zRf)))
  .rw [ur] at U;have n0:(zec uC)=none:=xlp X c;show(gE,EI I (Kv,j,none,n0,Mn J,GN),⟨a,_,_,_,_,rfl,(jx,I,T.c_a,T.n_cg,lkO,rb,eQ q3 aa)⟩);generalize M:zTo=H3;ext wP s3 aa M g3;have kl:kvs.length=ss.length:=by
    show(Hi,Em X)
   have lt:qaZ:=by
    by_cases z:ss.length=32
    .show(jB,L z b i Z Y,c)
    .lia
   refine(oQ,j,DPut.t (k:=UU) (vX J) g3 (MT,kvs.length<33),?_);have bt:∀ c u,c≠j->H c=some u->upd H3 j (.dT (putK kvs UU (.bl true))) c=some u:=λc u nc e=>by
    show(lC,nc,s3 _ _ (O _ _ (R _ _ e)))
   refine q U b i _ rfl rfl Z Y c bt zUO (mY _ xh ?_ ?_ ?_)
   .rw [xdr _ n0,Zv,Zv,X];rfl
   .rw [ZT];show(fU,nd,eS,λ x hx y hy=>(eP,Zq.mp hy,λ e=>c (e▸hx)))
   .rw [Zt];show ss.length+1<=32
    lia
theorem okT_s (T:eX):FnOk true P w K mg base eW 5 t.f_s t.d_s nA (xvx t):=by
 refine T.s.F.okx (k:=4) sc_s eZ (λ cdv A outer s H vs Q E hr h=>?_)
 .obtain ⟨a,dp,j,pw,ph,ps,ss,x,r,dx,dr,rfl,_⟩:=h;rfl
 .obtain ⟨a,dp,j,pw,ph,ps,ss,x,r,dx,dr,rfl,h⟩:=h;refine⟨_,xk zDu
   (xk (sS (xdq (xee oF A9 gm)) (tE (xck T.k_ac (ok_bt T) fA rfl T.g_ac T.bt.b .nil As)))
   (uy (xsk oF gm A9 Ph))),?_⟩
  refine sq3 ?_; intros; ext kL D st tx tr hE q h;ext zS aa hp D;ext ztM Z R;refine⟨a,aa,_,rfl,hp,gB,a,dp,j,pw,ph,ps,x,r,dx,dr,rfl,D,tx,tr,(zgD,Y,hE er (xop Y) e H' z),?_⟩;rintro _ b i H1 rfl rfl i1 i2 M;ext zIL X;generalize J:zpw=H2;ext xN L X J;show(eK,g2,ug_e J,y,L _ _ (M _ _ hk));show(eK,I,L _ _ (M _ _ hp),O,xi9 (ss:=ss) (x:=nI) (r:=fF) (b:=b) i1 i2);by_cases c:Di
  .show(zzl,xjx Z c);rw[ma] at O;show(gE,EI I (Kv,j,ku,hv,Mn y,GN),EI I ⟨64,j,rfl,.inr (mr,.inl y),rb,eQ q3 U⟩);generalize J:zTo=H3;ext wP s3 U J g3;refine⟨125,kvs,UU,q3,v,vX y,rfl,g3,hv,?_⟩;have bt:∀ c u,c≠j->H c=some u->upd H3 j (.dT (xc5 kvs UU)) c=some u:=λc u nc e=>by
    show(lC,nc,s3 _ _ (L _ _ (M _ _ e)))
   refine q O b i _ rfl rfl i1 i2 c bt zUO (mY,_,xh,xql Z,nd.filter _,Z5 xb R)
  .rw [ur] at O;show(zy,n0,zec uC,none,xlp Z c,EI I ⟨j,none,rfl,(iz,n0,Mn y),true,rfl,yT⟩);show(fc,wC zij,λ e he=>⟨e,_,_,rfl,xh,(wn,hdx,t.C_ac,zii,T.mk_ac,hE zuE (O) e _ (xb7.pre (M.trans L) zRf))⟩)
noncomputable def hasN (ps:eI) (d:DV):Bool:=match d with
 | pB=>Ng&&znI
 | _=>false
noncomputable def xey (ps:eI) (d:DV) (n:V):wX:=Ve F4 zvR
def xgr {ps:eI}{d:DV}{n:V} (h:hasN ps d=false):Ld=some zvR:=by
 unfold xey;rw[h];rfl
def xr1 {ps:eI}{d:DV}{n:V} (h:zhP):Ld=none:=by
 unfold xey;rw[h];rfl
theorem xgk {ps:eI}{d:DV} (h:zhP):∃ s pt,(fb,d=pB,sr s,(Mh,G1 s,pt),pt∈ps,pt.nm=s):=by
 cases d with
 | str s =>
  change Ev Ng znI at h;rw[Z1,JR] at h;obtain⟨c,p,b,e⟩:=h;cases z:(zdz,G1 s) with
  | none=>show(jB,e,Jh.mp z p b)
  | some pt=>exact(iC,85,s,pt,rfl,c,z,Je z,(Cv,QC z))
 | _=>cases h
noncomputable def xd4 (pw ph:Int) (dx dy:DV) (x y:V):wX:=Ve zvI zdP
noncomputable def xch (ps:eI) (nm:Str) (x y:Int):wX:=match qbe with
 | UN=>some (.sameColumn (.str p.nm))
 | none=>match zsU with
  | UN=>some (.sameRow (.str p.nm))
  | none=>none
theorem xfa {ps:eI}{nm:Str}{x y:Int} (h:Kx=none):zFL:=by
 unfold xch at h;cases z:qbe with
 | some p=>ext BA z
 | none =>
  rw[z] at h
  dsimp only at h
  cases z2:zsU with
  | some p=>ext BA z2
  | none =>
   intro p c e;show(eK,a,Jh.mp z p c,b,Jh.mp z2 p c);simp[e] at a b;ext fc a b
theorem xn7 {α:Type}{f:SM}:∀{l:i7}{j:Nat}{p:α},(gb,hU l p,f p=true,(∀(k:Nat) (p':α),k<j->(sZ l p')->f p'=false),l.find? f=some p)
 | [],_,_,h,_,_=>yg
 | a::l,0,p,h,fp,_=>by
  simp at h;subst h;rw[Ym fp]
 | a::l,oR,p,h,fp,no=>by
  show(eY,Qq (ve,no 0 a (Qm _) rfl),xn7 xY fp λ k p' c b=>no iw p' eA Po)
theorem xe0 {α:Type}{p f:SM}:∀ l:i7,(l.filter p).find? f=l.find? λ a=>p a&&f a
 | []=>rfl
 | a::l=>by
  cases h:p a with
  | true =>
   rw[JA h,JX,JX,xe0 l,h,JN]
  | false =>
   rw[JB (ve h),JX,xe0 l,h,Ye]
inductive x0f (t:Adr) (vs:eB) (H:Hp) (Q:VK) (E:XK):Prop
 | mk (a dp do_:Addr) (pw ph:Int) (ps:eI) (n:V) (d:DV) (e_:xE n) (r_:j4/\Uy/\(sy Ld zyJ))
inductive x0t (t:Adr) (vs:eB) (H:Hp) (Q:VK) (E:XK):Prop
 | mk (a dp do_:Addr) (pw ph:Int) (ps:eI) (x y:V) (dx dy:DV) (e_:vs=[fE,x,y]) (r_:fS j4 yq FL (sy (xd4 pw ph dx dy x y) zyJ))
inductive xzd (t:Adr) (vs:eB) (H:Hp) (Q:VK) (E:XK):Prop
 | mk (a dp do_:Addr) (pw ph:Int) (ps:eI) (nm:Str) (x y:Int) (e_:vs=[fE,hJ,G9,UM]) (r_:j4/\(sy Kx (ziR Sx)))
inductive xuw (t:Adr) (vs:eB) (H:Hp) (Q:VK) (E:XK):Prop
 | mk (a dp do_:Addr) (pw ph:Int) (ps:eI) (n:V) (d:DV) (e_:xE n) (r_:j4/\Uy/\(sy Ld (∀ nm H',(vq,d=hJ,zhf,zdl Iy,.non))))
noncomputable def xe2 (pw ph:Int) (ps:eI) (d dx dy:DV) (n x y:V):wX:=zdt F4 (zdt zvI (match d with|pB=>xch ps s To zhm|_=>none) zdP) zvR
inductive xzz (t:Adr) (vs:eB) (H:Hp) (Q:VK) (E:XK):Prop
 | mk (a dp do_:Addr) (pw ph:Int) (ps:eI) (n x y:V) (d dx dy:DV) (e_:vs=[fE,n,x,y]) (r_:j4/\(ps.map (·.nm)).Nodup/\(fS Uy yq FL (sy zmg (∀ nm i j H',d=hJ->(Bs,dx=fF,dy=hX,zhf,zdl (ps.map (mvP nm i j)))))))
def Pl.get? {H:Hp}{ps:eI}{kvs:gD} (h:wF) {nm:Str} (no:¬ (ps.any λ p=>T9)=true):zhx:=h.no λ p b e=>no (JR.mpr (eG p b ya))
theorem okT_e (T:eX):FnOk true P w K mg base eW 3 t.f_e t.d_e jy (x0f t):=by
 refine T.e.F.okx (k:=2) sc_e eZ (λ cdv A outer s H vs Q E hr h=>?_)
 .obtain ⟨a,z,D,O,R,ps,n,d,rfl,_⟩:=h;rfl
 .obtain ⟨a,z,D,O,R,ps,n,d,rfl,h⟩:=h;show(AE,qZ (qae zCJ) (tE (xck T.k_r (ok_bg T) fA rfl T.g_r T.bg.b .nil lZ)));refine io ?_; intros; ext Ew u I M;ext Iq U J L u;refine zwA d I;cases hn:xhx d with
  | false =>
   have no:F4=false:=by
    cases d with
    | str s=>change iK (Ng&&_); rw[(zfI,isNm s=false)]; rfl
    | _=>rfl
   exact iteT (iteT (RT,zir,v,L9 (wn,hdx,t.C_r,xh,T.mk_r,M zex (xgr no) e _ (xa7 rfl rfl v hdx))))
  | true =>
   obtain⟨s,rfl⟩:∃ s,d=pB:=by
    cases d with
    | str s=>show(fc,s,rfl)
    | _=>cases hn
   show(nK,I.str_of);refine iteF ?_;cases ha:znI with
   | true =>
    have j:hasN ps pB=true:=by change Ev Ng _; rw[(zfI,sr s),ha]; rfl
    obtain⟨s',pt,e,_,S,_⟩:84:=xgk j;ext mC;show(jL,q0,e,pl.find S);exact xV J (Kv,z,zie,e,qU s L,iteF (q (xr1 j)))
   | false =>
    show(oJ,no,hasN ps pB,by change iK (Ng&&_); show(eY,ha,Qo _))
    refine xV J (zzq,z,none,pl.get? (nm:=s) (ve ha),qU s L,yT);show(fc,TD,λ e v=>(L9,λ dx hdx=>iW ⟨104,e,t.C_r,oB,rfl,xh,T.mk_r,M zex (xgr no) e _ (xa7 rfl rfl v hdx)⟩))
theorem okT_ab (T:eX):FnOk true P w K mg base eW 3 t.f_ab t.d_ab Cp (x0t t):=by
 refine T.ab.F.okx (k:=2) sc_ab eZ (λ cdv A outer s H vs Q E hr h=>?_)
 .obtain ⟨a,X,L,j,u,ps,x,y,dx,v,rfl,_⟩:=h;rfl
 .obtain ⟨a,X,L,j,u,ps,x,y,dx,v,rfl,h⟩:=h;show(pb,qZ (zlT (VP (kH fG (xt) gm)) zRa) (tE (xck T.k_z (ok_br T) fA rfl T.g_z T.br.b .nil As)));refine io ?_; intros; ext yL D S R O q h;show(D4,U,M,D,(zoe,M,iQ x dx 1 j rfl S _ rfl ?_));cases wx:xai dx 1 j with
  | false =>
   show(zNU,by unfold xd4; rw[wx]; rfl)
   exact iteT (iteT zCd)
  | true =>
   refine iteF (X4,M,iQ y v 1 u rfl R _ rfl ?_);cases wy:xai v 1 u with
   | false =>
    ext zNU zJD
    exact iteT zCd
   | true=>exact iteF (q zJD)
def okT_p (T:eX):FnOk true P w K mg base eW 3 t.f_p t.d_p wm (xzd t):=by
 refine T.p.F.okx (k:=2) sc_p eZ (λ cdv A outer s H vs Q E hr h=>?_)
 .obtain ⟨a,dp,ah,pw,ph,ps,nm,x,y,rfl,_⟩:=h;rfl
 .obtain ⟨a,dp,ah,pw,ph,ps,nm,x,y,rfl,h⟩:=h;refine⟨_,xk (xdh rfl (lH ["other"] ["name"] [1] ["self", "name", "x", "y", "others", "other"] s_p) zdI BM Bj (ztD (wV xzp zhX fG)) zWi (j:=4) rfl y0)
   (xk (zFy (qZ (wV xbn zhc fZ) (tE (xck T.k_d (ok_av T) fA rfl T.g_d T.av.b .nil (i3 zhc)))))
   (xq (zFy (qZ (wV xbn zhc gV) (tE (xck T.k_u (ok_bh T) fA rfl T.g_u T.bh.b .nil (i3 zhc))))))),?_⟩
  refine sq3 ?_; intros; ext vP aa hE;ext EZ ak L aa;show(jG,am,aa.len,⟨a,ak,_,rfl,L,gB,a,dp,ah,pw,ph,ps,rfl,aa,λ H1 l1 qs s1 af ad=>mH l1 af l hl⟩);have ql:=ad.len;refine xen (ft af) zrb hl (λ i=>((Na).map λ p=>hR wR).getD false) (zg,∃ p q,LI/\y=jc/\Iv) (λ i y H H' tp ⟨1083,p,q,e1,e2,e3⟩=>(gU,p,q,e1,e2,uO e3)) (λ i z H2 hz s2 N M hN hM=>?_) (vC H2 s2 el2 f2)
  .rw [Zf] at hz;ext za hz;show(eE,p,J,S,ad.get ho);refine(Gv,o,iZ (m4 S),Ar)
   .have cn:wR:=λz=>by
     rw[z] at c;simp at c
    exact (hN _ _ lU zLP (jf,p,o,J,m4 S))
   .have cn:p.nm=nm:=by
     by_cases z:zBd
     .ext lT
     .show(jB,(Cv,λ e=>z e),c)
    exact hM _ lU zLP
  ext xT; have fi:=xju (λ p:Pt=>hR wR) (as:=ps) (p:=λ i=>((Na).map λ p=>hR wR).getD false) (λ i p L=>jn L);rw[Za,ql] at ly f2;obtain⟨os,eo,Y⟩:62:=PtsL.pick (H:=H2) (ps:=Iy) (ys:=ys) qbc (λ j y p hy L=>by
   have hj:j<((qbC).filter λ i=>((Na).map λ p=>hR wR).getD false).length:=by
    ext zuX
   show(jb,I,q',h1,h2,h3,f2 j y _ hy NO);rw[fi.2 j _ NO,L] at h1;ext zWI)
  subst eo;have X:=s1.trans s2;have ab:∀(f:zyH) (j:Nat) (p:Pt),(gb,hU Iy p,f p=true,(zKS,j,f I=false),(Mh (VB,f p) p)):=λ f j p L fp no=>by
   rw[<- xe0];exact xn7 L fp no
  have ac:∀(f:zyH),(zNO,f I=false)->ps.find? (λ p=>(VB,f p))=none:=λ f no=>by
   rw[<- xe0,Jh];intro p L;obtain⟨k,O⟩:=List.getElem?_of_mem L;rw[no k p O];decide
  refine zBv qaz
  .ext zlm U; ext Uk;ext za hv;show(eE,p,J,S,Y.get ho);refine zWS 1;show(mX,p.x,x)
   .have oo:Kx=some (.sameColumn (.str p.nm)):=by
     unfold xch;rw[ab (λ p=>zeA) i p J zbf no]
    refine (zOq,iZ S,TD,zFi t.C_d T.mk_d)
   .ext zCW
    .ext zHz
    .exact no k I eA hp'
  .ext zoM U aj;refine nx ?_; refine fo ?_; intros; show(mq,ol,Y.len,ae,zNO qaz,λ k I O=>aj k I (yU,Za,ol,ui O) O);show(jG,e1,ac (λ p=>zeA) ae,zBv (K7 (I.y=y)))
   .ext zlm U; ext Uk;ext za hv;show(eE,p,J,S,Y.get ho);refine zWS 2;show(mX,p.y,y)
    .have oo:Kx=some (.sameRow (.str p.nm)):=by
      unfold xch;rw[e1,ab (λ p=>zeE) i p J zbf no]
     refine (zOq,iZ S,TD,zFi t.C_u T.mk_u)
    .ext zCW
     .ext zHz
     .exact no k I eA hp'
   .ext zoM U ai;have e2:=ac (λ p=>zeE) λ k I O=>ai k I (yU,Za,ol,ui O) O;exact q (by unfold xch; rw[e1,e2]) _ X
def okT_ba (T:eX):FnOk true P w K mg base eW 4 t.f_ba t.d_ba jy (xuw t):=by
 refine T.ba.F.okx (k:=3) sc_ba eZ (λ cdv A outer s H vs Q E hr h=>?_)
 .obtain ⟨a,y,C,O,R,ps,n,d,rfl,_⟩:=h;rfl
 .obtain ⟨a,y,C,O,R,ps,n,d,rfl,h⟩:=h;refine⟨_,xk zDv
   (uy (xs4 gm fG Ph)),?_⟩
  refine sq2 ?_; intros; ext Ew j M Z;obtain⟨⟨v,D⟩,⟨kvs,I,pl⟩,U,S,h1,h2,le⟩:=id j;refine⟨a,v,_,rfl,D,gB,a,y,C,O,R,ps,n,d,rfl,j,M,Z,iy out⟩;have J:zhP:=by
   cases z:F4 with
   | true=>rfl
   | false=>show(iF,xgr z,out,out)
  obtain⟨nm,pt,rfl,hn,Y,_⟩:84:=xgk J;show(nK,M.str_of);show(eE,q0,e,X,pl.find Y);refine xV D (rK,y,zwt I,xI kvs TZ w4 I e ?_);have L:tS y kC H (.dK (xc5 kvs TZ)):=λb u nb e=>by
   ext lC nb e
  exact q out nm _ rfl L (hV,⟨v,L _ _ (ne_f D I) D⟩,(hB,xh,(pl.drop nm).keep (l0,L _ _ (jg I) e)),U,S,h1,h2,Z5 xb le)
theorem okT_bb (T:eX):FnOk true P w K mg base eW 4 t.f_bb t.d_bb wm (xzz t):=by
 refine T.bb.F.okx (k:=3) sc_bb eZ (λ cdv A outer s H vs Q E hr h=>?_)
 .obtain ⟨a,R,L,M,O,ps,n,x,y,d,dx,dy,rfl,_⟩:=h;rfl
 .obtain ⟨a,R,L,M,O,ps,n,x,y,d,dx,dy,rfl,h⟩:=h;refine⟨_,xk zDv
   (xk zDe
   (xk zDt
   (xq (zcG (x9 xh0 (xaq Lq) (xgz xqd zvE (xhv (xt)) xhz)))))),?_⟩
  refine sq4 ?_; intros; obtain⟨I,nd,tn,tx,ty,hE,q⟩:47:=h;obtain⟨⟨J,Y⟩,⟨kvs,hk,pl⟩,w1,w2,h1,h2,le⟩:=id I;refine⟨a,J,_,rfl,Y,gB,a,R,L,M,O,ps,n,d,rfl,I,tn,?_,iy out⟩
  .ext Tb C
   unfold xey at C;cases y1:F4 with
   | true=>ext iF y1 C C
   | false =>
    show(zSZ,(by unfold xe2; rw[y1]; rfl))
  have S:zhP:=by
   cases z:F4 with
   | true=>rfl
   | false=>show(iF,xgr z,out,out)
  refine⟨a,J,_,rfl,Y,gB,a,R,L,M,O,ps,x,y,dx,dy,rfl,I,tx,ty,?_,iy D⟩
  .ext Tb C
   unfold xd4 at C;cases y1:zyh with
   | true=>ext iF y1 C C
   | false =>
    show(zSZ,(by unfold xe2; rw[S,y1]; rfl))
  have wc:zyh=true:=by
   cases z:zyh with
   | true=>rfl
   | false=>unfold xd4 at D; ext iF z D D
  obtain⟨wx,wy⟩:=YO.mp wc;ext Vu i i1 i2 wx;ext Vu j j1 j2 wy;obtain⟨nm,pt,rfl,hn,hf,af,am⟩:85:=xgk S;show(Uh,tn.str_of,tx.int_of);show(nK,ty.int_of);show(zy,om,xe2 M O ps hJ fF hX hJ fF hX,xch ps nm i j,by unfold xe2; rw[S,wc]; rfl,⟨a,J,_,rfl,Y,gB,a,R,L,M,O,ps,nm,i,j,rfl,I,(zgD,C,hE er (om.trans C) e H' z),fJ out3 H1 s1⟩);show(eE,q0,e0,ae,pl.find hf);show(eK,ai,BT Y,ak,MN);ext BY q1 ad;generalize eu:qN H1 q1 fF hX=H2;show(CB,s2,ad,eu,g2,Z,m4 ai);show(Bu,U,m4 ak,ac,s2 _ _ (s1 _ _ ae),xV Z ⟨R,w4,rfl,(iz,e0,qU nm U),2,rfl,q0,zjb,rfl,iZ ac,(λ z=>zH z.1 (wC,¬ ((2:Nat)=0))),eQ X ab⟩);show(i6,s3,Same H2 zsF,kW ab,g3,kK H2 X (.tup WR) X (.tup WR),xh,iI q1 X _ WR (kT,rfl,iZ Tm,iZ g3,eS,(DA,2+3),nB,λ_ q4 hq4=>?_));have s4:=s3.trans (Dd V8 hq4);have g4:kK zsF q4 V8 q4 V8:=xh;change _ at g4;show(Bu,ah,oP Z,aj,oP U,xV ah (oQ,R,Gu TZ aj (ZQ (mM pl.len:zZG) eJ),?_));have ek:putK kvs TZ (.ref q4)=kvs.map λ kv=>zlA q4:=by
   unfold putK;rw[xd6,e0];rfl
  rw[ek];have aa:=s1.trans (s2.trans s4);have bt:tS R kC (upd zsF q4 V8) (.dK (kvs.map λ kv=>zlA q4)):=λb u nb e=>by
   show(lC,nb,aa _ _ e)
  refine q zsa nm i j _ rfl rfl rfl bt ⟨⟨J,bt _ _ (ne_f Y hk) Y⟩,(hB,xh,pl.mv (l0,bt _ _ (jg hk) e) (fJ p hp' ep)),w1,w2,h1,h2,pI le⟩;show(ig,xy2 nd hp' af (ep.trans am.symm),lB (xp (vX U) hq4),g4)
noncomputable def mirD:gD:=zCb
noncomputable def xfo:DV->Bool
 | pB=>(zTv).isSome
 | _=>false
theorem xkd {d:DV} (h:xfo d=true):∃ s,d=pB/\(znA s):=by
 cases d with
 | str s =>
  refine jw s ?_;change lv zTv at h;unfold mirD at h;by_cases c1:s="left"
  .ext je c1
  .show(lF,(Ud,c1 (zyO).symm));by_cases c2:s="right"
   .ext zfD c2
   .show(lF,(Ud,c2 (zyO).symm));by_cases c3:s="both"
    .ext Sb c3
    .show(Mc,(Ud,c3 (zyO).symm))
 | _=>cases h
noncomputable def xe1:DV->Str
 | pB=>s
 | _=>""
noncomputable def xa3 (pw ph:Int) (ps:eI) (dn dx dy ds dl dh:DV) (n x y s lo hi:V):wX :=
 if xhx dn then
  if zvI then
   if xfo ds then
    if xai dl 1 ph&&xai dh zig ph then
     (KD,hasN ps dn,.oldPoint n,(KD,zZU,.tooMany,xch ps (xe1 dn) To zhm))
    else some zVS
   else some (.noSides s)
  else some zdP
 else some (.noName n)
inductive xyw (t:Adr) (vs:eB) (H:Hp) (Q:VK) (E:XK):Prop
 | mk (a dp do_:Addr) (pw ph:Int) (ps:eI) (n x y s lo hv hi:V) (dn dx dy ds dl dv dh:DV) (e_:vs=[fE,n,x,y,s,lo,hv]) (r_:(qu,j4,zeg,yq,FL,Lf,zdB,Thg H hv dv,((gL,hv,.non,hi=Dn,dh=Dn)\/(hv≠.non/\hi=hv/\dh=dv)),(sy (xa3 pw ph ps dn dx dy ds dl dh n x y s lo hi) (∀ nm i j sd l h H',(gb,dn=hJ,dx=fF,dy=hX,(gR,ds=ki,dl=.int l,dh=UL,zhf,(Bs,zdl (ps++[zcC h]),PtOk pw ph (zcC h),(zyc,wR,p.x≠i,p.y≠j),zcY)))))))
def okT_b (T:eX):FnOk true P w K mg base eW 4 t.f_b t.d_b zJ (xyw t):=by
 refine T.F_b.okx (k:=3) sc_b eZ (λ cdv A outer s H vs Q E hr h=>?_)
 .obtain ⟨a,dp,aj,pw,j,ps,n,x,y,s',lo,hv,hi,dn,dx,dy,ds,dl,dv,dh,rfl,_⟩:=h;rfl
 .obtain ⟨a,dp,aj,pw,j,ps,n,x,y,s',lo,hv,hi,dn,dx,dy,ds,dl,dv,dh,rfl,h⟩:=h;refine⟨_,xk (pS 7 sc_b.nd (xik (wV xlx kI (xdi)) gm kI))
   (xk (sS (GX zCJ) (tE (xck T.k_ah (ok_bq T) fA rfl T.g_ah T.bq.b .nil lZ)))
   (xk zDe
   (xk (sS (zRn (V0 (hF ia zlZ)) (xqo ia rfl T.g_ad T.D_ad)) (tE (xck T.k_g (ok_bf T) fA rfl T.g_g T.bf.b .nil TF)))
   (xk (sS (zlT (VP (kH iO (xt) gm)) (VP (kH lP iO gm))) (tE (xck T.k_f (ok_a5 T) fA rfl T.g_f T.a5.b .nil (hF iO lP))))
   (xk (sS (zgu fG gm) (tE (xck T.k_k (ok_a6 T) fA rfl T.g_k T.a6.b .nil lZ)))
   (xk (sS (wV xzg (zxI xp6 gm) (zqS 12 T.v_cx.choose_spec)) (tE (xwt T.mk_w T.ns_w T.ns_db rfl T.g_w)))
   (xk zDt
   (xq (zcG (xaq (xg fZ (Gn gV ia iO lP)))))))))))),?_⟩
  refine sq9 ?_; intros; obtain⟨X,tn,tx,ty,ts,tl,⟨tv,ar,Z,q⟩⟩:47:=h;ext Iq ac hp hk X;have as:=X.len;rcases ar with⟨rfl,rfl,rfl⟩|⟨nn,rfl,rfl⟩
  .show(fR,ak,Thg H hX hX,jC,(o8,ifP vL (X4 hp ?_)));ext zmy; refine zwA dn tn;cases hn:xhx dn with
   | false =>
    show(zBy,xa3 pw j ps dn dx dy ds dl hX n x y s' lo hX)
   | true =>
    refine iteF zCp
    .ext Tb U
     unfold xd4 at U;cases y1:Ss with
     | true=>ext iF y1 U U
     | false =>
      ext zDV
    ext zmz; have wc:(xai dx 1 pw&&xai dy 1 j)=true:=by
     cases z:Ss with
     | true=>rfl
     | false=>ext zNf
    obtain⟨wx,wY⟩:=YO.mp wc;obtain⟨O,rfl,x1,x2⟩:63:=xcf wx;obtain⟨L,rfl,y1,y2⟩:63:=xcf wY;obtain rfl:=tx.int_of;obtain rfl:=ty.int_of;obtain⟨nm,rfl⟩:∃ nm,dn=.str nm:=by
     cases dn with
     | str s=>show(fc,s,rfl)
     | _=>cases hn
    obtain rfl:=tn.str_of;have J:xfo ds=false->xa3 pw j ps hJ me mf ds dl hX hJ me mf s' lo hX=some (.noSides s'):=λe=>by
     ext zNb
    cases ts with
    | int i=>ext xU fF
    | bl b=>ext xU mU
    | non=>show(xU,.non)
    | lst hq=>ext xU Tz
    | tup hq=>ext xU TJ
    | str sd =>
     refine IF rH GN;cases hs:zYK with
     | false =>
      ext zCD
     | true =>
      ext zEI;have ad:(iK (znO hX))->xa3 pw j ps hJ me mf ki dl hX hJ me mf ki lo hX=some (.noWindow lo hX):=λ e=>by
       ext zKY
      refine zoG lo dl 1 tl;cases wl:xai dl 1 j with
      | false =>
       ext zJd hX
      | true =>
       ext zFD hX hX;cases wh:xai hX R j with
       | false =>
        ext zLd hX
       | true =>
        have ae:(xai (.int R) 1 j&&xai hX (intD (.int R)) j)=true:=by rw[wl]; exact wh
        obtain⟨ai,eh,h1,h2⟩:63:=xcf wh;have aq:(hX:V)=.int ai:=by
         show(S2,ak,eh,z.int_of)
        refine iteF ?_;cases hh:zeF with
        | true =>
         have oo:xa3 pw j ps hJ me mf ki sJ hX hJ me mf ki sJ hX=some (.oldPoint (.str nm)):=by
          ext zIY
         obtain⟨s2,pt,e2,_,hf,_⟩:84:=xgk hh;cases e2;obtain⟨q0,e0,_⟩:62:=pl.find hf;exact⟨a,_,_,_,_,rfl,⟨45,hp,T.c_a,T.n_bo,lkP,⟨dp,some (.ref q0),rfl,(by rw[<- e0]; exact DGet.k (k:=.inr nm) hk),true,rfl,iteT ⟨(by show 1<=1000; decide),λe I=>⟨e,_,rfl,xh,λdx hdx=>⟨rfl,⟨104,e,t.C_k,some dx,rfl,xh,T.mk_k,Z (.oldPoint _) (oo) e _ (xa7 rfl rfl I hdx)⟩⟩⟩⟩⟩⟩⟩
        | false =>
         have ab:∀ p∈ps,p.nm≠nm:=λp aa e=>by
          have z:zAX:=by
           ext zDs
          ext HH hh
         refine⟨a,_,_,_,_,rfl,⟨45,hp,T.c_a,T.n_bo,lkP,⟨dp,none,rfl,(by rw[<- pl.no (nm:=nm) ab]; exact DGet.k (k:=.inr nm) hk),false,rfl,iteF ?_⟩⟩⟩;have ao:¬ (hasN ps (.str nm)=true):=by rw[hh]; decide
         have kl:=pl.len;refine⟨a,_,_,_,_,rfl,⟨45,hp,T.c_a,T.n_bo,lkP,⟨83,dp,kvs,rfl,hk,⟨_,rfl,?_⟩⟩⟩⟩;by_cases c12:12<=ps.length
         .have oo:xa3 pw j ps hJ me mf ki sJ hX hJ me mf ki sJ hX=some .tooMany:=by
           show(zlS,fe c12)
          exact ifP (decide_eq_true (by lia)) λe I=>⟨104,e,t.C_w,none,rfl,xh,T.mk_w,Z (.tooMany) (oo) e _ (xnr rfl rfl I)⟩
         .have om:xa3 pw j ps hJ me mf ki sJ hX hJ me mf ki sJ hX=xch ps nm O L:=by
           ext zDN
          ext zOh zBE;show(rQ,sM leS5,q1,Y);show(i6,ah,Xk hX a zHY,(eP,kG GA Y,GA),am,Xk hX dp pA,zRP,zEm);rw[xdr (.ref q1) zpf];have nq:q1≠dp:=λz=>by
           subst z;ext iF MN Y Y
          refine q zsa nm O L sd R ai _ rfl rfl rfl rfl rfl eh Tj zBx ?_ zFJ eA
          .ext zUU
          .show(ie,w6 ah am,ah)
          .ext zHA
          .rw [xo nq,xh,aq];rfl
          .ext zCU
  .have ak:=tv;show(gE,(o8,zaN nn ?_),zwA dn tn);cases hn:xhx dn with
   | false =>
    show(zBy,xa3 pw j ps dn dx dy ds dl dh n x y s' lo hi)
   | true =>
    refine iteF zCp
    .ext Tb U
     unfold xd4 at U;cases y1:Ss with
     | true=>ext iF y1 U U
     | false =>
      ext zDV
    have wc:(xai dx 1 pw&&xai dy 1 j)=true:=by
     cases z:Ss with
     | true=>rfl
     | false=>ext zNf
    obtain⟨wx,wY⟩:=YO.mp wc;obtain⟨O,rfl,x1,x2⟩:63:=xcf wx;obtain⟨L,rfl,y1,y2⟩:63:=xcf wY;obtain rfl:=tx.int_of;obtain rfl:=ty.int_of;obtain⟨nm,rfl⟩:∃ nm,dn=.str nm:=by
     cases dn with
     | str s=>show(fc,s,rfl)
     | _=>cases hn
    obtain rfl:=tn.str_of;have J:xfo ds=false->xa3 pw j ps hJ me mf ds dl dh hJ me mf s' lo hi=some (.noSides s'):=λe=>by
     ext zNb
    cases ts with
    | int i=>ext xU fF
    | bl b=>ext xU mU
    | non=>show(xU,.non)
    | lst hq=>ext xU Tz
    | tup hq=>ext xU TJ
    | str sd =>
     refine IF rH GN;cases hs:zYK with
     | false =>
      ext zCD
     | true =>
      ext zEI;have ad:(iK (znO dh))->xa3 pw j ps hJ me mf ki dl dh hJ me mf ki lo hi=some zVS:=λ e=>by
       ext zKY
      refine zoG lo dl 1 tl;cases wl:xai dl 1 j with
      | false =>
       ext zJd dh
      | true =>
       ext zFD hi dh;cases wh:xai dh R j with
       | false =>
        ext zLd dh
       | true =>
        have ae:(xai (.int R) 1 j&&xai dh (intD (.int R)) j)=true:=by rw[wl]; exact wh
        obtain⟨ai,eh,h1,h2⟩:63:=xcf wh;have aq:(hi:V)=.int ai:=by
         show(S2,ak,eh,z.int_of)
        refine iteF ?_;cases hh:zeF with
        | true =>
         have oo:xa3 pw j ps hJ me mf ki sJ dh hJ me mf ki sJ hi=some (.oldPoint (.str nm)):=by
          ext zIY
         obtain⟨s2,pt,e2,_,hf,_⟩:84:=xgk hh;cases e2;obtain⟨q0,e0,_⟩:62:=pl.find hf;exact⟨a,_,_,_,_,rfl,⟨45,hp,T.c_a,T.n_bo,lkP,⟨dp,some (.ref q0),rfl,(by rw[<- e0]; exact DGet.k (k:=.inr nm) hk),true,rfl,iteT ⟨(by show 1<=1000; decide),λe I=>⟨e,_,rfl,xh,λdx hdx=>⟨rfl,⟨104,e,t.C_k,some dx,rfl,xh,T.mk_k,Z (.oldPoint _) (oo) e _ (xa7 rfl rfl I hdx)⟩⟩⟩⟩⟩⟩⟩
        | false =>
         have ab:∀ p∈ps,p.nm≠nm:=λp aa e=>by
          have z:zAX:=by
           ext zDs
          ext HH hh
         refine⟨a,_,_,_,_,rfl,⟨45,hp,T.c_a,T.n_bo,lkP,⟨dp,none,rfl,(by rw[<- pl.no (nm:=nm) ab]; exact DGet.k (k:=.inr nm) hk),false,rfl,iteF ?_⟩⟩⟩;have ao:¬ (hasN ps (.str nm)=true):=by rw[hh]; decide
         have kl:=pl.len;refine⟨a,_,_,_,_,rfl,⟨45,hp,T.c_a,T.n_bo,lkP,⟨83,dp,kvs,rfl,hk,⟨_,rfl,?_⟩⟩⟩⟩;by_cases c12:12<=ps.length
         .have oo:xa3 pw j ps hJ me mf ki sJ dh hJ me mf ki sJ hi=some .tooMany:=by
           show(zlS,fe c12)
          exact ifP (decide_eq_true (by lia)) λe I=>⟨104,e,t.C_w,none,rfl,xh,T.mk_w,Z (.tooMany) (oo) e _ (xnr rfl rfl I)⟩
         .have om:xa3 pw j ps hJ me mf ki sJ dh hJ me mf ki sJ hi=xch ps nm O L:=by
           ext zDN
          ext zOh zBE;show(rQ,sM leS5,q1,Y);show(i6,ah,Xk hi a zHY,(eP,kG GA Y,GA),am,Xk hi dp pA,zRP,zEm);rw[xdr (.ref q1) zpf];have nq:q1≠dp:=λz=>by
           subst z;ext iF MN Y Y
          refine q zsa nm O L sd R ai _ rfl rfl rfl rfl rfl eh Tj zBx ?_ zFJ eA
          .ext zUU
          .show(ie,w6 ah am,ah)
          .ext zHA
          .rw [xo nq,xh,aq];rfl
          .ext zCU
def xz9 {H:Hp}{nm:Str} (h:yQ):SI hJ nm:=.str nm (by
 unfold isNm at h;rw[Z1,decide_eq_true_eq] at h;rw[i0];decide)
def xzw {H:Hp}{sd:Str} (h:zrR):SI ki sd:=.str sd (by rcases h with rfl|rfl|rfl<;>decide)
def xqg {pw ph x y lo hi:Int}{ps:eI}{nm sd:Str}{n vx vy s vl vh:V} (hn:yQ) (x1:Oc) (x2:x<=pw) (y1:1<=y) (y2:y<=ph) (hs:zrR) (l1:1<=lo) (l2:ziW) (l3:hi<=ph) (hu:zJE) (hl:zcY):xa3 pw ph ps hJ G9 UM ki zhQ TQ n vx vy s vl vh=none:=by
 show(gq,v,ps.any (λ p=>T9)=false,List.any_eq_false.mpr λ p hp e=>(zAe).1 (of_decide_eq_true e),u,zOt zeA,Jh.mpr λ p hp e=>(zAe).2.1 (of_decide_eq_true (Nh▸e).2),j,zOt zeE,Jh.mpr λ p hp e=>(zAe).2.2 (of_decide_eq_true (Nh▸e).2));show(eC,c,xfo ki=true,(by rcases hs with rfl|rfl|rfl<;>rfl),b,hasN ps hJ=false,by show iK (isNm nm&&zUx); rw[v,Qo])
 unfold xa3;rw[fe (zfI,xhx hJ=true),xdu x1 x2,xdu y1 y2,zJX,ma,xdu l1 (Wu l2 l3),(wD,xai TQ (L4 lo) ph,xdu l2 l3),zJX,b,zia,if_neg (Nat.not_le.mpr hl)];show Kx=none;unfold xch;rw[u];show (match zsU with|UN=>some (Er.sameRow (.str p.nm))|none=>none)=none;rw[j]
def xjp {t:Adr}{H:Hp}{o:wX}{E:XK}{D:Prop} (e:o=none) (h:D):sy o D:=(zkd,λ a z=>(by ext uT z),h)
def xn1 (T:eX):FnOk true P w K mg base eW 4 t.f_b t.d_b zJ (xzk t):=by
 refine (okT_b T).imp eZ;obtain⟨a,dp,D,S,C,ps,nm,x,y,R,I,u,z,rfl,B,hh,L,x1,x2,y1,y2,J,Z,Y,X,hu,hl,q⟩:=h;obtain⟨dv,A,M,hc⟩:∃ dv A,Thg H z dv/\((gL,z,.non,A=.int C,DV.int u=.int C)\/(z≠.non/\A=z/\DV.int u=dv)):=by
  rcases hh with⟨rfl,rfl⟩|rfl
  .exact (fh,.non,UK,.non,.inl Ge)
  .exact (fh,UK,UK,UK,.inr ⟨nofun,rfl,rfl⟩)
 exact⟨a,dp,D,S,C,ps,_,_,_,_,_,z,A,hJ,G9,UM,.str R,.int I,dv,UK,rfl,B,xz9 L,G9,UM,xzw J,.int I,M,hc,xjp (xqg L x1 x2 y1 y2 J Z Y X hu hl) λ U i j O l h H' e1 e2 e3 e4 e5 e6 k v _ _ _=>by
  ext BF e1 e2; ext BF e3 e4; ext BF e5 e6;exact q H' k v⟩
def xme (T:eX):FnOk true P w K mg base eW 5 t.f_o t.d_o nA (xyx t):=by
 refine (okT_o T).imp eZ;obtain⟨a,M,z,C,D,ps,ss,b,r,rfl,y,st,r1,r2,I,A,q⟩:=h;exact⟨a,M,z,C,D,ps,ss,_,_,nI,Nr,rfl,y,st,Nat.lt_succ_of_lt A,λ e=>absurd e (ZE A),zJm,Nr,xjp (hZ,xix r1 r2,fH I) λ B i H' L J _ _ _ k v x=>by
  cases J;have e:B=b:=by
   have:=DV.str.inj L;revert this;cases b<;>cases B<;>decide
  ext mC;exact q H' k v x⟩
def xsg (T:eX):FnOk true P w K mg base eW 5 t.f_s t.d_s nA (xxv t):=by
 refine (okT_s T).imp eZ;obtain⟨a,I,x,z,A,ps,ss,b,r,rfl,v,st,r1,r2,B,q⟩:=h;exact⟨a,I,x,z,A,ps,ss,_,_,nI,Nr,rfl,v,st,zJm,Nr,xjp (hZ,xi9 r1 r2,fe B) λ y i H' D C _ _ _ k c u=>by
  cases C;have e:y=b:=by
   have:=DV.str.inj D;revert this;cases b<;>cases y<;>decide
  ext mC;exact q H' k c u⟩
inductive xyk (t:Adr) (vs:eB) (H:Hp) (Q:VK) (_:XK):Prop
 | mk (w h:Int) (l m:Addr) (ps:eI) (qs:eV) (ss:eF) (rs:eV) (e_:vs=[Nl,UL,gS,.ref m]) (r_:fS (HC,1<=w,rM,h,rL) AV Fn (fb,zej,fO m (.lst (rs.map V.ref)),xbq H ss rs,zxc,∀ H' a dp do_,gu->UP->(lX TK (gz do_) zue (ziz ss) fE)))
def ok_au (T:eX):FnOk true P w K mg base eW 6 t.f_au t.d_au zlg (xyk t):=by
 refine T.au.F.okn (k:=5) sc_au eZ (λ cdv A outer s H vs Q E hr h=>?_)
 .obtain ⟨w,U,l,m,ps,qs,ss,rs,rfl,_⟩:=h;rfl
 .obtain ⟨w,U,l,m,ps,qs,ss,rs,rfl,h⟩:=h;refine⟨_,xk (pS 4 sc_au.nd (zFv (lO fG)))
   (xk (IY zjg (xw (pN 5 sc_au.nd) (xw (pN 6 sc_au.nd) (xw (pN 7 sc_au.nd) (xw (pN 8 sc_au.nd) (tQ 9 sc_au.nd 10 sc_au.nd))))) (zId ia (Ff iO kI (Ff lP zv (Ff BL Bw (xj))))))
   (xk (IY (NX 3) (tQ 11 sc_au.nd 12 sc_au.nd) (zHf ia (pv 11) (pv 12)))
   (yr 4))),?_⟩
  refine sq4 ?_; intros; obtain⟨⟨w1,w2,h1,h2⟩,hl,pts,M,hm,sts,⟨⟨aj,as,ac⟩,q⟩⟩:47:=h;refine (λ a dx hx ae ne=>iI a dx w U (jx,xh,w1,w2,h1,h2,λ H5 dp do_ hdp5 hdo5 s6 pic5 hdt=>AW));ext xT; have k5:My:=zMk ae;have up:GR (upd H dx (.own a)) a zse i8:=λ b z=>by
   cases e:wb with
   | none=>rfl
   | some u=>rw[TW,m7 ae,e] at z; ext mB
  show(eK,af,up _ hdp5,ah,up _ hdo5);show(Bu,pl,pts.len,sl,sts.len,(Ht,l,ft (k5 _ _ hl),?_))
  show(zMy,(zRl,jH Z [Nd,jN U,vF,fX m,jS,v5,v6,v7,Y,X,L,J,I] zhA (Gx H2 a w U So) (tX do_ DH)))
  show(EE,zde,(Av (PB,k5,by simpa using pic5,hdt)),(λ_ _ _ _ ⟨1121,_,_,_,_,zLy⟩=>zVE))
  .rintro i v Z H2 hv (⟨v5,v6,v7,Y,⟨X,L,J,I,rfl,s2,D,R⟩⟩:121);ext Uk;ext tR z hz hv;show(eE,p,hp,ez,pts.get hz);ext Ly hi ep hp;have ok:=M.ok p (Zo hp);obtain⟨⟨ar,ao⟩,⟨kvs,ap,_⟩,_⟩:=id D;show(jG,au,M.le,oO z (m4 ez));show(gE,F8 a ar ao gB,⟨a,dp,do_,w,U,So,p.nm,p.x,p.y,p.sd,p.lo,p.hi,zxs,rfl,kT D C7 ok.nm ok.x1 ok.x2 ok.y1 (HZ,ok.y2,ok.sd,ok.l1,ok.l2,ok.l3,eQ p' ab,?_,fJ H3 k3 j)⟩)
   .have e:=ep.symm;ext iL;show(fU,zwn M.nn,zwn M.nx,zwn M.ny)
   .rw [JY]
    lia
   .refine Av (PB,(jE,k3 b u (xp e af) (s2 b u e)),?_,k3 _ _ (ne_f R ap) R);ext ig Ja hp j
  .rintro Z H2 (⟨v5,v6,v7,Y,⟨X,L,J,I,rfl,s2,D,R⟩⟩:121);ext zmx; rw[Za,pl,Jz] at D;refine(Ht,m,ft (s2 _ _ hm),?_)
   show(zMz,zRl (jH,Z,[Nd,jN U,vF,fX m,jS,v5,v6,v7,Y,X,L,J,I],zAz,zf H3 w U,Sts H3 do_ (ss.take i)))
   show(EE,qbu,(Av (PB,s2,D,mY [] R rfl YK eS)),(λ_ _ _ _ ⟨1121,_,_,_,_,zLy⟩=>ft (z _ _ hm)))
   .rintro i v Z H3 hv (⟨v5,v6,v7,Y,⟨X,L,J,I,rfl,s3,j,O⟩⟩:121);ext Uk;ext tR z hz hv;show(eE,s0,aa,ez,sts.get hz);ext Ly hi es aa;show(jY,b,r,s0,r1,r2,ac _ (Zo aa));ext zS aq am j;have ak:Vm∉ss.take i:=λ hmem=>by
     have:=xev id (by simpa using aj) hi _ hmem;exact this (kU es)
    refine oO z (vX ez);show(gE,F8 a aq am gB,⟨a,dp,do_,w,U,ps,ss.take i,b,r,rfl,(kT,j,O,r1,r2,ak,?_,ib H4 k4 ad ai)⟩)
    .rw [JY]
     lia
    .refine (Av,PB (NM,k4 c u (xp e ah) (s3 c u e)) ad ?_);ext ig Ja aa ai
   .rintro Z H3 (⟨v5,v6,v7,Y,⟨X,L,J,I,rfl,s3,j,O⟩⟩:121);rw[Za,sl,Jz] at O;exact (q H3 a dp do_ s3 hx af ah j O)
inductive xw0 (t:Adr) (f:gb Int Int Pt Pt) (g:Int->Seat->Seat) (vs:eB) (H:Hp) (Q:VK) (_:XK):Prop
 | mk (a dp do_:Addr) (pw ph:Int) (ps:eI) (ss:eF) (e_:D6) (r_:(fb,j4,yi,xb1 pw ph ps,SsOk ph ss,∀(H':Hp) (a' dp' do':Addr) (ss':eF),gR gu (gz a') (gz dp') (gz do') (lX,zuq,zUc,Pic t H' a' dp' do' pw ph (ps.map (f pw ph)),Sts H' do' (ss'.map (g ph)),.ref a')))
def SsOk.perm {h:Int}{ss ss':eF} (p:zuq) (o:zxc):SsOk h ss':=(eG,p.nodup_iff.mpr o.1,(eP,p.length_eq,fV o),λ s a=>o.2.2 s (p.mem_iff.mp a))
def ok_ax (T:eX):FnOk true P w K mg base eW 7 t.f_ax t.d_ax iU (xw0 t (λ_ _ p=>p) (λ_ s=>s)):=by
 refine T.ax.F.okn (k:=6) sc_ax eZ (λ cdv A outer s H vs Q E hr h=>?_)
 .obtain ⟨a,dp,C,J,L,ps,ss,rfl,_⟩:=h;rfl
 .obtain ⟨a,dp,C,J,L,ps,ss,rfl,h⟩:=h;show(vG,pC (ok_au T) hr T.au.g T.au.F.kp T.au.b (Gn gm gm (V6 fj) (OA fj)));ext yL z st X R q h;obtain⟨⟨dx,M⟩,_,w1,w2,h1,h2,_⟩:=id z;show(gE,EF M ⟨a,_,dx,_,_,NY M T.n_b6 lkH a dx,rfl,M,gB,a,dp,C,J,L,ps,rfl,z,iR H1 l1 qs y Y U⟩,⟨a,dx,_,rfl,y _ _ M,gB,a,dp,C,J,L,ps,ss,(BX,Pic.same y z,st.same y,l2,D,rs,fr,sl,pm,S)⟩);show(fR,v,Os (upd H1 l2 (.lst (rs.map V.ref))),kW fr,⟨J,L,l1,l2,ps,qs,D,rs,rfl,(HZ,gX w1 w2 h1 h2,v _ _ Y,U.keep (Same.tups v),X,xh,sl.keep (Same.tups v),R.perm pm,λ H' a' Z aa s3 f1 f2 f3 I O=>?_)⟩);exact q H' a' Z aa D (y.trans (v.trans s3)) ((zxp).free f1) ((zxp).free f2) ((zxp).free f3) pm S (zJn I) (zJn O)
def xqj {x d:Int} (h:0<d) (h2:d<=4294967296):-vD<x % d/\x % d<vD:=by
 show(eK,a,W3 x (show d≠0 from eA),b,QP x h);ext fc eA eA
def xba (x:Int) {d:Int} (h:0<d):0<=x % d/\x % d<d:=⟨W3 _ eA,QP _ h⟩
inductive xw3 (K:Zd) (vs:eB) (H:Hp) (Q:VK) (_:XK):Prop
 | mk (a:Addr) (ns:gK) (k:Int) (e_:xE zjM) (r_:(fS,zcU,0<=k,k<nH,∀ c:Int,ub c))
inductive x0s (vs:eB) (H:Hp) (Q:VK) (_:XK):Prop
 | mk (c k:Int) (e_:vs=[Nn,zjM]) (r_:∀ m:Int,0<=m->m<2147483587->(ub m))
noncomputable def abc:Str:="abcdefghijklmnopqrstuvwxyz"
def xvs:abc.cps.toList=(Zx 26).map (97+·):=gH
noncomputable def ltr (i:Int):Str:=⟨#[Lh]⟩
def xnh {i:Int} (h0:N8) (h1:i<26):yx abc.cps.toList i Lh:=by
 show(wQ,j,Yi h0);show(BW,26,eA)
 refine xdd ?_;rw[xvs,Zf,JK lt];rfl
def xvh {i j:Int} (hi:N8) (hj:0<=j) (h:ltr i=ltr j):i=j:=by
 unfold ltr at h;have:=congrArg (λ s:Str=>s.cps.toList) h;simp at this
 lia
def xmh {i:Int} (h0:N8) (h1:i<26):sr (ltr i):=by
 unfold isNm ltr;show(eC,h,¬ ([Lh]<[97]),by ext zXN; rintro (z|⟨_,z⟩); lia; ext mB,b,¬ ([122]<[Lh]),by ext zXN; rintro (z|⟨_,z⟩); lia; ext mB)
 show Ev (i9 1 1) (zNl [Lh]);rw[zpb,decide_eq_false b];rfl
noncomputable def xfb:gK:=[1,3,5,7,9,11,15,17,19,21,23,25]
def xu8 (m:Int):∃ s:Int,(Hm,atI (xfb.map V.int) (m % 12),.int s,zAt):=by
 show(jY,f,c,Ct m 12,j,b,Yi f);rw[b] at c ⊢;show(BW,xfb.length,(yy,j<12))
 show(fU,xfb[j],xdd zzR,Yn lt)
inductive xvu (vs:eB) (H:Hp) (Q:VK) (_:XK):Prop
 | mk (c:Int) (n:Nat) (e_:vs=[Nn,Nm]) (r_:n<=26/\∀(s:Int) (H':Hp) (l:Addr),vq zAt gu (sY (.lst ((Oo).map zKB))) gS)
inductive xsn (vs:eB) (H:Hp) (Q:VK) (_:XK):Prop
 | mk (c sz:Int) (n:Nat) (e_:vs=[Nn,.int sz,Nm]) (r_:pF<=sz/\sz<=30/\∀(zs:gK) (H':Hp) (l:Addr),zs.length=n->(lX zs.Nodup zMN gu (sY (.lst (zs.map V.int))) gS))
inductive xyh (vs:eB) (H:Hp) (Q:VK) (_:XK):Prop
 | mk (c:Int) (e_:vs=[Nn]) (r_:∀(w h:Int) (H':Hp) (p:Addr),1<=w->rM->(lX,1<=h,rL,gu,kf p (yC Nl h),iX))
def ok_aq (T:eX):FnOk true P w K mg base eW 1 t.f_aq t.d_aq Xp (xw3 K):=by
 refine T.aq.F.okn (k:=0) sc_aq eZ (λ cdv A outer s H vs Q E hr h=>?_)
 .ext EO a ns k
 .ext Fe a ns k;refine⟨_,xk (Bk (N1 fG (VA fj)) (sE fj fG))
   (jI (GU (zjX fG))),?_⟩
  refine sq2 ?_; intros; ext Fa; ext Ew m p r;refine(oQ,a,.inl m,GO);refine ite2 vM vM
  .have u:k<zbR:=pU
   show(wQ,j,Yi p);show(BW,ns.length,eA)
   exact sP a _ (mS,m,xdd zzR,q _)
  .exact ⟨zhG,q _⟩
def ok_b2 (T:eX):FnOk true P w K mg base eW 1 t.f_b2 t.d_b2 (zW "_law_k") (x0s):=by
 refine T.b2.F.okn (k:=0) sc_b2 eZ (λ cdv A outer s H vs Q E hr h=>?_)
 .ext wt c k
 .ext wu c k;refine⟨_,xk (pS 2 sc_b2.nd (sC (x9 xei (uQ fj (zjX fG)) (xt))))
   (xk (pS 2 sc_b2.nd (sC qaA))
   (jI (sC (uQ (uQ qaA (zjX fZ)) fG)))),?_⟩
  refine sq3 ?_; intros; show(Ho,(gX,zhG,.inr j6,mJ 2147483647,?_),nQ zTa (mJ 2147483629),gX zTa zhG (mJ 2147483587) ?_);exact h _ (Da).1 (Da).2
def ok_b8 (T:eX):FnOk true P w K mg base eW 1 t.f_b8 t.d_b8 (zW "_law_many") (xvu):=by
 refine T.b8.F.okn (k:=0) sc_b8 eZ (λ cdv A outer s H vs Q E hr h=>?_)
 .ext wt c n
 .ext wu c n;refine⟨_,xk (IR 2 sc_b8.nd (xaj))
   (by
   with_reducible refine' xk ?a ?b
   case a =>
    with_reducible refine' xeh (i:=3) ?n ?i ?x ?e ?s ?f
    case n=>exact sc_b8.nd
    case i=>rfl
    case x=>exact QZ rfl
    case f=>ext MV
    case e =>
     with_reducible refine' xaa (r:=rIxL K) ?r ?l ?j ?p
     case r=>exact x8
     case j=>exact zdg
     case p=>exact oY
     case l =>
      with_reducible refine' xbp ?pa
      case pa =>
       with_reducible show(vS,?q1)
       case q1 =>
        with_reducible show(vS,?q2)
        case q2 =>
         with_reducible show(vS,?q3)
         case q3 =>
          with_reducible show(vS,?q4)
          case q4 =>
           with_reducible show(vS,?q5)
           case q5 =>
            with_reducible show(vS,?q6)
            case q6 =>
             with_reducible show(vS,?q7)
             case q7 =>
              with_reducible show(vS,?q8)
              case q8 =>
               with_reducible show(vS,?q9)
               case q9 =>
                with_reducible show(vS,?q10)
                case q10 =>
                 with_reducible show(vS,?q11)
                 case q11 =>
                  with_reducible show(vS,?q12)
                  case q12 =>
                   exact xj
    case s=>rfl
   case b =>
    exact (jI (SE,(lH ["_law_k"] ["_law_letters", "_law_cell_here", "_law_step"] [2,0,3] zCR s_b8),xf9 rfl T.n_range lZ,xaa xp1 fG (sC (uQ fZ (x9 xei gV fj))) oY))),?_⟩
  refine sq3 ?_; intros; ext qL U;show(eE,s,S,L,xu8 (c / 26));show(gE,⟨(wC,ju 12),λ q0 I=>⟨j6,(mJ 12),q0,_,_,.int s,rfl,rfl,zAG,S,?_⟩⟩,(mY,pF,rfl,eA,eA,eQ l M));have J:mw (jj q0 (.lst (xfb.map V.int))):=kW I;show(zVC,C,xs=(Zx i).map zKB/\(mw C)/\C l=some nG)
  .exact (Eg,xab J M,xh)
  .rintro i xs C lt _;show i<(kh n).toNat;simpa using lt
  .rintro i xs C v X lt (⟨rfl,D,y⟩:43) ⟨rfl,rfl⟩ N R;refine xom ?_;refine⟨.inl ?_,(mJ 26),abc,_,_,rfl,rfl,gH,zRF,y,?_,?_⟩
   .have O:∀ z∈xfb,(BB z z 25):=eJ
    have:=O s L;constructor<;>lia
   .rw [Za,ZU];exact ZQ (eA:i<27) eJ
   .refine R _ _ zYn
    .rw [Yw,Zv];simp[ltr]
    .show(ie,kG (J _ _ e) M,D b u e)
  .rintro xs C (⟨rfl,D,y⟩:43);show(fc,ip Itr,q s C l L D zpM)
def ok_be (T:eX):FnOk true P w K mg base eW 2 t.f_be t.d_be zlv (xsn):=by
 refine T.be.F.okn (k:=1) sc_be eZ (λ cdv A outer s H vs Q E hr h=>?_)
 .ext EO c sz n
 .ext Fe c sz n;refine⟨_,xk (pS 3 sc_be.nd (zNt (xk7 rfl) (xca xm4 rfl T.n_range boot_range (hF (xt) (GU fG)))))
   (xk (pS 4 sc_be.nd (xbp (xj)))
   (xk (tL (xf9 rfl T.n_range zAx) 5 sc_be.nd (uy (KG ia (i3 (xfz Jc PySem.F.slot_list_pop PySem.F.type_list_pop xsa gV (i3 (x9 xa0 (pC (ok_b2 T) hr T.b2.g T.b2.F.kp T.b2.b (lO iO)) zgW)))))))
   (yr 4))),?_⟩
  refine sq4 ?_; intros; ext vP n1 n2;show(gE,(gM,1,sz+1,rfl,zp ⟨105,p,1,sz+1,rfl,xh,zTc,eA,eQ lf hlf⟩),vA XA L D);ext xT; have ab:rngL 1 (sz+1)=((Zx sz.toNat).map (ua,Bi+jT)).map V.int:=by
   unfold rngL;rw[ZG,(kM,(sz+1-1).toNat,sz.toNat,eA)];rfl
  rw[ab] at D ⊢;show(fR,J,L≠lf,qx xh D,mY pF rfl eA eA ?_);refine xf8 (Pv:=λ i Z M=>∃(zs C:gK) (X:iM),Z=[UG,jN sz,jN n,fX lf,fX L,X]/\M lf=some (.lst (C.map V.int))/\M L=some (.lst (zs.map V.int)) /\
   zs.length=i/\(gL,C.length+i,sz.toNat,zs.Nodup,(fb C.Nodup (∀ z∈zs,z∉C) zMN (∀ z∈C,(BB z z sz)) (mw M)))) ?_ ?_ ?_
  .refine ⟨106,[],(Zx sz.toNat).map (ua,Bi+jT),_,rfl,?_,xh,rfl,eS,(jx,YK,?_,zTz,zTz,Ay,xab (xab zAn hlf) D)⟩
   .show(ie,lB J,xh)
   .refine Yc.map _ (fJ a b h) Wi;intro z;apply h
    lia
   .show(on,i,hi,rfl,Zj.mp hz);rw[ZF] at hi
    lia
  .rintro i Z M hi (⟨zs,C,X,rfl,U,S,e1,e2,⟨d1,d2,d3,b1,b2,Y⟩⟩:106);show(i6,ac,lS,zSv,lp,0<C.length,eA,(iI,wv S,wv U,c,_,fJ m m0 m1));have R:(gk 0)<(gk,(zun).length):=MI
   show(jY,k0,k1,xba m R,j,hj,Yi k0);have jl:j<C.length:=by
    have z:=k1;rw[hj,Za] at z
    lia
   have gy:hU zun (V.int C[j]):=(On,Zc jl)
   refine(sR,lf,_,Lj U,R,(ir,lf,_,_,j,ue _ rfl U eA ?_ ⟨?_,gy,L,zs.map V.int,_,rfl,rfl,?_,?_,?_⟩))
   .rw [Za] at k1;have:(gk C.length)<Nb:=eA
    lia
   .rw [seqIndex_of k0 k1,hj];rfl
   .show(ie,xo J,S)
   .rw [Za];exact ZQ (eA:zs.length<31) eJ
   .obtain ⟨a1,a2,a3,a4⟩:44:=Geo.erase_ok d2 (Zc jl);have em:(zun).eraseIdx j=(qbG).map V.int:=by simp[Qs,Q2,Q3]
    have el:=List.length_eraseIdx_of_lt jl;refine⟨106,zs++[C[j]],qbG,_,rfl,?_,?_,?_,?_,⟨46,?_,a1,?_,?_,(rO,b2 z (a3 z hz)),?_⟩⟩
    .rw [lB J,xh,em]
    .rw [xh,Zv];rfl
    .rw [Zt,e1];rfl
    .lia
    .rw [ZT];exact⟨d1,eS,λ a ha b hb=>by
      show(NZ,Zq.mp hb);intro z;exact d3 a ha (z▸a4)⟩
    .intro z hz
     rcases SL with y|y
     .exact λ k=>d3 z y (a3 z k)
     .ext NZ zhs;exact a2
    .intro z hz
     rcases SL with y|y
     .exact b1 z y
     .ext NZ zhs;exact b2 _ a4
    .intro b u e
     have O:b≠lf:=λ z=>by
      subst z;rw[Mr] at hlf;ext uT hlf
     have aa:b≠L:=λ z=>by
      subst z;rw[xo O,Mr] at D;ext uT D
     show(ig,xo aa,xo O,Y b u e)
  .rintro Z M (⟨zs,C,X,rfl,U,S,e1,e2,⟨d1,d2,d3,b1,b2,Y⟩⟩:106);exact (q zs M L zpc d1 b1 Y S)
def ok_cd (T:eX):FnOk true P w K mg base eW 1 t.f_cd t.d_cd zay (xyh):=by
 refine T.cd.F.okn (k:=0) sc_cd eZ (λ cdv A outer s H vs Q E hr h=>?_)
 .ext Pc c
 .ext zcI c;refine⟨_,xk (sS (Ky fj) zIh)
   zIh,?_⟩
  refine sq2 ?_; intros; refine iq ?_; intros; refine(zcc,zeT d)
  .refine (jx,j6,mJ 30,j6,mJ 16,rb,λ p j=>h _ _ _ p ?_ ?_ ?_ ?_ (kW j) xh)
   .show(iP,(zVP).1)
   .show(iP,(zVP).2)
   .show(iP,(zjY 240 16).1)
   .show(iP,(zjY 240 16).2)
  .refine (jx,j6,mJ 9,j6,mJ 7,rb,λ p j=>h _ _ _ p ?_ ?_ ?_ ?_ (kW j) xh)
   .show(iP,(zrc).1)
   .show(iP,(zrc).2)
   .show(iP,(zjY 72 7).1)
   .show(iP,(zjY 72 7).2)
noncomputable abbrev Pr:=Pt × Bool × Int
noncomputable def prV (p:Pr):eB:=zQF
inductive PrsL (H:Hp):HK fC
 | nil:PrsL H [] []
 | cons {p:Pr}{q:Addr}{ps:fC}{qs:eV} (h:Kn p) (r:KM):PrsL H Vg xA
theorem PrsL.keep {H H':Hp} (s:pY) {ps:fC}{qs:eV} (h:KM):PrsL H' ps qs:=by
 induction h with
 | nil=>ext mj
 | cons h _ ih=>ext Te
theorem PrsL.len {H:Hp}{ps:fC}{qs:eV} (h:KM):zXE:=by
 induction h with
 | nil=>rfl
 | cons _ _ ih=>ext zD
theorem PrsL.get {H:Hp}{ps:fC}{qs:eV} (h:KM) {i:Nat}{q:Addr} (e:F3):∃ p,LI/\(Kn p):=by
 induction h generalizing i with
 | nil=>ext vR
 | @cons p q' ps qs h _ ih =>
  cases i with
  | zero =>
   ext SC p
  | succ j=>ext A4
structure PrOk (ps:eI) (w h:Int) (p:Pr):Prop where
 nm:sr gW
 fd:zvn
 r1:1<=kB
 r2:kB<=h
 xy:(HC,1<=Og,Og<=w,HX,HX<=h)
def xyt (qs:eV) (k:Nat):cutV (qs.map V.ref) (some (y9+1)) none=(qs.drop iw).map V.ref:=by
 unfold cutV;rw[(j9,(y9+1)=(kh iw)),HT.sIx_nat,HT.sIx_none,Za,<- Q3,<- Q2]
 congr 1
 by_cases c:iw<=qs.length
 .rw [Nat.min_eq_left c,JU eS]
 .rw [Nat.min_eq_right eA,List.drop_length,List.drop_of_length_le eA];simp
theorem PrsL.drop {H:Hp}{ps:fC}{qs:eV} (h:KM) (k:Nat):PrsL H (ps.drop k) (qs.drop k):=by
 induction h generalizing k with
 | nil=>simpa using PrsL.nil
 | cons h r ih =>
  cases k with
  | zero=>ext uD h r
  | succ k=>exact ih k
noncomputable def cel (w:Int) (p:Pr):n7:=Geo.cells w Og HX vH kB
noncomputable abbrev Tr:=Str × Str × oh
noncomputable def xbt (w:Int) (p:Pr):Int:=lenI w Og HX vH kB
def xta {ps:eI}{w h:Int}{p:Pr} (o:zci) (hw:rM) (hh:rL):-1000000<=zhh/\zhh<=1000000:=by
 ext zND
inductive xvg (t:Adr) (vs:eB) (H:Hp) (Q:VK) (_:XK):Prop
 | mk (a dp do_ l:Addr) (pw ph:Int) (ps:eI) (prs:fC) (qs:eV) (e_:zhk) (r_:zHX (prs.map (xbt pw)))
def xfl (T:eX):FnOk true P w K mg base eW 6 t.f_total t.d_total nD (xvg t):=by
 refine T.B_total.F.okn (k:=5) xse eZ (λ cdv A outer s H vs Q E hr h=>?_)
 .obtain ⟨a,dp,L,l,O,ph,ps,prs,U,rfl,_⟩:=h;rfl
 .obtain ⟨a,dp,L,l,O,ph,ps,prs,U,rfl,h⟩:=h;show(vG,(zFn (uX,lH Iz tP [0] nD xhr,A8,(OF,X,Y,LR (pO 0 Y X) (Gp (pO 1 Y X) (pO 2 Y X)),3),E0,oX,h9 gV T.c_a T.am.m (ok_am T) fA T.am.b xv zYu)));ext kL C S pr ok len q h;ext Xg dx hp C;refine mH l S l1 J;refine xd5 U.length (λ i zs M=>zs=(((prs.take i).map (xbt O)).map V.int)/\(mw M)/\M l1=some zhy) ?_ ?_ ?_ ?_
  .exact eG eS UC xh
  .rintro i zs M lt (⟨_,j,_⟩:43);exact(gM,_,.ref U[i],zrg,ip lt)
  .rintro i zs M v H3 lt (⟨rfl,j,z⟩:43) ⟨rfl,hv⟩ N hN;show(lM,D,hv _ zrg,Zf);ext za D;show(eE,p,I,ep,pr.get ho);show(jG,y,ok p (Zo I),oO o (j _ _ ep));refine xt5 ?_;show(gE,⟨a,dx,_,rfl,j _ _ hp,gB,a,dp,L,O,ph,ps,gW,fK,vH,kB,rfl,Pic.same j C,y.nm,y.fd,y.r1,y.r2,eQ H4 s4⟩,(eG,oP z,?_,hN _ _ zYn))
   .rw [Za,Za,JY];exact ZQ (eA:min i prs.length<13) eJ
   .rw [Ja,I,Zv,Zv];rfl
   .show(ie,m7 J,oP (j b u e))
  .rintro zs M (⟨rfl,j,z⟩:43);rw[pr.len,Jz] at z;refine(hV,hB zrg eS,l1,prs.map (xbt O),rfl,ft z,qan,q _ j);ext nE p Z hn;exact xta (ok p Z) w2 h2
noncomputable def acrI (w:Int) (p:Pr):Int:=if vH then Og else w+1-Og
noncomputable def uprI (w:Int) (p:Pr):Int:=zfY*Xe
def xyu {a b:Int} (a0:0<=a) (a1:a<=1000) (b0:0<=b) (b1:b<=1000):(vO,a*b,1000000):=by
 refine(jF,Int.mul_nonneg a0 b0);show(mq,j,zOO a1 b0,c,1000*b<=1000*1000,Int.mul_le_mul_of_nonneg_left b1 eJ);exact Wu j c
def xwp {ps:eI}{w h:Int}{p:Pr} (o:zci) (hw:rM) (hh:rL):-1000000<=zfX/\zfX<=1000000:=by
 ext Xl o;have z:=xyu (a:=zfY) (b:=Xe) XW XW zxw zxw;unfold uprI
 lia
inductive xwk (t:Adr) (vs:eB) (H:Hp) (Q:VK) (_:XK):Prop
 | mk (a dp do_ q0:Addr) (pw ph:Int) (ps:eI) (p:Pr) (e_:xE w4) (r_:fS j4 (ztV q0 p) zVk (zgE (.int (uprI pw p))))
inductive x0u (t:Adr) (vs:eB) (H:Hp) (Q:VK) (_:XK):Prop
 | mk (a dp do_ l:Addr) (pw ph:Int) (ps:eI) (prs:fC) (qs:eV) (e_:zhk) (r_:zHX (zwv pw))
noncomputable def mayB (ss:eF) (p:Pt) (s:Seat):Bool:=(hR DY)&&zgP
noncomputable def excB (ss:eF) (p p':Pr):Bool:=mayB ss fK p'.2&&mayB ss p'.1 jJ
inductive xwb (t:Adr) (vs:eB) (H:Hp) (Q:VK) (_:XK):Prop
 | mk (a dp do_ o1 o2:Addr) (pw ph:Int) (ps:eI) (ss:eF) (p p':Pr) (e_:zLL) (r_:(ziy,ztV o1 p,ztV o2 p',zVk,PrOk ps pw ph p',zzn qak))
noncomputable def canO (w:Int) (ss:eF) (p p':Pr):zAJ:=if qak then Geo.meet (cel w p) (cel w p') else none
noncomputable def canF (w:Int) (ss:eF) (p:Pr) (r:fC):List Tr:=r.filterMap λ b=>(canO w ss p b).map λ c=>(gW,kY b,c)
noncomputable def cans (w:Int) (ss:eF):fC->List Tr
 | []=>[]
 | vT=>zZf++(zkl r)
def xr5 {w:Int}{ss:eF}{p p':Pr}{r:fC}:canF w ss p (p'::r)=(match zXt with|some c=>[(gW,kY p',c)]|none=>[])++zZf:=by
 unfold canF;rw[JL];cases zXt<;>rfl
noncomputable def TrV (H:Hp) (o:iH Tr) (v:V):Prop:=(o=none/\zjj)\/∃ c q qc,(fS,o=some c,v=jc,(kX (.tup (wj,uS,.str (fV c),zhR))),(fO qc (yC,.int (fV wg),zB c)))
inductive xyz (t:Adr) (vs:eB) (H:Hp) (Q:VK) (_:XK):Prop
 | mk (a dp do_ l:Addr) (pw ph:Int) (ps:eI) (ss:eF) (prs:fC) (qs:eV) (e_:zhk) (r_:j4/\(fb yi AV vb (zar pw ph) (zrK,TrV H' (cans pw ss prs).head? v)))
theorem ok_bl (T:eX):FnOk true P w K mg base eW 6 t.f_bl t.d_bl zux (xwk t):=by
 refine T.bl.F.okn (k:=5) sc_bl eZ (λ cdv A outer s H vs Q E hr h=>?_)
 .obtain ⟨a,dp,D,q0,v,Z,ps,p,rfl,_⟩:=h;rfl
 .obtain ⟨a,dp,D,q0,v,Z,ps,p,rfl,h⟩:=h;refine⟨_,xk (RR fG 2 sc_bl.nd 3 sc_bl.nd 4 sc_bl.nd)
   (xk (xcn (zld zAx) (xa4 rfl (tQ 5 sc_bl.nd 6 sc_bl.nd)))
   (jI (x9 xei (xhk (h9 (Oy gV) T.c_x T.B_at.m (ok_at T) fA T.B_at.b xv (i3 iO)) (zGF gV (i3 iO))) (zQH (x9 xfr kI ia))))),?_⟩
  refine sq3 ?_; intros; ext Ew u R ok;ext zS U hp u;show(uw,q0,R,⟨a,U,_,rfl,hp,gB,a,dp,D,v,Z,ps,gW,fK,rfl,u,ok.nm,ok.fd,λ H1 q1 L O=>oO q1 O⟩);have C:=L _ _ hp;show(Xl,id ok);show(eK,w2,u.w2,h2,u.h2);have y:-vD<acrI v p/\acrI v p<vD:=XW
  have z:=q;unfold uprI acrI at z;unfold acrI at y;cases hb:vH with
  | true =>
   rw[hb] at z y;refine .inl (zMW true);show(Au,X,M,j,⟨I,X,_,rfl,M,WX,_,_,rfl,zOa⟩)
  | false =>
   rw[hb] at z y;show(uA,zMW false);show(Au,X,M,id j,⟨I,X,_,rfl,M,WX,I,v,_,rfl,j,zOa⟩)
def xpf (T:eX):FnOk true P w K mg base eW 7 t.f_upright t.d_upright nD (x0u t):=by
 refine T.B_upright.F.okn (k:=6) xo0 eZ (λ cdv A outer s H vs Q E hr h=>?_)
 .obtain ⟨a,Z,D,l,j,U,ps,prs,O,rfl,_⟩:=h;rfl
 .obtain ⟨a,Z,D,l,j,U,ps,prs,O,rfl,h⟩:=h;show(AE,jI (zFn (SE,lH ["pair"] tP [0] nD xf0,A8,pC (ok_bl T) hr T.bl.g T.bl.F.kp T.bl.b (hF fG fj))));ext kL z X S ok len q h;obtain⟨⟨dx,hp⟩,_,w1,w2,Y,M,_⟩:=id z;refine mH l X l1 L;have ql:=S.len;refine xby (ft X) (zzs O.length) L (zg,∃ p,FO/\y=.int (uprI j p)) (λ i y H H' tp h=>h) (wI H2 hx s2) (vC H2 s2 el f)
  .ext ziv;ext za hx;show(eE,p,C,ep,S.get ho);have I:=ok p (Zo C);exact⟨a,Z,D,o,j,U,ps,p,rfl,(gX,lN s2 z,m4 ep,I,λ H4 s4=>rS s4 (zC C))⟩
  .have ey:ys=(zwv j).map V.int:=by
    rw[Za,ql] at ly;refine QX (iy i);by_cases c:i<ys.length
    .show(on,p,Y,M,f i _ BK);rw[BK,Zf,Zf,Y,M];rfl
    .rw [Jo eA,Jo qX]
   subst ey;refine(gY,l1,zwv j,rfl,ft el,qan,q _ s2);ext nE p J hn;exact xwp (ok p J) w2 M
def ok_a0 (T:eX):FnOk true P w K mg base eW 6 t.f_a0 t.d_a0 Ir (xwb t):=by
 refine T.a0.F.okn (k:=5) sc_a0 eZ (λ cdv A outer s H vs Q E hr h=>?_)
 .obtain ⟨a,M,u,R,O,J,L,ps,ss,p,x,rfl,_⟩:=h;rfl
 .obtain ⟨a,M,u,R,O,J,L,ps,ss,p,x,rfl,h⟩:=h;refine⟨_,xk (VC fG sc_a0.nd)
   (xk (RR fZ 6 sc_a0.nd 7 sc_a0.nd 8 sc_a0.nd)
   (zvu (zFx (kH gV lP zv)) (zFx (kH kI ia iO)))),?_⟩
  refine sq3 ?_; intros; obtain⟨j,st,Y,X,I,D,q⟩:47:=h;ext zS C S j;show(uw,R,Y,oO O X);show(gE,⟨HY C,S,gB,a,M,u,J,L,ps,ss,fK,iG,Bo,rfl,j,st,I.nm,I.fd,D.r1,D.r2,eQ H1 y⟩,Ar)
  .refine ⟨HY C,y _ _ S,gB,a,M,u,J,L,ps,ss,gG,vH,kB,rfl,Pic.same y j,st.same y,D.nm,D.fd,I.r1,I.r2,eQ Z U⟩;have z:=q Z (y.trans U);unfold excB at z;show(C5,wD zZb c,JN)
  .have z:=q H1 y;unfold excB at z;show(C5,show iK zZb from zyL,Ye)
def xeg (T:eX):FnOk true P w K mg base eW 8 t.f_exchangeable t.d_exchangeable nD (xyz t):=by
 refine T.B_exchangeable.F.okn (k:=7) xc1 eZ (λ cdv A outer s H vs Q E hr h=>?_)
 .obtain ⟨a,dp,ad,l,O,ph,ps,ss,prs,qs,rfl,_⟩:=h;rfl
 .obtain ⟨a,dp,ad,l,O,ph,ps,ss,prs,qs,rfl,h⟩:=h;refine⟨_,xk (xbu ZS rfl (xl3 rfl T.n_enumerate lZ) (xa4 rfl (tQ 2 xc1.nd 3 xc1.nd)) (xq (xbu ZS rfl (xay (xgz xnm fG (xhv (x9 xbd fZ (xt))) xhz)) (pN 4 xc1.nd) (xq (xan (xa2 (pC (ok_a0 T) hr T.a0.g T.a0.F.kp T.a0.b (kH fj gV ia))) (xk (pS 5 xc1.nd (pC (xo1 T) hr T.B_meeting.g T.B_meeting.F.kp T.B_meeting.b (kH fj gV ia)))
   (qZ (zfB iO) (yo (kH (Lu gV) (Lu ia) iO)))) (xac))))))
   (jI (xdi)),?_⟩
  refine sq2 ?_; intros; refine fq ?_; intros; ext kL af st hl pr ok q h;refine(oQ,l,ft hl,?_)
  show(zMy,∃(v2 v3 X U:iM),(gL,Z,[jS,vF,v2,v3,X,U],zhA,cans O ss (prs.drop i)=(zgx O)))
  refine xtg (xs:=zde) (Pv:=Pv) (zqQ lU rfl) (λ_ _ _ _ ⟨1123,_,_,_,_,_,z,_⟩=>zVE) ?_ ?_
  .rintro i x p Z H2 hx hp (⟨v2,v3,X,U,rfl,s2,ea⟩:123);rw[Zf] at hx;ext za hx;show(eE,J,ai,ac,pr.get ho);show(En,I,ok J (Zo ai),sp,Same H2 zPu,zAn,oO p xh);refine fo ?_; intros; refine(jw,jT+1,(oQ,l,ft (sp _ _ (m4 hl)),eQ p4 am));rw[xyt];have s4:Same H2 (upd zPu p4 (.lst ((zvO).map V.ref))):=sp.trans (xab lU am);have ae:=pr.drop f7;have ed:prs.drop i=J::RJ:=by
    ext Ly h1 h2 ai
    rw[YV h1,h2]
   show(HL,ed,ea,SN p4 xh)
   let Pv (j:Nat) (Z:L2.St) (H5:Hp):Prop:=∃(X U:iM),(jH,Z,[jS,vF,some fF,fX o,X,U],My,Mf p4 (.lst ((zvO).map V.ref)),canF O ss J ((RJ).drop j)++cans O ss (prs.drop f7)=(zgx O))
   refine xce (xs:=(zvO).map V.ref) (Pv:=Pv)
    (sR,_,_,s2.trans s4,xh,ea) (λ_ _ _ _ ⟨1084,_,_,_,_,z,_⟩=>ft z) ?_ ?_
   .rintro j x Z H5 hx (⟨X,U,rfl,R,aa,C⟩:84);ext zmA; rw[Zf] at hx;ext tR o2 ao hx;show(eE,M,ah,ab,ae.get ao);have D:=ok M (List.mem_of_mem_drop (Zo ah));have ap:(RJ).drop j=M::(RJ).drop oR:=by
     ext Ly h1 h2 ah;rw[YV h1,h2]
    rw[ap,xr5] at C;show(gE,⟨a,dp,ad,o,o2,O,ph,ps,ss,J,M,rfl,(kT,lN R af,st.same R,R _ _ ac,R _ _ ab,I,D,eQ H6 s6)⟩,K9 cx)
    .ext zbW; have L:=R.trans s6;refine⟨a,dp,ad,O,ph,ps,o,o2,kY J,kY M,qO,M.1,fV J,fV M,jr J,jr M,rfl,(jx,lN L af,L _ _ ac,L _ _ ab,iu I.nm I.fd I.r1 I.r2 I.xy,iu D.nm D.fd D.r1 D.r2 D.xy,ib H7 v s7 mv)⟩;ext zNJ; have aj:xun H7 zYr v:=by
      unfold canO;ext ig cx iT mv
     rcases aj with⟨em,rfl⟩|⟨c,q6,em,rfl,hq6⟩
     .rw [em] at C;refine(o8,ifN vL ?_);exact(sR,_,_,L.trans s7,zdn aa,C)
     .rw [em] at C;refine o8 zwJ;have Y:=L.trans s7;refine(sP,o,0,FS (Y _ _ ac) ⟨o2,_,0,_,rfl,rfl,iZ (Y _ _ ab),rfl,CZ,eQ p7 ak⟩);show(jR,s8,Same H7 (o9 H7 p7 (wj,kY J,U4 M,.ref q6)),kW ak,q _ _ (Y.trans s8) (.inr (xI,(kY J,kY M,c),p7,q6,?_,xh,s8 _ _ hq6)));rw[<- C];rfl
    .have em:zYr=none:=by
      unfold canO;rw[fH cx]
     rw[em] at C;exact(sR,_,_,R.trans s6,BP aa,C)
   .rintro Z H5 (⟨X,U,rfl,R,aa,C⟩:84);refine zqQ R ?_;rw[Za,List.drop_of_length_le (l:=RJ) (eP ae.len f8)] at C;exact C
  .rintro Z H2 (⟨v2,v3,X,U,rfl,s2,ea⟩:123);rw[Za,pr.len,List.drop_length] at ea;exact q _ _ s2 (Ds,Lo ea,rfl)
noncomputable def exP (p1 p2 p:Pr):Pr:=(fK,(oZ,gW,MQ,p2.2,oZ gW MR p1.2 jJ))
theorem xpt {p1 p2:Pr}{A:fC} (h:∀ p∈A,gW≠MQ/\gW≠MR):A.map (exP p1 p2)=A:=by
 induction A with
 | nil=>rfl
 | cons p A ih =>
  rw[Zs,ih λ c e=>h c (Zm _ e)]
  congr 1
  obtain⟨a,b⟩:=h p Zn;unfold exP;rw[zyS,fH b]
def xq6 {prs A B C:fC}{p1 p2:Pr} (nd:(prs.map (·.1.nm)).Nodup) (e:prs=zNS):prs.map (exP p1 p2)=zFH/\zzJ:=by
 ext iL;rw[Zv,ZT] at nd;obtain⟨_,q,j⟩:43:=nd;rw[Zs,ZM,Zv,Zs,ZT] at q;obtain⟨c,_,s,v⟩:44:=q;rw[ZM] at s;show(fR,h,MQ≠MR,λ z=>c zjk,⟨?_,h⟩);rw[Zv,Zs,Zv,Zs];rw[xpt (A:=A),xpt (A:=B),xpt (A:=C)]
 .unfold exP;rw[iT,if_neg (Zz h),iT]
 .intro p b
  show(nM,λ z=>c ?_,λ z=>s.1 ?_)
  .rw [<- z];exact Z7 _ (Zm _ Rh)
  .rw [<- z];show(zb,zC b)
 .intro p b
  show(nM,λ z=>c ?_,λ z=>v _ Rh _ Zn z);show(sL,z,ZP _ Rh)
 .intro p b
  ext nM zQK zQK
theorem xjm {w:Int}{ss:eF}{tr:Tr}:∀{prs:fC},tr∈(zkl prs)->(zDP,tr=zxy)
 | [],h=>jz
 | vT,h=>by
  rcases Z3.mp h with z|z
  .show(on,q,j,e,Ya.mp z);show(eE,c,u,H,Zg.mp e);show(GT,B,C,D,List.append_of_mem j);exact ir [] p B q ⟨83,C,c,jn D,u,H.symm⟩
  .obtain ⟨A,p1,B,p2,⟨C,c,e,x,v⟩⟩:121:=xjm z;exact(ir,p::A,p1,B,p2,gU C c yZ x v)
inductive Sd (H:Hp):iA fC gD
 | nil:Sd H [] []
 | cons {p:Pr}{t:Addr}{ps:fC}{kvs:gD} (h:zbT) (r:K2):Sd H Vg zPs
theorem Sd.keep {H H':Hp} (s:pY) {ps:fC}{kvs:gD} (h:K2):Sd H' ps kvs:=by
 induction h with
 | nil=>ext mj
 | cons h _ ih=>ext Te
theorem Sd.len {H:Hp}{ps:fC}{kvs:gD} (h:K2):zVW:=by
 induction h with
 | nil=>rfl
 | cons _ _ ih=>ext zD
theorem Sd.keys {H:Hp}{ps:fC}{kvs:gD} (h:K2):kvs.map (·.1)=ps.map (λ p=>ZI gW):=by
 induction h with
 | nil=>rfl
 | cons _ _ ih=>ext zD
theorem Sd.get {H:Hp}{ps:fC}{kvs:gD} (h:K2) {i:Nat}{k:Key}{x:V} (e:tJ):∃ p,LI/\k=.inr gW:=by
 induction h generalizing i with
 | nil=>ext vR
 | @cons p q ps kvs h _ ih =>
  cases i with
  | zero =>
   simp at e;show(zq,p,e.1.symm)
  | succ j=>ext A4
theorem Sd.find {H:Hp}{ps:fC}{kvs:gD} (h:K2) (nd:(ps.map (·.1.nm)).Nodup) {p:Pr} (m:M7):∃ t,Hm zAb DT zbT:=by
 induction h with
 | nil=>cases m
 | @cons p' t ps kvs h _ ih =>
  ext FP;rcases Zr.mp m with rfl|z
  .exact (eG,t,xbx rfl,h)
  .show(on,t',v,q,ih xH z);show(jV,t',?_,q);show(eY,xbh (λ e=>nd.1 (Zj.mpr (eG,p,z,(ZI.inj e).symm))),v)
theorem xin {k:Key}:∀{kvs:gD},k∉kvs.map (·.1)->zoN
 | [],_=>rfl
 | kv::r,h=>by
  obtain⟨a,b⟩:=kv;rw[xbh (λ e=>h (iz e Zn))];exact xin λ z=>h (Zm _ z)
theorem xhf {d:Addr}{H:Hp}:∀{kvs kv0:gD},((zyk).map (·.1)).Nodup->(zyk).length<1000->xfc d (oC H d kv0) zmm (oC H d zyk)
 | [],kv0,_,_=>by
  show(eY,W2,.nil)
 | kv::kvs,kv0,nd,hl=>by
  have fr:valV kv0 vV=none:=xin λ z=>by
   rw[Zv,ZT] at nd;exact (xH).2 _ z _ Zn rfl
  have f:=DPut.k (k:=vV) (v:=kv.2) (zXL,.dK kv0) (ZQ (by rw[Zt] at hl; lia:kv0.length<1000) eJ);rw[xfi,xdr _ fr] at f;show(lM,b,xhf (d:=d) (H:=H) (kvs:=kvs) (kv0:=kv0++[kv]) (eP QY nd) (eP QY hl),QY);ext uD f b
theorem xou {H:Hp}:∀{prs:fC}{ys:eB},(DD prs.length)->(∀(i:Nat) (y:V) (p:Pr),F6->FO->∃ q t,gL y jc zWo zbT) ->
    ∃(ws:Kz) (kvs:gD),ys=zMv/\(∀ p∈ws,(fO fK ztu))/\ws.map (·.2)=zmm/\qat
  | [],[],_,_=>(oN,84,[],[],rfl,λ p h=>(nomatch h),.nil)
  | [],gO,h,_=>jz
  | gO,[],h,_=>jz
  | p::prs,rN,hl,h=>by
    show(jb,q,t,B,A,x,h 0 y p rfl rfl);show(o7,ws,kvs,a1,a2,a3,C,xou (prs:=prs) (ys:=ys) zqo λ i y' v hy hp=>h f7 y' v hy hp)
    refine⟨84,(q,TN,DT)::ws,zPs,rg B a1,eQ v b,by rw[Zs,Zs,a3]; rfl,.cons x C⟩;rcases GJ with rfl|z
    . exact A
    . exact a2 _ z
theorem PrsL.pick {H:Hp}:(zTC,fC,(∀(j:Nat) (y:V) (s:Pr),zsu ss s (Kn s)),PrsL H ss rs)
 | [],[],_,_=>zsR
 | [],gO,h,_=>jz
 | gO,[],h,_=>jz
 | Vd,rN,hl,h=>by
  show(eE,q,z,x,h 0 y s rfl rfl);show(pZ,rs,v,b,PrsL.pick (ss:=ss) (ys:=ys) zqo λ j y' s' hy hs=>h oR y' s' hy hs,q::rs,rg z v,.cons x b)
noncomputable def xla (kvs:gD) (i:Nat):V:=match kvs[i]? with|some kv=>zxD|none=>.non
def xro {Z:L2.St}{fr:kg}{te:TE}{l d:Addr}{H1:Hp}{Q:VK}{ob:Obj}{kvs:gD} (hd:yB d zaD) (hl:yX) (hn:PJ) (F:Mu) (stab:Ij)
    (step:∀(i:Nat) (k:Key) (x:V) (H2:Hp),(zsW,tJ,(∀ y H',zoz)->te ((zur).set 0 (some N9)) H2 N))
    (fin:zzk kvs.length):xem zZA 1 (xc4 0) Z fr xek te l H1 Q:=by
  refine xjr kvs.length hn hl (xla kvs) (λ i H lt s=>⟨s _ _ hd,lt⟩) zMU (λ H s=>⟨s _ _ hd,f8⟩) Sr F stab zKq zrT
  . obtain⟨e,k,x,b,j⟩:=y
    refine jF e;unfold xla;rw[b,j]
  . obtain⟨⟨k,x⟩,b⟩:∃ y,gf kvs y:=mr qv
    have q:xla kvs i=kV k:=by
      unfold xla;rw[b]
    show(eY,q,ziI (step i k x H2 b s N zlJ))
  . rw[L2.filter_all,ZU] at ly
    refine fin ys H2 s e ly λ i y c=>f i y i c ?_;rw[L2.filter_all,JK (mM,(Zi.mp c).1)]
inductive xy9 (K:Zd) (vs:eB) (H:Hp) (Q:VK) (_:XK):Prop
 | mk (l:Addr) (prs:fC) (qs:eV) (p1 p2:Pr) (e_:vs=[gS,zhi,zhj]) (r_:AV/\vb/\(prs.map (·.1.nm)).Nodup/\(fb,E7,p1∈prs,p2∈prs,zzJ,∀ H' l' qs',(lX,gu,gz l',zOD l',PrsL H' O2 qs',.ref l')))
theorem xmc (T:eX):FnOk true P w K mg base eW 1 t.f_exchanged t.d_exchanged zmi (xy9 K):=by
 refine T.B_exchanged.F.okn (k:=0) xfv eZ (λ cdv A outer s H vs Q E Z h=>?_)
 .obtain ⟨l,prs,qs,C,v,rfl,_⟩:=h;rfl
 .obtain ⟨l,prs,qs,C,v,rfl,h⟩:=h;refine⟨_,xk (IR 3 xfv.nd (VW Z (uX,(lH ["each", "side", "row"] [] [] zkQ xdy),NX 0,(OF,ow,R,LR (pO 0 R ow) (Gp (pO 1 R ow) (pO 2 R ow)),3),E0,oX,xaq (lO A9))))
   (xk (IR 4 xfv.nd (xu7 (xmy fG fZ (xmy fZ fG (xv2))) rfl rfl eS eJ))
   (jI (SE,(lH ["each"] ["seats", "giver"] [3,4] zkQ xdy),xwd (pv 3),zlG (xcw (xa9 Z) fG (xl0 (xa9 Z) fZ fj fj Ph) oY)))),?_⟩
  refine sq3 ?_; intros; obtain⟨hl,pr,R,len,m1,m2,⟨ne,q⟩⟩:47:=h;show(jG,ql,pr.len,mH l hl l1 ao);refine xby (ft hl) zrb ao (zg,zOb FO) (λ i y H H' tp ⟨1104,p,q,t,a1,a2,a3,a4⟩=>zHu) (wI H2 hx s2) (vC H1 s1 el1 f1)
  .ext ziv;ext za hx;show(eE,p,I,ep,(pr.keep (Same.tups s2)).get ho);show(uw,o,ep,⟨rb,λ q1 M=>uF q2 hq2⟩);show(eK,sa,(Dd,yC TX kB,M),sb,Dd (Go,gW,.ref q1) hq2);ext zJa q1 I
  rw[Za,ql] at ly;obtain⟨ws,kvs,rfl,w2,w3,L⟩:84:=xou (H:=H1) (prs:=prs) (ys:=ys) ly λ i y p hy hp=>by
   ext zBY
  have kl:=L.len;have knd:(kvs.map (·.1)).Nodup:=by
   show(zFE,L.keys,R)
  ext zBP;generalize eu:zYl=H2;show(CB,s2,hd,eu,g2,ae,L.keep (Same.tups s2));refine λ gd O=>⟨xh,rK zkV (wC,2<=15) ?_⟩
  rw[xfi];generalize eu:oC H2 gd (xfs [] zkV)=S;ext ul s3 O g3;show(eK,ac,Tm,U,ae.keep (Same.tups s3));show(fR,aj,gd≠d,mK g2 O,(uE,d,kvs,ac,fJ ob l4 J));show(eC,ai,l4≠d,mK xh J,aa,S l4=none,by rwa [xo ai] at J)
  show(eC,k4,(tS,d,S b=some u,S,zaD),(HM,jp nb e),t4,Tups S (zL S),(l0,k4 _ _ (jg ac) e));refine xro xh J (MT zZG) (zg,∃ p q,FO/\y=jc/\(Kn Sf)) (λ i y H H' tp ⟨1083,p,q,a1,a2,a3⟩=>(gU,p,q,a1,a2,uO a3)) (λ i k x H5 hk s5 N hN=>?_) zKX
  .show(on,p,I,rfl,U.get hk);show(eK,mp,Zo I,ad,(U.keep t4).keep (Same.tups s5));show(eK,ab,sX (k4 _ _ aj g3),d5,sX (xh (H:=S) (a:=d) (o:=zaD)));ext CG q1 M;have X:=(Dd,.tup [.str gW],M);obtain⟨r,Z,ev,es⟩:∃ r∈prs,(valV (xfs [] zkV) (ZI gW)).getD TN=V.str Nf/\(Sf).2=r.2:=by
    show ∃ r∈prs,(valV (putK (putK [] (ZI (kY C)) (V.str (kY v))) (ZI (kY v)) (V.str (kY C))) (ZI gW)).getD TN=V.str Nf/\(Sf).2=r.2;rw[xdf,xdf];unfold exP;by_cases c1:gW=(kY C)
    .refine (fY,v,m2,?_,fe c1);rw[(pW,ne (c1.symm.trans (ZI.inj z))),U1 c1];rfl
    .by_cases c2:gW=(kY v)
     .refine (fY,C,m1,?_,hZ zAF MD);rw[U1 c2];rfl
     .refine (fY,p,mp,?_,hZ zAF Mz);rw[(pW,c2 (ZI.inj z)),(pW,c1 (ZI.inj z))];rfl
   show(eE,t,am,ak,(ad.keep (Same.tups X)).find R Z);refine(rK,gd,zwt (X _ _ ab),⟨_,qU gW (X _ _ ab),d,DT,rfl,?_,q1,t,_,_,rfl,rfl,iZ xh,iZ ak,eS,CZ,λ z=>(by simp[xa6] at z),λ_ q2 hq2=>?_⟩)
   .rw [show kV (ZI gW)=V.str gW from rfl,ev];show(je,(jf,kvs,.inr (kY r),.inr (Hl,X _ _ d5),am.symm))
   .refine rS (X.trans (xab lU hq2)) (jf p q2 I ?_);rw[xh];unfold prV;rw[(kM,(Sf).1,fK,rfl),(kM,(Sf).2,r.2,es)];rfl
  .obtain ⟨af,rfl,ah⟩:62:=PrsL.pick (H:=H5) (ss:=prs.map (exP C v)) (ys:=ys) (tt ly5 kl Za) λ j y s hy hs=>by
    show(jb,p,q',a1,a2,a3,f5 j y hy);rw[Zf,a1] at hs;cases hs;ext fU q' a2 a3
   have Y:=(K1).trans s3;refine q H5 l4 af (jE,sX (k4 _ _ (xp Gh hd) (Y _ _ e))) (Y.free aa) el5 ah
noncomputable def totI (w:Int) (prs:fC):Int:=(prs.map (xbt w)).sum
noncomputable def upI (w:Int) (prs:fC):Int:=(prs.map (uprI w)).sum
noncomputable def nmF (n:Str) (p:Pr):Bool:=i9 gW n
noncomputable def nxtP (w:Int) (ss:eF) (prs:fC):fC:=match zre with
 | some tr=>match zdo tr.1,zdo (fV tr) with
  | some p1,some p2=>O2
  | _,_=>prs
 | none=>prs
noncomputable def itP (w:Int) (ss:eF) (prs:fC):Nat->fC
 | 0=>prs
 | iw=>Fp
noncomputable def trP (w:Int) (ss:eF) (prs:fC):Tr:=(zre).getD ("", "",0,0)
noncomputable def stP (w:Int) (ss:eF) (prs:fC) (k:Nat):zyl:=(trP w ss yc,totI w zVZ,upI w zVZ)
structure GPr (ps:eI) (w h:Int) (prs:fC):Prop where
 ok:zar w h
 nn:(prs.map (·.1.nm)).Nodup
 ns:(prs.map (·.2)).Nodup
 le:E7
theorem xh3 {prs:fC} (nd:(prs.map (·.1.nm)).Nodup) {p:Pr} (h:p∈prs):prs.find? (nmF gW)=some p:=by
 induction prs with
 | nil=>cases h
 | cons q ps ih =>
  ext FP;rcases zhF with rfl|z
  .exact Ym (ip nmF)
  .rw [Qq]
   .exact ih xH z
   .intro e
    exact nd.1 (Zj.mpr (eG,p,z,(of_decide_eq_true e).symm))
theorem x_ne {ps:eI} (nx:(ps.map (·.x)).Nodup):∀{p q:Pt},(gb,M7,q∈ps,p.nm≠q.nm,p.x≠q.x):=by
 induction ps with
 | nil=>intro p q h; cases h
 | cons r ps ih =>
  intro p q j f i e;rw[Zs,ZM] at nx;rcases zAu with rfl|z
  .rcases GI with rfl|b
   .exact i rfl
   .exact nx.1 (Zj.mpr (eG q b e.symm))
  .rcases GI with rfl|b
   .exact nx.1 (Zj.mpr (eG p z e))
   .exact ih nx.2 z b i e
def xv7 {ps:eI}{w h:Int}{p:Pr} (o:zci) (hw:rM) (hh:rL):vO zhh 45:=by
 ext zND
def xya {ps:eI}{w h:Int}{p:Pr} (o:zci) (hw:rM) (hh:rL):vO zfX 450:=by
 ext Xl o;show(eC,b,vO zfY 30,XW,a,vO Xe 15,zxw)
 unfold uprI;refine(jF,Int.mul_nonneg b.1 a.1);show(eK,j,zOO b.2 a.1,c,Int.mul_le_mul_of_nonneg_left a.2 (Al,(gk 0)<=30));exact Wu j c
theorem xox {f:Pr->Int}{c:Int} (c0:0<=c):∀{prs:fC},(∀ p∈prs,(vO,f p,c))->(vO,zVs,c*(gk prs.length))
 | [],_=>eS
 | vT,h=>by
  show(eK,i,h p Zn,b,xox c0 (prs:=r) λ q hq=>h q (Zm _ hq));rw[Zs,List.sum_cons,ZB];rw[(kM,kh zvS,(gk r.length)+1,eA),QR,Int.mul_one]
  lia
def GPr.tot {ps:eI}{w h:Int}{prs:fC} (g:LT) (hw:rM) (hh:rL):vO CH 540:=by
 show(eK,z,xox (f:=xbt w) (c:=45) eJ (zp,xv7 (g.ok p hp) hw hh),l,g.le);unfold totI
 lia
def GPr.up {ps:eI}{w h:Int}{prs:fC} (g:LT) (hw:rM) (hh:rL):vO zfk 5400:=by
 show(eK,z,xox (f:=uprI w) (c:=450) eJ (zp,xya (g.ok p hp) hw hh),l,g.le);unfold upI
 lia
def xmb {ps:eI}{w h:Int}{ss:eF}{prs:fC}{tr:Tr} (nx:(ps.map (·.x)).Nodup) (g:LT) (ht:zre=some tr) :
    ∃ A p1 B p2 C c,prs=A++p1::(B++p2::C)/\canO w ss p1 p2=some c/\tr=zxy/\zzJ/\Af=O2/\Af=zFH/\GPr ps w h Af /\
      (totI w Af<CH\/(gL,zhI,zhJ,totI w Af=CH,zfk<upI w Af)):=by
  obtain⟨A,p1,B,p2,⟨C,c,e,J,R⟩⟩:121:=xjm (List.mem_of_mem_head? ht);obtain⟨Y,O⟩:=xq6 g.nn e;show(eC,Q,p1∈prs,DQ,P,p2∈prs,DQ)
  show(eK,j,g.ok p1 Q,b,g.ok p2 P);have M:Af=O2:=by
    unfold nxtP;rw[ht];subst R;show (match zdo MQ,zdo MR with
    | some p1,some p2=>O2
    | _,_=>prs)=_
    rw[xh3 g.nn Q,xh3 g.nn P]
  have H:=M.trans Y;have X:Geo.meet (cel w p1) (cel w p2)≠none:=λ z=>by
    unfold canO at J;rw[z] at J;ext Ta J
  have T:p1.1.x≠p2.1.x:=x_ne nx (Je j.fd) (Je b.fd) O;have U:(zhI,jr p1)≠(zhJ,jr p2):=λ z=>by
    have v:=g.ns;rw[e,Zv,Zs,ZT,ZM] at v;exact (fV v).1 (AF,kM p1.2 p2.2 z)
  show(jG,K,Geo.ex_pair (y1:=p1.1.y) (y2:=p2.1.y) j.xy.1 (fV j.xy) b.xy.1 (fV b.xy) T U X,ir A p1 B p2 (qJ,C,c,e,J,R,O,M,nQ H (fh,BR L,?_,?_,?_)))
  . rw[H] at L
    have D:∀ q,q∈A\/q∈B\/q∈C->q∈prs:=λ q hq=>by
      rw[e];simp only[Z3,Zr];rcases hq with z|z|z
      . ext je z
      . ext iY zZo
      . ext Sb zZn
    simp only[Z3,Zr] at L;rcases L with z|rfl|z|rfl|z
    . show(zzg,.inl z)
    . exact gF j.nm j.fd b.r1 b.r2 j.xy
    . ext zzg zZo
    . exact gF b.nm b.fd j.r1 j.r2 b.xy
    . ext zzg zZn
  . show(lM,v,g.nn,e);rw[H];simpa using v
  . show(lM,v,g.ns,e);rw[H];refine (Jy.nodup_iff ?_).mp v;simp only[Zv,Zs];ext zVB;exact ((Qy.cons p1.2).trans (Jy.swap _ _ _)).trans (Qy.symm.cons p2.2)
  . show(ig,M,Za,g.le)
  . have t0:CH=totI w A+(xbt w p1+(totI w B+(xbt w p2+totI w C))):=by
      unfold totI;rw[e];simp
    have t1:totI w Af=totI w A+(xbt w zdK+(totI w B+(xbt w zdL+totI w C))):=by
      unfold totI;rw[H];simp
    have u0:upI w prs=upI w A+(uprI w p1+(upI w B+(uprI w p2+upI w C))):=by
      unfold upI;rw[e];simp
    have u1:upI w Af=upI w A+(uprI w zdK+(upI w B+(uprI w zdL+upI w C))):=by
      unfold upI;rw[H];simp
    have I:(zNn<zNo)\/(gL,zhI,zhJ,zNn=zNo,uprI w p1+uprI w p2<uprI w zdK+uprI w zdL):=K;rcases I with z|⟨S,z2,Z⟩
    . ext je eA
    . show(iY,eG S eA eA)
noncomputable def muP (w:Int) (prs:fC):Nat:=(CH*6000+(6000-zfk)).toNat
inductive StL (H:Hp):HK RV
 | nil:StL H [] []
 | cons {p:zyl}{t q:Addr}{ps:RV}{ts:eV} (h:zDF) (hq:zID) (r:zdA):StL H Vg (t::ts)
theorem StL.keep {H H':Hp} (s:pY) {ps:RV}{ts:eV} (h:zdA):StL H' ps ts:=by
 induction h with
 | nil=>ext mj
 | cons h hq _ ih=>exact .cons GQ (s _ _ hq) ih
theorem StL.len {H:Hp}{ps:RV}{ts:eV} (h:zdA):GY ts.length:=by
 induction h with
 | nil=>rfl
 | cons _ _ _ ih=>ext zD
theorem StL.snoc {H:Hp}{ps:RV}{ts:eV} (h:zdA) {p:zyl}{t q:Addr} (e:zDF) (eq:zID):StL H zhb (ts++[t]):=by
 induction h with
 | nil=>exact .cons e eq .nil
 | cons h hq _ ih=>exact .cons h hq ih
inductive x03 (K:Zd) (t:Adr) (vs:eB) (H:Hp) (Q:VK) (_:XK):Prop
 | mk (a dp do_ l:Addr) (pw ph:Int) (ps:eI) (ss:eF) (prs:fC) (qs:eV) (e_:zhk) (r_:j4/\yi/\AV/\vb/\(zko pw ph)/\(ps.map (·.x)).Nodup/\∀(H':Hp) (tp ln ls:Addr) (n:Nat) (qs' sq:eV),gb gu (gz ln) (kf tp (.tup [GP,.ref ls])) (gR,zOD ln,PrsL H' zVM qs',kf ls (.lst (sq.map V.ref)),StL H' ((Oo).map (stP pw ss prs)) sq,(lX,(∀ k<n,(cans pw ss zVN).head?≠none),(∀ k,GPr ps pw ph zVN),cans pw ss zVM=[],ln≠ls,zib)))
theorem xi5 {ps:eI}{w h:Int}{ss:eF}{prs:fC} (nx:(ps.map (·.x)).Nodup) (g:LT):∀ k,GPr ps w h yc
 | 0=>g
 | iw=>by
  have b:=znS;show GPr ps w h Fp;cases e:zZs with
  | none =>
   unfold nxtP;ext eY e b
  | some tr =>
   obtain⟨_,_,_,_,⟨_,_,_,_,_,_,_,_,g',_⟩⟩:121:=xmb nx b e;exact g'
def xmv (T:eX):FnOk true P w K mg base eW 9 t.f_uncrossed t.d_uncrossed nD (x03 K t):=by
 refine T.B_uncrossed.F.okn (k:=8) xb5 eZ (λ cdv A outer s H vs Q E hr h=>?_)
 .obtain ⟨a,dp,ab,l,y,ph,ps,ss,prs,qs,rfl,_⟩:=h;rfl
 .obtain ⟨a,dp,ab,l,y,ph,ps,ss,prs,qs,rfl,h⟩:=h;refine⟨_,xk (pS 2 xb5.nd (xca xhg rfl T.n_list boot_list lZ))
   (xk (pS 3 xb5.nd (xbp (xj)))
   (xk (pS 4 xb5.nd zBU)
   (xk (xgu ZS (zfB ia) (xk (RR ia 5 xb5.nd 6 xb5.nd 7 xb5.nd)
   (xk (pS 2 xb5.nd (pC (xmc T) hr T.B_exchanged.g T.B_exchanged.F.kp T.B_exchanged.b (kH fZ iO kI)))
   (xk (xas (KG gV (xg (xaq (xg iO (Gn kI lP (pC (xfl T) hr T.B_total.g T.B_total.F.kp T.B_total.b (lO fZ)) (pC (xpf T) hr T.B_upright.g T.B_upright.F.kp T.B_upright.b (lO fZ))))) (xj))))
   (xq (pS 4 xb5.nd zBU))))))
   (yo Lq)))),?_⟩
  refine sq5 ?_; intros; obtain⟨Y,st,hl,pr,g,nx,q⟩:47:=h;ext Xg aL hp Y;show(jG,L,xi5 (ss:=ss) nx g,(oQ,l,Lj hl,eQ ad af));show(X0,jj ad qQ,af);ext rQ XA J aa;have aG:gz J:=s1.free aa;generalize eu:uI H1 J=H2;ext xN s2 aa eu;show(eK,g2,ug_e eu,ac,s1.trans s2);show(fR,aA,ad≠J,xp g1 aa,⟨a,dp,ab,ad,y,ph,ps,ss,prs,qs,rfl,(jx,lN ac Y,st.same ac,zAh,qbA ac,g.ok,ib H3 v s3 tv)⟩);ext zNI; have aq:=ac.trans s3;have aC:∀ k,muP y xa<3300000:=λ k=>by
   show(eK,z1,(L k).tot w2 h2,z2,(L k).up w2 h2);unfold muP
   lia
  refine(nQ,λ m Z H5=>∃(k:Nat) (M:Addr) (v v5 v6 v7:iM) (vf:V) (I O:eV),(jH,m,muP y xa,k+m<=muP y prs,Z=zFV,(qu,My,gz M,M≠J,Mf M (.lst (I.map V.ref)),PrsL H5 xa I,Mf J (.lst (O.map V.ref)),StL H5 ((Zx k).map (stP y ss prs)) O,(∀ j<k,(zsw (zfL j))≠none),TrV H5 (zsw xa) vf)),ir _ 0 ad none (HI,_,v,qJ qs [] rfl (yy,0+muP y prs<=_) rfl aq af (kT,aA,s3 _ _ (s2 _ _ g1),qbA aq,Tm,.nil,(Om,zgF hj),tv)));rintro m Z H5 (⟨k,M,_,v5,⟨v6,v7,vf,I,O,rfl,km,rfl,s5,aH,aB,ay,au,D,ah,a0,a6⟩⟩:121);have sl:=ah.len;rw[Za,ZU] at sl;have mb:=aC 0;rcases a6 with⟨en,rfl⟩|⟨tr,qf,qc,et,rfl,hqf,hqc⟩
  .refine (o8,ifN vL ?_);ext BY tp aF;have s6:=(Dd,.tup [.ref M,.ref J],aF);exact q _ tp M J k I O (s5.trans s6) aH xh (BP ay) (au.keep (Same.tups s6)) (BP D) (ah.keep (Same.tups s6)) a0 L (List.head?_eq_none_iff.mp en) aB
  .refine o8 zwJ;obtain⟨A,p1,B,p2,⟨C,c,e,hc,aI,ne,en,el,g',aJ⟩⟩:121:=xmb nx (L k) et;subst aI;have m1:p1∈xa:=DQ
   have m2:p2∈xa:=DQ
   have aD:muP y qb<muP y xa:=by
    show(eK,z1,(L k).tot w2 h2,z2,(L k).up w2 h2);show(eK,z3,(HP).tot w2 h2,z4,(HP).up w2 h2);have aK:totI y qb<totI y xa\/(gL,zhI,zhJ,totI y qb=totI y xa,upI y xa<upI y qb):=aJ;unfold muP
    lia
   let Pm (σ':L2.St) (H9:Hp):Prop:=∃(M:Addr) (v5 v6 v7:iM) (vf:V) (I O:eV),(qu,σ'=zFV,mw H9,gz M,M≠J,Df M (.lst (I.map V.ref)),PrsL H9 qb I,Df J (.lst (O.map V.ref)),StL H9 ((Zx iw).map (stP y ss prs)) O,TrV H9 (zsw qb) vf)
   show(kR,Pm,?_)
   .rintro σ' H9 (⟨aE,v5,v6,v7,⟨vf,a8,sq9,e1,e2,e3,e4,e5,e6,e7,e8,e9⟩⟩:121);refine(hB,aD,ir iw aE none v5 (ir,v6,v7,vf,a8,ue sq9 eA e1 e2 e3 (kT,e4,e5,e6,e7,e8,eQ j hj,e9)));by_cases cj:j=k
    .subst cj;ext eY et nB
    .exact a0 j eA
   refine sq4 ?_; intros; show(uw,qf,hqf,oN M _ I p1 p2 (HZ,ay,au,(L k).nn,(L k).le,m1,m2,ne,λ H6 l6 U s6 ak aj as=>?_));rw[<- en] at as;have X:PrsL H6 qb U:=as;have ap:=s5.trans s6;show(i6,a4,gz l6,s5.free ak,av,l6≠J,mK D ak,⟨.inl (Eg,_,ft (s6 _ _ D)),a,dp,ab,l6,y,ph,ps,qb,U,rfl,lN ap Y,aj,X,(HP).ok,(HP).le,eQ H7 s7⟩);have ao:=ap.trans s7;show(gE,⟨a,dp,ab,l6,y,ph,ps,qb,U,rfl,(jx,lN ao Y,s7 _ _ aj,zNw,(HP).ok,(HP).le,eQ H8 s8)⟩,vA (sM leS5) p9 aw);have R:=(zdE).trans s8;show(Bu,s9,(Dd,.tup [zhi,zhj,zhR,Gt ((qb).map (xbt y)),Gt ((qb).map (uprI y))],aw),ax,s9 _ _ (R _ _ D),(BE,J,_,_,mS ax ?_ ?_))
   .rw [Za];exact ZQ (by have z:muP y prs<3300000:=mb; lia:O.length<3300000) eJ
   have a9:p9≠J:=qx (R _ _ D) aw;obtain⟨HA,ae⟩:∃ HA,HA=(iE (o9 H8 p9 [zhi,zhj,zhR,Gt ((qb).map (xbt y)),Gt ((qb).map (uprI y))]) J (O.map V.ref++[.ref p9])):=lA
   have kA:(tI,J,H8 b=some u,HA b=some u):=λb u nb e=>by
    show(ig,ae,xo nb,s9 _ _ e)
   have tA:Tups H8 HA:=(l0,kA _ _ (jg (R _ _ D)) e);have ai:mw HA:=(jE,kA _ _ (xp e aG) (s8 _ _ (ao _ _ e)));have gA:HA J=some (.lst ((O++[p9]).map V.ref)):=by
    rw[ae,xh,Zv];rfl
   have gp:HA p9=some (.tup [zhi,zhj,zhR,Gt ((qb).map (xbt y)),Gt ((qb).map (uprI y))]):=by
    show(ig,ae,xo a9,xh)
   have az:=kA _ _ av (s8 _ _ (s7 _ _ aj));show(eK,ar,((zNw).keep (Same.tups s8)).keep tA,a7,(ah.keep (Same.tups R)).keep tA);rw[<- ae];show(gE,⟨a,dp,ab,l6,y,ph,ps,ss,qb,U,rfl,(jx,lN ai Y,st.same ai,az,ar,(HP).ok,ib HB vB sB a5)⟩,ir l6 _ _ _ ⟨106,vB,U,O++[p9],rfl,ai.trans sB,a4,av,sB _ _ az,(gX,ar.keep (Same.tups sB),sB _ _ gA,?_,a5)⟩);rw[Yw,Zv];refine StL.snoc (p:=stP y ss prs k) (q:=qc) (a7.keep (Same.tups sB)) ?_ ?_
   .have am:trP y ss (itP y ss prs k)=(p1.1.nm,p2.1.nm,c):=by
     unfold trP;rw[et];rfl
    unfold stP;rw[am];exact sB _ _ gp
   .have am:trP y ss (itP y ss prs k)=(p1.1.nm,p2.1.nm,c):=by
     unfold trP;rw[et];rfl
    unfold stP;rw[am];exact sB _ _ (tA _ _ (R _ _ hqc))
noncomputable abbrev seF (d1 d2:Addr):lw:=[nS "seat_of" d1,nS "holder_of" d2]
def lkSo {d1 d2:Addr}:(zfc).lookup (ji "seat_of")=some (.ref d1):=by
 unfold seF;show(zdy,"seat_of","seat_of")
def lkHo {d1 d2:Addr}:(zfc).lookup (ji "holder_of")=some (.ref d2):=by
 unfold seF;show(OJ,"holder_of","seat_of",[("holder_of",V.ref d2)])
def xls {d1 d2:Addr}{m:Str} (e:((["seat_of", "holder_of"]:eO).all λ k=>zfd)=true):(zfc).lookup m=none:=by
 ext WT;ext FU c b e;unfold seF;show(znD,"holder_of",d2)
noncomputable def SoD (H:Hp) (d:Addr) (n:Nat) (so:gJ):Prop:=(ziJ,Tu/\zZE/\∀ nm,((G0 nm)->zhx)/\∀ s,so nm=some s->∃ q,Hm T7 jc GG)
noncomputable def HoD (H:Hp) (d:Addr) (n:Nat) (ho:fw):Prop:=∃ kvs:i4,zhq/\zZE/\∀ s,Us=(Ob).map V.str
def SoD.keep {H H':Hp}{d:Addr}{n:Nat}{so:gJ} (s:zcP) (tp:pY) (h:zYy):SoD H' d n so:=by
 ext zcB;exact(fY,kvs,h _ e,l,λ nm=>⟨(f nm).1,(zo,let ⟨q,a,b⟩:=(f nm).2 s hs; (eG,q,a,uO b))⟩)
def HoD.keep {H H':Hp}{d:Addr}{n:Nat}{ho:fw} (s:zcO) (h:zYy):HoD H' d n ho:=by
 show(pZ,kvs,e,r,s,kvs,h _ e,r)
def HoD.le {H:Hp}{d:Addr}{n k:Nat}{ho:fw} (s:zcO) (h:n<=k):HoD H d k ho:=by
 ext zIJ
def SoD.le {H:Hp}{d:Addr}{n k:Nat}{so:gJ} (s:zcP) (h:n<=k):SoD H d k so:=by
 ext zIJ
def HoD.get {H:Hp}{d:Addr}{n:Nat}{ho:fw} (s:zcO) {b:Addr}{c:Seat} (eb:zuB):DGet H d jD ((ho c).map V.str):=by
 ext zcB;show(sL,f c,(Um,xaf c,e,eb))
def HoD.put {H:Hp}{d:Addr}{n:Nat}{ho:fw} (s:zcO) (hn:n<1000) {b:Addr}{c:Seat} (eb:zuB) (x:Str) :
    (zBW,jD,qh,HoD H' d m8 (Kp.upd1 ho c x)):=by
  show(sI,kvs,e,l,f,s,(zCm,DPut.t (k:=xaf c) e eb UB,zKH))
  . show(iP,xb3 kvs (xaf c) (.str x))
  . ext zOy c
    . rw[U1 zc,fe zc]
      rfl
    . rw[(su,y,zc (xe7 y)),fH zc]
      exact f z
def SoD.put {H:Hp}{d:Addr}{n:Nat}{so:gJ} (s:zcP) (hn:n<1000) {b:Addr}{c:Seat} (eb:zuB) (x:Str) :
    (zBW,qh,jD,SoD H' d m8 (Kp.upd1 so x c)):=by
  ext zcB;show(ziB,oC H d (putK kvs Ba jD),zKH,(zCm,Gu Ba e UB,tp))
  . show(iP,xb3 kvs Ba jD)
  . ext zOy x
    . subst zc
      rw[iT,iT];show(fc,zXG,λ s m=>(jw,b,by cases m; exact uO eb))
    . rw[(su,y,zc (ZI.inj y)),fH zc]
      show(fc,(f z).1,λ s m=>let ⟨q,a1,a2⟩:=(f z).2 s m; (eG,q,a1,uO a2))
theorem SoD.get {H:Hp}{d:Addr}{n:Nat}{so:gJ} (s:zcP) (x:Str):((G0 x)/\DGet H d qh none)\/∃ c q,so x=some c/\DGet H d qh (fX q)/\(kX (AR c)):=by
 ext zcB;have g:=qU x e;cases z:so x with
 | none =>
  rw[(f x).1 z] at g;show(je,iW g)
 | some c =>
  show(eE,q,b,a,(f x).2 c z);rw[b] at g;show(iY,uE c q g a)
structure Sg (t:Adr) (H:Hp) (p d1 d2:Addr) (n:Nat) (so:gJ) (ho:fw):Prop where
 ins:∃ dx,xK (uJ t.C_aa zfc)
 so:SoD H d1 n so
 ho:HoD H d2 n ho
def Sg.keep {t:Adr}{H H':Hp}{p d1 d2:Addr}{n:Nat}{so:gJ}{ho:fw} (g:LV) {d:Addr} (h1:p≠d) (h2:d1≠d) (h3:d2≠d) (tp:pY) (k:B1 d):Kh H' n :=
 (zLe,(xr,k _ _ h1 e),g.so.keep tp (sW,k _ _ h2 e),(sW,k _ _ h3 e))
def Sg.same {t:Adr}{H H':Hp}{p d1 d2:Addr}{n:Nat}{so:gJ}{ho:fw} (g:LV) (s:gu):Kh H' n :=
 (zLe,zhn,g.so.keep (Same.tups s) (sW Dp),sW Dp)
def Sg.le {t:Adr}{H:Hp}{p d1 d2:Addr}{n k:Nat}{so:gJ}{ho:fw} (g:LV) (h:n<=k):Kh H k:=(eG,g.ins,g.so.le h,g.ho.le h)
noncomputable def KB (H H':Hp) (d1 d2:Addr):Prop:=(Rj,b≠d1,d2,kC,Ke)
inductive xtj (t:Adr) (vs:eB) (H:Hp) (Q:VK) (_:XK):Prop
 | mk (p dx:Addr) (e_:vs=[iX]) (r_:(xK zXz)/\∀ H' d1 d2,(Bs,gz d1,gz d2,B1 p,Sg t H' p d1 d2 0 j8 j8))
structure xua (room:pq) (so:gJ) (asked:fw) (rk:Str->Nat) (name:Str):Prop where
 rm:zgG G6
 no:∀ s a,zQ->(G0 a)->a=name
 up:(zgG,∀ s1,zTX->∃ a1,(zzd s1 a1)/\rk a1<rk a)
 le:(zgG,rk a<=20)
inductive xxq (t:Adr) (vs:eB) (H:Hp) (Q:VK) (_:XK):Prop
 | mk (p d1 d2 d3 q:Addr) (n m:Nat) (room:pq) (so:gJ) (ho asked:fw) (rk:Str->Nat) (name a:Str) (s:Seat) (e_:vs=[iX,.ref d3,jc]) (r_:GG/\(fb,LV,HoD H d3 m asked,d3≠d2,n<=600,(fb,Cf,FF,zQ,xua room so asked rk name,∀ H' so' ho',(gR,zrS,uR i8 FG,zom N7,O8,(IG (RE||Fh))->(zP B9 zvW)->Sx))))
def ok_a7 (T:eX):FnOk true P w K mg base eW 1 t.f_a7 t.d_a7 iU (xtj t):=by
 refine T.a7.F.okn (k:=0) sc_a7 eZ (λ cdv A outer s H vs Q E hr h=>?_)
 .ext wt p dx
 .ext wu p dx;refine⟨_,xk zfV
   (Rw (xgx)),?_⟩
  refine sq2 ?_; intros; ext qL M;show(Hk,eQ I x,y,p≠I,xp M x,⟨126,p,_,dx,_,rfl,(jp y M),T.c_aa,T.n_cj,(U5 0),eQ C v⟩);show(i6,D,p≠C,xp xh v,L,I≠C,xp (eP,lB y,xh) v,B0 p (jp D xh) T.c_aa T.n_ch 1);have m:gz C:=by
   have z:=v;show(C5,lB D,lB L)
  refine q _ I C x m (Eh J ?_) (pR AU (zjU,?_,λ nm=>⟨re,λ s z=>(nomatch z)⟩) (zjU,?_,λ s=>rfl))
  .rw [xo J,m7 m,xo J,m7 x];exact e
  .rw [lB y,xo L,lB y];exact xh
  .show(ie,lB D,xh)
def ok_ai (T:eX):FnOk true P w K mg base eW 1 t.f_ai t.d_ai zmb (xxq t):=by
 refine T.ai.F.okn (k:=0) sc_ai eZ (λ cdv A outer s H vs Q E hr h=>?_)
 .obtain ⟨p,y,I,d3,q0,n,m,room,v,L,asked,J,name,a0,s0,rfl,_⟩:=h;rfl
 .obtain ⟨p,y,I,d3,q0,n,m,room,v,L,asked,J,name,a0,s0,rfl,h⟩:=h;refine⟨_,xk (pS 3 sc_ai.nd fZ)
   (xq (xgu ZS (zfB gV) (xk (pS 4 sc_ai.nd (Bh fG gV))
   (xk (pS 5 sc_ai.nd (xss oF gm ia Ph))
   (xk (xdt oF gm ia gV rfl)
   (xk (xdt oF gm gV ia rfl)
   (xq (pS 3 sc_ai.nd iO)))))))),?_⟩
  refine sq2 ?_; intros; obtain⟨a8,sg,aq,a4,aH,mt,⟨a7,au,ch,q⟩⟩:47:=h;refine gx ?_; refine wo ?_; intros; show(kR,λ k Z H1=>∃ U v4 v5,(jH,Z,zHB,KB H H1 y I,uR i8 zuw,((gL,U,.non,k=0,∃ so' ho',fS (VE H1 N7 so' ho') O8 (IG (RE||zts)) (zP zpe zoH))\/(zEf (qu,U=T5,yB qs Bn,zQ,k=J a+1,zHC,zGG,VE H1 n1 so1 ho1,zQD,zUV)))),(zxx,J a0+1,λ b u _ _ e=>e,zx e,.inr (ir q0 s0 a0 v (qJ,L,n,rfl,a8,au,rfl,mt.hand a7,gX oY sg (mM,ch.le _ _ au) ME))));rintro k Z H1 (⟨U,v4,v5,rfl,kb,fr,cs⟩:104);refine o8 ?_;rcases cs with⟨rfl,rfl,so',ho',sg',mt',dm',rc'⟩|⟨qs,s,a,so1,ho1,n1,rfl,hqs,asd,rfl,hand,low,sg1,nb,rc1⟩
  .exact ifN eJ (q H1 so' ho' kb fr sg' mt' dm' rc')
  .refine ifP (jn zHQ) (nQ (DB,∃ k',k'<J a+1/\∃ U v4 v5,(jH,σ',zHB,KB H H' y I,uR i8 FG,((gL,U,.non,k'=0,∃ so' ho',fS (VE H' N7 so' ho') O8 (IG (RE||zts)) (zP zpe zoH))\/(zEf (qu,U=T5,zvY,zQ,k'=J a+1,zHC,zGG,VE H' n1 so1 ho1,zQD,zUV))))) zYW);refine sq5 ?_; intros; obtain⟨D,C⟩:=sg1.ins;show(sx,ka,aC,id aq,k1,O,id sg1.so);show(jL,k2,am,id sg1.ho);show(sx,aK,ao,id sg.so,aJ,aI,id sg.ho);show(eC,a5,d3≠y,ne_f aC ao,ai,y≠I,ne_f O am);show(eK,ap,aq.keep (H':=H1) (sW,kb _ _ a5 a4 e),gt,ap.get hqs);show(HL,asd,gt,BG d3 Nk gt ?_);show(eK,X,low a f8,ah,ch.rm _ _ asd);show(eC,ay,p≠y,ne_f C O,ax,p≠I,ne_f C am)
   -- the two puts
   show(Hj,H2,as,aw,ab,ae,aE,sg1.so.put eA hqs a);show(Bz,ac,ab _ _ ay C,ak,ae _ _ hqs,aB,sg1.ho.keep (H':=H2) (sW,ab _ _ (Zz ai) e));show(Hj,H3,ar,aA,aa,ad,aD,aB.put eA ak a);show(eK,av,aw.keep ad (sW,aa _ _ ai e),a9,aa _ _ ax ac);show(gq,aj,KB H H3 y I,(zwo,aa _ _ b2 (ab _ _ b1 zXc)),Y,(uR,i8,H3 b=none),(zx,aD _ (aE _ (fr _ e))),af,VE H3 (n1+1) (Kp.upd1 so1 a s) (Kp.upd1 ho1 s a),VG D a9 av aA)
   rcases sg1.so.get a with⟨e0,g0⟩|⟨s1,q1,e1,g1,hq1⟩
   .ext zBK none g0;have an:a=name:=ch.no _ _ asd (iz X e0);obtain⟨a6,aF⟩:=hand.last ah e0;show(fU,0,eA,(qao,.inl (NW (qI,_,_,af.le eA,a6,(λ z=>(hZ,aF z,an)),.step rc1 (Kp.k_fin asd e0)))))
   .show(zBK,fX q1,g1);show(eE,a1,aG,lt,ch.up _ _ asd s1 (iz X e1));show(jV,J a1+1,eA,(qao,.inr (ir q1 s1 a1 _ (qJ,_,n1+1,rfl,ad _ _ (ae _ _ hq1),aG,rfl,hand.step ah e1,(gX,Dk,af,eA,.step rc1 (Kp.k_hand asd e1))))));show(kS,az,b≠a,by rw[z] at hb; lia)
    show Kp.upd1 so1 a s b=v b;unfold Kp.upd1;show(sK,az,low b eA)
structure Bf (room:pq) (ho:fw) (name:Str) (crowd:eO) (al:eF) (asked:fw):Prop where
 cr:crowd.length=al.length+1
 c0:pi crowd 0 name
 hd:(zLT,∃ h,(pi crowd oR h)/\Kc)
 nd:al.Nodup
 no:∀ s,A7->PR
 ak:(zLT,∃ k a,(fS,k<=j,UO,zQ,G6))
def xt1 {α:Type}{l:i7} (nd:l.Nodup) {i j:Nat} (hi:i<l.length) (hj:j<l.length) (e:l[i]=l[j]):i=j:=by
 rcases Nat.lt_trichotomy i j with h|h|h
 .show(jB,e,Yt.mp nd i j hi hj h)
 .exact h
 .show(jB,e.symm,Yt.mp nd j i hj hi h)
section
variable {room:Str->List Seat}{so:Str->Option Seat}{ho asked:Seat->Option Str}{name:Str}{crowd:List Str}{al:List Seat}
def Bf.start:Bf room ho name zjO [] j8:=(gY,rfl,rfl,λ j s e=>F2,YK,oY,λ j s e=>F2)
theorem Bf.at_ (b:CT) (mt:Cf) {k:Nat}{a:Str} (e:UO):(k=0/\a=name)\/∃ j s,gL k oR (hU al s) zqn:=by
 cases k with
 | zero =>
  left;rw[b.c0] at e;show(fc,rfl,(ZR.inj e).symm)
 | succ j =>
  right;have lt:j<al.length:=by
   show(He,zuI,b.cr)
  show(eE,h,q,u,b.hd j _ qv);ext gQ e q q;exact(oQ,j,qv,(mt.iff _ _).mpr u)
def Bf.inj (b:CT) (mt:Cf) (sn:yu) {k l:Nat}{a:Str} (e:UO) (e':pi crowd l a):k=l:=by
 rcases b.at_ mt e with⟨rfl,rfl⟩|⟨j,s,rfl,h1,h2⟩<;>rcases b.at_ mt e' with⟨rfl,h⟩|⟨j',s',rfl,h1',h2'⟩
 .rfl
 .ext Bp sn h2'
 .rw [h,sn] at h2;cases h2
 .rw [h2] at h2';cases h2';show(tY,x,Zi.mp h1);ext Ly y c h1';show(iP,xt1 b.nd x y (hZ q c))
def Bf.nodup (b:CT) (mt:Cf) (sn:yu):crowd.Nodup:=by
 refine Yt.mpr (iR i j c a lt e);show(iP,b.inj mt sn BK (by rw[e]; exact Zc a))
def Bf.add (b:CT) {i:Nat}{a h:Str}{s:Seat} (ea:Cr) (ra:G6) (ns:A7) (hh:Kc):Bf room ho name Lp vv ES:=by
 show(eK,D,b.cr,L,ui ea);have q:∀{k:Nat}{x:Str},(MP x)->(sZ Lp x):=λ{k x} e=>by
  show(tf,Jf (Zi.mp e).1)
 refine(gY,by rw[Zt,Zt,D]; rfl,q b.c0,nR j z,?_,eQ z nz,nR j z)
 .by_cases c:j<al.length
  .rw [Jf c] at e;show(pZ,h',C,B,b.hd j z e,h',q C,B)
  .ext zCn;show(jV,h,?_,hh);rw[<- D,JF (Zk _),Nat.sub_self];rfl
 .rw [ZT];show(fU,b.nd,eS,λ x I y H e=>ns (by show(h7,Zq.mp H,e,e▸I)))
 .show(zvT,(su,e,nz (eP e zhW)),b.no z λ y=>nz (ZP _ y))
 .by_cases c:j<al.length
  .rw [Jf c] at e;show(o7,k,x,C,B,K,J,b.ak j z e);refine(qI,k,x,C,q B,?_,J);show(zvT,(su,y,ns (by rw[<- y]; exact Zo e)),K)
  .ext zCn;refine(qI,i,a,eA,q ea,?_,ra);unfold Kp.upd1;rw[iT]
def Bf.chain (b:CT) (mt:Cf) (sn:yu) (c20:crowd.length<=20) {i:Nat}{a:Str}{s:Seat} (ea:Cr) (ra:G6) (ns:A7):xua room so ES (λ z=>crowd.idxOf z) name:=by
 have D:∀{k:Nat}{x:Str},(MP x)->crowd.idxOf x=k:=λ{k x} e=>by
  show(eK,m,Zo e,lt,List.idxOf_lt_length_of_mem m);refine b.inj mt sn (a:=x) ?_ e;rw[qv,List.getElem_idxOf]
 have v:∀ s' q,(D0,zxC a s',q,s'∈room q/\∃ k,MP q):=λ s' q e=>by
  ext zVq
  .rename_i h
   ext mC;rw[h];ext fU ra i ea
  .by_cases h:s'∈al
   .obtain ⟨j,B,I⟩:=HR;show(o7,k,x,K,H,C,J,b.ak j s' (pJ B I));ext gQ e C C;ext fU J k H
   .rw [b.no s' h] at e;cases e
 refine(fh,λ s' q e=>(v s' q e).1,ib s' q e z,fW s' q e s1 z,nR s' q)
 .ext znu;rcases b.at_ mt A with⟨_,h⟩|⟨j,s2,_,_,h⟩
  .exact h
  .ext Mc z
 .ext znu;rcases b.at_ mt A with⟨_,h⟩|⟨j,s2,rfl,B,h⟩
  .rw [h,sn] at z;ext mB
  .ext Tf z;obtain⟨L,a2,K,H,C,_⟩:84:=b.ak j s1 B;show(kR,a2,?_)
   .show(zvT,(su,y,ns (by rw[<- y]; exact Zo B)),C)
   .show crowd.idxOf a2<zZK;rw[D H,D A]
    lia
 .ext znu;show zZK<=20;rw[D A];show(iP,ui A)
theorem Bf.done (b:CT) (mt:Cf) (sn:yu) (all:zWg (ziH DW)):∃ hs,crowd=Gd/\(zqG name):=by
 have D:=zZg;cases crowd with
 | nil =>
  have:=b.c0;simp at this
 | cons x hs =>
  have B:=b.c0;show(gQ,List.getElem?_cons_zero,B,B);refine(gF,hs,rfl,D,eQ h I,ib c hc s hs')
  .obtain ⟨j,v,y⟩:=ZH I;have e:pi Gd oR h:=by
    rw[List.getElem?_cons_succ,Zc v,y]
   rcases b.at_ mt e with⟨z,_⟩|⟨_,s,_,_,z⟩
   .lia
   .rw [z];rfl
  .obtain ⟨k,H,J⟩:=ZH hc;have q:=all k c (pJ H J) s hs';show(GV,v,y,ZH q);show(eE,h,A,K,b.hd j s (pJ v y));rw[List.getElem?_cons_succ] at A;show(fU,h,Zo A,(mt.iff _ _).mpr K)
#check _
noncomputable def RmD (H:Hp) (d:Addr) (names:eO) (room:pq):Prop:=(ziJ,Tu/\∀ nm∈names,∃ l rs,T7=some gS/\(BU zPL)/\xbq H (room nm) rs)
inductive xvm (t:Adr) (vs:eB) (H:Hp) (Q:VK) (_:XK):Prop
 | mk (p d1 d2 rm:Addr) (n:Nat) (room:pq) (so:gJ) (ho:fw) (names:eO) (name:Str) (e_:vs=[iX,.str name,.ref rm]) (r_:(fS,LV,n<=600,Cf,(qu,yu,RmD H rm names room,rm≠d1,(∀ z,Fh->z∈names),name∈names,Cg,(∀ z,zfF (room z)),(∀ H' l so' ho',gb zrS qg (sY (.lst [])) (lX (zom N7) O8 (IG (RE||Fh)) (zP B9 zrh) gS)),∀ H' l hs,gu->(lX,qg,sY (.lst ((Gd).map V.str)),zqG name,Kp.Rch B9 zrh (.out Gd),gS))))
noncomputable def ICr (t:Adr) (H:Hp) (p d1 d2 rm lc da:Addr) (n:Nat) (room:pq) (so:gJ) (ho:fw) (name:Str) (i j:Nat) (crowd:eO) (al:eF) (asked:fw) (H1:Hp):Prop :=
 zhB/\(fb,yB lc znh,HoD H1 da al.length asked,CT,(∀(k:Nat) (a:Str),k<i->UO->(ziH DW)),Kp.Rch B9 zrh Gc)
def ok_t (T:eX):FnOk true P w K mg base eW 2 t.f_t t.d_t znR (xvm t):=by
 refine T.B_t.F.okn (k:=1) sc_t eZ (λ cdv A outer s H vs Q E hr h=>?_)
 .obtain ⟨p,d1,d2,rm,n,room,so,ho,names,name,rfl,_⟩:=h;rfl
 .obtain ⟨p,d1,d2,rm,n,room,so,ho,names,name,rfl,h⟩:=h;refine⟨_,xk (pS 3 sc_t.nd (xbp lZ))
   (xk (pS 4 sc_t.nd (xgx))
   (xk (pS 5 sc_t.nd (xt))
   (xk (xgu ZS (N1 iO zgW) (xk (pS 6 sc_t.nd (sE gV iO))
   (xk (xbu ZS rfl (xay (Bh fZ kI)) (pN 7 sc_t.nd) (xq (xan (xdq (xee oF lP ia)) (xk (xdt oF ia lP kI rfl)
   (xk (xan (xdq (xee oF lP gm)) (xk (xas (h9 fj T.c_aa T.ai.m (ok_ai T) fA T.ai.b xv (hF ia lP)))
   (zeU (xj))) (xac))
   (uy (KG gV (i3 (Bh gm lP)))))) (xac))))
   (xq (xx7 (i:=5) sc_t.nd rfl y0 (xt) xvz)))))
   (yr 3)))),?_⟩
  refine sq5 ?_; intros; obtain⟨sg,az,mt,sn,aA,aS,⟨dom,ax,aC,aR,qA,qB⟩⟩:47:=h;ext CG I aj;show(X0,iE H I [.str name],aj);refine eQ U am;show(zot,rF H1 U [],am);show(eK,O,s1.free am,a9,s1.trans s2);have ay:I≠U:=xp g1 am;have ae:∀{crowd:eO}{al:eF}{asked:fw},CT->zpI:=λ{crowd al asked} b=>by
   refine Z5 ((zZg).length_le_of_subset (l₂:=names) zxd) aC;obtain⟨k,hk,ek⟩:=ZH hx;rcases b.at_ mt (show MP x by rw[Zc hk,ek]) with⟨_,e⟩|⟨j,s,_,_,e⟩
   .ext ie e ax
   .exact dom x yZ
  refine(pR,λ m Z H3=>(zCz,m,Z=(zkF v6),ICr t H p d1 d2 rm I U n room so ho name i 0 crowd al asked H3),ir 13 0 zjO [] ⟨106,j8,_,_,rfl,lQ,rfl,a9,zAh,(gX,zjU g2 re,.start,λ k a z=>eA,ME)⟩,?_);rintro m Z H3 (⟨i,crowd,al,asked,⟨v6,v7,mi,il,rfl,s3,L,a7,D,cov,aw⟩⟩:121);have aP:=ae D;refine(oQ,I,Lj L,NJ DU DU)
  .have ic:i<crowd.length:=by
    have z:=of_decide_eq_true y;rw[Za] at z
    lia
   show(zUB,SX m (zCz,m',σ'=(zkF v6),ICr t H p d1 d2 rm I U n room so ho name i 0 crowd al asked H'))
   ext kR Pm zYW;ext zsx; obtain⟨a,C⟩:∃ a,Cr:=(mr,Zc ic)
   refine iI I _ _ Nk (mS,ft L,xdd (On C),?_);ext xT; have aQ:a∈names:=by
    rcases D.at_ mt C with⟨_,e⟩|⟨j,s,_,_,e⟩
    .ext ie e ax
    .exact dom a yZ
   show(eE,kr,aJ,fr,id aA);show(jb,lr,rs,er,a4,ar,fr a aQ);show(lM,gr,DGet.k (k:=.inr a) (vX aJ),er);refine(BG,rm,.ref lr,gr,(Ht,lr,ft (s3 _ _ a4),?_));have av:=ar.len
   let Pv (j:Nat) (Z:L2.St) (H4:Hp):Prop:=∃(crowd:eO) (al:eF) (asked:fw) (v7:iM),(fS,Cr,(ziH,(DW).take j),Z=(zkF,some Nk),ICr t H p d1 d2 rm I U n room so ho name i j crowd al asked H4)
   show(EE,qbu,(zRy,(zo,by show(h7,List.take_zero,hs,nomatch hs)),s3,L,gX a7 D cov aw),?_)
   .rintro j Z H4 _ (⟨_,_,_,_,_,_,rfl,s4,_⟩:125);exact SqL.of (oP a4)
   .rintro j x Z H4 hx (⟨crowd,al,asked,v7,C,tk,rfl,s4,J,⟨q,D,cov,M⟩⟩:126);ext zmA; ext zaJ qs aG;show(eE,s,hs,aF,ar.get aG);show(mq,Y,oP aF,ra,G6,Zo hs);show(eK,aP,ae D,cr,D.cr);have aq:∀ al':eF,(∀ z∈al,z∈al')->s∈al'->∀ z∈(DW).take oR,z∈al':=λ al' h1 h2 z hz=>by
     rw[Ja,hs] at hz;rcases SL with hz|hz
     .exact h1 _ (tk z hz)
     .have hz:z∈[s]:=hz;show(eY,Zq.mp hz,h2)
    refine(zix,U,q.get Y,zqT)
    .ext zsx; have ns:A7:=λz=>by
      obtain⟨k,hk,ek⟩:=ZH z;obtain⟨_,x,_,_,e3,_⟩:84:=D.ak k s (pJ hk ek);rw[e3] at y;ext Ex y
     show(Hj,H5,aN,ad,k5,ap,aW,q.put eA Y a);refine uE U H5 aN ?_;ext zmz; have au:=sg.same s4;obtain⟨ao,aH⟩:=au.ins;show(sx,aU,a6,id sg.so,aT,ac,id sg.ho);obtain⟨aX,a0⟩:=sg.ins;have ah:Kh H5 n:=au.keep (d:=U) (xp a0 O) (xp a6 O) (xp ac O) ap k5;show(Bz,ai,k5 _ _ (xp a0 O) aH,X,ap _ _ Y,ab,k5 _ _ ay J);show(fR,s5,My,(NM,k5 _ _ (xp e O) zyK),oa p ao ai T.c_aa T.n_ch lkHo (zix,d2,ah.ho.get X,zeT y2))
     .ext zbW; have hn:FF:=by
       cases e:Ob with
       | none=>rfl
       | some h =>
        rw[e] at y2;ext Ex y2
      show(gE,⟨p,ao,_,rfl,ai,xls gH,p,d1,d2,U,qs,n,_,room,so,ho,_,_,name,a,s,rfl,X,ah,ad,qx ac O,az,mt,hn,zmL,D.chain mt sn eA C ra ns,λ H6 a8 aI aE aV af aD aO aB=>?_⟩,vA (sM leS0) l hl);have kb:KB H H6 d1 d2:=(zwo,aE _ _ b1 b2 (s5 _ _ e));have a5:qg:=by
       cases e:H l with
       | none=>rfl
       | some u =>
        by_cases e1:l=d1
        .show(zIu,af.so,e1)
        .by_cases e2:l=d2
         .show(zIu,af.ho,e2)
         .show(Bp,kb _ _ e1 e2 e,hl)
      exact qA _ l a8 aI (zwo (eP,m7 a5,zXc)) a5 xh (af.same (xab lU hl)) aD aO ((Kp.Rch.step M (Kp.k_free C hs (D.no s ns) hn)).trans aB)
     .obtain ⟨h,eh⟩:∃ h,Kc:=by
       cases e:Ob with
       | none =>
        rw[e] at y2;ext qp y2
       | some h=>show(fc,h,rfl)
      have gh:=ah.ho.get X;show(HL,eh,gh,⟨wv ab,p,_,ao,_,_,rfl,ai,T.c_aa,T.n_ch,lkHo,d2,.str h,rfl,gh,I,_,_,rfl,rfl,ab,?_,?_⟩)
      .rw [Za];exact xcx eA
      show(fR,kl,(tH,I,H5 c=some u,zm H5 I (.lst (zby++[.str h]))),Kk,⟨126,Lp,vv,_,_,?_,aq _ (rO,ZP _ hz) zhW,rfl,(NM,kl _ _ (xp e aj) (s5 _ _ e)),zvz,(gX,?_,D.add C ra ns eh,zOU,.step M (Kp.k_grow C hs (D.no s ns) eh))⟩)
      .show(ie,Jf (Zi.mp C).1,C)
      .rw [Zt,ZZ];exact ad.keep (sW,kl _ _ (Zz ay) e)
      .have aK:k<crowd.length:=by
        show(iP,ui C)
       show(h7,Jf aK,eb,ZP _ (cov k b hk eb z hz))
    .have as:UX:=by
      by_cases z:UX
      .ext lT
      .rw [D.no s z] at y;ext qp y
     obtain⟨kk,aL,aM⟩:=ZH as;obtain⟨_,xx,_,_,e3,_⟩:84:=D.ak kk s (pJ aL aM);exact(zRy,aq al (rO hz) as,s4,J,(gX,q,D,cov,.step M (Kp.k_old C hs e3)))
   .rintro Z H4 (⟨crowd,al,asked,v7,C,tk,rfl,s4,J,⟨q,D,cov,M⟩⟩:126);rw[Za,av] at M;rw[Za,av,zfq] at tk;show(jG,ic,ui C,(gF,_,rfl,m-1,eA,(ir,f7,crowd,al,asked,iQ 86 _ _ eA eA rfl s4 J (gX,q,D,zOU,.step M (Kp.k_next C (Jo (Zk _)))))));ext mX k i
    .ext rA c C eb eb;exact tk z hz
    .exact cov k b eA eb z hz
  .have ic:i=crowd.length:=by
    by_cases z:i<crowd.length
    .ext zad MI y
    .lia
   show(eE,hs,ec,cw,D.done mt sn λ k a e z hz=>cov k a (mM zuI) e z hz)
   refine (qB H3 I hs s3 aj (iz ec L) cw ?_);rw[<- ec];exact .step aw (Kp.k_end (Jo eA))
inductive Run (room:pq):Eu eO gJ fw iD
 | nil:Run room [] j8 j8 []
 | inn {ns:eO}{so so':gJ}{ho ho':fw}{cs:iD}{nm:Str} (r:AS) (mt:O8) (dm:IG ((i9 z nm)||Fh)) (rc:zP B9 zpQ):Run room wS so' ho' cs
 | out {ns:eO}{so:gJ}{ho:fw}{cs:iD}{nm:Str}{hs:eO} (r:AS) (c:zqG nm) (rc:zJi):Run room wS so ho zYY
theorem Run.mt {room:pq}{ns:eO}{so:gJ}{ho:fw}{cs:iD} (r:AS):Cf:=by
 induction r with
 | nil=>ext fc zQu zQL
 | inn _ mt _ _ _=>exact mt
 | out _ _ _ ih=>exact ih
theorem Run.outs {room:pq}{ns:eO}{so:gJ}{ho:fw}{cs:iD} (r:AS):(∀ z∈cs.map (·.1),zjh)/\cs.length<=ns.length:=by
 induction r with
 | nil=>ext fc qT f8
 | inn _ _ _ _ ih=>show(fc,(rO,ZP _ (ih.1 z hz)),by rw[Zt]; show(iP,ih.2))
 | out _ _ _ ih =>
  show(nM,Ay,by rw[Zt,Zt]; have:=ih.2; simp; lia);rw[Zv] at hz;rcases SL with hz|hz
  .exact ZP _ (ih.1 z hz)
  .exact Z7 _ hz
theorem Run.dom {room:pq}{ns:eO}{so:gJ}{ho:fw}{cs:iD} (r:AS) (nd:ns.Nodup):∀ z,Fh=((hR zjh)&&! decide (z∈cs.map (·.1))):=by
 induction r with
 | nil=>intro z; rfl
 | @inn ns so so' ho ho' cs nm r mt dm rc ih =>
  intro z;rw[ZT] at nd;rw[dm z,ih nd.1 z];by_cases e:z=nm
  .ext iL;have f:z∉ns:=λ h=>(xH).2 z h z R4 rfl;have j:z∉cs.map (·.1):=λ h=>f (r.outs.1 z h);simp[j]
  .simp [e]
 | @out ns so ho cs nm hs r c rc ih =>
  intro z;rw[ZT] at nd;rw[ih nd.1 z];by_cases e:z=nm
  .ext iL;have f:z∉ns:=λ h=>(xH).2 z h z R4 rfl;simp[f]
  .rw [Zv];have v:decide (z∈wS)=(hR zjh):=ip e
   have q:decide (z∈cs.map (·.1)++[(nm,hs)].map (·.1))=decide (z∈cs.map (·.1)):=by
    rw[decide_eq_decide,Z3];show(fc,λ h=>h.elim id λ h=>absurd (Zq.mp h) e,.inl)
   rw[v,q]
theorem Run.det {room:pq}{l:eO}{so:gJ}{ho:fw}{cs:iD} (r:zsC l):∀{so2:gJ}{ho2:fw}{cs2:iD},Run room l so2 ho2 cs2->(gL,so,so2,ho=ho2,cs=cs2):=by
 have j:∀{l:eO}{so:gJ}{ho:fw}{cs:iD},(zsC l)->(l=[]/\(gL,so,j8,ho=j8,cs=[]))\/(∃ ns nm so0 ho0,(gL,l,wS,Run room ns so0 ho0 cs,Kp.Rch (Kp.kstep room so0 ho0) zpQ (.fin so ho)))\/∃ ns nm hs cs0,(jH,l,wS,Run room ns so ho cs0,zJi,cs=cs0++[(nm,hs)]):=λ r=>by
  cases r with
  | nil=>show(je,mS rfl rfl rfl)
  | inn r mt dm rc=>show(zfD,zqQ r rc)
  | out r c rc=>show(Sb,PB r rc rfl)
 induction r with
 | nil =>
  ext zsr;rcases j r2 with⟨_,rfl,rfl,rfl⟩|⟨ns,nm,_,_,e,_⟩|⟨ns,nm,_,_,e,_⟩
  .exact Ge
  .show(Ex,e.symm)
  .show(Ex,e.symm)
 | @inn ns so so' ho ho' cs nm r mt dm rc ih =>
  ext zsr;rcases j r2 with⟨e,_⟩|⟨ns2,nm2,so0,ho0,e,r0,rc0⟩|⟨ns2,nm2,hs,cs0,e,r0,rc0,_⟩
  .ext Ex e
  .ext VJ;injection z with z1 z2
   ext Ia z1 z2
  .ext VJ;ext mB
 | @out ns so ho cs nm hs r c rc ih =>
  ext zsr;rcases j r2 with⟨e,_⟩|⟨ns2,nm2,so0,ho0,e,r0,rc0⟩|⟨ns2,nm2,hs2,cs0,e,r0,rc0,rfl⟩
  .ext Ex e
  .ext VJ;ext mB
  .ext VJ;injection z with z1
   injection z1 with _ z2
   show(zq,rfl,kU z2)
noncomputable def xbs (ns:eO) (cs:iD):eO:=ns.filter λ z=>! decide (z∈cs.map (·.1))
noncomputable def xbj (ps:eI) (srt:eF) (nm:Str):eF:=match zzU with
 | UN=>zQQ
 | none=>[]
def xpm {ps:eI}{srt:eF} (h:srt.length<=32) (nm:Str):zfF (xbj ps srt nm):=by
 unfold xbj;split
 .exact Z5 xb h
 .exact lQ
inductive CrL (H:Hp):HK iD
 | nil:CrL H [] []
 | cons {c:CV}{q:Addr}{cs:iD}{qs:eV} (h:kX (.lst ((Uo).map V.str))) (r:RI):CrL H (c::cs) xA
theorem CrL.len {H:Hp}{cs:iD}{qs:eV} (h:RI):znW:=by
 induction h with
 | nil=>rfl
 | cons _ _ ih=>ext zD
theorem CrL.snoc {H:Hp}{cs:iD}{qs:eV} (h:RI) {c:CV}{q:Addr} (e:kX (.lst ((Uo).map V.str))):CrL H (cs++[c]) (qs++[q]):=by
 induction h with
 | nil=>show(uD,e,.nil)
 | cons h _ ih=>ext Ul
theorem CrL.get {H:Hp}{cs:iD}{qs:eV} (h:RI) {i:Nat}{q:Addr} (e:F3):∃ c,(gf cs c)/\(kX (.lst ((Uo).map V.str))):=by
 induction h generalizing i with
 | nil=>ext vR
 | @cons c q' cs qs h _ ih =>
  cases i with
  | zero =>
   ext SC c
  | succ j=>ext A4
theorem CrL.keep {H H':Hp}{cs:iD}{qs:eV} (h:RI) (k:∀ q∈qs,(zBa (kX u) q)):qbn:=by
 induction h with
 | nil=>ext mj
 | cons h r ih=>show(uD,k _ nO _ h,ih λ q a=>k q (Zm _ a))
inductive xsp (t:Adr) (vs:eB) (H:Hp) (Q:VK) (_:XK):Prop
 | mk (a ln dp do_:Addr) (w h:Nat) (ps:eI) (ss srt:eF) (names:eO) (e_:zAc) (r_:(zSU,Dr t H a dp do_ w h ps ss srt,(zJl qbn (∀ q∈qs,(gz q)) zXB)))
theorem xwf {ps:eI}{nm:Str} (h:zsl):∃ p,(zqB nm p)/\M7/\zBd:=by
 cases e:znw nm with
 | none =>
  ext eE p a b h;show(zad,b,Jh.mp e p a)
 | some p=>exact(rK,p,Je e,zsy (QC (p:=λ z:Pt=>i9 z.nm nm) e))
noncomputable def FRm (l2:Addr) (ps:eI) (srt:eF) (names:eO) (i:Nat) (ys:eB) (H:Hp):Prop:=∃ L:(zdX,Str × eV),(zKv,L.map (λ x=>MO)=Ft,(zJz,fO iG (.lst ((Oh).map V.ref)),xbq H (xbj ps srt MO) Oh))
theorem xnw {d:Addr}:∀(L:zcv) {H:Hp}{kvs:gD},Tu->zJJ ->
    ∃ H2 kvs2,xfc d H (CP (V.str gG,V.ref jh)) H2/\(tX d (.dK kvs2))/\zJI/\((L.map (·.1)).Nodup->∀ x∈L,valV kvs2 (.inr gG)=some zAK)/\∀ k,(∀ x∈L,k≠zhD)->valV kvs2 k=wO
  | [],H,kvs,e,_=>(iC,85,H,kvs,.nil,e,zcS,Hs (nomatch z),oY)
  | x::L,H,kvs,e,hn=>by
    rw[ZB] at hn;have O:=xb3 kvs zhD zAK;obtain⟨H2,kvs2,A,M,I,D,B⟩:85:=xnw L (H:=oC H d (putK kvs zhD zAK)) xh eA;refine(iC,85,H2,kvs2,.cons (Gu zhD e UB) A,M,λ b u C J=>I _ _ C (jp C J),rR v y,eQ k hk)
    . rw[Zs,ZM] at v
      rcases Zr.mp q with rfl|q
      . rw[B _ (λ z hz e=>v.1 (by rw[ZI.inj e]; exact Zj.mpr (jv z hz))),xdf,iT]
      . exact D v.2 y q
    . rw[B k λ y q=>hk y (Zm _ q),xdf,if_neg (hk x nO)]
def xku (T:eX):FnOk true P w K mg base eW 7 t.f_crowds t.d_crowds vc (xsp t):=by
 refine T.B_crowds.F.okn (k:=6) xd8 eZ (λ cdv A outer s H vs Q E hr h=>?_)
 .obtain ⟨a,ln,dp,aL,w',h',ps,ss,O,names,rfl,_⟩:=h;rfl
 .obtain ⟨a,ln,dp,aL,w',h',ps,ss,O,names,rfl,h⟩:=h;refine⟨_,xk (pS 2 xd8.nd (zrF (lH ["name"] tP [0] ["picture", "names", "rooms", "seating", "found", "name", "crowd"] xgw) A8 (zIy fG zAy)))
   (xk (pS 3 xd8.nd zEa)
   (xk (pS 4 xd8.nd (xbp (xj)))
   (xk (xbu ZS rfl A8 (pN 5 xd8.nd) (xk (pS 6 xd8.nd (h9 gV T.c_aa T.B_t.m (ok_t T) fA T.B_t.b xv (hF iO fZ)))
   (qZ (xmd kI re) (uy (KG ia (i3 kI))))))
   (yr 4)))),?_⟩
  refine sq5 ?_; intros; ext kL dr ak aU ar aY q h;show(fR,aQ,qbv,zlD,mH ln ak l2 bg);refine xi2 (ft ak) xW bg (FRm l2 ps O names) (λ_ _=>iI 64 [] rfl rfl qT) ?_ (λ i x ys H3 M s3 el3 f3 N hN=>?_) (iR ys H3 s3 el3 ly3 f3)
  .rintro i ys zs H3 H4 bb k4 (⟨L,e1,e2,e3,e4⟩:64);refine(mY,L,e1,e2,e3,eQ x M);show(zyo,e4 x M,k4 _ _ a2 a3,k4 _ _ a1 a4,a5.keep (l0,k4 _ _ (jg bb) e))
  .rw [Zf,Zg] at M;ext oK nm I M;show(gP,pt,hf,bd,bl,xwf (aU nm (Zo I)));subst bl;have aw:=dr.same s3;show(D4,bm,be,aw.pic,⟨a,bm,_,rfl,be,gB,a,dp,aL,w',h',ps,ss,pt,rfl,aw.pic,aw.sts,dr.ok,dr.nm _ bd,hf,λ H4 l4 X a6 s4 bj aT aZ e4 aO=>?_⟩);show(ij,X=O,xc3 xea (aT.trans dr.pm.symm) aZ dr.lt);ext BY u hu;generalize eu:qN H4 u Ls zAY=H5;ext ul s5 hu g5;show(jR,av,∀ c u,zqv->zqw,(NM,sX zyK),rS zuj ?_);ext Dz L e1 e2 e3 e6 f3;refine(mY,L++[(u,l4,pt.nm,a6)],rg e1 Zv,rg Zt e2,?_,eQ x M)
   .rw [Zv,e3,Ja,I];rfl
   .rcases Z3.mp M with M|M
    .show(zMd,e6 x M,av _ _ a3,av _ _ a4,a5.keep (l0,av _ _ e))
    .rw [Zq.mp M];refine(iu,qx el3 bj,qx (oP el3) hu,g5,sX e4,?_);have er:zWO=X.filter (xci pt):=by
      unfold xbj;rw[hf]
     show xbq H5 zWO a6;show(eY,er,aO.keep (Same.tups s5))
  rw[Za] at f3;show(Dz,L,rfl,e2,e3,e4,f3);show(HL,zfq,e3,(gY,l2,CP (gG,V.str MO,zyD),rfl,eP ZG el3,?_,zxz))
  .intro p hp
   ext nE x M hp;exact ux (e4 x M)
  have fd:gz d:=s3.free hd;obtain⟨H6,aA,aK,au,k6,v6,_⟩:85:=xnw (d:=d) (CP (MO,iG)) (H:=oC H3 d []) xh (by rw[Za]; simp; lia);refine gU DP H6 jO ?_ ?_
  .rw [ZG] at aK ⊢;exact aK
  have as:(By,H3 b=some u,H6 b=some u):=(jE,k6 _ _ (xp e hd) (eP,m7 hd,e));have aa:mw H6:=(jE,as _ _ (s3 _ _ e));have aS:RmD H6 d names (xbj ps O):=⟨aA,au,λ nm I=>by
   rw[<- e3] at I;ext nE x M I;show(ztI,e4 x M);refine(gU,iG,Oh,v6 ?_ (MO,iG) (Zj.mpr (jv x M)),as _ _ a4,a5.keep (l0,as _ _ e));show(eY,ZG,e3▸ar)⟩
  show(Br,fW p dx hp aF ne,(BG,p,dx,xh,λ H8 d1 d2 bi bh k8 ah=>AW));have up:(GR,upd H6 dx (.own p),p,zXz,H6 b=none):=λ b z=>by
   cases e:H6 b with
   | none=>rfl
   | some u=>rw[Mr,m7 aF,e] at z; ext mB
  have a0:Same H6 H8:=(jE,k8 b u (xp e hp) (ziK Mr aF));show(eK,aI,up _ bi,aH,up _ bh);show(rQ,sM leS0,lf,ad);generalize eu:uI H8 lf=H9;ext xT; ext ul s9 ad g9;show(eK,az,a0.trans s9,aR,aa.trans az);show(eC,aX,d≠d1,xp au aI,bn,d≠d2,xp au aH);have aP:=ah.same s9;show(sx,bp,aC,id ah.so,bo,aB,id ah.ho);obtain⟨bt,bc⟩:=id ah.ins;show(eC,a8,lf≠d1,qx aC ad,a7,lf≠d2,qx aB ad);show(eC,aW,lf≠p,qx bc ad,aG,H6 lf=none,a0.free ad);show(jG,aj,xpm (ps:=ps) aQ,(Ht,ln,ft (aR _ _ ak),?_))
  let Pv (i:Nat) (Z:L2.St) (J:Hp):Prop:=∃(v5 v6:iM) (qs:eV) (cs:iD) (so:gJ) (ho:fw),(jH,Z,[jS,MC,fX d,fX p,fX lf,v5,v6],Same H6 J,J lf=some qQ,(fb,CrL J cs qs,(∀ q∈qs,(fb,H6 q=none,q≠d1,q≠d2,q≠p,q≠lf)),cs.length<=i,Kh J (30*i),zaO O Ft))
  show(EE,zVX,(HI [] [] (iQ,86,_,_,rfl,az,g9,.nil,qT,eG f8 aP .nil)),?_)
  .show(zFF,J,j,j _ _ (aa _ _ ak))
  .rintro i x Z J M (⟨v5,v6,qs,cs,⟨so,ho,rfl,j,af,R,fq,ci,v,U⟩⟩:121);refine gn ?_; refine sq2 ?_; intros; rw[Zf,Zg] at M;ext oK nm I M;have il:=ui I;obtain⟨aJ,ao⟩:=v.ins;have ap:zJR:=by
    rw[Ja,I];rfl
   have ax:(names.take f7).Nodup:=(zju).nodup ar;have dm:=U.dom ((zju).nodup ar);have aV:nm∉Ft:=λ z=>by
    rw[ap,ZT] at ax;exact ax.2.2 nm z nm R4 rfl
   have sn:G0 nm:=by
    have z:=dm nm;rw[zdu aV,Ye] at z;cases e:so nm with
    | none=>rfl
    | some s=>ext uT z
   have aq:RmD J d names (xbj ps O):=by
    show(eE,kv,e,f,id aS);show(fU,kv,Ty,(rO,let ⟨l,rs,b1,b2,b3⟩:=f z hz; (gU,l,rs,b1,j _ _ b2,b3.keep (Same.tups j))))
   show(sx,br,aE,id v.so,bq,aD,id v.ho);refine⟨p,aJ,_,rfl,ao,xls gH,p,d1,d2,d,30*i,xbj ps O,so,ho,names,nm,rfl,v,eA,U.mt,sn,aq,aX,Ay,Zo I,aY,aj,?_,?_⟩
   .rw [dm z,Z1] at hz;exact WA (of_decide_eq_true hz.1)
   .intro Y ac aN bf kb D am ay a9 aM ab
    ext zNJ; refine(hB,zws am,ifN eJ ?_);show(fR,ba,(By,H6 b=some u,Y b=some u),(jE,kb _ _ (xp e aI) (xp e aH) Ty),HI qs cs (qJ,aN,bf,rfl,ba,kb _ _ a8 a7 af,(zYV,kb _ _ (fV zgT) (ux zgT) e),fq,(nQ,eA,ay.le eA)));show(eY,ap,.inn U a9 aM ab)
   .intro Y ac hs ai D am cw ab
    refine(hB,zws am,zwJ);show(jG,ae,ai _ _ af,(iQ,wv ae,lf,_,_,rfl,rfl,ae,?_,?_))
    .rw [Za,R.len];exact xcx eA
    show(gq,nl,ac≠lf,qx af D,kl,(tH,lf,Y c=some u,zm Y lf (.lst zYv)),Kk,tl,Tups Y (iE Y lf zYv),(UY,kl _ _ (jg ae) e));refine(HI,qs++[ac],zYY,(qJ,so,ho,rfl,(NM,kl _ _ (xp e aG) (ai _ _ Ty)),zvz,((zYV,ai _ _ e).keep (λ z hz u e=>kl _ _ (UZ zgT) e)).snoc (kl _ _ nl am),Ay,(nQ,Le,((v.same ai).keep (d:=lf) (Zz aW) (Zz a8) (Zz a7) tl kl).le eA)))
    .rcases SL with hz|hz
     .exact fq z hz
     .rw [Zq.mp hz];exact(iu,j.free D,qx aE D,qx aD D,qx ao D,nl)
    .rw [ap];exact .out U cw ab
  .rintro Z J (⟨v5,v6,qs,cs,⟨so,ho,rfl,j,af,R,fq,ci,v,U⟩⟩:121);rw[Za,zfq] at U;exact (q J lf qs cs so ho (aa.trans j) (aa.free aG) af R (rO,aa.free (zgT).1) U)
noncomputable def xar (ps:eI):eO:=ps.map (·.nm)
inductive OutL (H:Hp):HK iD
 | nil:OutL H [] []
 | cons {c:CV}{q l:Addr}{cs:iD}{qs:eV} (h:zVe) (hl:BU (.lst ((wg).map V.str))) (r:KK):OutL H (c::cs) xA
theorem OutL.len {H:Hp}{cs:iD}{qs:eV} (h:KK):znW:=by
 induction h with
 | nil=>rfl
 | cons _ _ _ ih=>ext zD
theorem OutL.keep {H H':Hp} (s:gu) {cs:iD}{qs:eV} (h:KK):zcn:=by
 induction h with
 | nil=>ext mj
 | cons h hl _ ih=>exact .cons GQ (s _ _ hl) ih
theorem OutL.get {H:Hp}{cs:iD}{qs:eV} (h:KK) {i:Nat}{q:Addr} (e:F3):∃ c l,(gf cs c)/\zVe/\(BU (.lst ((wg).map V.str))):=by
 induction h generalizing i with
 | nil=>ext vR
 | @cons c q' l cs qs h hl _ ih =>
  cases i with
  | zero =>
   ext FH;exact uE c l h hl
  | succ j=>ext A4
noncomputable def FOu (H0:Hp) (l2:Addr) (cs:iD) (i:Nat) (ys:eB) (H:Hp):Prop:=∃ L:zdX CV,(zKv,L.map (λ x=>Bo)=cs.take i,(zJz,fO iG (.lst ((Oh).map V.str)),H0 iG=none))
noncomputable def OutF (H0 H:Hp) (l:Addr) (cs:iD) (qs:eV):Prop:=∃ L:zdX CV,(gL,qs,zhg,cs=(CP Bo),∀ x∈L,(fS,H0 iG=none,iG≠l,zvZ,fO iG (.lst ((Oh).map V.str))))
theorem xqf {H:Hp}:∀(L:zdX CV),(∀ x∈L,zvZ/\(fO iG (.lst ((Oh).map V.str))))->OutL H (CP Bo) (L.map λ x=>gG)
 | [],_=>.nil
 | x::L,h=>.cons (h x nO).1 (h x nO).2 (xqf L zPg)
inductive xx0 (t:Adr) (vs:eB) (H:Hp) (Q:VK) (_:XK):Prop
 | mk (a dp do_:Addr) (w h:Nat) (ps:eI) (ss srt:eF) (e_:D6) (r_:Dr t H a dp do_ w h ps ss srt/\LZ/\∀ H' l qs cs so ho,gu->(gR,qg,TV,zcn,FA,zRv->Q gS H'))
inductive xye (t:Adr) (vs:eB) (H:Hp) (Q:VK) (_:XK):Prop
 | mk (a dp do_:Addr) (w h:Nat) (ps:eI) (ss srt:eF) (e_:D6) (r_:Dr t H a dp do_ w h ps ss srt/\LZ/\(zNN (sY (.lst ((pV).map V.str))) FA))
def x0v {α:V}{xs:eB}:cutV (α::xs) (some 1) none=xs:=by
 unfold cutV;simp[HT.sIx]
def xxd {a b:Str}:(N2,dEq Nk Nx,xQ):=xj1 rfl rfl ⟨λ h=>DV.str.inj h,λ h=>kU h⟩
def ok_by (T:eX):FnOk true P w K mg base eW 8 t.f_by t.d_by tP (xx0 t):=by
 refine T.B_by.F.okn (k:=7) sc_by eZ (λ cdv A outer s H vs Q E hr h=>?_)
 .ext zLF O S
 .obtain ⟨a,dp,O,w',h',ps,ss,S,rfl,h⟩:=h;refine⟨_,xk (xdh rfl (Td "point" vc s_by) zdI BM Bj oX zWh (j:=1) rfl y0)
   (jI (SE,Td "crowd" vc s_by,xay (pC (xku T) hr T.B_crowds.g T.B_crowds.F.kp T.B_crowds.b (lO fG)),xaq (hF (xaa (r:=rIxL K) x8 fj (xt) oY) (xgz (r:=rSlL K) xnm fj (xhv (xt)) xhz)))),?_⟩
  refine sq2 ?_; intros; ext vP dr ae;have ad:=dr.pic.len;show(D4,dx,ah,dr.pic,⟨a,dx,_,rfl,ah,gB,a,dp,O,w',h',ps,rfl,dr.pic,iR H1 l1 ds s1 e1 Y⟩);show(jG,am,Y.len,zTL);refine xby (ft e1) xW aj zNh zX (wI H2 v s2) zaS
  .ext zPm;show(eE,p,hp,af,Y.get J);exact⟨qa,_,0,F7,rfl,(FS,m4 af,rS lU zhl)⟩
  have ey:ys=(pG).map V.str:=by
   show(qaw,(by rw[ly,Za,am]; unfold xar; rw[Za]),hp)
  rw[ey] at e2;show(zbZ,U,⟨a,l2,dp,O,w',h',ps,ss,S,pG,rfl,(jx,dr.same U,e2,eQ nm ai,ae,by unfold xar; ext eY Za ad,λ H3 l3 qs cs so ho s3 ap e3 ab ao X=>?_)⟩)
  .show(on,p,hp,e,Zj.mp ai);ext fU p hp e
  have ol:=X.outs.2;ext zkU
  show(eK,ac,ab.len,I,U.trans s3);refine mH l3 e3 l4 aa;refine xi2 (ft e3) xW aa (FOu H l4 cs) (λ_ _=>⟨64,[],rfl,rfl,rfl,qT⟩) ?_ (λ i x ys H5 v s5 el5 f5 N hN=>?_) zKX
  .rintro i ys zs H5 H6 hz k6 (⟨L,b1,b2,R,C⟩:64);refine(mY,L,b1,b2,R,eQ x v);show(zyo,D5,k6 _ _ a2 a3,k6 _ _ a1 a4,a5)
  .ext zPm;show(eE,c,hc,ak,ab.get J);show(jG,D,sX ak,iI qa _ 0 zhO (mS,ft D,zqP,jw 1 (oQ,qa,ft D,eQ lh M)));rw[Zs,x0v];show(zos,upd H5 lh (.lst ((wg).map V.str)),M);ext BY u hu;generalize eu:(qN,H6,u,zhO,.ref lh)=H7;ext ul s7 hu g7;refine rS zdE ?_;ext Dz L b1 b2 R C f5;refine(mY,L++[(u,lh,c)],rg b1 Zv,rg Zt b2,?_,eQ x v)
   .rw [Zv,R,Ja,hc];rfl
   .rcases Z3.mp v with v|v
    .show(zMd,D5,zdn a3,zdn a4,a5)
    .rw [Zq.mp v];exact(iu,qx el5 M,qx (BP el5) hu,g7,s7 _ _ g6,(I.trans s5).free M)
  rw[Za] at f5;show(Dz,L,rfl,b2,R,C,f5);rw[ac,zfq] at R;have Z:=xqf L λ x v=>⟨ux D5,U0 D5⟩
  show(h7,R,Z,q H5 l4 zhg cs so ho (I.trans s5) (I.free aa) (rg el5 ZG) Z X (rK,L,R.symm,λ x v=>(gX,UZ D5,(D5).1,ux D5,U0 D5)))
def xht (T:eX):FnOk true P w K mg base eW 9 t.f_kept t.d_kept tP (xye t):=by
 refine T.B_kept.F.okn (k:=8) xnj eZ (λ cdv A outer s H vs Q E hr h=>?_)
 .ext zLF L O
 .obtain ⟨a,dp,L,w',h',ps,ss,O,rfl,h⟩:=h;refine⟨_,xk (IR 1 xnj.nd (uX (lH zPE [] [] zvP xg5) (xay (pC (ok_by T) hr T.B_by.g T.B_by.F.kp T.B_by.b (i3 fj))) Ou Uq oX fj))
   (jI (uX (lH ["point"] ["out"] [1] zvP xg5) zdI BM Bj (ztD (xak (r:=rInV K true) (xr7 (xb9 hr)) zhX fG vL)) zhX)),?_⟩
  refine sq2 ?_; intros; ext vP dr af;show(jG,aq,dr.pic.len,⟨a,dp,L,w',h',ps,ss,O,rfl,dr,af,λ H1 l1 qs v so ho s1 ar e1 Y U _=>?_⟩);have ol:=U.outs.2;ext zkU
  show(jG,ad,Y.len,zTL);refine xby (ft e1) xW aj (Vz,∃ c,(gf v c)/\y=zhO) zX (wI H2 hx s2) zaS
  .ext B7 qa J;show(zJe,lh,ak,Y.get J,m4 ak)
  have ey:ys=(v.map (·.1)).map V.str:=by
   show(zbI,zgs ly ad,c,hc);ext IZ hc
  rw[ey] at e2;show(eK,S,s1.trans s2,ac,dr.same S);show(D4,dx,ai,ac.pic,⟨a,dx,_,rfl,ai,gB,a,dp,L,w',h',ps,rfl,ac.pic,iR H3 l3 ds s3 e3 X⟩);have ap:=X.len;show(eK,ao,vX e2,R,S.trans s3);refine mH l3 e3 l4 ab;have ae:∀{H5:Hp},Same H3 H5->Dv K H5 1 (.ref l2) (.lst ((v.map (·.1)).map DV.str)):=λ{H5} s5=>.lst (ft (s5 _ _ ao)) eS λj x d h1 h2=>by
   rw[Zf,Zg] at h1 h2;ext oK z hz h1;ext oK z' aa h2;ext gQ hz aa aa;exact .str
  have Z:∀ nm:Str,(((v.map (·.1)).map DV.str).any λ z=>dEq z hJ)=decide (nm∈v.map (·.1)):=λ nm=>by
   ext zqF JR;constructor
   .ext S5 d hd e;ext nE z hz hd;rw[xxd] at e;ext sL zPO hz
   .intro hm
    exact(hB,Zj.mpr (jo hm),xbw _)
  refine xen (ft e3) xW ab (λ i=>((Na).map λ p=>! decide (p.nm∈v.map (·.1))).getD false) zNh zX (zpu H5 s5) (vC H5 s5 e5 fy)
  .ext B7 qa J;show(eE,p,I,ah,X.get J);show(jG,C,sX ah,zWX ⟨0,1,F7,_,.str,ae s5,eJ,eJ,_,rfl,zqT⟩)
   .rw [iT,Z] at y;exact(zWX,hN _ _ lU (eP I y) (zC I))
   .rw [iT,Z] at y;exact hM _ lU (by rw[I]; exact Jw.mpr y)
  have fi:=xju (λ p:Pt=>! decide (p.nm∈v.map (·.1))) (as:=ps) (p:=λ i=>((Na).map λ p=>! decide (p.nm∈v.map (·.1))).getD false) (λ i p I=>jn I);rw[Za,ap] at ly fy;have ek:zXF=(ps.filter λ p=>! decide (p.nm∈v.map (·.1))).map (·.nm):=by
   unfold xbs xar;rw[W1];rfl
  have am:ys=(zXF).map V.str:=by
   rw[ek];show(zpp,tt ly Za fi.1);have hj:i<((qbC).filter λ i=>((Na).map λ p=>! decide (p.nm∈v.map (·.1))).getD false).length:=by
    ext zuX
   show(oK,p,I,fy i y _ hy NO);rw[fi.2 i _ NO] at I;ext IZ I
  show(h7,am,e5,q H5 l4 v so ho (R.trans s5) (R.free ab) e5 U)
theorem Run.crowd {room:pq}{ns:eO}{so:gJ}{ho:fw}{cs:iD} (r:AS) (nd:ns.Nodup):∀ c∈cs,∃ so0 ho0,Kp.Mt room so0 ho0/\Kp.Crowd room so0 uS wg/\∀ z∈Uo,zjh:=by
 induction r with
 | nil=>exact qT
 | inn _ _ _ _ ih =>
  intro c f;rw[ZT] at nd;ext jb so0 ho0 a1 a2 a3 zYm;ext zHx
 | @out ns so ho cs nm hs r cw rc ih =>
  intro c f;rw[ZT] at nd;rcases Z3.mp f with f|f
  .obtain ⟨so0,ho0,a1,a2,a3⟩:83:=zYm;ext zHx
  .rw [zAs];refine gU so ho r.mt cw Ay;rcases zyC with rfl|hz
   .exact Z7 _ R4
   .have k:=cw.has z hz;rw[r.dom nd.1 z,Z1] at k;exact ZP _ (zXH k)
inductive xyd (t:Adr) (vs:eB) (H:Hp) (Q:VK) (_:XK):Prop
 | mk (a ln dp do_:Addr) (w h:Nat) (ps:eI) (ss srt:eF) (names:eO) (e_:zAc) (r_:(zSU,Dr t H a dp do_ w h ps ss srt,∀ H' v cs so ho,vq gu zXB ((cs=[]/\zjj)\/∃ l c r,cs=c::r/\(gL v gS qg (sY (.lst ((Uo).map V.str))))) v))
theorem xvw (T:eX):FnOk true P w K mg base eW 8 t.f_fits t.d_fits vc (xyd t):=by
 refine T.B_fits.F.okn (k:=7) xns eZ (λ cdv A outer s H vs Q E hr h=>?_)
 .obtain ⟨a,R,X,v,L,h',ps,ss,m,names,rfl,_⟩:=h;rfl
 .obtain ⟨a,R,X,v,L,h',ps,ss,m,names,rfl,h⟩:=h;refine⟨_,xk (pS 2 xns.nd (pC (xku T) hr T.B_crowds.g T.B_crowds.F.kp T.B_crowds.b (lO fG)))
   (jI (xik (xmd fZ re) zwk (xdi))),?_⟩
  refine sq2 ?_; intros; ext kL dr C x y z q h;show(gE,⟨a,R,X,v,L,h',ps,ss,m,names,rfl,(jx,dr,C,x,y,z,λ Y l1 Z I M S O aa U J D u=>?_)⟩,(hB,zws U,?_));cases J with
  | nil=>exact ifN eJ (q Y .non [] M S O u zAV)
  | @cons c q0 I Z h r =>
   refine ifP vL (iI l1 _ 0 w4 ⟨44,rfl,ft U,zqP,q Y w4 (c::I) M S O u (.inr (xI,q0,c,I,rfl,D q0 nO,h))⟩)
noncomputable def xfn (f:tD) (g:Int):Bool:=match f with
 | none=>true
 | some y=>hR (g<y.1)
noncomputable def look (own:hW) (rent:hD) (asked:fw) (a:Str) (f:tD) (x:RK):tD :=
 (mG,(zgb).isNone&&xfn f Lb,some (Lb,a,gG),f)
noncomputable def xgn (lens:jP) (own:hW) (rent:hD) (asked:fw) (f:tD) (askers:eO):tD:=askers.foldl (λ f a=>(UQ).foldl (look own rent asked a) f) f
noncomputable def near (lens:jP) (own:hW) (rent:hD) (asked:fw) (askers:eO):tD:=zYc none askers
structure Best (own:hW) (rent:hD) (asked:fw) (P:RB) (f:tD):Prop where
 is_:∀ g a s,(D0,f,zzX,∃ l,P a NV/\g=l-Vv-Nu/\PR)
 le:∀ a x,P a x->asked gG=none->∃ y,f=some y/\y.1<=Lb
def Best.congr {own:hW}{rent:hD}{asked:fw}{P P':RB}{f:tD} (b:ziU) (h:∀ a x,P a x↔P' a x):zXU P' :=
 (zUN,(zOW,b.is_ g a s e,(h _ _).mp h1),b.le a x ((h _ _).mpr p))
def Best.look1 {own:hW}{rent:hD}{asked:fw}{P:RB}{f:tD} (b:ziU) (a:Str) (x:RK):zln (a'=a/\x'=x) (look own rent asked a f x):=by
 unfold look;by_cases c:(Ev,(zgb).isNone,xfn f Lb)
 .rw [ma];rw[Z1] at c;obtain⟨m,j⟩:=c;show(nM,ib g a' s e,λ a' x' p z=>GO)
  .ext mC;exact(fY,jh,.inr wT,rfl,IX)
  .rcases p with p|⟨rfl,rfl⟩
   .show(on,y,e,h,b.le a' x' p z);rw[e] at j;have j:Lb<y.1:=by simpa [xfn] using j
    show Lb<=_
    lia
   .exact vU
 .ext mz c;show(nM,λ g a' s e=>(zOW,b.is_ g a' s e,.inl h1),ib a' x' p z);rcases p with p|⟨rfl,rfl⟩
  .exact b.le a' x' p z
  .rw [z] at c;have c:¬ xfn f zIf=true:=pU
   cases f with
   | none=>ext qp c
   | some y =>
    have c:¬ zIf<y.1:=by simpa [xfn] using c
    ext zq y eA
theorem Best.row {own:hW}{rent:hD}{asked:fw} (a:Str):∀(xs:Ri) {P:RB}{f:tD},ziU->(zln (a'=a/\x'∈xs) (xs.foldl (look own rent asked a) f))
 | [],P,f,b=>zDH z.2
 | xB,P,f,b=>by
  refine (Best.row a xs (b.look1 a x)).congr (eQ a' x');constructor
  .rintro ((h|⟨q,j⟩)|⟨q,j⟩)
   .ext je h
   .show(iY,(xD,eP j nO))
   .show(iY,(xD,Zm _ j))
  .rintro (h|⟨q,j⟩)
   .ext Se h
   .rcases zAu with j|j
    .show(Lx,xD j)
    .show(iY,xD j)
theorem Best.allF {lens:jP}{own:hW}{rent:hD}{asked:fw}:∀(as:eO) {P:RB}{f:tD},ziU->(zln (a'∈as/\x'∈lens a') (zYc f as))
 | [],P,f,b=>zDH z.1
 | a::as,P,f,b=>by
  refine (Best.allF as (b.row a UQ)).congr (eQ a' x');constructor
  .rintro ((h|⟨j,q⟩)|⟨j,q⟩)
   .ext je h
   .show(VF,eP j nO,eP j q)
   .show(VF,Zm _ j,q)
  .rintro (h|⟨j,q⟩)
   .ext Se h
   .rcases zAu with j|j
    .show(Lx,⟨j,iz j q⟩)
    .ext VF j q
def xkc (lens:jP) (own:hW) (rent:hD) (asked:fw) (as:eO):Best own rent asked (λ a x=>a∈as/\x∈UQ) (near lens own rent asked as) :=
 (Best.allF as (P:=yh) (f:=none) (zUN (nomatch e) p.elim)).congr λ a x=>⟨λ h=>h.elim JP id,.inr⟩
noncomputable def shO (own:hW) (askers:eO) (g:Int):hW:=(zwy,z∈askers,own z+g,own z)
noncomputable def shR (rent:hD) (asked:fw) (g:Int):hD:=(zwy,lv (asked z),zjs-g,zjs)
noncomputable def setI (own:hW) (nm:Str) (v:Int):hW:=λ z=>(oZ,z,nm,v,own z)
noncomputable def xbg (lens:jP):pq:=λ n=>(Nt).map (·.1)
structure xfp (lens:jP) (ss:eF):Prop where
 nd:∀ n,(xbg lens n).Nodup
 b:∀ n x,x∈Nt->(vO jh 46)
 ins:OH
 snd:ss.Nodup
def xfp.one {lens:jP}{ss:eF} (h:RA) {n:Str}{s:Seat}{l l':Int} (h1:NV∈Nt) (h2:(s,l')∈Nt):l=l':=by
 have c:=h.nd n;unfold xbg at c;show(Du,r,f,ZH h1);show(GV,q,b,ZH h2);have:i=j:=xt1 c (i:=i) (j:=j) (pI r) (pI q) (by rw[List.getElem_map,List.getElem_map,f,b]);ext Ec;show(h7,f,b,(Prod.mk.inj b).2)
structure Fit (lens:jP) (names:eO) (so:gJ) (ho:fw) (own:hW) (rent:hD):Prop where
 mt:CD
 dm:OI
 le:∀ n∈names,zmC
 eq:zmS
 rl:ztX
 r0:zmY
 o0:∀ n∈names,0<=NU
 ob:∀ n∈names,NU<=1200
structure Grow (lens:jP) (names:eO) (name:Str) (so:gJ) (ho:fw) (crowd:eO) (al:eF) (asked:fw) (own:hW) (rent:hD):Prop where
 bf:PD
 le:ziN zmC
 eq:zmS
 rl:ztX
 r0:zmY
 tr:zOf
 o0:qbf
 ob:zFK
section
variable {lens:Str->List (Seat × Int)}{names:List Str}{name:Str}{so:Str->Option Seat}{ho:Seat->Option Str}{crowd:List Str}{al:List Seat}{asked:Seat->Option Str}{own:Str->Int}{rent:Seat->Int}{ss:List Seat}
def Fit.grow (f:zSO names) (lo:RA) (nn:name∉names):Grow lens names name so ho zjO [] j8 (setI own name 0) rent:=by
 have z:∀ n∈names,n≠name:=λ n j e=>nn (e▸j);have v:(Ef,PL,n∈names):=λ n s e=>by
  have:=f.dm n;rw[e] at this;simpa using this.symm
 refine⟨Bf.start,ib n j x A,fW n s e l hl,f.rl,f.r0,λ s a e=>(nomatch e),eQ n j,λ n j _=>?_⟩
 .unfold setI;rcases zhz with j|j
  .show(ie,if_neg (z n j),f.le n j x A)
  .rw [if_pos (Zq.mp j)];show(He,f.rl gG,(lo.b n x A).1)
 .unfold setI;show(eY,if_neg (z n (v n s e)),f.eq n s e l hl)
 .unfold setI;split
  .exact vU
  .rename_i h
   rcases zhz with j|j
   .exact f.o0 n j
   .exact absurd (Zq.mp j) h
 .unfold setI;show(eY,if_neg (z n j),f.ob n j)
def Bf.in_ (b:PD) (mt:CD) (dm:OI) {a:Str} (h:zxe):a∈zsn:=by
 obtain⟨k,f,e⟩:=HR;rcases b.at_ mt (k:=k) (a:=a) (pJ f e) with⟨_,z⟩|⟨j,s,_,_,z⟩
 .exact Z7 _ (Zq.mpr z)
 .have:=dm a;show(h7,z,this,ZP _ (by simpa using this.symm))
def Bf.ask (b:PD) (s:Seat):qcg:=by
 constructor
 .intro h
  by_cases c:UX
  .exact c
  .show(Mc,b.no s c)
 .intro h
  ext GV f e HR;obtain⟨k,a,_,_,p,_⟩:84:=b.ak j s (pJ f e);rw[p];rfl
def Bf.asker (b:PD) {s:Seat}{a:Str} (e:zQ):zxe:=by
 have h:=(b.ask s).mp yZ;ext GV f i HR;obtain⟨k,q,_,n,c,_⟩:84:=b.ak j s (pJ f i);ext gQ e c c;exact Zo n
def Bf.both (b:PD) (mt:CD) (sn:yu) {n:Str}{s:Seat} (e:PL):zfn↔(lv oA):=by
 rw[b.ask s];constructor
 .intro h
  obtain⟨k,q,u⟩:=HR;rcases b.at_ mt (k:=k) (a:=n) (pJ q u) with⟨_,z⟩|⟨j,t,_,c,z⟩
  .ext LA z sn
  .rw [e] at z;cases z;exact Zo c
 .intro h
  ext GV c v HR;show(eE,x,A,y,b.hd j s (hZ BK v));have:=(mt.iff x s).mpr y;rw[mt.inj e this];exact Zo A
structure Gap (lens:jP) (crowd:eO) (asked:fw) (own:hW) (rent:hD) (g:Int) (a:Str) (s:Seat):Prop where
 g0:0<=g
 ac:zxe
 rm:s∈xbg lens a
 na:PR
 eq:(zuQ,UQ,Vv+g+Nu)
 mn:∀ b∈crowd,∀ x∈lens b,asked gG=none->own b+g+zio<=jh
def Grow.gap (w:Grow lens names name so ho crowd al asked own rent) (lo:RA) (mt:CD) (dm:OI) {g:Int}{a:Str}{s:Seat} (e:ziX):V4:=by
 have B:=zIT;obtain⟨l,⟨u,j⟩,H,C⟩:63:=B.is_ g a s e;refine(gY,?_,u,Zj.mpr (jo j),C,eQ D c,fW b hb x hx z)
 .have:=w.le a (w.bf.in_ mt dm u) NV j;have:Vv+Nu<=l:=this
  lia
 .show(iP,lo.one j c)
 .show(on,y,A,q,B.le b x ⟨hb,hx⟩ z);ext gQ e A A;have q:g<=jh-own b-zio:=q
  lia
structure Mid (lens:jP) (names:eO) (name:Str) (so:gJ) (ho:fw) (crowd:eO) (asked:fw) (own:hW) (rent:hD):Prop where
 le:ziN zmC
 eq:zmS
 rl:ztX
 r0:zmY
 tr:zOf
 o0:qbf
 ob:zFK
def Grow.shift (w:Grow lens names name so ho crowd al asked own rent) (mt:CD) (sn:yu) {g:Int}{a:Str}{s:Seat} (p:V4):Mid lens names name so ho crowd ES AJ xZ:=by
 show(jG,J,p.g0,(hV,ib n B x C,fW n t e l hl,iy t,zwM,fW t b e l hl,eQ n B,fJ n B hc))
 .have y:=w.le n B x C;unfold shO shR;by_cases c1:zfn<;>by_cases c2:lv zgb
  .rw [fe c1,MD]; lia
  .rw [fe c1,Mz];show(iP,p.mn n c1 x C (by simpa using c2))
  .rw [fH c1,MD]; lia
  .rw [fH c1,Mz]; lia
 .show(eK,y,w.eq n t e l hl,A,w.bf.both mt sn e);unfold shO shR;by_cases c1:zfn
  .rw [fe c1,if_pos (A.mp c1)]; lia
  .show(uM,zAF,(pW,c1 (A.mpr z)),y)
 .have:=w.rl t;unfold shR;ext rB
 .have z:¬ (lv (asked t)):=λz=>by
   have h:=(w.bf.ask t).mp z;ext GV H I HR;show(S3,x,D,w.bf.hd j t (pJ H I));ext iF ht D D
  unfold shR;show(sK,z,w.r0 t ht)
 .ext zVq
  .rename_i h
   ext mC;subst h;have:=p.eq l hl;unfold shO shR;rw[fe p.ac,fH (eP p.na Z6)]
   lia
  .have:=w.tr t b e l hl;unfold shO shR;rw[if_pos (w.bf.asker e),fe yZ]
   lia
 .have:=w.o0 n B;unfold shO;ext rB
 .unfold shO;show(sK,hc,w.ob n B hc)
def Grow.more (w:Grow lens names name so ho crowd al asked own rent) (mt:CD) (sn:yu) {g:Int}{a h:Str}{s:Seat} (p:V4) (hh:Kc):Grow lens names name so ho Lp vv ES AJ xZ:=by
 ext qau;show(Du,v,y,ZH p.ac);have ns:A7:=λz=>by
  show(Ka,(w.bf.ask s).mpr z,p.na)
 exact(iC,w.bf.add (i:=i) (pJ v y) p.rm ns hh,m.le,m.eq,m.rl,m.r0,m.tr,m.o0,λ n j x=>m.ob n j λ z=>x (ZP _ z))
theorem Grow.nearest (w:Grow lens names name so ho crowd al asked own rent) (lo:RA) (mt:CD) (dm:OI) (sn:yu) {so2:gJ}{ho2:fw} (mt2:zwg so2 ho2) (all:ziN (lv (so2 n))):∃ g a s,ziX:=by
 cases e:zlF with
 | some y=>exact(gF,101,y.1,zjA,jr y,rfl)
 | none =>
  have B:=zIT;have j:zWg (ziH,xbg lens a):=λ k a ha s q=>by
   ext nE x C q;rw[<- w.bf.ask];cases z:zgb with
   | some _=>rfl
   | none =>
    show(jL,y,v,B.le a x ⟨Zo ha,C⟩ z);ext uT v
  show(eE,q,D,A,w.bf.done mt sn j);show(eK,I,A.count mt lo.snd lo.ins,H,Kp.hall mt2 lo.ins A.nd (λ a ha=>all a (w.bf.in_ mt dm (eP D ha))));rw[I,ZB] at H
  lia
theorem xtp {room:pq}{s0:Seat}{so':gJ}{ho':fw} (h:zP B9 zOr):(∀ n t,so' n=some t->zqt\/zye)/\(zrC (lv (ho' t))):=by
 have C:∀(x y:Kp.KS Str Seat),Kp.Rch B9 x y->x=zOr->(∃ b j q,(y=.hand b j asked q\/y=.fin b j)/\(∀ n t,b n=some t->zqt\/zye)/\(zrC (lv (j t)))):=by
  intro x y h
  induction h with
  | refl =>
   intro e;exact(oM,so,ho,s0,zjx,λ n t z=>.inl z,λ t z=>z)
  | step _ e ih =>
   intro H;show(yG,b,j,q,D,B,A,ih H);rcases D with rfl|rfl
   .have put:∀ a,(zzd q a)->(∀ n t,(D0,Kp.upd1 b a q n,t,zqt\/zye))/\(zrC (lv (Kp.upd1 j q a t))):=λ a ha=>by
     show(rQ,uP n t,t,z)
     .unfold Kp.upd1 at z;split at z
      .rename_i hn
       cases z;subst hn;ext iY ha
      .exact B n t z
     .unfold Kp.upd1;split
      .rfl
      .exact A t z
    cases ha:asked q with
    | none=>simp[Kp.kstep,ha] at e
    | some a =>
     cases hl:b a with
     | none =>
      show(gQ,Kp.k_fin ha hl,e,e);exact(oM,_,_,q,C7,(zfO).1,(zfO).2)
     | some l =>
      show(gQ,Kp.k_hand ha hl,e,e);exact(oM,_,_,l,jO,(zfO).1,(zfO).2)
   .simp [Kp.kstep] at e
 show(yG,b,j,q,D,B,A,C _ _ h rfl);rcases D with e|e
 .cases e
 .ext mC;ext fc B A
theorem Grow.last (w:Grow lens names name so ho crowd al asked own rent) (lo:RA) (mt:CD) (sn:yu) (dm:OI) (c12:zpI) {g:Int}{a:Str}{s:Seat} (p:V4) (hs:FF) {so':gJ}{ho':fw} (mt':zwg so' ho') (dm':IG (RE||Fh)) (rc:zP zKG (.hand so ho ES s)):Fit lens zsn so' ho' AJ xZ:=by
 ext qau;obtain⟨Z,Y⟩:=xtp rc
 -- how far the prices of the crowd lie apart
 have v:∀(k:Nat) (b:Str),(MP b)->(zdq b)<=(zdq name)+46*y9/\(zdq name)<=(zdq b)+46*y9:=by
  intro k
  induction k using Nat.strongRecOn with
  | ind k ih =>
   intro b X;rcases w.bf.at_ mt X with⟨rfl,rfl⟩|⟨j,t,rfl,hj,hso⟩
   .exact zh eA
   .obtain ⟨Q,I,kj,e1,e2,e3⟩:84:=w.bf.ak j t hj;obtain⟨i1,i2⟩:=ih Q eA I e1;show(eE,x1,B,H,Zj.mp (mt.rm b t hso));show(eE,x2,A,D,Zj.mp e3);have L:=m.eq b t hso x1.2 (iz H B);have P:¬ t=s:=λz=>by
     have:=(w.bf.ask t).mpr (Zo hj);show(Ep,z,p.na,this,this)
    show(Bz,K,m.tr t I (by unfold Kp.upd1; ext sK P e2) x2.2 (iz D A),y1,lo.b b x1 B,y2,lo.b I x2 A);ext fc eA eA
 refine(iC,mt',yR,m.le,fW n t e l hl,m.rl,zwM,m.o0,eQ n C)
 .rw [dm' z,dm z,JO];simp only[Bool.or_eq_true,decide_eq_true_iff,Z3,Zq];exact or_comm
 .rcases Z n t e with z|z
  .exact m.eq n t z l hl
  .exact m.tr t n z l hl
 .refine m.r0 t ?_;cases z:ho t with
  | none=>rfl
  | some _ =>
   show(Ka,Y t (jn z),ht)
 .by_cases c:zfn
  .obtain ⟨k,T,ek⟩:=ZH c;show(Du,U,ei,ZH p.ac);show(eK,d1,v k n (hZ,Zc T,ek),d2,v i a (pJ U ei));show(eE,x,J,ex,Zj.mp p.rm);show(eK,L,m.tr s a zmL jh (iz ex J),K,m.r0 s hs);show(iP,lo.b a x J)
  .rcases Z3.mp C with C|C
   .exact m.ob n C c
   .show(jB,(by rw[Zq.mp C]; exact Zo w.bf.c0),c)
#check _
inductive LS where
 | go (own:hW) (rent:hD) (asked:fw) (crowd:eO)
 | hand (own:hW) (rent:hD) (asked:fw) (s:Seat)
noncomputable def xfd (lens:jP) (ho:fw):LS->(iH LS)
 | zLt=>match zlF with
  | none=>none
  | some zzX=>match Ob with
   | some h=>some zUI
   | none=>some zTd
 | .hand _ _ _ _=>none
def a_go {lens:jP}{ho:fw}{own:hW}{rent:hD}{asked:fw}{crowd:eO}{g:Int}{a h:Str}{s:Seat} (e:ziX) (e2:Kc):zSV zUI:=by
 simp only[xfd,e,e2]
def xzy {lens:jP}{ho:fw}{own:hW}{rent:hD}{asked:fw}{crowd:eO}{g:Int}{a:Str}{s:Seat} (e:ziX) (e2:FF):zSV zTd:=by
 simp only[xfd,e,e2]
inductive LRun (lens:jP):gb eO hW hD (iA gJ fw)
 | nil:LRun lens [] zjH zjH j8 j8
 | snoc {ns:eO}{own own':hW}{rent rent':hD}{so so':gJ}{ho ho' asked:fw}{nm:Str}{s:Seat} (r:zJu) (ra:zCT lens) (rk:zP zKG zvW) (f:Fit lens wS so' ho' own' rent'):LRun lens wS own' rent' so' ho'
theorem LRun.fit {lens:jP}{ns:eO}{own:hW}{rent:hD}{so:gJ}{ho:fw} (r:zJu):zSO ns:=by
 cases r with
 | nil=>exact(iC,⟨zQu,zQL⟩,λ z=>rfl,zpB,λ n s e=>(nomatch e),λ s=>vU,λ s _=>rfl,zpB,zpB)
 | snoc r ra rk f=>exact f
def xg3 {Z:L2.St}{H:Hp}{K:Dl} (h:K [] H):tNil Z H K:=h
def xiz {k m:Str}{v:V}{r:lw} (e:rC m k):Jj m (zj::r)=some v:=by
 rw[Zy,e]
def xdg {k m:Str}{v:V}{r:lw}{o:iM} (e:sD m k) (h:Jj m r=o):Jj m (zj::r)=o:=by
 ext ig Zy e h
noncomputable abbrev pzF (a dl d_o d_r p:Addr):lw:=[zXS,nS "lengths" dl,nS "own" d_o,nS "rent" d_r,nS "seating" p]
def lkZp {a dl d_o d_r p:Addr}:(EN).lookup (ji "picture")=some fE:=xiz gH
def lkZl {a dl d_o d_r p:Addr}:(EN).lookup (ji "lengths")=some (.ref dl):=xdg gH (xiz gH)
def lkZo {a dl d_o d_r p:Addr}:(EN).lookup (ji "own")=some (.ref d_o):=zmJ
def lkZr {a dl d_o d_r p:Addr}:(EN).lookup (ji "rent")=some (.ref d_r):=xdg gH zmJ
def lkZs {a dl d_o d_r p:Addr}:(EN).lookup (ji "seating")=some iX:=xdg gH (xdg gH zmJ)
def xha {a dl d_o d_r p:Addr}{m:Str} (e:((["picture", "lengths", "own", "rent", "seating"]:eO).all λ k=>zfd)=true):(EN).lookup m=none:=by
 ext WT;obtain⟨j,h,f,c,b,_⟩:46:=e;exact xdg j (xdg h (xdg f (xdg c (xdg b rfl))))
theorem valM {α κ:Type} [PP] {k:α->κ} (inj:Xa) {f:Vh}{a:α}:∀{l:i7},a∈l->zGI=some (f a)
 | BI,h=>by
  by_cases c:k x=k a
  .rw [Zs,xbx c,inj _ _ c]
  .rw [Zs,xbh c];rcases zhF with rfl|h
   .ext qp c
   .exact valM inj h
theorem xgi {α κ:Type} [PP] {k:α->κ} (inj:Xa) {f:Vh}{a:α}:∀{l:i7},a∉l->zGI=none
 | [],_=>rfl
 | BI,h=>by
  rw[Zr,not_or] at h;rw[Zs,xbh (λ c=>h.1 (inj _ _ c).symm)];exact xgi inj jX
def putM {α κ:Type} [PP] [zbN] {k:α->κ} (inj:Xa) {f:Vh}{a:α}{l:i7} (h:a∈l) (v:V):putK (zrz,f n) (k a) v=(zrz (oZ,n,a,v,f n)):=by
 unfold putK;have e:((zrz,f n).any λ kv=>(i9,vV,k a))=true:=JR.mpr (eG,(k a,f a),Zj.mpr (jv a h),zoE);rw[Nj,ZG];refine YX λ n _=>?_;show (if k n=k a then (k n,v) else (k n,f n))=_;ext mX n a
 .rw [U1 c,ma]
 .rw [(pW,c (inj _ _ z)),ur]
def inrI (a b:Str) (h:zoT):xQ:=ZI.inj h
def xe8 (a b:Seat) (h:xaf a=xaf b):xQ:=xe7 h
noncomputable def OwD (H:Hp) (d:Addr) (names:eO) (own:hW):Prop:=xM (.dK (names.map λ n=>(qcd,V.int (own n))))
noncomputable def RnD (H:Hp) (d:Addr) (ss:eF) (rent:hD):Prop:=xM (.dT (ss.map λ s=>(kD,V.int (rent s))))
noncomputable def AkD (H:Hp) (d:Addr) (al:eF) (asked:fw):Prop:=xM (IV (kD,V.str ((oA).getD (Z2 ""))))
noncomputable def LnT (xs:Ri):i4:=xs.map λ x=>(xaf gG,V.int jh)
noncomputable def LnD (H:Hp) (d:Addr) (bad:eV) (names:eO) (lens:jP):Prop:=(ziJ,Tu/\kvs.length<=names.length/\∀ nm∈names,∃ q,qcb/\(kX (.dT (LnT (lens nm))))/\q∉bad)
structure Pz (t:Adr) (H:Hp) (pz a dl d_o d_r p d1 d2:Addr) (n:Nat) (names:eO) (ss:eF) (lens:jP) (so:gJ) (ho:fw) (own:hW) (rent:hD):Prop where
 ins:∃ dx,fO pz (Ug EN)
 sg:LV
 ow:OwD H d_o names own
 rn:RnD H d_r ss rent
 ln:LnD H dl [d_r,d2] names lens
 n1:d_r≠d2
 n2:d_o≠d1
 n3:d_o≠dl
 n4:dl≠d1
def Pz.same {t:Adr}{H H':Hp}{pz a dl d_o d_r p d1 d2:Addr}{n:Nat}{names:eO}{ss:eF}{lens:jP}{so:gJ}{ho:fw}{own:hW}{rent:hD} (z:Pz t H pz a dl d_o d_r p d1 d2 n names ss lens so ho own rent) (s:gu):Pz t H' pz a dl d_o d_r p d1 d2 n names ss lens so ho own rent :=
 (zrx,zVp zhn,z.sg.same s,s _ _ z.ow,s _ _ z.rn,let ⟨kvs,e,l,f⟩:=z.ln; (fY,kvs,Dp,l,λ nm h=>let ⟨q,e1,e2,e3⟩:=f nm h; (fY,q,e1,s _ _ e2,e3)))
noncomputable def FndV (H:Hp) (v:V) (f:tD):Prop:=(f=none/\zjj)\/∃(g:Int) (a:Str) (s:Seat) (q qs:Addr),(fS,f=some zzX,v=jc,(kX (.tup [.int g,Nk,.ref qs])),fO qs Bn)
def FndV.tp {H H':Hp}{v:V}{f:tD} (h:FndV H v f) (t:pY):FndV H' v f:=by
 rcases h with h|⟨g,a,s,q,b,y,u,m,j⟩
 .ext je h
 .show(iY,(ir g a s q (mY,b,y,u,t _ _ m,t _ _ j)))
theorem AkD.get {H:Hp}{d:Addr}{al:eF}{asked:fw} (h:zpv) (ask:yE) {b:Addr}{s:Seat} (hb:pP Bn):DGet H d jD ((oA).map V.str):=by
 have g:=Um kD h hb;cases e:oA with
 | none =>
  show(h7,xgi xe8 zGU,g,g)
 | some x =>
  rw[valM xe8 ((ask s).mp yZ),e] at g;exact g
def OwD.get {H:Hp}{d:Addr}{names:eO}{own:hW} (h:OwD H d names own) {x:Str} (hx:x∈names):DGet H d qh (some (.int (own x))):=by
 have g:=qU x h;show(h7,valM inrI hx,g,g)
def RnD.get {H:Hp}{d:Addr}{ss:eF}{rent:hD} (h:RnD H d ss rent) {s:Seat} (hs:DY) {b:Addr} (hb:pP Bn):DGet H d jD (some (.int (rent s))):=by
 have g:=Um kD h hb;show(h7,valM xe8 hs,g,g)
inductive xkk (t:Adr) (vs:eB) (H:Hp) (Q:VK) (_:XK):Prop
 | mk (pz la da a dl d_o d_r p d1 d2:Addr) (n:Nat) (names crowd:eO) (ss al:eF) (lens:jP) (so:gJ) (ho asked:fw) (own:hW) (rent:hD) (e_:zYk) (r_:(fS,Pz t H pz a dl d_o d_r p d1 d2 n names ss lens so ho own rent,Ik,IO,fb yE Li OH zkD zPv))
def xpe {t:Adr}{H:Hp}{Q E}{pz la da a dl d_o d_r p d1 d2:Addr}{n:Nat}{names crowd:eO}{ss al:eF}{lens:jP}{so:gJ}{ho asked:fw}{own:hW}{rent:hD} (hh:Pz t H pz a dl d_o d_r p d1 d2 n names ss lens so ho own rent/\Ik/\IO/\yE/\Li/\OH /\
 zkD/\zPv):xkk t [Do,T0,.ref da] H Q E:=⟨pz,la,da,a,dl,d_o,d_r,p,d1,d2,n,names,crowd,ss,al,lens,so,ho,asked,own,rent,rfl,hh⟩
def ok_ar (T:eX):FnOk true P w K mg base eW 1 t.f_ar t.d_ar Ix (xkk t):=by
 refine T.ar.F.okn (k:=0) sc_ar eZ (λ cdv A outer s H vs Q E hr h=>?_)
 .obtain ⟨pz,la,da,a,dl,aj,ad,p,d1,d2,n,names,crowd,ss,al,D,so,ho,asked,I,C,rfl,_⟩:=h;rfl
 .obtain ⟨pz,la,da,a,dl,aj,ad,p,d1,d2,n,names,crowd,ss,al,D,so,ho,asked,I,C,rfl,h⟩:=h;refine⟨_,xk (pS 3 sc_ar.nd (xdi))
   (xk (xbu ZS rfl A8 (pN 4 sc_ar.nd) (xq (xnl (xbu ZS rfl (xp9 (Bh gm ia)) (xa4 rfl (tQ 5 sc_ar.nd 6 sc_ar.nd)) (xk (pS 7 sc_ar.nd (x9 xfr (x9 xfr kI (Bh gm ia)) (Bh gm iO)))
   (qZ (PW.pt (xhh (xdq (xee oF iO fZ)) (xgj (PW.pt (xd2 (wV xlx gV (xdi)) (xdj (N1 lP (Lu gV)))))))) (xq (pS 3 sc_ar.nd (xaq (kH lP ia iO))))))))))
   (yr 3)),?_⟩
  refine sq3 ?_; intros; obtain⟨z,am,ax,ask,az,aq,⟨as,q⟩⟩:47:=h;show(N5,SN la am,(X3,zby,H1,∃(J:V) (v4 X U S:iM),(gL,Z,[zil,zBg,fX da,some J,v4,X,U,S],zhB,FndV H1 J zzF),?_,?_))
  .exact (Av,rK _ lU zAV)
  .rintro i Z H1 _ (⟨_,_,_,_,⟨_,rfl,s1,_⟩⟩:121);exact SqL.of (BT am)
  .rintro i x Z H1 hx (⟨J,v4,X,U,⟨S,rfl,s1,fv⟩⟩:121);ext zaJ b hb;show(eK,bin,az b (Zo hb),z1,z.same s1);show(AG,ai,z1.ins);show(L0,kvs,ao,f,z1.ln)
   show(gP,M,hv,ah,ae,f b bin);show(lM,dg,qU b ao,hv);refine KU ai T.n_cm lkZl (iQ,dl,.ref M,rfl,dg,M,_,rfl,ah,eQ ob nf);rw[Zr,not_or] at ae;have nr:ad≠M:=Zz ae.1;have nd:da≠M:=Zz (as b bin M ⟨kvs,by
    show(jL,k0,e0,z.ln)
    have:=BT e0;ext gQ ao this this;exact e0,hv⟩)
   have O:∀{c:Addr}{u:HO},zWc->(∀ k,u≠.dT k)->c≠M:=λ{c u} e n1=>xej e ah (n1 _);refine xol (Pv:=λ j Z H3=>∃(J:V) (X U S:iM),(jH,Z,(zaM,some J,X,U,S),zSC zqv,H3 M=some zmq,FndV H3 J (((D b).take j).foldl (look I C asked b) zzF))) ?_ ?_ ?_ ?_
   .refine ⟨124,_,_,_,_,rfl,Kk,xh,fv.tp (nR c xs)⟩;show(tf,xo (O e qT))
   .rintro j Z H3 _ (⟨_,_,_,_,rfl,_,e3,_⟩:124);exact e3
   .rintro j k x qk pa Z H3 hk av aw (⟨J,X,U,S,rfl,k3,e3,ac⟩:124);unfold LnT at hk;rw[Zf,Zg] at hk;ext eE y hy au hk;cases au;generalize eu:(N3,H3,pa,.ref qk,y.2)=L;ext ul s4 aw g4;show(gq,Y,L qk=some (AR y.1),oP av,ak,y∈D b,Zo hy,k4,zNz,(S7,oP (k3 c u nc e)));have af:=k4 _ _ (O ai qT) ai;show(gq,ar,OwD L aj names I,k4 _ _ (O z1.ow qT) z1.ow,ap,RnD L ad ss C,k4 _ _ nr z1.rn,a4,AkD L da al asked,k4 _ _ nd (BT ax));show(Bz,ab,ac.tp (Same.tups s4),e4,oP e3,ay,ap.get (aq b y.1 (Zj.mpr (jv y ak))) Y);show(uw,pa,g4,zvp af ⟨aj,_,rfl,ar.get bin,pz,_,dx,_,_,rfl,af,T.c_i,T.n_cr,lkZr,ad,_,rfl,ay,?_⟩);have tk:(D b).take oR=(D b).take j++[y]:=by
     rw[Ja,hy];rfl
    rw[tk,List.foldl_append];generalize ((D b).take j).foldl (look I C asked b) zzF=f0 at ab;show _;refine(zix,da,a4.get ask Y,zeT c1)
    .have an:asked y.1=none:=by
      cases ea:zuo with
      | none=>rfl
      | some w=>ext iF ea c1 c1
     have stay:xfn f0 OO=false->(zIA,(zaM,some J,fX qk,jN y.2,jN OO),zNz,L M=some zmq,FndV L v3' ([y].foldl (look I C asked b) f0)):=λ hb=>by
      refine zUP;ext zRM;show(sK,AF hb,ab)
     have move:xfn f0 OO=true->∀ R,L R=none->(zIA,(zaM,fX R,fX qk,jN y.2,jN OO),(tH,M,H1 c=some u,zm L R (.tup X7)),kK L R (.tup X7) M zmq,FndV (o9 L R X7) v3' ([y].foldl (look I C asked b) f0)):=λ hb R aa=>by
      show(fR,s5,Same L (o9 L R X7),kW aa,(zxx,.ref R,(S7,sX (k4 c u nc e)),sX e4,?_));show FndV _ _ zNP;unfold look;rw[fe (rg hb an)];exact .inr (HI _ R (mY,qk,rfl,rfl,xh,sX Y))
     rcases ab with⟨rfl,rfl⟩|⟨g0,a0,s0,q0,qs0,rfl,rfl,hq0,hqs0⟩
     .refine (o8,ifP rfl (ifP rfl ?_));show(fc,CZ,λ R aa=>move rfl R aa)
     .show(Br,(o8,ifN (kU zHQ) ?_),(iI,q0,_,0,.int g0,(FS,hq0,K9 c2)))
      .exact ⟨CZ,λ R aa=>move c2 R aa⟩
      .exact stay (Jw.mpr c2)
    .refine zUP;ext zRM;have an:(zuo).isNone=false:=by
      cases ea:zuo with
      | none=>rw[ea] at c1; ext qp c1
      | some w=>rfl
     show(sK,AF an,ab)
   .rintro Z H3 (⟨J,X,U,S,rfl,k3,e3,ac⟩:124);refine(oM,M,ob,_,e3,nf,ir J _ _ _ (rK,_,nR c u,?_))
    .have e1:=Gh;by_cases c1:c=M
     .ext rA c1 ah e1 e1;exact xh
     .show(ie,xo c1,k3 c u c1 e1)
    .have hl:(LnT (D b)).length=(D b).length:=Za _;rw[hl,Jz] at ac;rw[Ja,hb];show FndV _ _ (zZW (Rr++[b]));unfold xgn;rw[List.foldl_append];refine FndV.tp (H:=H3) ac (nR c xs);show(tf,w6 e e3)
  .rintro Z H1 (⟨J,v4,X,U,⟨S,rfl,s1,fv⟩⟩:121);rw[Za,Jz] at fv;exact (q H1 J s1 fv)
def xsr {own:hW}{as:eO}{b:Str}{g:Int} (nb:b∉as):shO own (as++[b]) g=λ n=>(oZ,n,b,shO own as g b+g,shO own as g n):=by
 funext n;unfold shO;ext mX n b
 .ext zPf
 .ext zTu
  .ext zWQ
  .rw [pW ?_,fH d];rcases zAA with z|z
   .exact d z
   .exact c (Zq.mp z)
noncomputable def shS (rent:hD) (as:eF) (g:Int):hD:=(zwy,z∈as,zjs-g,zjs)
def xs8 {rent:hD}{as:eF}{b:Seat}{g:Int} (nb:b∉as):shS rent (as++[b]) g=λ n=>(oZ,n,b,shS rent as g b-g,shS rent as g n):=by
 funext n;unfold shS;ext mX n b
 .ext zPf
 .ext zTu
  .ext zWQ
  .rw [pW ?_,fH d];rcases zAA with z|z
   .exact d z
   .exact c (Zq.mp z)
def xww {rent:hD}{al:eF}{asked:fw}{g:Int} (ask:yE):shS rent al g=xZ:=by
 funext z;unfold shS shR;by_cases c:z∈al
 .rw [ma,if_pos ((ask z).mpr c)]
 .rw [ur,(su,y,c ((ask z).mp y))]
def x02 {own:hW}{g:Int}:shO own [] g=own:=by
 funext z;unfold shO;rw[(su,y,nomatch y)]
def x0i {rent:hD}{g:Int}:shS rent [] g=rent:=by
 funext z;unfold shS;rw[(su,y,nomatch y)]
section
variable {t:Adr}{H H':Hp}{pz a dl d_o d_r p d1 d2:Addr}{n:Nat}{names:List Str}{ss:List Seat}{lens:Str->List (Seat × Int)}{so:Str->Option Seat}{ho:Seat->Option Str}{own own':Str->Int}{rent rent':Seat->Int}
def Pz.move (z:Pz t H pz a dl d_o d_r p d1 d2 n names ss lens so ho own rent) (k:zor) (ow':OwD H' d_o names own') (rn':RnD H' d_r ss rent'):Pz t H' pz a dl d_o d_r p d1 d2 n names ss lens so ho own' rent':=by
 show(eK,o,z.ow,r,z.rn);unfold OwD at o;unfold RnD at r;have tp:pY:=(UY,k _ _ (jg o) (jg r) e);show(jY,dx,b,z.ins,B,A,z.sg.ins);show(DZ,L,x,P,z.sg.so,K,j,O,z.sg.ho)
 show(sI,J,f,I,M,z.ln,⟨(xr,zxV b o r),(VG,B,zxV A o r,SoD.keep (eG L x P) tp (sW,k _ _ (Zz z.n2) (ne_f x r) e),(zfC,eG K j O,zjZ j o (Zz z.n1) e)),ow',rn',(fY,J,k _ _ (Zz z.n3) (ne_f f r) f,I,zfj),z.n1,z.n2,z.n3,z.n4⟩);show(gP,q,Q,D,C,M nm h);exact⟨63,q,Q,zjZ D o (λ y=>C (eP y nO)) D,C⟩
#check _
noncomputable def xfx (H:Hp) (dl da:Addr) (names:eO):Prop:=zkD
inductive xn2 (t:Adr) (vs:eB) (H:Hp) (Q:VK) (_:XK):Prop
 | mk (pz la da a dl d_o d_r p d1 d2:Addr) (n:Nat) (names crowd:eO) (ss al:eF) (lens:jP) (so:gJ) (ho asked:fw) (own:hW) (rent:hD) (g:Int) (e_:vs=[Do,T0,zAZ,.int g]) (r_:(fS,Pz t H pz a dl d_o d_r p d1 d2 n names ss lens so ho own rent,Ik,IO,(qu yE Li crowd.Nodup al.Nodup zcw Rc Cg zfU (zAQ,zor,Pz t H' pz a dl d_o d_r p d1 d2 n names ss lens so ho AJ xZ))))
def xsq {t:Adr}{H:Hp}{Q E}{pz la da a dl d_o d_r p d1 d2:Addr}{n:Nat}{names crowd:eO}{ss al:eF}{lens:jP}{so:gJ}{ho asked:fw}{own:hW}{rent:hD}{g:Int} (h:Pz t H pz a dl d_o d_r p d1 d2 n names ss lens so ho own rent/\Ik/\IO/\yE/\Li/\crowd.Nodup/\al.Nodup/\zcw/\Rc/\Cg/\zfU /\
 (zAQ,zor,Pz t H' pz a dl d_o d_r p d1 d2 n names ss lens so ho AJ xZ)):xn2 t [Do,T0,zAZ,.int g] H Q E:=⟨zEr,so,ho,asked,own,rent,g,rfl,h⟩
inductive xul (t:Adr) (vs:eB) (H:Hp) (Q:VK) (_:XK):Prop
 | mk (pz la da a dl d_o d_r p d1 d2:Addr) (n:Nat) (names crowd:eO) (ss al:eF) (lens:jP) (so:gJ) (ho asked:fw) (own:hW) (rent:hD) (g:Int) (b:Str) (s:Seat) (e_:zYk) (r_:(qu,Pz t H pz a dl d_o d_r p d1 d2 n names ss lens so ho own rent,Ik,IO,yE,Li,crowd.Nodup,al.Nodup,zcw,(qu,Rc,Cg,zfU,OH,zoR,da≠d2,zrL b,A7,(zEh,Pz t H' pz a dl d_o d_r p d1 d2 n names ss lens so ho AJ xZ))))
def xrk {t:Adr}{H:Hp}{Q E}{pz la da a dl d_o d_r p d1 d2:Addr}{n:Nat}{names crowd:eO}{ss al:eF}{lens:jP}{so:gJ}{ho asked:fw}{own:hW}{rent:hD}{g:Int}{b:Str}{s:Seat} (hh:Pz t H pz a dl d_o d_r p d1 d2 n names ss lens so ho own rent/\Ik/\IO/\yE/\Li/\crowd.Nodup/\al.Nodup/\zcw/\Rc/\Cg/\zfU/\OH/\zoR/\da≠d2/\(zrL b)/\A7 /\
 (zEh,Pz t H' pz a dl d_o d_r p d1 d2 n names ss lens so ho AJ xZ)):xul t [Do,T0,.ref da] H Q E:=⟨zEr,so,ho,asked,own,rent,g,b,s,rfl,hh⟩
def AkD.add {H:Hp}{d:Addr}{al:eF}{asked:fw} (h:zpv) {s:Seat}{b:Str} (ns:A7):kK H d (.dT (putK (al.map λ s=>(kD,V.str ((oA).getD (Z2 "")))) kD (.str b))) d (.dT ((vv).map λ z=>(xaf z,V.str ((zyn).getD (Z2 ""))))):=by
 rw[xh,xdr _ (xgi xe8 ns),Zv]
 congr 2
 have c:(al.map λ s=>(kD,V.str ((oA).getD (Z2 ""))))=al.map λ z=>(xaf z,V.str ((zyn).getD (Z2 ""))):=YX λz hz=>by
  unfold Kp.upd1;rw[fH (λ y:z=s=>ns (iz y hz))]
 rw[c]
 congr 1
 show [(kD,V.str b)]=[(kD,V.str ((Kp.upd1 asked s b s).getD (Z2 "")))]
 unfold Kp.upd1;rw[iT];rfl
def ok_y (T:eX):FnOk true P w K mg base eW 1 t.f_y t.d_y zli (xn2 t):=by
 refine T.B_y.F.okn (k:=0) sc_y eZ (λ cdv A outer s H vs Q E hr h=>?_)
 .obtain ⟨pz,la,J,a,dl,C,I,p,d1,d2,n,names,crowd,ss,al,ao,so,ho,asked,Y,L,g,rfl,_⟩:=h;rfl
 .obtain ⟨pz,la,J,a,dl,C,I,p,d1,d2,n,names,crowd,ss,al,ao,so,ho,asked,Y,L,g,rfl,h⟩:=h;refine⟨_,xk (tL A8 4 sc_y.nd (zOX ia xxe))
   (xq (xnl (tL (xsh (pv 2)) 5 sc_y.nd (zOX iO xw9)))),?_⟩
  refine sq2 ?_; intros; refine fq ?_; intros; obtain⟨z,af,ab,ask,az,ay,⟨aq,a0,a4,a5,ae,q⟩⟩:47:=h;show(eK,U,z.ow,ac,z.rn);show(fR,ar,zrH zhr,λ h=>Jr h eJ,SN la af);show(eC,aw,la≠C,ne_f af U,am,J≠C,ne_f ab U);show(AG,X,z.ins);show(gq,aj,pz≠C,ne_f X U,au,pz≠I,ne_f X ac,ai,I≠C,ne_f ac U)
  let Pv (i:Nat) (Z:L2.St) (H1:Hp):Prop:=∃(v4 v5:iM),(gL,Z,zJy,tH C wU zWc,OwD H1 C names (shO Y Rr g))
  show(EE,zby,?_,?_)
  .exact (oQ,_,λ c u _ e=>e,yU List.take_zero x02 U)
  .rintro i Z H1 _ (⟨_,_,rfl,k1,_⟩:83);exact SqL.of (k1 _ _ aw af)
  .rintro i x Z H1 hx (⟨v4,v5,rfl,k1,R⟩:83);ext zaJ b hb;have bin:=az b (Zo hb);have nb:b∉Rr:=λ zz=>by
    show(zVl,Zi.mp hb,xev id (ps:=crowd) (eP QQ ay) hi b zz)
   show(gE,(zvp,k1 _ _ aj X,(oQ,C,R.get bin,zWC (Gu,.inr b,R,zNH))),⟨83,_,_,rfl,S7 (jp,nc,k1 c u nc e),?_⟩);rw[Ja,hb];show OwD _ C names (shO Y (Rr++[b]) g);rw[xsr nb];unfold OwD;rw[xh,putM inrI bin]
   congr 3
   funext nn
   dsimp only
   ext mX nn b
   .rw [ma,ma]
   .rw [ur,ur]
  .rintro Z H1 (⟨v4,v5,rfl,k1,R⟩:83);rw[Za,Jz] at R;show(i6,ap,yB J (IV (kD,V.str ((oA).getD (Z2 "")))),k1 _ _ am ab,as,RnD H1 I ss L,k1 _ _ ai ac,(oQ,J,ap,eQ ob nf));show(eC,av,pz≠J,ne_f X ab,ak,C≠J,Zz am)
   let Pv (j:Nat) (Z:L2.St) (M:Hp):Prop:=∃(v5:iM),(fb,Z=zJy,(∀ c u,(IS,C,I,J,wU,M c=some u)),M J=some (.frz ob (IV (kD,V.str ((oA).getD (Z2 ""))))),OwD M C names (zgM Y),RnD M I ss (shS L zxq g))
   refine xrt (Pv:=Pv) ?_ ?_ ?_ ?_
   .refine (hV,65,_,rfl,zsq (jp,n3,k1 c u n1 e),xh,?_,?_)
    .show upd H1 J _ C=_;ext lC ak R
    .rw [List.take_zero,x0i];show upd H1 J _ I=_;ext D8 ae as
   .rintro j Z M _ (⟨_,rfl,_,e2,_⟩:64);exact e2
   .rintro j k x qk Z M hk aa (⟨v5,rfl,k2,e2,ad,O⟩:65);rw[Zf,Zg] at hk;ext eE s hs ax hk;cases ax;have aa:M qk=some Bn:=aa;have ah:=a0 s (Zo hs);have nb:s∉zxq:=λ zz=>by
     show(zVl,Zi.mp hs,xev id (ps:=al) (eP QQ aq) hi s zz)
    show(gE,(KU,k2 _ _ aj au av X,T.n_cr,lkZr,(oQ,I,O.get ah aa,(zWC,DPut.t (k:=kD) O aa zNH))),⟨65,_,rfl,zsq (jp,n2,k2 c u n1 n2 n3 e),jp ae e2,?_,?_⟩)
    .show upd M I _ C=_;ext D8 ai ad
    .rw [Ja,hs];show RnD _ I ss (shS L (zxq++[s]) g);rw[xs8 nb];unfold RnD;rw[xh,putM xe8 ah]
     congr 3
     funext nn
     dsimp only
     ext mX nn s
     .rw [ma,ma]
     .rw [ur,ur]
   .rintro Z M (⟨v5,rfl,k2,e2,ad,O⟩:65);rw[Za,Jz,xww ask] at O;refine oM J ob _ e2 nf ?_;have fr:zaz C I wU (zm M J (IV (kD,V.str ((oA).getD (Z2 ""))))):=λc u n1 n2 e=>by
     by_cases c1:c=J
     .ext rA c1 ab e e;exact xh
     .rw [xo c1];exact k2 c u n1 n2 c1 e
    refine q _ fr (z.move fr ?_ ?_)
    .show upd M J _ C=_;ext lC ak ad
    .show upd M J _ I=_;ext D8 ae O
theorem ok_aw (T:eX):FnOk true P w K mg base eW 2 t.f_aw t.d_aw Ix (xul t):=by
 refine T.aw.F.okn (k:=1) sc_aw eZ (λ cdv A outer s H vs Q E hr h=>?_)
 .obtain ⟨pz,la,L,a,dl,ap,ao,p,d1,d2,n,names,crowd,ss,al,af,so,ho,asked,aw,ab,g,b,s0,rfl,_⟩:=h;rfl
 .obtain ⟨pz,la,L,a,dl,ap,ao,p,d1,d2,n,names,crowd,ss,al,af,so,ho,asked,aw,ab,g,b,s0,rfl,h⟩:=h;refine⟨_,xk (VC (h9 fj T.c_i T.ar.m (ok_ar T) fA T.ar.b xv As) sc_aw.nd)
   (xk (xas (h9 fj T.c_i T.B_y.m (ok_y T) fA T.B_y.b xv Rg))
   (xk (xdt oF fZ iO ia rfl)
   (yr 5))),?_⟩
  refine sq4 ?_; intros; obtain⟨z,ak,Z,ask,aq,a6,⟨S,ar,aa,az,U,av,ae,ax,nr,ay,q⟩⟩:47:=h;show(AG,ah,z.ins);refine zeM dx ah;ext Tg;refine xpe (HZ,z,ak,Z,ask,aq,av,ae,ib H1 v M fv);rw[nr] at fv;rcases fv with⟨e,_⟩|⟨g',b',s',q1,qs,e,rfl,hq1,hqs⟩
  .cases e
  ext mC;show(uw,q1,hq1,(zeM,dx,m9 ah));ext Tg;refine xsq (kT,z.same M,m9 ak,m9 Z,ask,aq,a6,(jx,S,ar,aa,az,U,fJ H2 k2 C));show(eK,ad,m9 z.ow,au,m9 z.rn);show(eC,R,H1 L=some (IV (kD,V.str ((oA).getD (Z2 "")))),m9 Z,J,AkD H2 L al asked,k2 _ _ (ne_f R ad) U R);show(En,I,k2 _ _ (ne_f hqs ad) (ne_f hqs au) hqs,a7,al.length<=32,Z5 (xjg S ar) aa,(oQ,L,DPut.t (k:=zji) J I xW,?_));have j:tX L (IV (kD,V.str ((oA).getD (Z2 "")))):=J;have fr:∀ c u,IS ap ao L wU (zm H2 L (.dT (putK (al.map λ s=>(kD,V.str ((oA).getD (Z2 "")))) zji (.str b)))):=λc u n1 n2 n3 e=>by
   show(lC,n3,k2 c u n1 n2 (M _ _ e))
  refine q _ qs fr (eP,w6 I j,I) ?_ (J.add ay)
  -- the dict of those who asked is none of the prices'
  have x:(tH,L,H2 c=some u,(zm H2 L (.dT (putK (al.map λ s=>(kD,V.str ((oA).getD (Z2 "")))) zji (.str b))))):=λ c u n3 e=>by
   ext lC n3 e
  show(jY,a5,O,C.ins,a4,ai,C.sg.ins);show(DZ,m1,aj,f1,C.sg.so,m2,a0,f2,C.sg.ho)
  show(gP,ml,X,ll,fl,C.ln)
  show(eK,ac,C.ow,as,C.rn);show(fR,tp,Tups H2 (rF H2 L (putK (al.map λ s=>(kD,V.str ((oA).getD (Z2 "")))) zji (.str b))),(UY,x _ _ (jg j) e),(iQ,⟨a5,zeL O⟩,(VG,a4,zeL ai,SoD.keep (eG m1 aj f1) tp (sW,x _ _ (ne_f aj j) e),(zfC,eG m2 a0 f2,x _ _ (Zz ax) e)),zeL ac,x _ _ (Zz U) as,(fY,ml,zeL X,ll,zfj),C.n1,C.n2,C.n3,C.n4));show(sI,qq,e1,e2,e3,fl nm h,(fY,qq,e1,x _ _ ?_ e2,e3));show(jL,k0,Y,z.ln)
  have am:=k2 _ _ (Zz z.n3) (ne_f Y z.rn) (m9 Y);ext gQ X am am;exact ae nm h qq (eG ml Y e1)
noncomputable def xau (w:Nat) (ps:eI) (srt:eF) (nm:Str):Ri:=match zzU with
 | UN=>(zQQ).map λ s=>(s,zmD)
 | none=>[]
theorem xgt {w:Nat}{ps:eI}{srt:eF}:xbg wB=xbj ps srt:=by
 funext nm;unfold xbg xau xbj;cases zzU with
 | none=>rfl
 | some p =>
  show List.map _ (List.map _ _)=_;show(eY,ZG,QQ _)
def xvt {w h:Nat}{ps:eI}{ss srt:eF} (w30:rM) (h16:rL) (pok:wA) (sok:zes) (pm:RH):xfp wB srt:=by
 show(fR,v,srt.Nodup,pm.nodup_iff.mpr sok.1,(fh,iy n,fJ n x hx,fJ n s j,v))
 .rw [xgt];unfold xbj;split
  .exact Yc.filter _ v
  .exact YK
 .unfold xau at hx;split at hx
  .rename_i p hf
   ext nE s j hx;show(eK,b,pok.ok p (Je hf),q,sok.2.2 s (pm.mem_iff.mp (ZV.mp j).1));have:=b.x1;have:=b.x2;have:=b.y1;have:=b.y2;have:=rT;have:=q.2;show vO zmD 46;unfold lenI;ext ztH
  .exact nomatch hx
 .rw [xgt] at j;unfold xbj at j;split at j
  .exact (ZV.mp j).1
  .exact nomatch j
theorem xjv {d:Addr}:∀(L:U6 RK) {H:Hp}{kvs:i4},zhq->zKJ->(L.map (·.2.1)).Nodup->(∀ x∈L,(zec iG)=none)->zJJ ->
    ∃ H2,xfc d H zLf H2/\H2 d=some (.dT (kvs++LnT (L.map (·.2))))/\zJI
  | [],H,kvs,e,_,_,_,_=>(fY,H,.nil,by rw[e]; simp[LnT],zcS)
  | x::L,H,kvs,e,f,nd,nv,hn=>by
    rw[ZB] at hn;ext FP;have D:=f x nO;have up:tS d kC H (.dT zqM):=λ b u j q=>by
      ext lC j q
    have put:DPut H d (.ref gG) zif (rF H d zqM):=by
      show(S2,DPut.t (k:=zjN) (v:=zif) e D UB,zUQ,z)
    obtain⟨H2,A,I,C⟩:63:=xjv L (H:=rF H d zqM) xh (λ y hy=>up _ _ (ne_f zZa e) zZa) xH (λ y hy=>by
      show(kS,B,¬ xaf zjA=zjN,nd.1 (by rw[<- xe8 _ _ z]; exact Zj.mpr (jv y hy)));have z:=xdf kvs zjN (xaf zjA) zif;rw[zUQ,fH B,nv y (Zm _ hy)] at z;ext lT) Le
    refine(fY,H2,.cons put A,?_,λ b u j q=>C _ _ j (up _ _ j q));rw[I,QY];rfl
theorem xih {H:Hp}:∀{tgt:Ri}{ys:eB},(DD tgt.length)->(zpY (zkH tgt)) ->
    ∃(ps:Kz) (L:U6 RK),ys=zNA/\zns/\ps.map (·.2)=zLf/\L.map (·.2)=tgt/\zKJ
  | [],[],_,_=>iC 85 [] [] rfl zaU rfl rfl zaU
  | [],gO,h,_=>jz
  | gO,[],h,_=>jz
  | x::tgt,rN,h,f=>by
    obtain⟨q,qs,s,l,rfl,v,j,c⟩:124:=zwB;obtain⟨ps,L,I,D,C,B,A⟩:85:=xih (tgt:=tgt) (ys:=ys) xY (λ i y hy=>by
      obtain⟨q,qs,s,l,a1,a2,a3,J⟩:124:=zKd;exact iQ 124 q qs s l a1 a2 a3 zUl)
    show(zy,c,x,NV,pU,(iC,85,(q,T5,.int l)::ps,(qs,s,l)::L,jn I,BR b,tt Zs Zs C,tt Zs B c,Ay))
    . rcases GJ with rfl|b
      . exact v
      . exact D p b
    . rcases zyC with rfl|hz
      . exact j
      . exact A z hz
inductive xsv (t:Adr) (vs:eB) (H:Hp) (Q:VK) (_:XK):Prop
 | mk (pz dx a dp do_:Addr) (w h:Nat) (ps:eI) (st srt:eF) (lens:jP) (e_:vs=[Do,fE]) (r_:(fO pz (Ug []))/\Dr t H a dp do_ w h ps st srt/\∀ H' dl d_o d_r p d1 d2,gR (gz dl) (gz d_o) (gz d_r) ut (Bs,gz d1,gz d2,B1 pz,Pz t H' pz a dl d_o d_r p d1 d2 0 [] srt lens j8 j8 zjH zjH))
def ok_bm (T:eX):FnOk true P w K mg base eW 4 t.f_bm t.d_bm Ac (xsv t):=by
 refine T.bm.F.okn (k:=3) sc_bm eZ (λ cdv A outer s H vs Q E hr h=>?_)
 .obtain ⟨v,dx,a,dp,ak,w',h',ps,st,az,a8,rfl,_⟩:=h;rfl
 .obtain ⟨v,dx,a,dp,ak,w',h',ps,st,az,a8,rfl,h⟩:=h;refine⟨_,xk (MM fG)
   (xk zfV
   (xk zfV
   (xk (MM (zrF (Td "seat" Ac s_bm) (xay zzV) (xt)))
   (Rw zEa)))),?_⟩
  refine sq5 ?_; intros; ext vP ab dr;refine Tc ab T.n_cn 0;have k1:tS v kC H X8:=xJ zyx
  have ah:zgr H X8 zUA:=xh;have f1:GR H v X8 i8:=λb e=>by
   ext ND
   .ext zjR
   .ext zgp; exact e
  revert k1 ah f1;show gb _ _ _ _;generalize jj v X8=H1;intro k1 ah f1;show(Hk,eQ I aq,s2,Os KH,kW aq,(Tc,m4 ah,T.n_cm,1));show(gq,ae,v≠I,xp ah aq,k3,(tS,v,H1 b=some u,KH,OG),xJ (jp,R,s2 _ _ e),af,zgr KH OG zQg,xh);have aj:kK KH v OG I DP:=(eP,lB ae,xh)
  have f3:(GR,KH,v,OG,H1 b=none):=λb e=>by
   ext ND
   .ext zjR
   .ext zgp; exact s2.free e
  revert k3 af aj f3;show gR _ _ _ _ _;generalize upd KH v OG=H3;intro k3 af aj f3;show(Hk,eQ D ai,s4,Same H3 KJ,kW ai,Tc zAi T.n_cq 2);show(eC,ao,v≠D,xp af ai,aP,D≠I,qx aj ai);show(eC,k5,(tS,v,H3 b=some u,KJ,OR),(xJ,jp R zyK),aa,zgr KJ OR zMQ,xh);have av:kK KJ v OR D DP:=(eP,lB ao,xh)
  have f5:(GR,KJ,v,OR,H3 b=none):=λb e=>by
   ext ND
   .ext zjR
   .ext zgp; exact s4.free e
  revert k5 aa av f5;show gR _ _ _ _ _;generalize upd KJ v OR=H5;intro k5 aa av f5;show(mq,aY,k5 _ _ (Zz ae) aj,S,(tI,v,kC,H5 b=some u),(xJ,k5 _ _ R (k3 _ _ R zvC)));obtain⟨⟨aH,U⟩,⟨kp,aD,aN⟩,w1,w2,h1,h2,le⟩:=id dr.pic;show(eE,ko,aE,kr,id dr.sts);have a7:a≠v:=λ z=>by
   rw[z,ab] at U;have z2:=jr (HO.ins.inj (ZR.inj U));exact nomatch z2
  have kt:Tups H H5:=(l0,S _ _ (jg ab) e);show(i6,a5,Pic t H5 a dp ak zAI mO ps,hV ⟨aH,S _ _ a7 U⟩ (eG,kp,S _ _ (ne_f aD ab) aD,aN.keep kt) w1 w2 h1 h2 le,ay,Sts H5 ak st,(eG,ko,S _ _ (ne_f aE ab) aE,kr),⟨a,aH,_,rfl,S _ _ a7 U,gB,a,dp,ak,w',h',ps,st,BX a5 ay l6 O us aV a4 pm lt⟩);show(ij,O=az,xc3 xea (pm.trans dr.pm.symm) lt dr.lt);show(zos,upd H5 l6 (.lst (us.map V.ref)),aV);show(eK,a0,a4.keep (Same.tups s6),aI,a4.len);show(i6,bc,qbv,zlD,aK,O.Nodup,zIR,mH l6 g6 l7 aU);refine xby (ft g6) xW aU (zg,zkH zLH) (λ_ _ _ _ tp ⟨1124,q,qs,s,l,z1,z2,z3,z4⟩=>zFG) (wI H7 hx s7) (vC H7 s7 e7 fy)
  .ext B7 qa aS;show(eE,s,hs,aR,a0.get aS);ext BY q5 aT;show(uG,s8,Same H7 (qN,H7,q5,zhS,.int 0),kW aT,rS s8 (iQ,124,q5,qa,s,0,rfl,xh,s8 _ _ (s7 _ _ aR),On hs))
  rw[Za,aI] at ly;obtain⟨prs,L,rfl,a9,ep,eL,hL⟩:85:=xih (tgt:=zLH) (hZ ly Za) fy;refine(gY,l7,prs,rfl,e7,a9,eQ J ap);have L1:(L.map (·.2.1))=O:=by
   have:L.map (·.2.1)=(L.map (·.2)).map (·.1):=jn ZG
   rw[this,eL,ZG];exact QQ _
  have ll:L.length=O.length:=by
   show(zcd,Em L1,Za)
  have s8:Same H7 qax:=kW ap;show(sI,H8,bb,e8,k8,xjv (d:=J) L (H:=qax) (kvs:=[]) xh (El,s8 _ _ zgX) (eP L1 aK) oY qX,(gU,DH,H8,C7,eP ep bb,?_));rw[eL] at e8;have aM:H8 J=some (.dT (O.map λ s=>(kD,V.int 0))):=by
   rw[e8];unfold LnT;rw[ZG];rfl
  have aL:Same H7 H8:=(jE,k8 _ _ (xp e ap) (s8 _ _ e));show(i6,Z,Same H5 H8,(zdE).trans aL,am,H5 J=none,(zdE).free ap,(Tc,Z _ _ aa,T.n_cr,3));have k9:(tS,v,H8 b=some u,H8,Xz):=xJ zyx
  have X:zgr H8 Xz zLs:=xh;have f9:(GR,H8,v,Xz,H8 b=none):=λb e=>by
   ext ND
   .ext zjR
   .ext zgp; exact e
  revert k9 X f9;show gb _ _ _ _;generalize upd H8 v Xz=H9;intro k9 X f9;have a6:v≠J:=xp aa am;show(Bz,aw,k9 _ _ (Zz ae) (Z _ _ aY),au,k9 _ _ (Zz ao) (Z _ _ av),as,k9 _ _ (Zz a6) aM);show(Br,fW p ax hp aF ne,(BG,p,ax,xh,λ ad d1 d2 aX aW aQ Y=>AW));have up:(GR,upd H9 ax (.own p),p,.ins t.C_aa ax [],H9 b=none):=λ b z=>by
   cases e:H9 b with
   | none=>rfl
   | some u=>rw[Mr,m7 aF,e] at z; ext mB
  have M:Same H9 ad:=(jE,aQ _ _ (xp e hp) (ziK Mr aF));show(Bu,ar,up _ aX,aG,up _ aW,(Tc,m9 X,T.n_ck,4));have kF:(tS,v,ad b=some u,ad,zOj):=xJ zyx
  have fr:(uR,H9 b=none,i8):=λb e=>by
   cases z:wb with
   | none=>rfl
   | some u =>
    ext ND
    .ext LA c X
    .rw [k9 _ _ c (Z _ _ (S _ _ c z))] at e; cases e
  have aZ:(uR,H5 b=none,i8):=λb e=>by
   cases z:wb with
   | none=>rfl
   | some u =>
    ext ND
    .ext LA c aa
    .rw [S _ _ c z] at e; cases e
  obtain⟨ba,aA⟩:=Y.ins;show(DZ,m1,aC,g1,Y.so,m2,aB,g2,Y.ho)
  have ac:=m9 X;show(rq,aJ,Tups ad (upd ad v zOj),(l0,kF _ _ (jg ac) e),aO,p≠v,qx X hp,q _ I D J p d1 d2 (f1 _ aq) (f1 _ (f3 _ ai)) (aZ _ am) (fr _ hp) (fr _ ar) (fr _ aG) (xJ,kF _ _ R (m9 (k9 _ _ R (Z _ _ (S _ _ R e))))) ?_);exact(iQ,AU,(VG,ba,kF _ _ aO aA,SoD.keep (eG m1 aC g1) aJ (sW,kF _ _ (ne_f aC ac) e),(zfC,eG m2 aB g2,kF _ _ (ne_f aB ac) e)),zvt ao au,zvt a6 as,(zjU,zvt ae aw,zaU),mK aG as,mK ar au,aP,mK ar aw)
section
variable {t:Adr}{H H':Hp}{pz a dl d_o d_r p d1 d2:Addr}{n:Nat}{names:List Str}{ss:List Seat}{lens:Str->List (Seat × Int)}{so so':Str->Option Seat}{ho ho':Seat->Option Str}{own own':Str->Int}{rent rent':Seat->Int}
def Pz.keep1 (z:Pz t H pz a dl d_o d_r p d1 d2 n names ss lens so ho own rent) {x:Addr} (k:qbm) (tp:pY) (e0:pz≠x) (e1:p≠x) (e2:d1≠x) (e3:d2≠x) (e4:d_o≠x) (e5:d_r≠x) (e6:dl≠x) (e7:xfx H dl x names):Pz t H' pz a dl d_o d_r p d1 d2 n names ss lens so ho own rent:=by
 show(sI,j,b,y,A,z.ln,⟨zVp (xr,k _ _ e0 e),z.sg.keep e1 e2 e3 tp k,k _ _ e4 z.ow,k _ _ e5 z.rn,(fY,j,k _ _ e6 b,y,zfj),z.n1,z.n2,z.n3,z.n4⟩);show(gP,q,f,v,m,A nm h);exact(fY,q,f,k _ _ (e7 nm h q (eG j b f)) v,m)
def Pz.keepL (z:Pz t H pz a dl d_o d_r p d1 d2 n names ss lens so ho own rent) {x:Addr}{xs:eB} (hx:fO x nG) (k:qbm):Pz t H' pz a dl d_o d_r p d1 d2 n names ss lens so ho own rent:=by
 show(jY,dx,hz,z.ins,B,y,z.sg.ins);show(sx,K,j,z.sg.so,J,f,z.sg.ho)
 show(gP,I,b,D,A,id z.ln);exact z.keep1 k (UY,k _ _ (jg hx) e) (Od hz) (Od y) (Od j) (ne_f f hx) (Od z.ow) (Od z.rn) (Od b) (λ nm h q ⟨1062,kv,e1,e2⟩=>by
  show(rX,C,v,m,A nm h);ext gQ b e1 e1;ext gQ v e2 e2;exact ne_f m hx)
def xfx.keep {da:Addr} (z:Pz t H pz a dl d_o d_r p d1 d2 n names ss lens so ho own rent) (h:zoR) (k:zBa (fO dl u) dl):xfx H' dl da names:=λ nm f q ⟨1062,c,j,i⟩=>by
 show(jL,m,b,z.ln)
 have:=k _ b;ext gQ j this this;exact h nm f q (eG c b i)
theorem AkD.hod {d:Addr}{al:eF}{asked:fw} (h:zpv) (ask:yE):HoD H d al.length asked:=by
 refine(fY,_,h,pI f8,iy s);cases e:oA with
 | none=>exact xgi xe8 zGU
 | some x =>
  rw[valM xe8 ((ask s).mp yZ),e];rfl
def Pz.hand (z:Pz t H pz a dl d_o d_r p d1 d2 n names ss lens so ho own rent) (k:zrS) {m:Nat} (sg:zom m):Pz t H' pz a dl d_o d_r p d1 d2 m names ss lens so' ho' own rent:=by
 show(AG,hz,z.ins);show(sx,C,c,z.sg.so,B,b,z.sg.ho)
 show(sI,x,e,v,A,z.ln,(zrx,(xr,zxV hz c b),sg,k _ _ z.n2 (ne_f z.ow b) z.ow,zjZ z.rn c z.n1 z.rn,(fY,x,k _ _ z.n4 (jg b) e,v,zfj)));show(gP,q,u,j,f,A nm h);exact(fY,q,u,zjZ j c (λ y=>f (eP,y,Zm _ nO)) j,f)
#check _
noncomputable def F5 (H H':Hp) (dl d_o d_r d1 d2:Addr):Prop:=(tH,dl,c≠d_o,IS d_r d1 d2 wU L7)
inductive xob (t:Adr) (vs:eB) (H:Hp) (Q:VK) (_:XK):Prop
 | mk (pz a dl d_o d_r p d1 d2 dp do_:Addr) (n w h:Nat) (ns:eO) (ps:eI) (st srt:eF) (so:gJ) (ho:fw) (own:hW) (rent:hD) (nm:Str) (e_:vs=[Do,hJ]) (r_:Pz t H pz a dl d_o d_r p d1 d2 n ns srt wB so ho own rent/\(fb,Dr t H a dp do_ w h ps st srt,wA,n<=500,qbp,(fb,zMx,nm∉ns,zKW,zCF,(zBp,Pz t H' pz a dl d_o d_r p d1 d2 N7 wS srt wB so' ho' own' rent'))))
def xs9 {t:Adr}{H:Hp}{Q E}{pz a dl d_o d_r p d1 d2 dp do_:Addr}{n w h:Nat}{ns:eO}{ps:eI}{st srt:eF}{so:gJ}{ho:fw}{own:hW}{rent:hD}{nm:Str} (hh:Pz t H pz a dl d_o d_r p d1 d2 n ns srt wB so ho own rent/\Dr t H a dp do_ w h ps st srt/\wA/\n<=500/\qbp/\zMx/\nm∉ns/\zKW/\zCF /\
 (zBp,Pz t H' pz a dl d_o d_r p d1 d2 N7 wS srt wB so' ho' own' rent')):xob t [Do,hJ] H Q E:=⟨pz,a,dl,d_o,d_r,p,d1,d2,dp,do_,n,w,h,ns,ps,st,srt,so,ho,own,rent,nm,rfl,hh⟩
theorem ok_az (T:eX):FnOk true P w K mg base eW 7 t.f_az t.d_az jy (xob t):=by
 refine T.az.F.okn (k:=6) sc_az eZ (λ cdv A outer s H vs Q E hr h=>?_)
 .obtain ⟨pz,a,U,I,X,p,d1,d2,dp,aU,n,M,h',ns,ps,st,ai,so,ho,J,aa,nm,rfl,_⟩:=h;rfl
 .obtain ⟨pz,a,U,I,X,p,d1,d2,dp,aU,n,M,h',ns,ps,st,ai,so,ho,J,aa,nm,rfl,h⟩:=h;refine⟨_,xk (zcG (VW hr (uX,(lH zVr zTY [1,0] zEt s_az),xay (zIy gm lZ),Ou,Uq,oX,xaq (hF zuh (h9 (zmv gV) T.c_a T.am.m (ok_am T) fA T.am.b xv zYQ)))))
   (xk (zcG (xt))
   (xk (pS 2 sc_az.nd (xbp lZ))
   (xk (pS 3 sc_az.nd (xgx))
   (xk (pS 4 sc_az.nd zEs)
   (xk (xgu ZS (zgu ia (xad gm rfl)) (xk (xas (KG fZ (i3 (Bh (xad gm rfl) ia))))
   (xq (pS 4 sc_az.nd zEs))))
   (uy (h9 gm T.c_aa T.ai.m (ok_ai T) fA T.ai.b xv (hF gV ia)))))))),?_⟩
  refine sq7 ?_; intros; obtain⟨z,dr,aD,bZ,cf,⟨pt,a5,b7⟩,⟨au,fit,⟨cd,ci,bg,aA⟩,q⟩⟩:47:=h;subst b7;show(gq,a4,zrH zhr,λ h=>Jr h eJ,b1,M<=30,mM dr.pic.w2,bN,h'<=16,mM dr.pic.h2)
  show(mq,lo,xvt b1 bN aD dr.ok dr.pm,aB,ai.length<=32,zlD)
  show(AG,aK,z.ins);show(EZ,bu,a8,dr.pic);show(eK,hf,xh4 aD.nn a5,ba,(aD.ok pt a5).nm);have a9:xau M ps ai pt.nm=(ai.filter (xci pt)).map λ s=>(s,zIw):=by
   unfold xau;rw[hf]
  refine KU aK T.n_cn lkZp ⟨a,bu,_,rfl,a8,gB,a,dp,aU,M,h',ps,st,pt,rfl,dr.pic,dr.sts,dr.ok,ba,hf,λ H1 l1 C ce s1 cl b8 lt1 e1 aX=>?_⟩;show(ij,C=ai,xc3 xea (b8.trans dr.pm.symm) lt1 dr.lt);show(En,b6,aX.len,cb,zfF zSp,Z5 xb aB,mH l1 e1 l2 bM);refine xby (ft e1) znq bM (zg,zkH zpq) (λ_ _ _ _ tp ⟨1124,q,qs,s,l,z1,z2,z3,z4⟩=>zFG) (wI H2 hx s2) zaS
  .ext B7 qa bH;show(eE,s,hs,bG,aX.get bH);have aY:=dr.ok.2.2 s (dr.pm.mem_iff.mp (ZV.mp (Zo hs)).1);show(uw,qa,m4 bG,uF q3 bJ);generalize eu:N3 H2 q3 zvQ nU=H3;ext xN s3 bJ eu;show(eK,g3,ug_e eu,af,(K1).trans s3);show(gE,(KU,af _ _ aK,T.n_cn,lkZp,⟨a,bu,_,rfl,af _ _ a8,gB,a,dp,aU,M,h',ps,pt.nm,pt,s.1,nU,rfl,lN af dr.pic,ba,hf,aY.1,aY.2,eQ H4 s4⟩),uF q5 bI);show(uG,s5,Same H4 (N3,H4,q5,.ref q3,zIw),kW bI,rS ((s3.trans s4).trans s5) (iQ,124,q5,q3,s,_,rfl,xh,s5 _ _ (s4 _ _ g3),by rw[a9,Zf,hs]; rfl))
  rw[Za,b6] at ly;have bi:(zpq).length=(zSp).length:=hZ a9 Za
  obtain⟨prs,L,rfl,bp,ep,eL,hL⟩:85:=xih (tgt:=zpq) (hZ ly bi) fy;refine(gY,l2,prs,rfl,e2,bp,eQ dq aR);have L1:(L.map (·.2.1))=xbg wM pt.nm:=by
   have:L.map (·.2.1)=(L.map (·.2)).map (·.1):=jn ZG
   rw[this,eL];rfl
  have ll:L.length<=32:=by
   show(FR,Em eL,Za)
   lia
  have s3:Same H2 zYC:=kW aR;show(sI,H3,bU,e3,k3,xjv (d:=dq) L (H:=zYC) (kvs:=[]) xh (El,vX zgX) (eP,L1,lo.nd _) oY qX,(gU,DH,H3,C7,eP ep bU,?_));rw[eL,List.nil_append] at e3;show(gq,b5,Same H2 H3,(jE,k3 _ _ (xp e aR) (s3 _ _ e)),af,zAz,(K1).trans b5,az,gz dq,(K1).free aR);have z3:=z.same af;show(gP,kl,ae,cg,bR,z3.ln)
  show(jG,av,af _ _ aK,KU av T.n_cm lkZl ⟨83,U,_,rfl,Gu Lw ae (a4 eA),?_⟩)
  -- the heap with the new lengths
  have k4:(tH,U,H3 c=some u,zm H3 U O1):=Kk
  have e4:kK H3 U O1 U O1:=xh;have f4:∀ c,(Hf H3 U O1 c)->H3 c=none:=λ c e=>by
   by_cases y:c=U
   .ext LA y xh
   .rw [HQ] at e; exact e
  revert k4 e4 f4;generalize oC H3 U (putK kl Lw zBe)=H4;intro k4 e4 f4;show(En,bl,k4 _ _ (ne_f av ae) av,b9,OwD H4 I ns J,k4 _ _ z.n3 z3.ow,zvp bl (oQ,I,Gu Lw b9 znq,?_));rw[xdr _ (xgi inrI au)];have k5:(tH,I,H4 c=some u,zm H4 I (.dK zkM)):=Kk
  have e5:OwD qam I ym zbU:=by
   unfold OwD;rw[xh,Zv]
   congr 3
   .refine YX zxd;unfold setI;rw[fH (λ y:x=pt.nm=>au (iz y hx))]
   .show [((ZI pt.nm:Key),V.int 0)]=[(ZI pt.nm,V.int (setI J pt.nm 0 pt.nm))]
    unfold setI;rw[iT]
  have f5:∀ c,(Hf H4 I (.dK zkM) c)->H4 c=none:=λ c e=>by
   by_cases y:c=I
   .ext LA y xh
   .rw [HQ] at e; exact e
  revert k5 e5 f5;generalize qam=H5;intro k5 e5 f5
  -- the prices with the new one
  have aC:=z3.rn;obtain⟨bT,aM⟩:=z3.sg.ins;show(DZ,m1,bL,g1,z3.sg.so,m2,aN,g2,z3.sg.ho)
  have ad:zaz U I zqv zqw:=(zwl,k5 _ _ n2 (k4 _ _ n1 e));have ab:=z3.ow;unfold OwD at ab;show(eC,aW,Tups H3 H5,(UY,ad _ _ (jg ae) (jg ab) e),br,Mf U O1,k5 _ _ (Zz z.n3) e4);have bt:=OS e3 e3;have bA:dq∉[X,d2]:=λ y=>by
   rcases Zr.mp y with y|y
   .rw [y,z.rn] at az; cases az
   .obtain ⟨m0,aO,_⟩:62:=(z.sg.ho)
    ext Ep zhs aO az az
  have z5:Pz t H5 pz a U I X p d1 d2 n ym C wM so ho zbU aa:=by
   refine(zrx,(xr,k5 _ _ (ne_f av ab) bl),(VG,bT,OS aM aM,SoD.keep (eG m1 bL g1) aW (sW,ad _ _ (Zz z.n4) (Zz z.n2) e),(zfC,eG m2 aN g2,OS aN e)),e5,OS aC aC,fY _ br ?_ zxd)
   .have:=xb3 kl Lw zBe;rw[Zt,ZZ]
    lia
   .rw [xdf];by_cases c:x=pt.nm
    .subst c;exact(fY,dq,kU iT,bt,bA)
    .rw [(su,y,c (ZI.inj y))];rcases Z3.mp hx with hx|hx
     .obtain ⟨qq,q1,q2,q3⟩:63:=bR x hx;exact(fY,qq,q1,OS q2 q2,q3)
     .exact absurd (Zq.mp hx) c
  have bQ:zaz U I wU zqw:=(zwl,ad _ _ n1 n2 (af _ _ e));have bh:∀ x∈ym,∀ qq,(∃ kvs,(Mf U pA)/\(zvj x)=some (.ref qq))->∃ u,H5 qq=some u:=λx hx qq ⟨1062,kv,y1,y2⟩=>by
   show(L0,bE,aw,f,z5.ln)
   show(rX,q',q1,q2,f x hx);ext gQ aw y1 y1;ext gQ q1 y2 y2;ext we q2
  -- those who ask
  ext CG Y bq;show(zos,iE H5 Y KN,bq);refine eQ da aS;have aj:Y≠da:=xp g6 aS;generalize eu:rF H6 da []=H7;ext ul s7 aS g7;show(eK,z7,z5.same (s6.trans s7),ao,s7 _ _ g6);show(eC,NE,∀{c:Addr}{u:HO},H6 c=some u->c≠da,λ{c u} e=>xp e aS,bd,da≠X,Zz (NE (BP z5.rn)));have aI:da≠d2:=by
   show(jL,m0,aO,z5.sg.ho)
   exact Zz (NE (BP aO))
  have a6:xfx H7 U da ym:=λx hx qq ⟨1062,kv,y1,y2⟩=>by
   show(jL,bE,aw,z5.ln)
   have y3:=zdn aw;ext gQ y1 y3 y3;obtain⟨u,hu⟩:=bh x hx qq (eG kv aw y2);exact NE (BP hu)
  show(eK,mt,fit.mt,dm,fit.dm);have sn:G0 pt.nm:=by
   show(FR,dm pt.nm,zdu au);ext RS
  have aE:Sz ym:=Le
  have ax:Grow wM ns pt.nm so ho zic [] j8 zbU aa:=fit.grow lo au
  -- one step of asking
  have ar:∀{crowd:eO}{al:eF}{asked:fw}{o1:hW}{r1:hD},Grow wM ns pt.nm so ho crowd al asked o1 r1->(zqJ ym)/\(fb crowd.Nodup al.Nodup (∀ s∈al,s∈C) yE zpI):=λ{crowd al asked o1 r1} gw=>by
   have c1:zqJ ym:=λ b hb=>gw.bf.in_ mt dm hb;show(jG,c2,gw.bf.nodup mt sn,(jx,c1,c2,gw.bf.nd,eQ s hs,gw.bf.ask,Z5 (xjg c2 c1) aE));show(GV,hj,ej,ZH hs);obtain⟨_,_,_,_,_,e4⟩:84:=gw.bf.ak j s (pJ hj ej);exact lo.ins _ _ e4
  show(kL,c1,c2,c3,c4,c5,c6,ar ax);obtain⟨g0,b0,t0,aG⟩:101:=ax.nearest lo mt dm sn bg aA;have cj:=ax.gap lo mt dm aG;show(CC,bS,bF,z7.ins,zeM bS bF);ext Tg;refine xrk (crowd:=zic) (al:=[]) (asked:=j8) (kT,z7,ao,g7,c5,c1,c2,kT c3 c4 aB aE bd lo.ins (iu,a6,aI,aG,zXG,iR H8 qs8 k8 hq8 z8 ak8));ext zNI; show(eC,bc,Y≠I,ne_f ao z7.ow,bb,Y≠X,ne_f ao z7.rn);show(jL,ch,aQ,z7.ln)
  show(gq,bB,U≠da,ne_f aQ g7,a7,U≠Y,ne_f aQ ao,be,U≠X,ne_f aQ z7.rn)
  -- the walk
  show(kR,λ m Z H9=>(zCc,Z=zHZ/\(qu,(zQn,zWb,H9 c=some u),Df qs Bn,Df Y znh,AkD H9 da vv zaF,Pz t H9 pz a U I X p d1 d2 n ym C wM so ho (zgM o1) zWR,Grow wM ns pt.nm so ho crowd al asked o1 r1,zCQ,zni wM o1 r1 b,m=zql)),(ir,_,zic,[],_,HI g0 b0 (qJ,t0,qs8,rfl,λ c u n1 n2 n3 _ e=>k8 c u n1 n2 n3 e,hq8,k8 _ _ bc bb aj ao,ak8,iu z8 ax ME aG rfl)));rintro m Z H9 (⟨crowd,al,asked,o1,⟨r1,g,b,s,qs,rfl,k9,bn,aP,aV,z9,gw,rc,nr,rfl⟩⟩:121);show(jY,aT,aJ,z9.ins,ap,aL,z9.sg.ins);show(eK,a0,z9.sg.ho.get bn,gp,gw.gap lo mt dm nr);have bC:A7:=λ y=>by
   show(Ka,(gw.bf.ask s).mpr y,gp.na)
  show(kL,x1,x2,x3,x4,x5,x6,ar gw);refine zLa ⟨p,_,ap,_,_,rfl,aL,T.c_aa,T.n_ch,lkHo,d2,_,rfl,a0,_,rfl,?_⟩;cases hs:Ob with
  | some x =>
   rw[hs] at a0;have am:=gw.more mt sn gp hs;show(kL,y1,y2,y3,y4,y5,y6,ar am);obtain⟨bP,b2,t2,aF⟩:101:=am.nearest lo mt dm sn bg aA;have bO:=am.gap lo mt dm aF;refine ifP rfl (nQ,(DB,SX zql (zCc,σ'=zHZ/\(qu,zQn zWb L7,zvY,kf Y znh,zWm,Pz t H' pz a U I X p d1 d2 n ym C wM so ho (zgM o1) zWR,Grow wM ns pt.nm so ho crowd al asked o1 r1,zCQ,zni wM o1 r1 b,m'=zql))),λ σ' H' y=>y);refine sq2 ?_; intros; refine⟨wv aP,pz,_,aT,_,_,rfl,aJ,T.c_i,T.n_ck,lkZs,p,_,ap,_,_,rfl,aL,T.c_aa,T.n_ch,lkHo,d2,qh,rfl,a0,Y,_,_,rfl,rfl,aP,znq,?_⟩;show(eC,ah,(tH,Y,H9 c=some u,zm H9 Y (.lst zyV)),Kk,ay,kK H9 Y (.lst zyV) Y (.lst ((zet).map V.str)),zvz)
   have as:=z9.keepL aP ah;show(eC,cc,H9 da=some (.dT ((vv).map λ z=>(xaf z,V.str ((zyn).getD (Z2 ""))))),aV,aq,AkD qas da vv zaF,ah _ _ (Zz aj) aV);revert ah ay as aq;generalize qas=bY;intro ah ay as aq;obtain⟨bv,bm⟩:=as.ins;show(fR,aH,xfx bY U da ym,a6.keep z7 (sW,ah _ _ a7 (k9 _ _ (Zz z.n3) be bB a7 e)),zeM bv bm);ext Tg;refine xrk (crowd:=zet) (al:=vv) ⟨47,as,ay,aq,y5,y1,y2,⟨47,y3,y4,aB,aE,bd,lo.ins,⟨45,aH,aI,aF,(λ y=>by
    show(Ka,(am.bf.ask t2).mpr y,bO.na)),iR cm aZ bj bo bz bx⟩⟩⟩
   show(jV,20-(zet).length,Le,(Ej,zet,vv,ir _ bP b2 t2 (ue,aZ,λ c u n1 n2 n3 n4 e=>bj _ _ n1 n2 n3 (ah _ _ n4 (k9 _ _ n1 n2 n3 n4 e)),bo,bj _ _ bc bb aj ay,bx,(iu,bz,am,.step rc (a_go nr hs),aF,rfl))))
  | none =>
   rw[hs] at a0;refine ifN rfl ?_;have bw:∀ s',(lv (zxC b s'))↔s'∈vv:=λ s'=>by
    unfold Kp.upd1;ext mX s' s
    .rw [ma];show(fc,λ_=>Z7 _ (Zq.mpr c),re)
    .rw [ur,gw.bf.ask s',Z3];show(fc,.inl,λ y=>y.elim id λ y=>absurd (Zq.mp y) c)
   show(Du,hi,ei,ZH gp.ac);have ea:gf crowd b:=pJ hi ei
   show(jG,bW,gw.bf.chain mt sn eA ea gp.rm bC,zLa ⟨p,ap,_,rfl,aL,xls gH,p,d1,d2,da,qs,n,(vv).length,xbg (xau M ps C),so,ho,zaF,λ zz=>crowd.idxOf zz,pt.nm,b,s,rfl,bn,z9.sg,aV.hod bw,aI,eA,mt,hs,zmL,bW,λ bX b3 bK kb ca b4 bD bV rk=>?_⟩);refine q bX _ _ b3 bK _ s (λ c u n1 n2 n3 n4 n5 e=>?_) (z9.hand kb b4) (.step rc (xzy nr hs)) rk (gw.last lo mt sn dm x6 gp hs bD bV rk);show(eK,e5,bQ _ _ n1 n2 e,e6,BP e5);exact kb _ _ n4 n5 (k9 _ _ n2 n3 (NE e6) (xp e5 bq) (s7 _ _ e6))
theorem Run.none {room:pq}{ss:eF} (snd:ss.Nodup) (hr:zng) {ns:eO}{so:gJ}{ho:fw}{cs:iD} (r:AS) (nd:ns.Nodup) {so2:gJ}{ho2:fw} (mt2:Kp.Mt room so2 ho2) (all:∀ z∈ns,ztr):cs=[]:=by
 cases cs with
 | nil=>rfl
 | cons c r' =>
  show(jb,j,q,b,f,sub,r.crowd nd c nO);show(eK,x,f.count b snd hr,v,Kp.hall mt2 hr f.nd (λ a ha=>all a (sub a ha)));rw[x,ZB] at v
  lia
theorem xry {H:Hp}{ps:eI}{so:gJ}:∀{names:eO}{ys:eB},(DD names.length)->(zpY,∃ q s pt,(zET,so pt.nm=some s))->∃(prs:fC) (qs:eV),zSl/\vb/\prs.map (·.1.nm)=names/\zLj
 | [],[],_,_=>oN 84 [] [] rfl .nil zaU
 | [],gO,h,_=>jz
 | gO,[],h,_=>jz
 | nm::names,rN,h,f=>by
  obtain⟨q,s,pt,j,A,z,rfl,v⟩:105:=zwB;obtain⟨prs,qs,I,D,C,B⟩:84:=xry (names:=names) (ys:=ys) xY (λ i y hy=>by
   obtain⟨q,s,pt,a1,a2,a3,K,J⟩:105:=zKd;exact(zE,q,s,pt,by simpa using a1,a2,a3,K,J))
  show(zy,j,nm,pt.nm,Pn,(qI,(pt,s)::prs,xA,jn I,.cons v D,tt Zs C j,BR b));rcases GJ with rfl|b
  .exact ⟨A,z⟩
  .exact B p b
inductive xvq (t:Adr) (vs:eB) (H:Hp) (Q:VK) (_:XK):Prop
 | mk (a ln dp do_:Addr) (w h:Nat) (ps:eI) (st srt:eF) (names:eO) (e_:zAc) (r_:Dr t H a dp do_ w h ps st srt/\wA/\zlz/\zSF/\names.Nodup/\Cg/\(∃ so2 ho2,Kp.Mt (xbj ps srt) so2 ho2/\∀ z∈names,ztr)/\∀ H' tp lp d_o d_r qs prs own rent so' ho',gu->(Gm tp [zAM,.ref d_o,.ref d_r])->(kf lp qQ)->zqZ->prs.map (·.1.nm)=names->(gR,(zSE,so' gW=some jJ),OwD H' d_o names own,RnD H' d_r srt rent,qab so' ho',lX (gz lp) (gz d_o) (gz d_r) (gz tp) zib))
def xll (T:eX):FnOk true P w K mg base eW 9 t.f_least t.d_least vc (xvq t):=by
 refine T.B_least.F.okn (k:=8) xgy eZ (λ cdv A outer s H vs Q E hr h=>?_)
 .obtain ⟨a,ln,dp,aj,w',h',ps,st,D,names,rfl,_⟩:=h;rfl
 .obtain ⟨a,ln,dp,aj,w',h',ps,st,D,names,rfl,h⟩:=h;refine⟨_,xk (pS 2 xgy.nd (pC (xvw T) hr T.B_fits.g T.B_fits.F.kp T.B_fits.b (lO fG)))
   (xk (sS (zfB fZ) Uu)
   (xk (IR 3 xgy.nd (xeb T.k_i (ok_bm T) fA rfl T.g_i T.bm.b .nil xv zAy))
   (xk (tL A8 4 xgy.nd (uy (h9 gV T.c_i T.az.m (ok_az T) fA T.az.b xv TF)))
   (xk (xdh rfl (lH ["name"] ["prices"] [3] ["picture", "names", "crowd", "prices", "name", "pairs"] xhw) A8 BM Bj oX (λ_ _ _ _ _=>zlG (Bh (zmv (zmv fG)) fj)) (j:=5) rfl y0)
   (yo (kH iO (xad gV rfl) (xad gV rfl))))))),?_⟩
  refine sq6 ?_; intros; obtain⟨dr,aA,aa,ae,af,aC,⟨⟨a5,aE,ar,ac⟩,q⟩⟩:47:=h;have a7:D.Nodup:=zIR;have hr:(Ef,s∈xbj ps D n,s∈D):=λ n s hs=>by
   unfold xbj at hs;split at hs
   .exact zsV
   .exact nomatch hs
  refine⟨a,ln,dp,aj,w',h',ps,st,D,names,rfl,(jx,dr,aa,ae,af,aC,λ H1 v cs so ho s1 a9 aI=>?_)⟩;show(nK,a9.none a7 hr af ar ac);obtain rfl:v=.non:=by
   rcases aI with⟨_,e⟩|⟨_,_,_,e,_⟩
   .exact e
   .cases e
  show(N5,(o8,ifN eJ ?_),fW Y dx aw aG ne);have s2:Os (upd (upd H1 dx (.own Y)) Y (Ug [])):=λb u e=>by
   show(ig,m7 aw,m7 aG,e)
  show(zbZ,L,⟨Y,dx,a,dp,aj,w',h',ps,st,D,ztR,rfl,xh,dr.same L,λ H2 dl am ak p d1 d2 f1 f2 f3 f4 f5 f6 k2 z2=>AW⟩);ext xT; show(eC,a8,vz,(jE,k2 _ _ (xp e aw) (s2 _ _ e)),ao,zhA,s1.trans a8);show(eK,g1,L.free f1,g2,L.free f2);show(eK,g3,L.free f3,g5,L.free f5);show(eK,g6,L.free f6,ay,ao _ _ aa);refine SN ln ay
  show(zMz,∃(v4 v5:iM) (so:gJ) (ho:fw) (O:hW) (I:hD),(jH,Z,[jS,MC,some .non,xi,v4,v5],zAz,Pz t H3 Y a dl am ak p d1 d2 (30*i) Ft D ztR so ho O I,LRun ztR Ft O I so ho))
  show(EE,zVX,?_,?_)
  .exact (Av,sR _ _ ao z2 .nil)
  .show(zFF,H3,X,X _ _ aa)
  .rintro i x Z H3 hx (⟨v4,v5,U,ax,⟨O,I,rfl,X,R,r3⟩⟩:121);ext zaJ nm J;obtain⟨hi,ei⟩:=Zi.mp J;have aB:nm∉Ft:=λ y=>by
    have:=xev id (ps:=names) (eP QQ af) hi nm y;exact this ei.symm
   have tk:zJR:=by
    rw[Ja,J];rfl
   show(CC,ai,ah,R.ins,(F8,Y,ai,ah,xha gH));ext Tg;refine xs9 (kT,R,dr.same X,aA,eA,uc JY,qaj,(gX,aB,r3.fit,(gM,a5,aE,eP xgt ar,λ zz as=>ac zz (by rw[<- tk] at as; exact WA as)),λ H4 aq ad a6 aF asked s k4 z4 ra rk fit=>?_));refine HI a6 aF ⟨84,aq,ad,rfl,(jE,k4 _ _ (xp e g1) (xp e g2) (xp e g3) (xp e g5) (xp e g6) (X _ _ e)),?_,?_⟩
   .show(uM,tk,Nat.mul_succ,z4)
   .show(ie,tk,.snoc r3 ra rk fit)
  .rintro Z H3 (⟨v4,v5,U,ax,⟨O,I,rfl,X,R,r3⟩⟩:121);rw[Za,Jz] at R r3;have ab:=X _ _ aa;show(jY,ai,ah,R.ins,a4,aD,R.sg.ins);show(jG,fit,r3.fit,mH ln ab l4 az);refine xby (ft ab) xW az (zg,∃(q:Addr) (s:Seat) (pt:Pt),(zET,U pt.nm=some s)) (λ_ _ _ _ tp ⟨1105,q,s,pt,x1,x2,x3,x4,x5⟩=>(zE,q,s,pt,x1,x2,x3,x4,uO x5)) (wI H4 hx s4) (vC H4 s4 e4 fy)
   .ext B7 nm J;ext oK pt ap qaj;have sm:lv (U pt.nm):=(hZ,fit.dm,decide_eq_true (Zo J))
    rcases (qbr).so.get pt.nm with⟨e0,_⟩|⟨c,qq,ec,dg,hqq⟩
    .ext Bp e0 sm
    ext CG p1 h1;ext zsN p1 KN;ext ul M h1 g5;have aH:DGet H5 d1 Ls (fX qq):=by
     show(L0,kk,hk,fk,(qbr).so);show(eE,q',a1,a2,(fk pt.nm).2 c ec);show(eK,g,qU pt.nm (m9 hk),g',qU pt.nm hk);rcases dg with⟨kv,k,r1,r2,r3⟩|⟨kv,k,b,_,r2,_⟩
     .have e1:k=.inr pt.nm:=by
       cases k with
       | inl i=>cases r2
       | inr x=>show(M0,ZI,(V.str.inj r2).symm)
      subst e1;rcases r1 with r1|⟨_,r1⟩
      .rw [hk] at r1;cases r1;ext eY r3 g
      .ext Bp hk r1
     .cases r2
    refine(oa,Y,ai,M _ _ (s4 _ _ ah),T.c_i,T.n_ck,lkZs,⟨p,_,a4,_,_,rfl,M _ _ (s4 _ _ aD),T.c_aa,T.n_cj,lkSo,d1,.ref qq,rfl,aH,p1,qq,_,_,rfl,rfl,iZ g5,iZ (m9 hqq),eS,(DA,1+2),nB,zYz⟩);exact rS (M.trans (xab lU h2)) (zE p2 c pt J ap ec rfl xh)
   rw[Za] at ly;show(o7,prs,qs,rfl,pl,en,al,xry ly fy);have z4:=R.same s4;show(CC,a0,au,z4.ins,oa Y a0 au T.c_i T.n_cq lkZo ⟨Y,_,a0,_,_,rfl,au,T.c_i,T.n_cr,lkZr,CZ,eQ tp av⟩);show(zsN,tp,[zAY,.ref am,.ref ak]);ext ul M av g5;exact q H5 tp l4 am ak qs prs O I U ax ((zeu).trans M) g5 (m9 e4) (Px M) en al (m9 z4.ow) (m9 z4.rn) r3 (X.free az) g2 g3 ((zeu).free av)
def xe6 {K:Zd}{H:Hp}{l:Addr}{nms:eO} (e:BU (.lst (nms.map V.str))):lE 1 gS (.lst (nms.map DV.str)):=.lst (ft e) (hZ Za Za) λ j x d h c=>by
 rw[Zf,Zg] at h c;ext oK z hz h;ext oK i b c;ext HG hz;exact .str
theorem xjs:∀ l:eO,pls (l.map DV.str)=true
 | []=>rfl
 | _::r=>by
  show (Ev,true,pls (r.map DV.str));rw[xjs r];rfl
def xuj (as bs:eO):(N2,dEq (.lst (as.map DV.str)) (.lst (bs.map DV.str)),as=bs):=xj1 (x:=as) (y:=bs) (xjs as) (xjs bs) (by
 constructor
 .ext zVY
  exact List.map_inj_right (λ a b e=>by injection e) |>.mp h
 .intro h
  rw[h])
noncomputable def prS (p:Pr):Seat:=(vH,kB)
noncomputable def gvB (ss:eF) (names:eO) (prs:fC):Bool:=(hR Xq)&&((hR ((RC).Nodup))&&prs.all λ p=>Xo)
inductive xsf (t:Adr) (vs:eB) (H:Hp) (Q:VK) (_:XK):Prop
 | mk (a ln lp dp do_:Addr) (w h:Nat) (ps:eI) (st ss:eF) (names:eO) (prs:fC) (qs:eV) (e_:vs=[fE,GP,zAM]) (r_:Dr t H a dp do_ w h ps st ss/\zlz/\(fb (fO lp qQ) vb E7 (Xq->∀ p∈prs,(HC,sr gW,zvn,kB,kB<=kO)) (zzn zaR)))
def xso {l:eF}:(l.map xaf).Nodup↔l.Nodup:=by
 rw[Qd,Jk];constructor
 .intro h
  exact h.imp (zx,b G4)
 .intro h
  exact Yc.imp (zx,b (xe7 e)) h
theorem xvd {H:Hp}:∀{ys:eB}{prs:fC},(DD prs.length)->(∀(i:Nat) y,F6->∃ p qa,zPd zhS qa)->∃ qs:eV,zSl/\qs.length=prs.length/\(zOk ((RC).map xaf) (kX zbe)):=by
 intro ys
 induction ys with
 | nil=>exact λ l _=>(rK,[],l,λ i q ks h=>yg)
 | cons y ys ih =>
  intro prs l f;cases prs with
  | nil=>cases l
  | cons p prs =>
   obtain⟨qs,e,z,k⟩:63:=ih (prs:=prs) (by simpa using l) (λ i y h=>by
    show(jb,s,qa,a,b,c,f f7 y xY);exact gU s qa zpJ b c)
   ext jb s qa a b c zwB;have a:p=s:=zpJ
   subst a b;refine(fY,qa::qs,yZ,ip z,fW i q ks x v);cases i with
   | zero =>
    simp at x v;subst x v;exact c
   | succ j=>exact k j q ks (by simpa using x) (by simpa using v)
def ok_b7 (T:eX):FnOk true P w K mg base eW 6 t.f_b7 t.d_b7 zlM (xsf t):=by
 refine T.b7.F.okn (k:=5) sc_b7 eZ (λ cdv A outer s H vs Q E hr h=>?_)
 .obtain ⟨a,ln,lp,dp,ad,w',h',ps,st,ss,names,prs,qs,rfl,_⟩:=h;rfl
 .obtain ⟨a,ln,lp,dp,ad,w',h',ps,st,ss,names,prs,qs,rfl,h⟩:=h;refine⟨_,xk (Bk (Ic (uX (lH Iz [] [] V1 s_b7) zjg zkG E0 oX fj) fG) (xeo))
   (xk (xdh rfl (lH Iz [] [] V1 s_b7) zjg zkG E0 oX (λ_ _ _ _ _=>A9) (j:=3) rfl y0)
   (zvu (Fw (xpi (xb9 hr) rfl rfl T.n_len rfl T.n_set (i3 gV)) zgW) (Ui,xq9 rfl,T.n_all,PyProof.Rows.Boot.«all»,(uX,lH Iz tP [0] V1 s_b7,zjg,zkG,E0,oX,zFw zYu)))),?_⟩
  refine sq3 ?_; intros; ext Fa; obtain⟨dr,ai,Y,pl,aq,ok,q⟩:47:=h;show(En,X,pl.len,aa,(zrH,n<=12),λ h=>UB,mH lp Y l1 ao);refine xby (ft Y) znr ao (Vz,∃ p,FO/\y=TN) zX (wI H2 hx s2) zaS
  .ext zme;exact(zzv,M,m4 J,rS lU (zC O))
  have ey:ys=(prs.map λ p=>gW).map V.str:=by
   show(zbI,zgs ly X,p,O);ext IZ O
  rw[ey] at e2;show(Bu,ac,m4 ai,L,m4 Y,(zdm,_,_,xe6 e2,xe6 ac,Ar))
  .rw [xuj] at c;have c:¬ Xq:=pU
   have g:iK zaR:=by
    unfold gvB;rw[zSs];rfl
   show(h7,g,q,q _ s2)
  .rw [xuj] at c;show(fR,c,Xq,pU,mH lp L l3 am);refine xby (ft L) znr am (zg,∃ p M,(zPd,.ref M,M)) (λ_ _ _ _ tp ⟨1083,p,M,z1,z2,z3⟩=>(gU,p,M,z1,z2,uO z3)) (wI H3 hx s3) (iR ys3 H3 s3 e3 ly3 fy3)
   .ext zme;refine mT M _ (gX,iZ (s3 _ _ (s2 _ _ J)),rfl,rb,eQ q5 af);exact rS (kW af) (jf p q5 O xh)
   rw[Za,X] at ly3;show(sI,as,rfl,al,ak,xvd ly3 fy3,⟨106,l3,as,(RC).map xaf,rfl,ft e3,tt Za Za al,ak,eA,(oN,84,l3,_,rfl,Lj e3,?_)⟩);have ae:(decide (V.int (gk,xec ((RC).map xaf))=V.int (gk,(as.map V.ref).length)))=(hR ((RC).Nodup)):=by
    rw[JO,decide_eq_true_iff,decide_eq_true_iff,<- xso,<- xoo,Za,Za,Za,al];constructor
    .ext zVY
     lia
    .intro h
     rw[h]
   rw[ae];show(eK,U,s2.trans s3,S,vX L);refine K9 C
   .have C:=of_decide_eq_true C;refine mH lp S l5 aj;refine xby (ft S) znr aj (Vz,∃ p,FO/\y=.bl Xo) zX (wI H4 hx s4) (iR ys5 H5 s5 e5 ly5 fy5)
    .ext zme;show(NI,k1,k2,k3,k4,ok c p (Zo O));show(eK,ab,U.trans s4,Z,dr.same ab);show(D4,dx,ah,Z.pic,⟨M,_,rfl,iZ (ab _ _ J),rfl,a,dx,_,rfl,ah,gB,a,dp,ad,w',h',ps,st,fK,vH,kB,rfl,Z.pic,Z.sts,k1,k2,k3,k4,eQ H6 s6⟩);refine rS s6 (nQ p O);have e:decide ((vH,kB)∈st)=(hR qce):=by
      ext zqF decide_eq_true_iff;exact dr.pm.mem_iff.symm
     rw[e];rfl
    have ap:ys5=(prs.map λ p=>Xo).map V.bl:=by
     show(zpp,zgs ly5 X);show(oK,p,O,fy5 i y hy);ext IZ O
    show(HL,ap,e5,(BG,l5,_,ft e5,?_));have g:zaR=(prs.map λ p=>Xo).all id:=by
     unfold gvB;rw[zbf,decide_eq_true C,List.all_map];rfl
    show(sL,g,q _ (U.trans s5))
   .have g:zaR=false:=by
     unfold gvB;rw[Jw.mpr C];simp
    show(h7,g,q,q _ U)
def xp0 {a b c:Seat} (h:zAE) (k:xbz b c):xbz a c:=by
 unfold xbz at *;rcases h with⟨h1,h2⟩|⟨h1,h2⟩<;>rcases k with⟨k1,k2⟩|⟨k1,k2⟩
 .ext DS h1 k2
 .show(DS,h1,iz k1 h2)
 .show(DS,eP h1 k1,k2)
 .show(iY,(zh,h1.trans k1))
def xps {a b:Seat} (h:Hu):zAE\/xbz b a:=by
 ext jY a1 a2 a j f b;unfold xbz;cases a1<;>cases j
 .have:a2≠f:=λ e=>h G4;rcases WQ this with z|z
  .ext Lx zjt
  .ext Sb zjt
 .ext zfD wT
 .ext Se wT
 .have:a2≠f:=λ e=>h G4;rcases WQ this with z|z
  .ext Lx zjt
  .ext Sb zjt
theorem xi7:∀{ss:eF}{x:Seat},ss.Pairwise xbz->x∉ss->∃ srt:eF,srt.Perm (x::ss)/\Pk
 | [],x,_,_=>(eG,[x],vm,List.pairwise_singleton _ _)
 | y::r,x,h,nx=>by
  rw[Yq] at h;rw[Zr,not_or] at nx;by_cases c:xbz x y
  .refine (pR,x::y::r,vm,Yq.mpr ⟨Ay,Yq.mpr h⟩);rcases zyC with rfl|hz
   .exact c
   .exact xp0 c (h.1 z hz)
  .show(on,srt,j,lt,xi7 jX nx.2);show(jV,y::srt,(j.cons y).trans (Jy.swap _ _ _),Yq.mpr ⟨Ay,lt⟩);rcases Zr.mp (j.mem_iff.mp hz) with rfl|hz
   .exact (xps nx.1).resolve_left c
   .exact h.1 z hz
theorem xfy:∀{st:eF},st.Nodup->∃ srt:eF,srt.Perm st/\Pk
 | [],_=>eG [] ME .nil
 | x::r,h=>by
  obtain⟨B,A⟩:=ZM.mp h;show(eE,C,b,y,xfy A);show(pZ,j,q,v,xi7 y (λ z=>B (b.mem_iff.mp z)),j,q.trans (Jy.cons _ b),v)
def xvn {c s:Int} (h:zAt) {n:Nat} (hn:n<=12):((Oo).map λ(k:Nat)=>ltr zWn).Nodup:=by
 rw[JE,Jk];show(zyP,λ{i j} y v x e=>?_,List.pairwise_lt_range (n:=n));rw[ZF] at y v;show(mq,A,xvh (Da).1 (Da).1 e,q,j<12,eA)
 show(zab,j=i+d,j-i)
 show(eC,B,0<d/\d<12,eA,b,∀ z∈xfb,z=1\/(qE z 3 z 5 (qE z 7 z 9 (qE z 11 z 15 (qE z 17 z 19 (qE,z,21,z,23,z=25))))),eJ)
 rw[Int.natCast_add,QR] at A;rcases b s h with rfl|rfl|rfl|rfl|rfl|rfl|rfl|rfl|rfl|rfl|rfl|rfl<;>lia
def xx2 (k:Bool):∃ x:Int,(yx [V.int 6,V.int 12] (mG k 1 0) G9)/\Oc/\x<=12:=by
 cases k
 .exact rK 6 eJ eJ
 .exact rK 12 eJ eJ
def xy3 (m:Int):∃ x:Str,(yx [qbq,ztc,zZB,ztc] Vf qh)/\(qE,x,"left",x,"right",x="both"):=by
 obtain⟨f,b⟩:=Ct m 4;have:Vf=0\/(qE,Vf,1,Vf,2,Vf=3):=eA
 rcases this with e|e|e|e<;>rw[e]
 .exact jw "left" jO
 .exact jw "both" zqz
 .exact (jw,"right",zgN rfl)
 .exact jw "both" zqz
inductive xwj (K:Zd) (t:Adr) (vs:eB) (H:Hp) (Q:VK) (_:XK):Prop
 | mk (sc:Addr) (ns:gK) (e_:vs=[.ref sc]) (r_:SqL K H sc zdi/\∀(H':Hp) (a dp do_:Addr) (w h:Nat) (ps:eI) (st ss:eF),gu->(lX,TK,gz do_,Dr t H' a dp do_ w h ps st ss,wA,fE))
def ok_ak (T:eX):FnOk true P w K mg base eW 6 t.f_ak t.d_ak E1 (xwj K t):=by
 refine T.ak.F.okn (k:=5) sc_ak eZ (λ cdv A outer s H vs Q E hr h=>?_)
 .ext wt Y ns
 .ext wu Y ns;refine⟨_,xk (xcn (pC (ok_cd T) hr T.cd.g T.cd.F.kp T.cd.b (i3 zK)) (xa4 rfl (tQ 1 sc_ak.nd 2 sc_ak.nd)))
   (xk (yA 3 (xao (xrv rfl) rfl T.n_min boot_min (kH (zkb (hF (xt) (xt)) (zJT (Fw (sC zK) (xt)))) fG fZ)))
   (xk (yA 4 (zdx (DE zK) gV))
   (xk (yA 5 (pC (ok_b8 T) hr T.b8.g T.b8.F.kp T.b8.b (hF zK ia)))
   (xk (zFk 6 zK fG)
   (xk (zFk 7 (DE zK) fZ)
   (xk (yA 8 (zFv As))
   (xk (xbu ZS rfl (xf9 rfl T.n_range TF) (pN 9 sc_ak.nd) (xk (yA 10 (zlf zK BL))
   (xk (yA 11 (zdx (DE Bw) fZ))
   (xk (yA 12 (uQ (pv 11) (x9 xa0 (DE Bw) (x9 xfr (GU fZ) (pv 11)))))
   (xk (xcm (xan (Ky Bw) (xk (yA 11 (xt))
   (xq (pS 12 sc_ak.nd fZ))) (xac)))
   (zId zv (zka (sE iO BL) (sE kI BL) (sE lP BL) (zka (zkb (xg (xaj) (xg (xaj) Rp)) (sC (DE Bw))) (pv 11) (pv 12) (xj)))))))))
   (xk (yA 13 (uQ (xt) (sC zK)))
   (xk (tL (xkt rfl T.n_range (hF (xt) (GU fZ))) 14 sc_ak.nd (xq (tL (xay (xbp Rp)) 15 sc_ak.nd (xq (xcm (sS (N1 (sC (zlf zK (uQ (zjX (pv 14)) (zJT (Fw (pv 15) (xaj)))))) (pv 13)) (zHf zv (pv 15) (pv 14))))))))
   (yr 8)))))))))),?_⟩
  refine sq11 ?_; intros; ext qL J;show(gE,EM 0 J c0 (jw,c0,λ w ph H1 p1 w1 w2 h1 h2 s1 hp1=>oO p1 hp1),uF q0 aU);show(fR,s2,mw (iE H1 q0 [.int 6,.int 12]),s1.trans (xab lU aU),zvq c1 (jw,mJ 8,.inr GO));show(sI,mx,bd,bj,bi,xx2 (decide (V.int (c1 % 8)=V.int 3)),(iI,q0,_,_,.int mx,mS zAG bd (sP,102,_,fW m m1 m2 m3 mo)));show(fR,mp,1<=m,(by rcases mo with rfl|rfl|rfl<;>lia),(zvq,M,nQ j6 (BQ m)));have bm:=xba (M / 8) (j9,0<m);obtain⟨n,hn⟩:∃ n:Nat,zbz=pF:=(zh,(zbz).toNat)
  show(fR,n1,BB n pF m,eA,zvq ax (gF,ax,n,(zcF [V.int ax,zfZ]),eA,iR st H2 ln ms s3 aZ));show(gE,(EM,2,(zup).seqL J,c2,(hV,c2,w,n,(zcF [V.int c2,V.int w,zfZ]),eA,eA,λ xs H3 lx aC a7 bx s4 aY=>?_)),(EM,2,((zup).trans s4).seqL J,aP,⟨j6,aP / 7,ph,n,(zcF [V.int (aP / 7),V.int ph,zfZ]),eA,eA,λ ys H4 ly aB a6 bg s5 aX=>?_⟩));refine (λ a dx hx aJ ne=>iI a dx w ph (jx,xh,eA,eA,eA,eA,λ H5 dp do_ hdp5 hdo5 s6 pic5 hdt5=>AW));ext xT; have k5:Same H4 H5:=zMk aJ;have a4:mw H4:=((zup).trans s4).trans s5;have fr:∀ z,(Hf (upd H4 dx (.own a)) a zse z)->(gz z):=λz hz=>by
   cases e:H z with
   | none=>rfl
   | some u =>
    have e4:=a4 _ _ e;rw[kG e4 hx,kG e4 aJ,e4] at hz;cases hz
  show(eK,aN,fr _ hdp5,aO,fr _ hdo5);have a0:My:=a4.trans k5;obtain⟨D,aa⟩:∃ D:eO,D=(Oo).map λ(k:Nat)=>ltr ((ax+st*y9) % 26):=lA
  show(eC,aE,D.length=n,AF aa,a9,D.Nodup,(eP,aa,xvn ms eA))
  have aF:∀ z∈D,(sr z):=λz hz=>by
   rw[aa] at hz;show(S3,k,rfl,Zj.mp hz);exact xmh (Da).1 (Da).2
  have aH:tX ln zaw:=by
   rw[aZ,aa,ZG];rfl
  refine mY pF (zcF [zfZ]) eA eA ?_;refine xf8 (Pv:=λ i Z H6=>∃(v9 af ae ad am O I:iM) (ps:eI),Z=[xi,Nd,zhw,zjr,zhv,MC,zhK,zhM,jS,v9,af,ae,ad,am,O,I]/\(mw H6)/\H6 ln=some zaw/\H6 lx=some (.lst (xs.map V.int))/\H6 ly=some (.lst (ys.map V.int)) /\
   (zf H6 w ph)/\H6 do_=some DH/\ps.length=i/\ps.map (·.nm)=D.take i/\ps.map (·.x)=xs.take i/\ps.map (·.y)=ys.take i/\(∀ p∈ps,PtOk w ph p)) ?_ ?_ ?_
  .exact Av ⟨126,_,_,_,[],rfl,a0,k5 _ _ (s5 _ _ (s4 _ _ aH)),k5 _ _ (s5 _ _ aY),k5 _ _ aX,(kT,pic5,hdt5,rfl,rfl,rfl,rfl,zp (nomatch hp))⟩
  .rintro i Z H6 hi (⟨v9,af,ae,ad,⟨am,O,I,ps,rfl,s7,g1,g2,g3,X,ab,pl,pn,px,py,ao⟩⟩:121);refine gn ?_; refine sq5 ?_; intros; have bo:lS:=zSv
   obtain⟨bf,aW⟩:=X.ins;show(gE,(EM,3,s7.seqL J,c3,(mT,c3,0+jT,fJ m0 m00 m01)),nQ j6 (BQ ph));have b1:=xba (m0 / 6) (j9,0<ph);show(kR,j6,BQ zwI);have b2:=xba (m0 / 128) (j9,0<zwI)
   let Pm (Z:L2.St) (H7:Hp):Prop:=H6=H7/\∃ lo hi:Int,(fS,1<=lo,ziW,hi<=ph,Z=[xi,Nd,zhw,zjr,zhv,MC,zhK,zhM,jS,jN (0+jT),jN m0,jN lo,jN hi,am,O,I])
   show(kR,Pm,?_)
   .show(IM,BE zjm rfl _ zqT)
    .ext zbW; show(fc,rfl,qI 1 ph eA eA eA rfl)
    .exact iW (qI,zph,zph+m0 / 128 % zwI,eA,eA,eA,rfl)
   rintro _ _ ⟨rfl,lo,hi,aD,as,aI,rfl⟩;have at_:∀{α:Type} (zs:i7) (f:Vh) (hz:zs.length=n),atI (zs.map f) (0+jT)=some (f (zs[i]' eA)):=λ{α} zs f hz=>by
    rw[Int.zero_add];exact xdd (On,Zc eA)
   show(eE,sd,bb,aG,xy3 (m0 / 2));have aA:(zyc,p.nm≠D[i]' eA,p.x≠zyw,p.y≠zyv):=λp hp=>by
    have no:∀{α:Type}{zs:i7} (hz:zuC),zs.Nodup->∀ z∈zs.take i,z≠zs[i]:=λ{α}{zs} hz nd z hm e=>by
     show(lM,h1,YF i zs,YV hz);rw[<- h1,ZT] at nd;exact (xH).2 z hm _ Zn e
    refine(eG,no _ a9 _ ?_,no _ a7 _ ?_,no _ a6 _ ?_)
    .rw [<- pn]; ext zb zhl
    .rw [<- px]; ext zb zhl
    .rw [<- py]; ext zb zhl
   show(Bu,ar,bx zyw Of,aq,bg zyv Of,⟨HY bf,aW,gB,ln,_,_,_,rfl,rfl,ft g1,at_ D V.str aE,lx,_,_,_,rfl,rfl,ft g2,at_ xs V.int aC,ly,_,_,_,rfl,rfl,ft g3,at_ ys V.int aB,(sM leS4),eQ q3 aT⟩);have s8:Same H6 (iE H6 q3 [.str "left",wG,zda,wG]):=kW aT;show(gE,⟨j6,(mJ 4),q3,_,_,ki,rfl,rfl,zAG,bb,?_⟩,⟨a,dp,do_,w,ph,ps,D[i]' eA,zyw,zyv,sd,lo,hi,jC,rfl,(kT,lN s8 X,C7,aF _ Of,ar.1,ar.2,aq.1,(HZ,aq.2,aG,aD,as,aI,aA,eA,fJ H7 k7 U))⟩);show(jL,kvs,hk,X.pl)
   have tk:∀{α:Type}{zs:i7} (hz:zuC),zs.take f7=zs.take i++[zs[i]]:=λ{α}{zs} hz=>by
    rw[Ja,Zc hz];rfl
   refine Av ⟨126,_,_,_,_,rfl,(jE,k7 b u (xp e aN) (s8 _ _ (s7 b u e))),X1 g1,X1 g2,X1 g3,(kT,U,X1 ab,ip pl,?_,?_,?_,Gz)⟩
   .rw [Zv,pn,tk eA]; rfl
   .rw [Zv,px,tk eA]; rfl
   .rw [Zv,py,tk eA]; rfl
   .rcases Z3.mp hp with z|z
    .exact ao p z
    .rw [TH];exact(iQ,aF _ Of,ar.1,ar.2,aq.1,aq.2,aG,aD,as,aI)
  .rintro Z H6 (⟨v9,af,ae,ad,⟨am,O,I,ps,rfl,s7,g1,g2,g3,X,ab,pl,pn,px,py,ao⟩⟩:121);have bh:ps.length=n:=by simpa using pl
   have au:∀{α:Type}{zs:i7},zs.length=n->zs.take ((pF).toNat)=zs:=λ{α}{zs} hz=>by
    rw[JU eA]
   rw[au aE] at pn;rw[au aC] at px;show(HL,au aB,py,(EM,4,s7.seqL J,c4,jF (mJ 5)));ext xT; refine(uE,1,ph+1,zTc,?_);refine xf8 (Pv:=λ j Z H7=>∃(O I:iM) (st:eF),Z=[xi,Nd,zhw,zjr,zhv,MC,zhK,zhM,jS,v9,af,ae,ad,zRI,O,I]/\(mw H7)/\H7 ln=some zaw/\H7 lx=some (.lst (xs.map V.int))/\H7 ly=some (.lst (ys.map V.int)) /\
    (zLg,H7,2*j,∀ s∈st,(BB nU nU DX))) ?_ ?_ ?_
   .exact ⟨106,_,_,[],rfl,s7,g1,g2,g3,(gX,X,mY [] ab rfl YK eJ,f8,λ s J=>(nomatch J))⟩
   .rintro j Z H7 hj (⟨O,I,st,rfl,aw,aM,aL,aK,⟨U,ai,az,aj⟩⟩:106);refine gn ?_; refine fo ?_; intros; show(fR,bn,(gk j)<ph,eA,uF le ba);generalize eu:iE H7 le [zpE,zoV]=H8;ext ul s8 ba g8;refine SN le g8;refine xce (xs:=[zpE,zoV]) (Pv:=λi Z H9=>∃(I:iM) (st:eF),Z=[xi,Nd,zhw,zjr,zhv,MC,zhK,zhM,jS,v9,af,ae,ad,zRI,jN HS,I]/\(mw H9)/\(Df ln zaw)/\(Df lx (.lst (xs.map V.int)))/\(Df ly (.lst (ys.map V.int)))/\(Df le (.lst [zpE,zoV])) /\
     (zLg,H9,2*j+i,zEl i)) ?_ ?_ ?_ ?_
    .exact (qJ,_,st,rfl,aw.trans s8,s8 _ _ aM,s8 _ _ aL,s8 _ _ aK,(iu,g8,lN s8 U,ai.same s8,az,λ s J=>⟨(aj s J).1,.inl (aj s J).2⟩))
    .rintro i Z H9 _ (⟨_,st,rfl,_,_,_,_,⟨e9,_⟩⟩:86);exact SqL.of e9
    .rintro i x Z H9 hx (⟨I,st,rfl,s9,e1,e2,e3,⟨e9,R,ah,av,ac⟩⟩:86);have hi:i<2:=by
      ext Hi zAd
     obtain⟨sb,bc,bl⟩:∃ sb:Bool,x=(Gw sb)/\zzT=i:=by
      have:i=0\/i=1:=eA
      rcases this with e|e<;>subst e
      .exact (jv,true,(zwY).symm)
      .exact (jv,false,(zwY).symm)
     subst bc;obtain⟨be,aV⟩:=R.ins;have up:zEl f7:=λ s J=>⟨(ac s J).1,by
      rcases (ac s J).2 with z|⟨z1,z2⟩
      .ext je z
      .show(iY,⟨z1,Nat.lt_succ_of_lt z2⟩)⟩
     refine hB ?_ Uw;ext ztC; show(gE,(EM,4,s9.seqL J,c5,(jw,zhG,.inr (iI,_,rfl,c5,_,λ mm _ _=>?_))),(mT,mJ 6,_,ite2 DU (λ y=>(qJ,_,st,rfl,s9,e1,e2,e3,iu e9 R ah eA up))));have aR:(sb,HS)∉st:=λ hm=>by
      rcases (ac _ hm).2 with z|⟨_,z⟩
      .have z:HS<=DX:=z
       lia
      .have z:zzT<i:=z
       lia
     show(jL,ko,ap,id ah);show(gE,⟨a,be,_,rfl,aV,gB,a,dp,do_,w,ph,ps,st,sb,HS,rfl,R,ah,eA,eA,aR,eA,ib bp ak a5 ay⟩,(qJ,_,st++[(sb,HS)],rfl,(NM,ak _ _ (xp e aO) (s9 _ _ e)),zdp e1,zdp e2,zdp e3,(iu,zdp e9,a5,ay,Le,eQ s J)));rcases Z3.mp J with z|z
     .exact up s z
     .rw [TH];show(fc,(yy,Bi<=HS),.inr (iW (yy,zzT<f7)))
    .rintro Z H9 (⟨I,st,rfl,s9,e1,e2,e3,⟨e9,R,ah,av,ac⟩⟩:86);refine⟨106,_,_,st,rfl,s9,e1,e2,e3,(gX,R,ah,?_,λ s J=>(jF,(ac s J).1))⟩
     .have av:st.length<=2*j+2:=av
      lia
     .rcases (ac s J).2 with z|⟨z,_⟩<;>lia
   .rintro Z H7 (⟨O,I,st,rfl,aw,aM,aL,aK,⟨U,ai,az,aj⟩⟩:106);show(wQ,w',Yi (j9,0<=w));show(wQ,h',Yi (j9,0<=ph));show(eC,a8,st.Nodup,ux ai.choose_spec,aS,st.length<=32,zB ai.choose_spec);show(eE,aQ,pm,lt,xfy a8);refine (q H7 a dp do_ w' h' ps st aQ aw aN aO (gY U ai (eG,a8,aS,λ s J=>(jF,(aj s J).1)) pm lt (zp,(ao p hp).nm)) (gF,ao,eP pn a9,eP px a7,eP py a6,eA));show(iP,(aj s J).2)
noncomputable def prD (p:Pr):DV:=.tup zQF
def x0l {K:Zd}{H:Hp}{q:Addr}{p:Pr} (h:Kn p):lE 1 jc (prD p):=.tup zgg rfl (xlq (xs:=prV p) rfl)
def PrsL.dv {K:Zd}{H:Hp}{ps:fC}{qs:eV} (h:KM) {l:Addr} (e:AV):lE 2 gS (zeW prD):=by
 ext zkT;ext zrw;ext HG y;exact x0l z
inductive xlh (K:Zd) (vs:eB) (H:Hp) (Q:VK) (_:XK):Prop
 | mk (a:Addr) (ns:gK) (e_:D6) (r_:zcU/\ns.length<=63/\∀ H',zu true H')
theorem xnx {ps:eI}{w h:Int}{ss:eF}{prs:fC} (nx:(ps.map (·.x)).Nodup) (g:LT):∀ k,(yc).map (·.1)=prs.map (·.1)/\((yc).map (·.2)).Perm (prs.map (·.2))/\totI w yc<=CH
 | 0=>Eg vm vU
 | iw=>by
  show(nF,q,j,K,xnx (ss:=ss) nx g k);have L:=znS;show (Fp).map (·.1)=_/\((Fp).map (·.2)).Perm _/\totI w Fp<=_;cases e:zZs with
  | none =>
   have v:Fp=yc:=by
    unfold nxtP;rw[e]
   rw[v];ext fU q j K
  | some tr =>
   obtain⟨A,J,B,I,⟨C,c,H,O,Q,M,v,D,g',b⟩⟩:121:=xmb nx L e;show(kR,?_,?_)
   .rw [<- q,D,H];simp
   .refine Jy.trans ?_ j;rw[D,H];simp only[Zv,Zs];ext zVB;exact ((Qy.cons I.2).trans (Jy.swap _ _ _)).trans (Qy.symm.cons J.2)
   .rcases b with z|⟨_,z,_⟩<;>lia
def xs2 {w:Nat}{ps:eI}{srt:eF} (nd:(ps.map (·.nm)).Nodup) {p:Pt} (hp:M7) {s:Seat}:s∈xbg wB p.nm↔s∈srt/\zgP=true:=by
 rw[xgt];unfold xbj;show(eY,xh4 nd hp,ZV)
noncomputable def MayA (srt:eF) (prs:fC):Prop:=∀ p∈prs,jJ∈srt/\xci fK jJ=true
theorem xrq {ps:eI}{w h:Int}{ss:eF}{prs:fC} (nx:(ps.map (·.x)).Nodup) (g:LT) (m:MayA ss prs):∀ k,MayA ss yc
 | 0=>m
 | iw=>by
  show(eK,v,xrq nx g m k,y,znS);show MayA ss Fp;generalize yc=b at *;unfold nxtP;split
  .rename_i tr ht
   obtain⟨A,q,B,j,⟨C,c,e,z,S⟩⟩:121:=xjm (List.mem_of_head? ht);have O:q∈b:=DQ
   have M:j∈b:=DQ
   have D:excB ss q j=true:=by
    unfold canO at z;split at z
    .ext jd
    .ext mB
   unfold excB mayB at D;obtain⟨x1,x2⟩:=Nh▸D;show(jY,K,J,Nh▸x1,I,H,Nh▸x2);subst S;show(eC,R,b.find? (nmF (kY q))=some q,xh3 y.nn O,Q,b.find? (nmF (kY j))=some j,xh3 y.nn M);simp only[R,Q];rw[(xq6 y.nn e).1];intro p P;have L:p∈A\/p=(rT,j.2)\/p∈B\/p=(j.1,q.2)\/p∈C:=zUo
   rcases L with k|k|k|k|k
   .ext znv
   .rw [k];show(fc,of_decide_eq_true K,J)
   .ext znv
   .rw [k];show(fc,zsy I,H)
   .ext znv
  .exact v
inductive x0m (t:Adr) (vs:eB) (H:Hp) (Q:VK) (_:XK):Prop
 | mk (a dp do_:Addr) (w h:Nat) (ps:eI) (ss srt:eF) (e_:D6) (r_:Dr t H a dp do_ w h ps ss srt/\wA/\rM/\rL/\∀ H' tp ln qs prs cs so ho,gu->(kf tp (yC GP CH))->(kf ln qQ)->zqZ->FA->prs.map (·.1.nm)=pV->(vq,zvs,zcV,(zgx oH)=[],zib))
def xnq {ps:eI}{cs:iD}:∀ nm∈pV,zsl:=λ nm b=>by
 show(eE,p,a,e,Zj.mp (ZV.mp b).1);ext fU p a e
def xkj {room:pq}{ns:eO}{so:gJ}{ho:fw}{cs:iD} (r:AS) (nd:ns.Nodup):∀ z∈xbs ns cs,(lv (so z)):=λz hz=>by
 have a:=ZV.mp hz;rw[r.dom nd,decide_eq_true a.1,JN];exact a.2
def xka {w h:Nat}{ps:eI}{ss srt:eF}{names:eO}{prs:fC}{own:hW}{rent:hD}{so:gJ}{ho:fw} (pok:wA) (sok:zes) (pm:RH) (en:prs.map (·.1.nm)=names) (nnd:names.Nodup) (n12:Cg) (al:zLj) (run:qab so ho):zvs/\zcV:=by
 have mt:=run.fit.mt;have q:zcV:=λ p c=>by
  obtain⟨a1,a2⟩:=al p c;exact (xs2 pok.nn a1).mp (mt.rm _ _ a2)
 refine⟨(fh,BR c,eP en nnd,?_,?_),q⟩
 .obtain ⟨a1,a2⟩:=al p c;show(eK,o,pok.ok _ a1,b,sok.2.2 jJ (pm.mem_iff.mp (q p c).1));show(zRB,xh4 pok.nn a1,b.1,b.2)
 .rw [<- en] at nnd;rw[Qd,Jk] at nnd ⊢;exact nnd.imp_of_mem λ{a b} B A z e=>z (mt.inj (s:=b.2) (e▸(al a B).2) (al b A).2)
 .show(FR,Em en,Za)
  lia
def xkh (T:eX):FnOk true P w K mg base eW 10 t.f_answer t.d_answer tP (x0m t):=by
 refine T.B_answer.F.okn (k:=9) xed eZ (λ cdv A outer s H vs Q E hr h=>?_)
 .obtain ⟨a,Z,v,y,h',ps,ss,C,rfl,_⟩:=h;rfl
 .obtain ⟨a,Z,v,y,h',ps,ss,C,rfl,h⟩:=h;refine⟨_,xk (RR (pC (xll T) hr T.B_least.g T.B_least.F.kp T.B_least.b (lO zDd)) 1 xed.nd 2 xed.nd 3 xed.nd)
   (xk (xcn (pC (xmv T) hr T.B_uncrossed.g T.B_uncrossed.F.kp T.B_uncrossed.b (lO fG)) (xa4 rfl (tQ 4 xed.nd 5 xed.nd)))
   (yo (hF ia (zDX ia)))),?_⟩
  refine sq3 ?_; intros; ext yL M j aj ar q h;show(fR,J,LZ,j.nn,⟨a,Z,v,y,h',ps,ss,C,rfl,M,J,zMf D⟩);have Y:=M.same s1;have knd:(pV).Nodup:=Yc.filter _ J;have kl:Sz pV:=by
   show(zNm,j.le)
  show(gE,⟨a,l1,Z,v,y,h',ps,ss,C,pV,rfl,(HZ,Y,j,e1,xnq,knd,kl,(gM,so,ho,D.mt,xkj D J),λ H2 tp lp av au qs prs ao ai am aq s2 ac ae pl en al ow rn O _ _ _ _=>?_)⟩,oO tp ac);have L:=Y.same s2;obtain⟨gp,my⟩:=xka j M.ok M.pm en knd kl al O;have ab:MayA ss prs:=zp ⟨M.pm.mem_iff.mp (my p hp).1,(my p hp).2⟩
  show(gE,⟨a,Z,v,lp,y,h',ps,ss,prs,qs,rfl,(kT,L.pic,L.sts,ae,pl,gp,j.nx,λ H3 aa ln ls n R sq s3 f3 g3 e3 S as ak ne I cn ap=>?_)⟩,oO aa g3);have ah:=L.same s3;show(gE,⟨a,Z,v,ln,y,h',ps,_,R,rfl,(jx,ah.pic,e3,S,(I n).ok,(I n).le,eQ H4 s4)⟩,uF qt ad);show(nF,k1,k2,k3,xnx (ss:=ss) j.nx gp n);show(mq,X,xrq j.nx gp ab n,U,MayA C zjo,zp ⟨M.pm.mem_iff.mpr (X p hp).1,(X p hp).2⟩)
  have af:(zjo).map (·.1.nm)=pV:=by
   rw[<- en];have z:=congrArg (List.map qaV) k1;ext C5 ZG ZG
  show(uG,sf,Same H3 (N3 H4 qt GP (totI y zjo)),s4.trans (xab lU ad),q _ qt ln R zjo cs so ho (((K1).trans s3).trans sf) xh (sf _ _ e3) (S.keep (Same.tups sf)) D af (I n) U cn)
noncomputable def xhu (w h:Nat) (ps:eI) (ss srt:eF) (prs:fC):Prop:=∃ cs so ho,FA/\prs.map (·.1.nm)=pV/\zvs/\zcV/\(zgx oH)=[]
noncomputable def nowP (ps:eI) (p:Pr):Pr:=((znw gW).getD fK,jJ)
theorem xj2 {ps:eI} (p:Pr):(kY zwK)=gW:=by
 unfold nowP;cases e:znw gW with
 | none=>rfl
 | some z=>simpa using QC e
theorem PrsL.now {H:Hp}{ps:eI}{prs:fC}{qs:eV} (h:vb):PrsL H (prs.map (nowP ps)) qs:=by
 induction h with
 | nil=>ext mj
 | @cons p q prs qs h _ ih =>
  ext zuV;unfold prV at h ⊢;ext eY xj2 h
def xu6 {ps:eI} (nd:LZ) {p:Pr} (h:zzI):(zqB,kY zwK,(zwK).1):=by
 rw[xj2];show(eE,z,hz,e,Zj.mp h);show(lM,f,xh4 nd hz,e);unfold nowP;rw[f];rfl
inductive xvy (t:Adr) (vs:eB) (H:Hp) (Q:VK) (_:XK):Prop
 | mk (a lp dp do_:Addr) (w h:Nat) (ps:eI) (ss srt:eF) (prs:fC) (qs:eV) (e_:xE zAM) (r_:Dr t H a dp do_ w h ps ss srt/\wA/\(fb,rM,rL,fO lp qQ,vb,E7/\zKO/\∀ H' b,gu->(DN->∃ prs,zqZ/\znm)->(zu b H')))
noncomputable def mvB (prs0:fC) (p:Pr):Bool:=((prs0.find? λ r=>i9 Nf gW).map λ r=>!(i9 r.2 jJ)).getD false
inductive xsm (vs:eB) (H:Hp) (Q:VK) (_:XK):Prop
 | mk (lb ln:Addr) (prs0 prs:fC) (qs0 qs:eV) (e_:vs=[.ref lb,GP]) (r_:(fO lb (.lst (qs0.map V.ref)))/\PrsL H prs0 qs0/\(prs0.map (·.1.nm)).Nodup/\(fb,prs0.length<=12,fO ln qQ,vb,E7,∀ H' l ys,lX gu qg zZI (sY ziq) gS))
def Sd.no {H:Hp}{prs:fC}{kvs:gD} (h:qat) {nm:Str} (e:prs.find? (λ r=>i9 Nf nm)=none):zhx:=by
 have k:=h.keys;refine xin (iy m);rw[k] at m;show(eE,p,a,b,Zj.mp m);have:=Jh.mp e p a;simp at this;exact this (ZI.inj b)
def ok_b4 (T:eX):FnOk true P w K mg base eW 10 t.f_b4 t.d_b4 nD (xvy t):=by
 refine T.b4.F.okn (k:=9) sc_b4 eZ (λ cdv A outer s H vs Q E hr h=>?_)
 .obtain ⟨a,lp,dp,I,R,h',ps,ss,L,C,qs,rfl,_⟩:=h;rfl
 .obtain ⟨a,lp,dp,I,R,h',ps,ss,L,C,qs,rfl,h⟩:=h;refine⟨_,xk (pS 2 sc_b4.nd zDd)
   (xk (Bk (GX (pC (ok_b7 T) hr T.b7.g T.b7.F.kp T.b7.b (kH fj fZ fG))) (xeo))
   (xk (VC (pC (xll T) hr T.B_least.g T.B_least.F.kp T.B_least.b (lO fZ)) sc_b4.nd)
   (zvu (Fw (pC (xfl T) hr T.B_total.g T.B_total.F.kp T.B_total.b (lO fG)) (zDX gV)) (xdl xlx (pC (xeg T) hr T.B_exchangeable.g T.B_exchangeable.F.kp T.B_exchangeable.b (lO fG)) (xdi) (xal _))))),?_⟩
  refine sq4 ?_; intros; obtain⟨Y,S,ax,a5,ad,ar,⟨D,ai,q⟩⟩:47:=h;have X:LZ:=S.nn;have pl:=ar.now (ps:=ps);have J:∀ p∈zbs,(BB kB kB mO):=λ p O=>by
   ext nE p0 ak O;exact ai p0 ak
  have ac:∀ p∈zbs,zzI->zvn:=λ p O hn=>by
   ext nE p0 ak O;rw[xj2] at hn;exact xu6 X hn
  have D:Sz zbs:=pI D
  revert pl J ac D;generalize zbs=prs;intro pl J ac D;refine⟨a,dp,I,R,h',ps,ss,L,rfl,Y,X,zMf ab⟩;ext zmy; have knd:(pV).Nodup:=Yc.filter _ X;have kl:Sz pV:=by
   show(zNm,S.le)
  have aj:prs.map (λ p=>gW)=pV->(zar zjC mO):=λ en p O=>by
   have hn:zzI:=by
    have:gW∈pV:=qbt en (zC O)
    exact (ZV.mp this).1
   show(eK,f,ac p O hn,o,S.ok _ (Je f));show(zRB,f,(J p O).1,(J p O).2)
  refine⟨a,l1,lp,dp,I,R,h',ps,ss,L,pV,prs,qs,rfl,(kT,Y.same s1,e1,BT ad,Px s1,D,fJ en p O,λ H2 s2=>NJ (λ c=>q _ false K1 nB) vM)⟩
  .have o:=aj en p O;exact gX o.nm o.fd o.r1 o.r2
  have gv:gvB L pV prs=true:=pU
  unfold gvB at gv;rw[Z1,Z1,decide_eq_true_iff,decide_eq_true_iff,YU] at gv;ext nF g1 g2 g3 gv;have ok:=aj g1;have my:MayA L prs:=λ p O=>by
   have z:=g3 p O;ext C5 Z1 decide_eq_true_iff
  have gp:zko zjC mO:=(fh,ok,eP g1 knd,g2,D)
  show(zbZ,af,⟨a,l1,dp,I,R,h',ps,ss,L,pV,rfl,(HZ,Y.same af,S,m4 e1,xnq,knd,kl,(gM,so,ho,ab.mt,xkj ab X),λ H3 tp as a7 a6 ap Z az aw ay a4 s3 au am aq av al ow rn ah _ _ _ _=>oO tp au)⟩);have U:=af.trans s3;show(CC,ao,a0,xka S Y.ok Y.pm av knd kl al ah,⟨a,dp,I,lp,R,h',ps,prs,qs,rfl,(jx,(Y.same U).pic,U _ _ ad,Px U,ok,D,eQ H4 s4)⟩);have ae:=U.trans s4;refine⟨a,dp,I,as,R,h',ps,Z,ap,rfl,(jx,(Y.same ae).pic,oP am,aq.keep (Same.tups s4),ao.ok,ao.le,eQ H5 s5)⟩;have M:=ae.trans s5;refine(o8,ite2 vM (λ c=>q _ false M nB));show(zy,eT,totI zjC prs,totI zjC Z,V.int.inj (of_decide_eq_true c),⟨a,dp,I,lp,R,h',ps,ss,prs,qs,rfl,(jx,(Y.same M).pic,(Y.same M).sts,m9 ad,Px M,ok,ib H6 v s6 tv)⟩);have aa:=M.trans s6;rcases tv with⟨e,rfl⟩|⟨c,q6,qc,e,rfl,_⟩
  .refine (iW,q _ _ aa λ_=>(pR,prs,Px aa,ztw ab g1 ?_));exact List.head?_eq_none_iff.mp e
  .refine (iW,q _ _ aa yR);simp at z
def ok_bk (T:eX):FnOk true P w K mg base eW 1 t.f_bk t.d_bk zoP (xsm):=by
 refine T.bk.F.okn (k:=0) sc_bk eZ (λ cdv A outer s H vs Q E hr h=>?_)
 .obtain ⟨lb,ln,v,prs,ab,qs,rfl,_⟩:=h;rfl
 .obtain ⟨lb,ln,v,prs,ab,qs,rfl,h⟩:=h;refine⟨_,xk (IR 2 sc_bk.nd (VW hr (uX,lH Iz [] [] zmh s_bk,NX 0,zDC,E0,oX,xaq (lO A9))))
   (jI (uX (lH Iz ["seats"] [2] zmh s_bk) A8 zDC E0 (ztD (xak (r:=rNeV K) qci (xl0 oF gV fj A9 Ph) A9 (xal _))) fj)),?_⟩
  refine sq2 ?_; intros; obtain⟨ad,ac,C,len,ai,pr,⟨am,q⟩⟩:47:=h;show(Bu,af,ac.len,ql,pr.len,mH lb ad l1 aj);refine xby (ft ad) (zzs ab.length) aj (zg,zOb (gf v p)) (λ i y H H' tp ⟨1104,p,q,t,a1,a2,a3,a4⟩=>zHu) (wI H2 hx s2) (vC H1 s1 el1 f1)
  .ext ziv;ext za hx;show(eE,p,L,ep,(ac.keep (Same.tups s2)).get ho);show(uw,o,ep,⟨rb,λ S Y=>uF q2 X⟩);show(eK,sa,(Dd,yC TX kB,Y),sb,Dd (Go,gW,.ref S) X);ext zJa S L
  rw[Za,af] at ly;obtain⟨ws,kvs,rfl,w2,w3,R⟩:84:=xou (H:=H1) (prs:=v) (ys:=ys) ly λ i y p hy hp=>by
   ext zBY
  have kl:=R.len;have knd:(kvs.map (·.1)).Nodup:=by
   show(zFE,R.keys,C)
  ext zBP;ext zot zYl hd;show(eK,I,s1.trans s2,O,I _ _ ai);refine mH ln O l3 ae;refine xen (ft O) zrb ae (λ i=>((prs[i]?).map (mvB v)).getD false) (λ_ _ _=>True) zX (zpu H3 s3) (λ ys H3 s3 e3 ly _=>q H3 l3 ys (I.trans s3) (I.free ae) (eP,ly,Z5 xb (MY ZU Za)) e3);rw[Zf] at hx;ext za hx;show(eE,p,L,ep,(pr.keep (Same.tups (I.trans s3))).get ho);show(eK,g3,Tm,aa,(R.keep (Same.tups s2)).keep (Same.tups s3));show(uw,o,ep,(mY,d,rfl,zwt g3,rb,eQ S Y));generalize eu:N3 H3 S TX kB=H4;ext ul s4 Y g4;show(eC,ak,H4 S=some (AR jJ),g4,dg,DGet H4 d TN zAb,qU gW (oP g3));obtain⟨Z,s0,J,ev,em⟩:∃ Z s0,H4 Z=some (AR s0)/\(zAb).getD (.ref S)=.ref Z/\mvB v p=!(i9 s0 jJ):=by
   unfold mvB;cases ef:v.find? λ r=>i9 Nf gW with
   | none=>exact gU S jJ ak (jn,aa.no ef) eS
   | some r =>
    have er:Nf=gW:=(Cv,QC ef)
    show(eE,Z,J,ah,(aa.keep (Same.tups s4)).find C (Je ef));rw[er] at J;exact(gU,Z,r.2,ah,jn J,rfl)
  refine(fY,_,dg,rb,eQ q2 X);rw[ev];show(fR,s5,Same H4 (N3 H4 q2 TX kB),kW X,(zdm,xez s0,xez jJ,xjq (sX J),xjq (s:=jJ) xh,Ar))
  .rw [xl9] at c;exact (hN _ _ zuj (by rw[L]; exact em.trans c) trivial)
  .rw [xl9] at c;exact hM _ zuj (eP,L,em.trans (Jw.mpr c))
def xxs {nm:Str}{x y:Int} (p:Pt):(Rn).nm=p.nm:=by
 unfold mvP;split<;>rfl
def xtz {w h:Int}{ps:eI} (o:zej) {nm:Str}{x y:Int} (x1:Oc) (x2:x<=w) (y1:1<=y) (y2:y<=h) (no:zFL):xb1 w h (ps.map (mvP nm x y)):=by
 show(gq,j,(zpV,p.nm≠q.nm),zlx o.nn,B,(zpV,p.x≠q.x),zlx o.nx,A,(zpV,p.y≠q.y),zlx o.ny)
 refine(gF,BR v,?_,?_,?_,pI o.le)
 .show(on,I,H,rfl,Zj.mp v);have k:=o.ok I H;unfold mvP;split
  .exact iQ k.nm x1 x2 y1 y2 k.sd k.l1 k.l2 k.l3
  .exact k
 .show(uM,ZG,(kM,qaV∘mvP nm x y,λ p=>p.nm,funext xxs),o.nn)
 .rw [ZG,JE,Jk];refine (j.and B).imp_of_mem λ{p q} v D ⟨u,C⟩=>?_;show (Rn).x≠(qbk).x;unfold mvP;ext Sa
  .show(uM,ma,zLM,λ z=>(zHF).1 z.symm)
  .ext zQP
   .show(ie,MD,(no p v c).1)
   .ext ie Mz C
 .rw [ZG,JE,Jk];refine (j.and A).imp_of_mem λ{p q} v D ⟨u,C⟩=>?_;show (Rn).y≠(qbk).y;unfold mvP;ext Sa
  .show(uM,ma,zLM,λ z=>(zHF).2 z.symm)
  .ext zQP
   .show(ie,MD,(no p v c).2)
   .ext ie Mz C
def xb1.snoc {w h:Int}{ps:eI} (o:zej) {p:Pt} (k:PtOk w h p) (n1:∀ q∈ps,q.nm≠p.nm) (n2:p.x∉ps.map (·.x)) (n3:p.y∉ps.map (·.y)) (l:zcY):xb1 w h zhb:=by
 refine(gF,eQ q j,?_,?_,?_,eP Zt l)
 .rcases zhz with z|z
  .exact o.ok q z
  .ext ie TH k
 .show(zml,o.nn);ext nE q j i;ext zwp;exact n1 q j e
 .show(zml,o.nx);ext zwp;exact n2 (e▸i)
 .show(zml,o.ny);ext zwp;exact n3 (e▸i)
noncomputable abbrev hnP (pa:Addr):lw:=[("picture",.ref pa)]
noncomputable abbrev hnF (pa lg:Addr):lw:=[nS "picture" pa,nS "given" lg]
def hlkP {pa lg:Addr}:(Sk).lookup (ji "picture")=some (.ref pa):=by
 unfold hnF;ext zTw
def hlkG {pa lg:Addr}:(Sk).lookup (ji "given")=some (.ref lg):=by
 unfold hnF;show(OJ,"given","picture",[("given",V.ref lg)])
def xbm {pa lg:Addr}{m:Str} (e:((SA "given":eO).all λ k=>zfd)=true):(Sk).lookup m=none:=by
 ext WT;ext FU c b e;unfold hnF;show(znD,"given",lg)
def x0y {pa lg x:Addr}:putF qbF mQ Sk=hnF pa x:=vL
structure HnO (t:Adr) (H:Hp) (hd pa dp do_ lg:Addr) (w h:Nat) (ps:eI) (ss srt:eF):Prop where
 ins:∃ dx,fO hd (S4 Sk)
 dr:Dr t H pa dp do_ w h ps ss srt
 pok:wA
 b:rM/\h<=16
 ne:pa≠hd
structure Gvn (H:Hp) (lg:Addr) (prs:fC) (qs:eV) (h:Nat):Prop where
 hl:zvG
 pl:vb
 nn:(prs.map (·.1.nm)).Nodup
 le:E7
 rw:zKO
noncomputable def Hn (t:Adr) (H:Hp) (hd pa dp do_ lg:Addr) (w h:Nat) (ps:eI) (ss srt:eF) (prs:fC) (qs:eV):Prop:=HnO t H hd pa dp do_ lg w h ps ss srt/\zU/\znm
def HnO.same {t:Adr}{H H':Hp}{hd pa dp do_ lg:Addr}{w h:Nat}{ps:eI}{ss srt:eF} (k:HnO t H hd pa dp do_ lg w h ps ss srt) (s:gu):HnO t H' hd pa dp do_ lg w h ps ss srt:=(zsc,let ⟨dx,e⟩:=k.ins; zhn,k.dr.same s)
def Gvn.same {H H':Hp}{lg:Addr}{prs:fC}{qs:eV}{h:Nat} (k:zU) (s:gu):Gvn H' lg prs qs h:=(gF,s _ _ k.hl,k.pl.keep (Same.tups s),k.nn,k.le,k.rw)
def Hn.same {t:Adr}{H H':Hp}{hd pa dp do_ lg:Addr}{w h:Nat}{ps:eI}{ss srt:eF}{prs:fC}{qs:eV} (k:Hn t H hd pa dp do_ lg w h ps ss srt prs qs) (s:gu):Hn t H' hd pa dp do_ lg w h ps ss srt prs qs:=(eG,k.1.same s,(fV k).same s,jr k)
def xhu.gv {w h:Nat}{ps:eI}{ss srt:eF}{prs:fC} (a:znm) {H:Hp}{lg:Addr}{qs:eV} (hl:zvG) (pl:vb):zU:=by
 obtain⟨q,i,j,_,_,b,_⟩:104:=a;exact(gF,hl,pl,b.nn,b.le,λ p c=>⟨(b.ok p c).r1,(b.ok p c).r2⟩)
inductive xvf (t:Adr) (vs:eB) (H:Hp) (Q:VK) (_:XK):Prop
 | mk (hd pa dp do_ lg:Addr) (w h:Nat) (ps:eI) (ss srt:eF) (e_:Gy) (r_:HnO t H hd pa dp do_ lg w h ps ss srt/\(zNN (sY (.lst ((pV).map V.str))) FA))
inductive xxr (t:Adr) (vs:eB) (H:Hp) (Q:VK) (_:XK):Prop
 | mk (hd pa dp do_ lg:Addr) (w h:Nat) (ps:eI) (ss srt:eF) (e_:Gy) (r_:HnO t H hd pa dp do_ lg w h ps ss srt/\(zJl zcn FA zRv))
inductive xtq (t:Adr) (vs:eB) (H:Hp) (Q:VK) (_:XK):Prop
 | mk (hd pa dp do_ lg:Addr) (w h:Nat) (ps:eI) (ss srt:eF) (qs:eV) (e_:Gy) (r_:HnO t H hd pa dp do_ lg w h ps ss srt/\zvG/\(zVo TV))
inductive xs7 (t:Adr) (vs:eB) (H:Hp) (Q:VK) (_:XK):Prop
 | mk (hd pa dp do_ lg:Addr) (w h:Nat) (ps:eI) (ss srt:eF) (prs:fC) (qs:eV) (e_:Gy) (r_:Hn t H hd pa dp do_ lg w h ps ss srt prs qs/\(zgE (zvi oH)))
inductive xxa (t:Adr) (vs:eB) (H:Hp) (Q:VK) (_:XK):Prop
 | mk (hd pa dp do_ lg:Addr) (w h:Nat) (ps:eI) (ss srt:eF) (e_:Gy) (r_:HnO t H hd pa dp do_ lg w h ps ss srt/\∀ H' a' dp' do',gu->(lX,gz a',gz dp',gz do',Dr t H' a' dp' do' w h ps srt srt,.ref a'))
noncomputable def Told (H0 H:Hp) (tp lg:Addr):Prop:=∃(lo lm:Addr) (T:Int) (xs ys:eB),(Mg tp [.ref lo,.int T,.ref lm])/\(fb,fO lo nG,fO lm ziq,xs.length<=12,zZI,(fb,H0 lo=none,H0 lm=none,lo≠lm,lo≠lg,lm≠lg))
inductive xqb (t:Adr) (vs:eB) (H:Hp) (Q:VK) (_:XK):Prop
 | mk (hd pa dp do_ lg:Addr) (w h:Nat) (ps:eI) (ss srt:eF) (prs:fC) (qs:eV) (e_:Gy) (r_:HnO t H hd pa dp do_ lg w h ps ss srt/\zU/\∀ H' tp lg' prs' qs',(zSX,zAa,Hn t H' hd pa dp do_ lg' w h ps ss srt prs' qs'))
inductive xvk (t:Adr) (vs:eB) (H:Hp) (Q:VK) (_:XK):Prop
 | mk (hd dx a dp0 do0:Addr) (w h:Nat) (ps:eI) (ss srt:eF) (e_:vs=[AY,fE]) (r_:(fO hd (S4 []))/\(fb,Dr t H a dp0 do0 w h ps ss srt,wA,rM,rL,∀ H' pa dp do_ lg prs qs,zAa->(Bs,gz pa,TK,gz do_,Hn t H' hd pa dp do_ lg w h ps srt srt prs qs)))
def Dr.but {t:Adr}{H H':Hp}{hd C dx a dp do_:Addr}{fs:lw}{w h:Nat}{ps:eI}{ss srt:eF} (d:Dr t H a dp do_ w h ps ss srt) (e:fO hd LK) (ne:a≠hd) (k:zAa):Dr t H' a dp do_ w h ps ss srt:=by
 show(fR,tp,pY,λ b xs f=>zoq,gY (hV,let ⟨x,f⟩:=d.pic.ins; ⟨x,k _ _ ne f⟩,let ⟨j,f,q⟩:=d.pic.pl; zeN j zoq,d.pic.w1,d.pic.w2,d.pic.h1,d.pic.h2,d.pic.len) ?_ d.ok d.pm d.lt d.nm);show(pZ,j,f,r,d.sts,j,zoq,r)
def ok_b1 (T:eX):FnOk true P w K mg base eW 10 t.f_b1 t.d_b1 iU (xvf t):=by
 refine T.b1.F.okn (k:=9) sc_b1 eZ (λ cdv A outer s H vs Q E hr h=>?_)
 .obtain ⟨y,x,z,m,I,v,h',ps,ss,j,rfl,_⟩:=h;rfl
 .obtain ⟨y,x,z,m,I,v,h',ps,ss,j,rfl,h⟩:=h;show(zrX,pC (xht T) hr T.B_kept.g T.B_kept.F.kp T.B_kept.b (i3 gm),L);exact IC y L ⟨x,z,m,v,h',ps,ss,j,rfl,k.dr,k.pok.nn,λ U J S C M D O R u=>q U J S C M D O R u⟩
def ok_aj (T:eX):FnOk true P w K mg base eW 9 t.f_aj t.d_aj iU (xxr t):=by
 refine T.aj.F.okn (k:=8) sc_aj eZ (λ cdv A outer s H vs Q E hr h=>?_)
 .obtain ⟨x,v,z,m,C,u,h',ps,ss,e,rfl,_⟩:=h;rfl
 .obtain ⟨x,v,z,m,C,u,h',ps,ss,e,rfl,h⟩:=h;show(zrX,pC (ok_by T) hr T.B_by.g T.B_by.F.kp T.B_by.b (i3 gm),D);exact IC x D ⟨v,z,m,u,h',ps,ss,e,rfl,k.dr,k.pok.nn,q⟩
def ok_bz (T:eX):FnOk true P w K mg base eW 1 t.f_bz t.d_bz iU (xtq t):=by
 refine T.bz.F.okn (k:=0) sc_bz eZ (λ cdv A outer s H vs Q E hr h=>?_)
 .obtain ⟨v,C,L,p,u,x,h',ps,ss,m,y,rfl,_⟩:=h;rfl
 .obtain ⟨v,C,L,p,u,x,h',ps,ss,m,y,rfl,h⟩:=h;show(vG,zNt xhg gm);ext vP k J;ext Vb I;exact zYI v I (oQ,u,Lj J,λ D j=>q _ D (kW j) j xh)
def ok_b0 (T:eX):FnOk true P w K mg base eW 7 t.f_b0 t.d_b0 iU (xs7 t):=by
 refine T.b0.F.okn (k:=6) sc_b0 eZ (λ cdv A outer s H vs Q E hr h=>?_)
 .obtain ⟨u,y,I,j,z,v,h',ps,ss,m,prs,x,rfl,_⟩:=h;rfl
 .obtain ⟨u,y,I,j,z,v,h',ps,ss,m,prs,x,rfl,h⟩:=h;show(vG,pC (xfl T) hr T.B_total.g T.B_total.F.kp T.B_total.b (hF gm gm));obtain⟨⟨k,g,an⟩,q⟩:=h;ext Vb C;obtain⟨O,L,M,_,_,D,_⟩:104:=an;exact IC u C ⟨u,_,dx,_,_,rfl,C,T.c_ag,T.n_co,hlkG,y,I,j,z,v,h',ps,prs,x,rfl,k.dr.pic,g.hl,g.pl,D.ok,D.le,λ R J=>q _ J⟩
def ok_ap (T:eX):FnOk true P w K mg base eW 8 t.f_ap t.d_ap iU (xxa t):=by
 refine T.ap.F.okn (k:=7) sc_ap eZ (λ cdv A outer s H vs Q E hr h=>?_)
 .obtain ⟨R,D,S,z,Y,U,h',ps,ss,v,rfl,_⟩:=h;rfl
 .obtain ⟨R,D,S,z,Y,U,h',ps,ss,v,rfl,h⟩:=h;show(zrX,zHg gm,Z);show(D4,J,I,k.dr.pic,IC R Z ⟨Me D J I S z ss,rfl,k.dr.pic,k.dr.sts,k.pok,k.dr.ok,λ H1 a' L M C X f1 f2 f3 O lt j u=>?_⟩);show(ij,C=v,xc3 xea (O.trans k.dr.pm.symm) lt k.dr.lt);rw[List.map_id'] at j u;exact q H1 a' L M X f1 f2 f3 (gY,j,u,k.dr.ok.perm O,vm,lt,k.dr.nm)
def ok_al (T:eX):FnOk true P w K mg base eW 11 t.f_al t.d_al iU (xqb t):=by
 refine T.al.F.okn (k:=10) sc_al eZ (λ cdv A outer s H vs Q E hr h=>?_)
 .obtain ⟨I,pa,dp,M,lg,Y,h',ps,ss,J,prs,qs,rfl,_⟩:=h;rfl
 .obtain ⟨I,pa,dp,M,lg,Y,h',ps,ss,J,prs,qs,rfl,h⟩:=h;refine⟨_,xk (pS 1 sc_al.nd gm)
   (xk (yp (GX (pC (ok_b4 T) hr T.b4.g T.b4.F.kp T.b4.b (hF gm fG))) zCg)
   (xk (xdh rfl (lH zPE [] [] zPw s_al) (xay zEN) Ou Uq oX zWi (j:=2) rfl y0)
   (yo (kH fZ zEM (pC (ok_bk T) hr T.bk.g T.bk.F.kp T.bk.b (hF fG gm)))))),?_⟩
  refine sq4 ?_; intros; ext vP k g;show(jY,dx,hp,k.ins,ak,ap,k.b);refine zYI I hp ?_
  show(Kt,∃ L D O,(B1 I)/\Hn t H' I pa dp M L Y h' ps ss J D O/\σ'=[fX I,fX lg,none])
  .show(IM,IC I hp ⟨pa,lg,dp,M,Y,h',ps,ss,J,prs,qs,rfl,k.dr,k.pok,ak,ap,g.hl,g.pl,g.le,g.rw,λ H1 b s1 a4=>Ar⟩)
   .refine IC I GA ⟨pa,dp,M,Y,h',ps,ss,J,rfl,k.dr.same s1,k.pok,ak,ap,λ H2 tp ln ar Z cs so ho s2 ae ao as ad en gp my cn=>(sP,tp,0,FS ae ?_)⟩;show(eK,ac,s1.trans s2,U,ac _ _ hp);refine B0 I U T.c_ag T.n_co 2;rw[x0y];have kp:(tS,I,H2 b=some u,H2,zUa):=λb u R e=>by
     ext lC R e
    have aq:Tups H2 (upd H2 I zUa):=(l0,kp _ _ (jg U) e);have an:xhu Y h' ps ss J Z:=ztw ad en cn
    exact⟨103,ln,Z,ar,(xJ,kp _ _ R (ac _ _ e)),(pR,(zsc,AU,(k.dr.same ac).but U k.ne kp),an.gv (kp _ _ (ne_f ao U) ao) (as.keep aq),an),rfl⟩
   .have b1:DN:=pU
    show(eE,D,au,an,a4 b1);exact(oM,lg,D,qs,λ b u _ e=>Gh,(eG,k.same s1,an.gv (BT g.hl) au,an),rfl)
  rintro _ H1 (⟨L,D,O,k1,hn,rfl⟩:103);show(CC,aj,ah,(HV).ins,⟨I,aj,_,rfl,ah,oE,I,pa,dp,M,L,Y,h',ps,ss,J,rfl,HV,λ H2 lo os cs so ho s2 _ e2 ol ad _=>mH lo e2 l3 hl3⟩);show(Bz,av,ol.len,cl,ad.outs.2,a5,k.pok.le);ext zkU
  refine xby (ft e2) xW hl3 (λ j v _=>∃ c,(hU cs c)/\v=zhO) zX (λ j x H5 hx s5 N hN=>?_) (vC H3 s3 e3 fy)
  .ext B7 qa ay;show(zJe,lc,hq,ol.get ay,sX hq)
  have ey:ys=(cs.map (·.1)).map V.str:=by
   show(zbI,zgs ly av,c,hc);ext IZ hc
  subst ey;have ab:=s2.trans s3;show(eK,a0,hn.same ab,af,ab _ _ ah);refine⟨I,aj,_,rfl,af,oE,I,pa,dp,M,L,Y,h',ps,ss,J,D,O,rfl,a0,eQ H4 s4⟩;show(eK,aa,ab.trans s4,az,hn.same aa);ext nF a7 X a6 az;show(i6,k4,(tI,I,kC,H4 b=some u),(xJ,aa _ _ zvC),t4,Tups H H4,(l0,k4 _ _ (jg hp) e),oa I aj zAi T.c_ag T.n_co hlkG ⟨lg,L,prs,D,qs,O,rfl,k4 _ _ (ne_f g.hl hp) g.hl,g.pl.keep t4,g.nn,g.le,X.hl,X.pl,X.le,λ H5 lm ys s5 f5 yl e5=>vA CZ tp ae⟩);have s6:Same H5 (o9 H5 tp [.ref l3,.int (totI (gk Y) D),.ref lm]):=kW ae;have am:=aa.trans (s5.trans s6);have fr:∀{b:Addr},H4 b=none->b≠I->i8:=λ{b} z R=>by
   cases e:wb with
   | none=>rfl
   | some u =>
    show(HH,k4 _ _ R e)
  have ax:l3≠I:=(mK,m4 ah,hl3)
  have aw:lm≠I:=mK zAi f5
  have ai:=oP e3;have f3:gz l3:=by
   cases e:H l3 with
   | none=>rfl
   | some u =>
    show(iF,m4 (k1 _ _ ax e),hl3,hl3)
  exact q _ tp L D O (xJ,am _ _ zvC) (hn.same am) (Ej l3 lm (iC,66,ys,xh,(s5.trans s6) _ _ ai,BP e5,MY Za Za,yl,(iu,f3,fr f5 aw,mK f5 ai,mK (m4,(fV hn).hl) hl3,mK X.hl f5)))
def ok_cb (T:eX):FnOk true P w K mg base eW 11 t.f_cb t.d_cb Ac (xvk t):=by
 refine T.cb.F.okn (k:=10) sc_cb eZ (λ cdv A outer s H vs Q E hr h=>?_)
 .obtain ⟨I,dx,a,af,ah,w',h',ps,ss,ab,rfl,_⟩:=h;rfl
 .obtain ⟨I,dx,a,af,ah,w',h',ps,ss,ab,rfl,h⟩:=h;refine⟨_,xk (MM (zHg fG))
   zCg,?_⟩
  refine sq2 ?_; intros; ext kL hp R S Z ae q h;show(D4,aq,ap,R.pic,⟨a,aq,_,rfl,ap,gB,a,af,ah,_,_,ps,ss,rfl,R.pic,R.sts,S,R.ok,λ H1 j U X D s1 f1 f2 f3 pm lt O aa=>?_⟩);show(ij,D=ab,xc3 xea (pm.trans R.pm.symm) lt R.lt);rw[List.map_id'] at O aa;show(jG,ac,GA,B0 I ac T.c_ag T.n_cf 0);rw[show putF zXI (.ref j) []=(hnP j) from rfl];show(eC,na,j≠I,mK hp f1,ar,Dr t H1 j U X w' h' ps D D,⟨O,aa,R.ok.perm pm,vm,lt,R.nm⟩)
  have k2:(tS,I,H1 b=some u,H1,XH):=λb u Y e=>by
   ext lC Y e
  have g2:kK H1 I XH I XH:=xh;have L:=ar.but ac na k2;revert k2 g2 L;generalize upd H1 I XH=H2;intro k2 g2 L;refine oa I dx g2 T.c_ag T.n_cf (show Jj zXI (hnP j)=some (.ref j) by unfold hnP; ext zTw) ⟨j,U,X,w',h',ps,D,D,rfl,L,S,Z,ae,λ H3 tp ln ak M cs so ho s3 ao ad am aj en gp my cn=>(sP,tp,0,FS ao ?_)⟩;show(jG,J,Tm,B0 I J T.c_ag T.n_co 1);rw[(kM,putF qbF GP (hnP j),zyi,rfl)];have kp:(tS,I,H3 b=some u,H3,S4 zyi):=λb u Y e=>by
   ext lC Y e
  have ai:Tups H3 (upd H3 I (S4 zyi)):=(l0,kp _ _ (jg J) e);have an:xhu w' h' ps D D M:=ztw aj en cn
  exact q _ j U X ln M ak (Eh,Y,kp _ _ Y (vX (k2 _ _ Y Gh))) f1 f2 f3 (eG,⟨AU,(L.same s3).but J na kp,S,⟨Z,ae⟩,na⟩,an.gv (kp _ _ (ne_f ad J) ad) (am.keep ai),an)
inductive De where
 | come (n x y s lo hi:V) (dn dx dy ds dl dh:DV)
 | go (n:V) (d:DV)
 | shift (n x y:V) (d dx dy:DV)
 | unbar (s r:V) (ds dr:DV)
 | bar (s r:V) (ds dr:DV)
noncomputable def De.vs:De->eB
 | .come n x y s lo hi _ _ _ _ _ _=>[.str "come",n,x,y,s,lo,hi]
 | .go n _=>[.str "go",n]
 | .shift n x y _ _ _=>[.str "shift",n,x,y]
 | .unbar s r _ _=>wj "unbar" s r
 | .bar s r _ _=>wj "bar" s r
noncomputable def De.ok (H:Hp):De->Prop
 | .come n x y s lo hi dn dx dy ds dl dh=>(fS,zeg/\yq/\FL,Lf,zdB,Thg H hi dh)
 | .go n d=>Uy
 | zrM d=>Uy/\yq/\FL
 | IW=>Lf/\RU
 | Kl=>Lf/\RU
noncomputable def hiV (ph:Int):V->V
 | .non=>Dn
 | v=>v
noncomputable def hiD (ph:Int):DV->DV
 | .non=>Dn
 | d=>d
noncomputable def De.out (sh:Bool) (pw ph:Int) (ps:eI) (ss:eF):De->(iH Er)
 | .come n x y s lo hi dn dx dy ds dl dh=>(zdY,xa3 pw ph ps dn dx dy wG DR Dn n x y wG DR Dn,xa3 pw ph ps dn dx dy ds dl (hiD ph dh) n x y s lo (hiV ph hi))
 | .go n d=>Ld
 | zrM d=>zmg
 | IW=>znY
 | Kl=>znX
noncomputable def De.pts (sh:Bool) (ph:Int) (ps:eI):De->eI
 | .come _ _ _ _ _ _ dn dx dy ds dl dh=>ps++[(gY,xe1 dn,To,zhm,(zdY,"both",xe1 ds),zdY 1 zig,(zdY,ph,intD (hiD ph dh)))]
 | .go _ d=>ps.filter λ p=>hR (p.nm≠xe1 d)
 | .shift _ _ _ d dx dy=>ps.map (mvP (xe1 d) To (intD dy))
 | _=>ps
noncomputable def De.sts (ss:eF):De->eF
 | .unbar _ _ ds dr=>ss++[((xcb ds).getD true,intD dr)]
 | .bar _ _ ds dr=>zTk ((xcb ds).getD true,intD dr)
 | _=>ss
def xkb {ss:eF}{s r:V}{b:Bool}{i:Int}:De.sts ss (.unbar s r nI fF)=zfR:=by
 show ss++[((zQq).getD true,L4 i)]=_;rw[xef];rfl
def xnn {ss:eF}{s r:V}{b:Bool}{i:Int}:De.sts ss (.bar s r nI fF)=(zTk uC):=by
 show (ss.filter λ s=>HF s ((zQq).getD true,L4 i))=_;rw[xef];rfl
theorem De.ok.same {H H':Hp} (s:gu) {d:De} (h:d.ok H):d.ok H':=by
 cases d with
 | come=>exact(gX,(eG,(i0).1.same s,(fV i0).same s,(jr i0).same s),(UH).same s,(fV jX).same s,(zB h).same s)
 | go=>exact Thg.same s h
 | shift=>show(fU,(i0).same s,(UH).same s,(jr h).same s)
 | unbar=>show(fc,(i0).same s,(jX).same s)
 | bar=>show(fc,(i0).same s,(jX).same s)
theorem xpd {H:Hp}{v:V}{d:DV} (h:Nv) (ph:Int):(gL,v,.non,hiV ph v=Dn,hiD ph d=Dn)\/(v≠.non/\hiV ph v=v/\hiD ph d=d):=by
 cases h with
 | non=>ext je Ge
 | _=>show(iY,jw nB rfl)
theorem De.out_perm {sh:Bool}{pw ph:Int}{ps:eI}{ss s2:eF} (p:ss.Perm s2) (d:De):d.out sh pw ph ps ss=d.out sh pw ph ps s2:=by
 cases d with
 | unbar s r ds dr =>
  show znY=xda ph s2 ds dr s r;unfold xda;simp only[p.mem_iff]
 | bar s r ds dr =>
  show znX=xdc ph s2 ds dr s r;unfold xdc;simp only[p.mem_iff]
 | _=>rfl
theorem De.sts_perm {ss s2:eF} (p:ss.Perm s2) (d:De):(d.sts ss).Perm (d.sts s2):=by
 cases d with
 | unbar=>exact p.append_right _
 | bar=>exact p.filter _
 | _=>exact p
theorem xof {pw ph:Int}{ps:eI}{nm:Str}{i j:Int}{n x y:V} (h:xe2 pw ph ps hJ fF hX n x y=none):(HC,zw,i<=pw,j,j<=ph)/\xch ps nm i j=none:=by
 unfold xe2 at h;cases c1:zeF with
 | false=>ext BA c1
 | true =>
  rw[c1,iT] at h;cases c2:(xai fF 1 pw&&xai hX 1 ph) with
  | false=>ext BA c2
  | true =>
   rw[c2,iT] at h;ext zMo c2;show(fc,(gX,c2.1.1,c2.1.2,fV c2,jr c2),h)
noncomputable def DRes (t:Adr) (H:Hp) (hd pa dp do_:Addr) (w h:Nat) (ps:eI) (ss:eF) (Q:VK):Prop:=∀ H' tp srt' lg' prs' qs',(zSX,(∀ b u,K8 hd DK do_ kC Ke),Hn t H' hd pa dp do_ lg' w h ps ss srt' prs' qs')
section
variable {t:Adr}{H H1:Hp}{hd pa dp do_ lg:Addr}{w h:Nat}{ps ps1:List Pt}{ss ss1 srt:List Seat}{prs:List Pr}{qs:List Addr}
theorem Told.pre {H2:Hp}{tp lg':Addr} (k:HnO t H hd pa dp do_ lg w h ps ss srt) (kc:Rj DK do_ kC zbw) {srt1:eF} (k1:HnO t H1 hd pa dp do_ lg w h ps1 ss1 srt1) (td:Told H1 H2 tp lg'):Told H H2 tp lg':=by
 obtain⟨n,q,T,xs,⟨ys,C,B,A,m,j,x,v,r⟩⟩:121:=td;obtain⟨⟨I,f,_⟩,_⟩:=(zyb k1.dr.pic.pl:_/\True)
 show(jL,D,a,id k1.dr.sts);have fr:∀{b:Addr},zuw->i8:=λ{b} z=>by
  cases e:wb with
  | none=>rfl
  | some u =>
   show(HH,kc b u (λ y=>pj y f z z) (λ y=>pj y a z z) e)
 exact(ir,n,q,T,xs,iC 66 ys C B A m j (eG,fr x,fr v,r))
def HnO.pts (k:HnO t H hd pa dp do_ lg w h ps ss srt) (g:zU) (kc:znx dp) (pic1:Gx H1 pa oH kO ps1) (pok1:zYZ):(zWx,HnO t H1 hd pa dp do_ lg w h ps1 ss srt):=by
 show(jL,v,a,k.dr.pic.pl)
 ext Vb j;show(eE,q,f,r,k.dr.sts)
 exact(gY,gF (xr,zea j) (gY,pic1,(eG,q,zea f,r),k.dr.ok,k.dr.pm,k.dr.lt,λ p j=>(pok1.ok p j).nm) pok1 k.b k.ne,zXb,zIv,g.nn,g.le,g.rw)
def HnO.sts (k:HnO t H hd pa dp do_ lg w h ps ss srt) (g:zU) (kc:znx do_) (pic1:Gx H1 pa oH kO ps) (st1:zWZ) (ok1:SsOk kO ss1):∃ srt1,(zWx,HnO t H1 hd pa dp do_ lg w h ps ss1 srt1):=by
 ext Vb c;show(eE,j,a,r,k.dr.sts)
 show(eE,srt1,f,lt,xfy ok1.1);exact⟨srt1,(zsc,(xr,zea c),gY pic1 st1 ok1 f lt k.dr.nm),zXb,zIv,g.nn,g.le,g.rw⟩
def xoe {b:Bool}{i:Int} (ok:zes) (i1:zw) (i2:i<=kO) (nin:uC∉ss) (l:zfF zfR):SsOk kO zfR :=
 ⟨by
  rw[ZT];show(fU,Oi,eS,λ x j y f e=>nin (by show(h7,zAs,e,e▸j))),l,λ s q=>by
  rcases Z3.mp q with y|y
  .exact ok.2.2 s y
  .rw [zhs];ext fc i1 i2⟩
#check _
inductive xz0 (t:Adr) (vs:eB) (H:Hp) (Q:VK) (E:XK):Prop
 | mk (hd pa dp do_ lg:Addr) (w h:Nat) (ps:eI) (ss srt:eF) (prs:fC) (qs:eV) (n:V) (dn:DV) (e_:vs=[AY,n]) (r_:(V7,HnO t H hd pa dp do_ lg w h ps ss srt,De.ok H (.go n dn),.go n dn,DRes t H hd pa dp do_ w h (zbE (.go n dn)) (De.sts ss (.go n dn)) Q))
inductive xsi (t:Adr) (vs:eB) (H:Hp) (Q:VK) (E:XK):Prop
 | mk (hd pa dp do_ lg:Addr) (w h:Nat) (ps:eI) (ss srt:eF) (prs:fC) (qs:eV) (n x y:V) (dn dx dy:DV) (e_:vs=[AY,n,x,y]) (r_:(V7,HnO t H hd pa dp do_ lg w h ps ss srt,De.ok H zgS,zgS,DRes t H hd pa dp do_ w h (zbE zgS) (De.sts ss zgS) Q))
inductive xtb (t:Adr) (vs:eB) (H:Hp) (Q:VK) (E:XK):Prop
 | mk (hd pa dp do_ lg:Addr) (w h:Nat) (ps:eI) (ss srt:eF) (prs:fC) (qs:eV) (s r:V) (ds dr:DV) (e_:vs=[AY,s,r]) (r_:(V7,HnO t H hd pa dp do_ lg w h ps ss srt,De.ok H IW,IW,DRes t H hd pa dp do_ w h (zbE IW) (De.sts ss IW) Q))
inductive xxp (t:Adr) (vs:eB) (H:Hp) (Q:VK) (E:XK):Prop
 | mk (hd pa dp do_ lg:Addr) (w h:Nat) (ps:eI) (ss srt:eF) (prs:fC) (qs:eV) (s r:V) (ds dr:DV) (e_:vs=[AY,s,r]) (r_:(V7,HnO t H hd pa dp do_ lg w h ps ss srt,De.ok H Kl,Kl,DRes t H hd pa dp do_ w h (zbE Kl) (De.sts ss Kl) Q))
inductive xv3 (t:Adr) (vs:eB) (H:Hp) (Q:VK) (E:XK):Prop
 | mk (hd pa dp do_ lg:Addr) (w h:Nat) (ps:eI) (ss srt:eF) (prs:fC) (qs:eV) (n x y s lo hv:V) (dn dx dy ds dl dv:DV) (e_:vs=[AY,n,x,y,s,lo,hv]) (r_:(fS,HnO t H hd pa dp do_ lg w h ps ss srt,zU,zeg,yq/\(fb,FL,Lf,zdB,Thg H hv dv,(sy (xa3 oH kO ps dn dx dy ds dl (hiD kO dv) n x y s lo (hiV kO hv)) (DRes t H hd pa dp do_ w h (ps++[(gY,xe1 dn,To,zhm,xe1 ds,zig,intD (hiD kO dv))]) ss Q)))))
def okT_c (T:eX):FnOk true P w K mg base eW 12 t.f_c t.d_c zJ (xv3 t):=by
 refine T.F_c.okx (k:=11) sc_c eZ (λ cdv A outer s H vs Q E hr h=>?_)
 .obtain ⟨O,L,Z,C,lg,w',h',ps,ss,z,prs,qs,n,x,y,s',lo,hv,dn,dx,dy,ds,dl,dv,rfl,_⟩:=h;rfl
 .obtain ⟨O,L,Z,C,lg,w',h',ps,ss,z,prs,qs,n,x,y,s',lo,hv,dn,dx,dy,ds,dl,dv,rfl,h⟩:=h;refine⟨_,xk (xas (h9 gm T.c_a T.m_b (okT_b T) fA T.b_b xae.pass (zka fG fZ gV (zka ia iO kI (xj)))))
   Ot,?_⟩
  refine sq2 ?_; intros; obtain⟨k,g,tn,tx,ty,ts,⟨tl,tv,hE,q⟩⟩:47:=h;ext zkJ v Y U X;refine XZ O v ⟨L,Y,_,rfl,U,gB,L,Z,C,_,_,ps,n,x,y,s',lo,hv,_,dn,dx,dy,ds,dl,dv,_,rfl,k.dr.pic,tn,tx,ty,ts,tl,tv,xpd tv _,hE,λ no nm i j sd l hh H1 e1 e2 e3 e4 e5 e6 M J po un le=>?_⟩;ext MX;rw[e1,e2,e3,e4,e5,e6] at q;show(Au,k',g',k.pts g M J (k.pok.snoc po (zAo v) (λ m=>by ext Fk v; exact (un p v).2.1 e) (λ m=>by ext Fk v; exact (un p v).2.2 e) le),⟨O,dz,_,rfl,M _ _ (ne_f v X) v,oE,O,L,Z,C,lg,w',h',_,ss,z,prs,qs,rfl,k',g',λ H2 tp S I R k2 hn D=>q H2 tp z S I R zRZ hn (Sh zMG D)⟩)
def okT_ci (T:eX):FnOk true P w K mg base eW 12 t.f_ci t.d_ci jy (xz0 t):=by
 refine T.ci.F.okx (k:=11) sc_ci eZ (λ cdv A outer s H vs Q E hr h=>?_)
 .obtain ⟨J,D,X,v,lg,Y,h',ps,ss,j,prs,Z,n,dn,rfl,_⟩:=h;rfl
 .obtain ⟨J,D,X,v,lg,Y,h',ps,ss,j,prs,Z,n,dn,rfl,h⟩:=h;refine⟨_,xk (xas (h9 gm T.c_a T.ba.m (okT_ba T) fA T.ba.b xae.pass lZ))
   Ot,?_⟩
  refine sq2 ?_; intros; ext yL k g tn hE q h;ext zkJ R U O S;refine⟨J,_,dz,_,_,rfl,iu R T.c_ag T.n_cf hlkP ⟨D,U,_,rfl,O,gB,D,X,v,_,_,ps,n,dn,rfl,k.dr.pic,tn,hE,iR no nm H1 e1 I C⟩⟩;subst e1;ext MX;show(Au,k',g',k.pts g I C (k.pok.filt _),⟨J,dz,_,rfl,I _ _ (ne_f R S) R,oE,J,D,X,v,lg,Y,h',_,ss,j,prs,Z,rfl,k',g',λ H2 tp M z L k2 hn y=>q H2 tp j M z L (zQa (I _ _ n2 e)) hn (Sh (λ b u n _ e=>I _ _ n e) y)⟩)
def okT_b9 (T:eX):FnOk true P w K mg base eW 12 t.f_b9 t.d_b9 wm (xsi t):=by
 refine T.b9.F.okx (k:=11) sc_b9 eZ (λ cdv A outer s H vs Q E hr h=>?_)
 .obtain ⟨O,L,Z,z,lg,w',h',ps,ss,v,prs,qs,n,x,y,dn,dx,dy,rfl,_⟩:=h;rfl
 .obtain ⟨O,L,Z,z,lg,w',h',ps,ss,v,prs,qs,n,x,y,dn,dx,dy,rfl,h⟩:=h;refine⟨_,xk (xas (h9 gm T.c_a T.bb.m (okT_bb T) fA T.bb.b xae.pass Rg))
   Ot,?_⟩
  refine sq2 ?_; intros; obtain⟨k,g,⟨tn,tx,ty⟩,hE,q⟩:45:=h;ext zkJ J Y U X;refine XZ O J ⟨L,Y,_,rfl,U,gB,L,Z,z,_,_,ps,n,x,y,dn,dx,dy,rfl,k.dr.pic,k.pok.nn,tn,tx,ty,hE,λ no nm i j H1 e1 e2 e3 M I=>?_⟩;subst e1 e2 e3;ext MX;ext zIG;show(Au,k',g',k.pts g M I (zGq k.pok),⟨O,dz,_,rfl,M _ _ (ne_f J X) J,oE,O,L,Z,z,lg,w',h',_,ss,v,prs,qs,rfl,k',g',λ H2 tp S D R k2 hn C=>q H2 tp v S D R zRZ hn (Sh zMG C)⟩)
def okT_ca (T:eX):FnOk true P w K mg base eW 12 t.f_ca t.d_ca nA (xtb t):=by
 refine T.ca.F.okx (k:=11) sc_ca eZ (λ cdv A outer s H vs Q E hr h=>?_)
 .obtain ⟨I,D,Z,v,lg,w',h',ps,ss,J,prs,qs,s',r,ds,dr,rfl,_⟩:=h;rfl
 .obtain ⟨I,D,Z,v,lg,w',h',ps,ss,J,prs,qs,s',r,ds,dr,rfl,h⟩:=h;refine⟨_,xk (xas (h9 gm T.c_a T.o.m (okT_o T) fA T.o.b xae.pass As))
   Ot,?_⟩
  refine sq2 ?_; intros; obtain⟨k,g,⟨ts,tr⟩,hE,q⟩:45:=h;obtain⟨dz,U⟩:=k.ins;obtain⟨⟨Y,S⟩,_⟩:=id k.dr.pic;obtain⟨ko,X,_⟩:62:=id k.dr.sts;obtain⟨aa,ac⟩:=k.b;show(jG,ab,qbK,XZ I U ⟨D,Y,_,rfl,S,gB,D,Z,v,_,_,ps,ss,s',r,ds,dr,rfl,k.dr.pic,k.dr.sts,eA,λ z b i R O=>xiq eA k.dr.ok eA uC R O,ts,tr,hE,λ no b i H1 e1 e2 R O nin k1 pic1 st1=>?_⟩);ext zdU e1 e2 xkb;show(eE,j,k',g',k.sts g k1 pic1 st1 (xoe k.dr.ok R O nin (zB st1.choose_spec)));exact⟨I,dz,_,rfl,k1 _ _ (ne_f U X) U,oE,I,D,Z,v,lg,w',h',ps,_,j,prs,qs,rfl,k',g',λ H2 tp M C L k2 hn y=>q H2 tp j M C L (zOV (k1 _ _ n3 e)) hn (Sh (λ b u _ n e=>k1 _ _ n e) y)⟩
theorem okT_ce (T:eX):FnOk true P w K mg base eW 12 t.f_ce t.d_ce nA (xxp t):=by
 refine T.ce.F.okx (k:=11) sc_ce eZ (λ cdv A outer s H vs Q E hr h=>?_)
 .obtain ⟨J,D,Z,v,lg,w',h',ps,ss,M,prs,qs,s',r,ds,dr,rfl,_⟩:=h;rfl
 .obtain ⟨J,D,Z,v,lg,w',h',ps,ss,M,prs,qs,s',r,ds,dr,rfl,h⟩:=h;refine⟨_,xk (xas (h9 gm T.c_a T.s.m (okT_s T) fA T.s.b xae.pass As))
   Ot,?_⟩
  refine sq2 ?_; intros; obtain⟨k,g,⟨ts,tr⟩,hE,q⟩:45:=h;obtain⟨dz,U⟩:=k.ins;obtain⟨⟨Y,S⟩,_⟩:=id k.dr.pic;obtain⟨ko,X,_⟩:62:=id k.dr.sts;refine XZ J U ⟨D,Y,_,rfl,S,gB,D,Z,v,_,_,ps,ss,s',r,ds,dr,rfl,k.dr.pic,k.dr.sts,ts,tr,hE,λ no b i H1 e1 e2 i1 i2 hm I C L=>?_⟩;ext zdU e1 e2 xnn;show(eE,j,k',g',k.sts g I C L (eG,k.dr.ok.1.filter _,Z5 xb qbK,(zo,k.dr.ok.2.2 s zsV)));exact⟨J,dz,_,rfl,I _ _ (ne_f U X) U,oE,J,D,Z,v,lg,w',h',ps,_,j,prs,qs,rfl,k',g',λ H2 tp R z O k2 hn y=>q H2 tp j R z O (zOV (I _ _ n3 e)) hn (Sh (λ b u _ n e=>I _ _ n e) y)⟩
noncomputable def Er.ix:Er->Nat
 | .noName _=>0
 | zuN=>1
 | .noSides _=>2
 | zsm=>3
 | .oldPoint _=>4
 | .tooMany=>5
 | zZQ=>6
 | .sameRow _=>7
 | zex=>8
 | zxF=>9
 | zyT=>10
 | ztk=>11
 | zuE=>12
section
variable {w:World}{K:Zd}{mg:Str->Option Value}{t:Adr}
def xdb (T:eX) (er:Er) {j:Nat} (hj:j<13):Y3 K (.ref (er.cls t)) (.ref ([t.C_ah,t.C_z,t.C_g,t.C_f,t.C_k,t.C_w,t.C_d,t.C_u,t.C_r,t.C_v,t.C_ay,t.C_q,t.C_ac].getD j 0))=some (er.ix == j):=by
 cases er
 .exact xcq T.kits (i:=0) (Al,0<13) hj
 .show(uU,1)
 .show(uU,2)
 .show(uU,3)
 .show(uU,4)
 .show(uU,5)
 .show(uU,6)
 .show(uU,7)
 .show(uU,8)
 .show(uU,9)
 .show(uU,10)
 .show(uU,11)
 .show(uU,12)
def xdx (T:eX) (er:Er):XC K Gg:=by
 cases er
 .exact T.x_ah
 .exact T.x_z
 .exact T.x_g
 .exact T.x_f
 .exact T.x_k
 .exact T.x_w
 .exact T.x_d
 .exact T.x_u
 .exact T.x_r
 .exact T.x_v
 .exact T.x_ay
 .exact T.x_q
 .exact T.x_ac
def xub (T:eX) (er:Er):ja Gg:=by
 cases er
 .exact T.mk_ah
 .exact T.mk_z
 .exact T.mk_g
 .exact T.mk_f
 .exact T.mk_k
 .exact T.mk_w
 .exact T.mk_d
 .exact T.mk_u
 .exact T.mk_r
 .exact T.mk_v
 .exact T.mk_ay
 .exact T.mk_q
 .exact T.mk_ac
def xqs (T:eX) (er:Er):sj Gg:=by
 cases er
 .exact T.mro_ah
 .exact T.mro_z
 .exact T.mro_g
 .exact T.mro_f
 .exact T.mro_k
 .exact T.mro_w
 .exact T.mro_d
 .exact T.mro_u
 .exact T.mro_r
 .exact T.mro_v
 .exact T.mro_ay
 .exact T.mro_q
 .exact T.mro_ac
#check _
noncomputable def Er.of (j:Nat) (v0 v1:V):Er:=([zvN,zsg,zuv,zqs,zth,.tooMany,zrk,zuu,zut,zvM,zxn,zrj,zsf]:List Er).getD j .tooMany
def xc6 {er:Er}{j:Nat} (h:rC er.ix j):∃ v0 v1,er=Er.of j v0 v1:=by
 show(nK,Qw h);cases er
 .ext CF
 .ext zjS
 .ext CF
 .ext zjS
 .ext CF
 .exact jv .non .non
 .ext CF
 .ext CF
 .ext CF
 .ext CF
 .ext CF
 .ext zjS
 .ext zjS
def xze (er:Er):er.ix<13:=by
 cases er<;>exact Nat.le_of_ble_eq_true rfl
def xxx (n:Nat) (h:n<13) (c0:ug 0) (c1:ug 1) (c2:ug 2) (c3:ug 3) (c4:ug 4) (c5:ug 8) (c6:ug 6) (c7:ug 7) (c8:ug 9) (c9:ug 10) (c10:ug 11) (c11:ug 12) (c12:ug 5):False:=by
 simp only[beq_iff_eq] at *
 lia
def ErAt.ob {t:Adr}{H:Hp}{e:Addr}{er:Er} (h:zrQ):∃ od,(fO e (XO e Gg od))/\zlb:=by
 rcases h with⟨_,a⟩|⟨_,dx,a,b⟩
 .exact (eG,none,a,λ d z=>nomatch z)
 .exact (eG,oB,a,λ d z=>by cases z; ext we b)
def ErAt.dx {t:Adr}{H:Hp}{e:Addr}{er:Er} (h:zrQ) (n:er.fs≠[]):zEe:=by
 rcases h with⟨z,_⟩|⟨_,dx,a,b⟩
 .ext jB z n
 .exact eG dx a b
inductive xyv (t:Adr) (vs:eB) (H:Hp) (Q:VK) (_:XK):Prop
 | mk (e:Addr) (er:Er) (e_:vs=[pE]) (r_:zrQ/\(zVo zPC))
inductive xwh (vs:eB) (H:Hp) (Q:VK) (_:XK):Prop
 | mk (c:Int) (g:V) (d:DV) (e_:vs=[Nn,g]) (r_:(Eo g)/\∀ H' v d',gu->Thg H' v d'->US)
def ok_bc (T:eX):FnOk false P w K mg base eW 1 t.f_bc t.d_bc zey (xyv t):=by
 refine T.bc.F.okn (k:=0) sc_bc eZ (λ cdv A outer s H vs Q E hr h=>?_)
 .ext wt e J
 .ext wu e J;refine⟨_,xk (Cn T.g_ah)
   (xk (zbm T.g_z)
   (xk (Cn T.g_g)
   (xk (zbm T.g_f)
   (xk (Cn T.g_k)
   (xk (Cn T.g_r)
   (xk (Cn T.g_d)
   (xk (Cn T.g_u)
   (xk (Cn T.g_v)
   (xk (Cn T.g_ay)
   (xk (zbm T.g_q)
   (xk (zbm T.g_ac)
   (xk (zlO T.g_w SU)
   (yo SU))))))))))))),?_⟩
  refine sq14 ?_; intros; ext Fa; ext qL O;show(eE,od,D,hod,O.ob)
  show(tu,0,c0)
  .show(EA,T.x_ah,T.n_c2)
  show(tu,1,c1)
  .show(VM,T.x_z,T.n_c9,T.n_da)
  show(tu,2,c2)
  .show(zlh,⟨e,_,dx,_,L,rfl,kT D C T.x_g T.n_cu lk_1 rb Xw⟩)
  show(tu,3,c3)
  .show(VM,T.x_f,T.n_cy,T.n_cv)
  show(tu,4,c4)
  .show(EA,T.x_k,T.n_cw)
  show(tu,8,c5)
  .show(EA,T.x_r,T.n_c0)
  show(tu,6,c6)
  .show(EA,T.x_d,T.n_cp)
  show(tu,7,c7)
  .show(EA,T.x_u,T.n_cz)
  show(tu,9,c8)
  .show(EA,T.x_v,T.n_c3)
  show(tu,10,c9)
  .show(EA,T.x_ay,T.n_c8)
  show(tu,11,c10)
  .show(VM,T.x_q,T.n_c1,T.n_c4)
  show(tu,12,c11)
  .show(VM,T.x_ac,T.n_c5,T.n_c7)
  show(tu,5,c12)
  .ext zQk;ext fc zxr Xw
  exact (xxx _ (xze J) c0 c1 c2 c3 c4 c5 c6 c7 c8 c9 c10 c11 c12).elim
def ok_l (T:eX):FnOk true P w K mg base eW 1 t.f_l t.d_l (zW "_law_good") (xwh):=by
 refine T.l.F.okn (k:=0) sc_l eZ (λ cdv A outer s H vs Q E hr h=>?_)
 .ext EO c g U
 .ext Fe c g U;refine⟨_,xk ((by (with_reducible refine' xeh (i:=2) ?n1 ?i2 ?x3 ?e4 ?s5 ?f6); (case n1=>exact sc_l.nd); (case i2=>rfl); (case x3=>ext MV); (case f6=>ext MV); (case e4=>((with_reducible refine' xbp ?p7); (case p7=>((with_reducible show(yJ,?e8,?q9)); (case e8=>((exact xdi))); (case q9=>((with_reducible show(yJ,?e10,?q11)); (case e10=>((exact xeo))); (case q11=>((with_reducible show(yJ,?e12,?q13)); (case e12=>((exact xt))); (case q13=>((with_reducible show(yJ,?e14,?q15)); (case e14=>((exact xt))); (case q15=>((with_reducible show(yJ,?e16,?q17)); (case e16=>((exact xaj))); (case q17=>((with_reducible show(yJ,?e18,?q19)); (case e18=>((exact xaj))); (case q19=>((with_reducible show(yJ,?e20,?q21)); (case e20=>((exact xaj))); (case q21=>((with_reducible show(yJ,?e22,?q23)); (case e22=>((exact xaj))); (case q23=>((with_reducible show(yJ,?e24,?q25)); (case e24=>((exact xaq (i3 (xt))))); (case q25=>((exact xj))))))))))))))))))))))); (case s5=>rfl)))
   (xk (Bk (Ky fj) (sE fZ zdg))
   (yr 1)),?_⟩
  refine sq3 ?_; intros; ext qL M;ext CG q0 D;generalize z:o9 H q0 [DR]=Y;show(eK,O,su_e D z,S,ug_e z);show(rQ,DA 9,J,C);generalize z:iE Y J (zDm .non)=X;ext zmy; ext xN I C z;show(eK,R,ug_e z,j,O.trans I);refine(zcc,ite2 DU (λ y=>(q _ _ _ j (M.same j))));obtain⟨v,d,ev,L⟩:∃ v d,(yx (zDm V.non) yk v)/\Thg X v d:=by
   obtain⟨h0,Z⟩:=zrc;have:qE yk 0 yk 1 (qE yk 2 yk 3 (qE yk 4 yk 5 (qE,yk,6,yk,7,yk=8))):=eA
   rcases this with e|e|e|e|e|e|e|e|e<;>rw[e]
   .show(Ak,.non)
   .ext Ak uB
   .ext Ak jC
   .ext Ak jC
   .ext Ak LG
   .ext Ak LG
   .ext Ak LG
   .ext Ak LG
   .show(Ak,.tup (I _ _ S) rfl)
  exact⟨j6,(mJ 9),J,_,_,v,rfl,rfl,ft R,ev,q _ _ _ j L⟩
inductive xy1 (t:Adr) (vs:eB) (H:Hp) (Q:VK) (_:XK):Prop
 | mk (a dp do_:Addr) (w h:Nat) (ps:eI) (c:Int) (e_:xE Nn) (r_:qaU/\O0/\∀ H' l (de:De),(vq,gu,sY (.lst de.vs),de.ok H',gS))
def xhc {H:Hp}{nm:Str} (h:yQ):SI hJ nm:=.str _ (by
 unfold isNm at h;simp only[Z1,decide_eq_true_eq] at h
 lia)
def xr8 {x y:Str} (m:Int):∃ s:Str,(s=x\/s=y)/\(yx [V.str x,V.str y] (m % 2) pB):=by
 obtain⟨f,b⟩:=Ct m 2;have:m % 2=0\/m % 2=1:=eA
 rcases this with e|e<;>rw[e]
 .exact jv x jO
 .exact jv y C7
def xxi (m:Int):∃ x:Str,(yx [qbq,zZB,ztc] (m % 3) qh)/\x.length<=1000:=by
 obtain⟨f,b⟩:=Ct m 3;have:(qE,m % 3,0,m % 3,1,m % 3=2):=eA
 rcases this with e|e|e<;>rw[e]
 .exact jw "left" eJ
 .exact jw "right" eJ
 .exact jw "both" eJ
def ok_bu (T:eX):FnOk true P w K mg base eW 3 t.f_bu t.d_bu zlc (xy1 t):=by
 refine T.bu.F.okn (k:=2) sc_bu eZ (λ cdv A outer s H vs Q E hr h=>?_)
 .obtain ⟨a,dp,aF,w',h',ps,c,rfl,_⟩:=h;rfl
 .obtain ⟨a,dp,aF,w',h',ps,c,rfl,h⟩:=h;refine⟨_,xk (xdh rfl (lH ["_law_k"] ["_law_cell_here"] [1] ["_law_picture_here", "_law_cell_here", "_law_numbers", "_law_names_here", "_law_name", "_law_sides", "_law_low", "_law_high", "_law_found", "_law_x", "_law_side"] s_bu) (xf9 rfl T.n_range (i3 (xt))) BM Bj oX (λ_ _ _ _ _=>zlf (DE fG) fj) (j:=2) rfl y0)
   (xk (xdh rfl (Td "_law_row" ["_law_picture_here", "_law_cell_here", "_law_numbers", "_law_names_here", "_law_name", "_law_sides", "_law_low", "_law_high", "_law_found", "_law_x", "_law_side"] s_bu) zdI BM Bj oX zWh (j:=3) rfl y0)
   (xk (pS 4 sc_bu.nd (xaa xp1 (xaj) zAl oY))
   (xk (yp (PW.pt (xhh (Ic gV (xbp (xj))) (xgj (Ky MS)))) (xq (pS 4 sc_bu.nd (sE gV (x9 xa0 MS zgW)))))
   (xk (xcm (xan (N1 (sC fG) (xt)) (xk (pS 5 sc_bu.nd (sE (xbp (xg (xaj) Rp)) zAl))
   (xk (pS 6 sc_bu.nd (zdx MS gm))
   (xk (pS 7 sc_bu.nd (uQ kI (x9 xa0 MS (x9 xfr (GU gm) kI))))
   (xk (pS 8 sc_bu.nd (xbp (hF zzZ PH)))
   (xk (pS 8 sc_bu.nd (x9 xi0 zv (xbp (hF PH (Ie iO)))))
   (jI (x9 xi0 (x9 xi0 (xbp (xg (xaj) (xj))) zv) (xbp (hF (Ie kI) (Ie lP)))))))))) (xac)))
   (xk (yp (Ky fG) (zeU (hF (xaj) zzZ)))
   (xk (xcm (xan (Ky fG) (xk (pS 9 sc_bu.nd PH)
   (zeU (Gn (xaj) zzZ BL PH))) (xac)))
   (xk (pS 10 sc_bu.nd (Ie (zkb Rp zAl)))
   (zeU (kH (zkb Rp (sC fG)) Bw PH))))))))),?_⟩
  refine sq9 ?_; intros; ext vP a7 aQ;obtain⟨⟨bg,hp⟩,_,w1,w2,h1,h2,le⟩:=id a7;show(N5,(mY,9,rfl,eJ,eJ,eQ D aV),xph (m:=9) eJ aV (Vz,∃ z:Int,y=.int z) zX (iR i H2 hi s2 N hN) (vC H1 s1 el1 f))
  .exact (BE,j6,_,_,λ m m0 m1=>rS lU (uj m))
  have at_:∀ k:Nat,k<9->∃ d:Int,yx ys y9 (.int d):=λ k hk=>by
   show(ou,d,f k (ys[k]' eA) (Zc _));show(fc,d,xdd (pJ eA e))
  obtain⟨U,e0⟩:=at_ 0 eJ;show(jY,d1,e1,at_ 1 eJ,d2,e2,at_ 2 eJ);show(jY,d3,e3,at_ 3 eJ,d4,e4,at_ 4 eJ);obtain⟨d5,e5⟩:=at_ 5 eJ;show(jY,d6,e6,at_ 6 eJ,d7,e7,at_ 7 eJ);refine⟨a,bg,_,rfl,GA,gB,a,dp,aF,_,_,ps,rfl,lN s1 a7,λ H2 lp qs s2 aE a6=>mH lp aE l3 hl3⟩;have bp:=a6.len;refine xby (ft aE) xW hl3 (λ j v _=>∃ p,(hU ps p)/\v=F7) zX (λ j x H5 hx s5 N hN=>?_) (iR ys3 H3 s3 g3 ly3 fy)
  .ext B7 qa aT;show(eE,p,ah,bf,a6.get aT);exact sP qa 0 (FS,sX bf,rS lU (zC ah))
  obtain rfl:ys3=(pG).map V.str:=by
   show(qaw,(by rw[ly3,Za]; unfold xar; rw[Za]; lia),ah)
  show(eK,S,s2.trans s3,bo,s1.trans S);refine Hg (jx,rfl,ft (S _ _ el1),e0,j6,mJ 26,ztx abc gH zRF)
  dsimp only
  rw[show (ji ⟨#[97+(zsM).toNat]⟩)=ltr zsM from rfl];have aj:=xmh (zVg).1 (zVg).2;generalize ltr zsM=a8 at aj ⊢;show(kR,(DB,∃ nm,yQ/\Same H3 H'/\σ'=[jS,UG,Bc,zhN,T4,none,none,none,none,none,none]),?_)
  .refine vA XA l4 aU;generalize C:uI H3 l4=H4;ext BO I aU g4;show(gE,(zdm,.lst ((pG).map DV.str),.lst (([]:eO).map DV.str),xe6 (I _ _ g3),xe6 g4,NJ DU (λ_=>ifN eJ zTi)),Hg (kT,rfl,ft ((S.trans I) _ _ el1),e0,j6,zjm,rfl,NJ zAR (λ_=>zTi)));have pp:0<ps.length:=by
    cases ps with
    | nil=>show(Ep,show (xar [])=[] from rfl,xbw,y,y)
    | cons=>exact Qm _
   have nl:(GY,((pG).map V.str).length):=by unfold xar; rw[Za,Za]
   refine Hg (iu,rfl,ft ((S.trans I) _ _ el1),e0,j6,(sR,l3,_,Lj (I _ _ g3),(yy,(gk 0)<(kh,((pG).map V.str).length)),?_));have bm:=xba zzB (j9,(gk 0)<(kh,((pG).map V.str).length));obtain⟨j,hj⟩:∃ j:Nat,zzB % (kh,((pG).map V.str).length)=DX:=(zh,(zzB % (kh,((pG).map V.str).length)).toNat)
   show(fR,aW,j<ps.length,eA,(iI,l3,_,_,.str (ps[j]).nm,(mS,ft (I _ _ g3),?_,(fY,(ps[j]).nm,aQ _ Of,I,rfl))));rw[hj];exact xdd (by unfold xar; rw[Zf,Zf,Zc aW]; rfl)
  rintro _ H4 (⟨nm,ai,aN,rfl⟩:63);show(eK,I,S.trans aN,aP,s1.trans I);show(znM,[jS,UG,Bc,zhN,T4,none,none,none,none,none,none])
  .refine mT (mJ 8) _ zoS;show(rQ,sM leS3,q5,af);generalize C:iE H4 q5 (wj "left" zda wG)=H5;ext BO s5 af g5;show(eK,Z,I.trans s5,aq,s1.trans Z);show(eE,sd,be,aM,xxi (d3 / 8));show(gE,(vY,3,jx rfl zpR e3 j6 (mJ 3) (iQ,q5,_,_,ki,rfl,rfl,ft g5,be,?_)),(vY,4,zCP e4 mO));have b4:=xba (d4 / 8) (j9,0<mO);show(gE,vY 5 (zCP,e5,mO+1-(1+d4 / 8 % mO)),Hg (mS,ft (Z _ _ el1),e0,(zxP,fW H6 M u0 s6 O)));show(eK,t6,Z.trans s6,aL,s1.trans t6);refine vY 1 (mS,ft (t6 _ _ el1),e1,⟨D,_,1,_,rfl,rfl,ft (t6 _ _ el1),e1,j6,a,_,_,_,_,NY (aL _ _ hp) T.n_cc lkW (BQ zAI) d1,_,rfl,jC,λ H7 v1 u1 L ab=>uF q8 hq8⟩);generalize C:iE H7 q8 [M,v1]=H8;ext BO X hq8 g8;show(eK,t8,t6.trans (L.trans X),aK,s1.trans t8);refine vY 2 (mS,ft (t8 _ _ el1),e2,⟨D,_,2,_,rfl,rfl,ft (t8 _ _ el1),e2,j6,a,_,_,_,_,NY (aK _ _ hp) T.n_b6 lkH (BQ mO) d2,_,rfl,jC,fW H9 v2 u2 J aa⟩);have t9:=t8.trans J;refine vY 3 (mS,ft (t9 _ _ el1),e3,(Ga,d3,.str sd aM,λ bn v3 u3 ay aJ=>uF q11 hq11));generalize C:iE bn q11 [v2,v3]=bl;show(CB,ax,hq11,C,bb,ar,J.trans (ay.trans ax));refine iI q8 q11 _ _ (Uf,ar _ _ g8,bb,(DA,2+2),a5,aC);generalize C:iE bl a5 zqd=bj;ext BO aw aC ba;ext CG a4 aB;generalize C:iE bj a4 zsi=aG;ext BO R aB aD;refine iI a4 a5 _ _ (Uf,aD,R _ _ ba,(DA,1+4),a0,aA);generalize C:iE aG a0 (zsi++zqd)=bt;show(CB,av,aA,C,aZ,ap,t8.trans (ar.trans (aw.trans (R.trans av))));refine vY 4 (mS,ft (ap _ _ el1),e4,(Ga,d4,jC,fW br v4 u4 ad aI));have ao:=ap.trans ad;refine vY 5 (mS,ft (ao _ _ el1),e5,(Ga,d5,jC,λ bi v5 u5 au aH=>uF q17 hq17));generalize C:iE bi q17 [v4,v5]=bh;ext BO as hq17 aY;refine iI a0 q17 _ _ (Uf,(ad.trans (au.trans as)) _ _ aZ,aY,(DA,5+2),az,a9);generalize C:iE bh az (zsi++zqd++[v4,v5])=bq;ext BO aO a9 aX;show(eK,z5,as.trans aO,z4,au.trans z5);show(eK,z3,ax.trans (aw.trans (R.trans (av.trans (ad.trans z4)))),z2,ay.trans z3);show(eK,z1,X.trans (J.trans z2),z0,L.trans z1);exact q _ az (.come M v1 v2 v3 v4 v5 u0 u1 u2 u3 u4 u5) (s1.trans (ao.trans z4)) aX (gX,(eG,O.same z0,ab.same z1,aa.same z2),aJ.same z3,aI.same z4,aH.same z5)
  ext zpk;show(znM,[jS,UG,Bc,zhN,T4,none,none,none,none,none,none])
  .show(Br,zcc zoS,Hg (mS,ft (I _ _ el1),e0,(zxP,λ H6 M u0 s6 O=>uF q7 ae)));show(zJP,[.str "go",M]);exact q _ q7 (.go M u0) (s1.trans (I.trans (s6.trans L))) g7 (O.same L)
  ext zpk;show(znM,[jS,UG,Bc,zhN,T4,none,none,none,none,none,none])
  .show(Br,zcc zoS,vY 1 (mS,ft (I _ _ el1),e1,⟨D,_,1,_,rfl,rfl,ft (I _ _ el1),e1,j6,a,_,_,_,_,NY (aP _ _ hp) T.n_cc lkW (BQ zAI) d1,_,rfl,jC,fW H6 v1 u1 s6 ab⟩));have t6:=I.trans s6;refine Hg (mS,ft (t6 _ _ el1),e0,(zxP,fW H7 M u0 L O));show(eK,Y,t6.trans L,ac,s1.trans Y);refine vY 2 (mS,ft (Y _ _ el1),e2,⟨D,_,2,_,rfl,rfl,zUe,e2,j6,a,_,_,_,_,NY (ac _ _ hp) T.n_b6 lkH (BQ mO) d2,_,rfl,jC,λ H8 v2 u2 X aa=>vA (sM leS4) q9 hq9⟩);generalize C:iE H8 q9 [.str "shift",M,v1,v2]=H9;ext BO J hq9 g9;exact q _ q9 (.shift M v1 v2 u0 u1 u2) zIC g9 (eG,O.same (X.trans J),ab.same (L.trans (X.trans J)),aa.same J)
  ext zpk;show(eE,sw,aS,bd,xr8 (x:="left") (y:="right") (d6 / 8));refine vY 6 (Uf,ft (I _ _ el1),e6,rb,q5,af);generalize C:iE H4 q5 [.str "left",zda]=H5;ext xN s5 af C;show(eK,g5,ug_e C,Z,I.trans s5);refine(vY,6,jx rfl zpR e6 j6 zjm ⟨q5,_,_,.str sw,rfl,rfl,ft g5,bd,d6,_,_,rfl,.str sw (by rcases aS with rfl|rfl<;>decide),fW H6 v6 u6 s6 am⟩);show(eE,wd,aR,bc,xr8 (x:="unbar") (y:="bar") c);ext BY q7 ae;show(zJP,[.str "unbar",.str "bar"]);show(eK,Y,Z.trans (s6.trans L),ac,s1.trans Y);refine⟨zjm,q7,_,_,.str wd,rfl,rfl,ft g7,bc,D,_,7,_,rfl,rfl,zUe,e7,D,_,7,_,rfl,rfl,ft (Y _ _ el1),e7,j6,a,_,_,_,_,NY (ac _ _ hp) T.n_b6 lkH (BQ mO) d7,_,rfl,jC,λ H8 v7 u7 X ak=>vA CZ q9 hq9⟩;generalize C:iE H8 q9 (wj wd v6 v7)=H9;ext CB J hq9 C g9 sF zIC;rcases aR with rfl|rfl
  .exact q _ q9 (.unbar v6 v7 u6 u7) sF g9 zEB
  .exact q _ q9 (.bar v6 v7 u6 u7) sF g9 zEB
inductive xts (t:Adr) (vs:eB) (H:Hp) (Q:VK) (E:XK):Prop
 | mk (hd pa dp do_ lg ld:Addr) (w h:Nat) (ps:eI) (ss srt:eF) (prs:fC) (qs:eV) (de:De) (sh:Bool) (e_:vs=[AY,zAL,.bl sh]) (r_:(zEK,HnO t H hd pa dp do_ lg w h ps ss srt,zU,DRes t H hd pa dp do_ w h PF zxi Q))
inductive xv8 (t:Adr) (vs:eB) (H:Hp) (Q:VK) (E:XK):Prop
 | mk (a dp do_ ld:Addr) (w h:Nat) (ps:eI) (ss srt:eF) (de:De) (sh:Bool) (e_:vs=[fE,zAL,.bl sh]) (r_:(zEK,Dr t H a dp do_ w h ps ss srt,wA,(∀ H' srt',(vq,Rj DK do_ kC Ke,Dr t H' a dp do_ w h PF zxi srt',xb1 oH kO PF,.non))))
section
variable {t:Adr}{H H1:Hp}{a dp do_:Addr}{w h:Nat}{ps ps1:List Pt}{ss ss1 srt:List Seat}
def Dr.pts (k:Dr t H a dp do_ w h ps ss srt) (kc:znx dp) (pic1:Gx H1 a oH kO ps1) (pok1:zYZ):Dr t H1 a dp do_ w h ps1 ss srt:=by
 show(jL,v,f,k.pic.pl)
 show(eE,j,e,r,k.sts)
 exact(gY,pic1,(eG,j,kc _ _ (jg f) e,r),k.ok,k.pm,k.lt,λ p q=>(pok1.ok p q).nm)
def Dr.stv (k:Dr t H a dp do_ w h ps ss srt) (pic1:zf H1 oH kO) (st1:zWZ) (ok1:SsOk kO ss1):∃ srt1,Dr t H1 a dp do_ w h ps ss1 srt1:=by
 show(eE,srt1,b,lt,xfy ok1.1);exact hV srt1 pic1 st1 ok1 b lt k.nm
#check _
theorem okT_bw (T:eX):FnOk true P w K mg base eW 13 t.f_bw t.d_bw zaZ (xts t):=by
 refine T.bw.F.okx (k:=12) sc_bw eZ (λ cdv A outer s H vs Q E hr h=>?_)
 .obtain ⟨C,J,M,z,L,u,D,h',ps,ss,v,prs,I,de,sh,rfl,_⟩:=h;rfl
 .obtain ⟨C,J,M,z,L,u,D,h',ps,ss,v,prs,I,de,sh,rfl,h⟩:=h;refine⟨_,xk (zGa (xag fj T.c_ag T.m_c (okT_c T) fA T.b_de.choose_spec.2 T.b_de.choose_spec.1 xae.pass zch))
   (xk (CN (h9 fj T.c_ag T.m_c (okT_c T) fA T.b_c xae.pass zGN))
   (xk (CN (h9 fj T.c_ag T.ci.m (okT_ci T) fA T.ci.b xae.pass (i3 qY)))
   (xk (CN (h9 fj T.c_ag T.b9.m (okT_b9 T) fA T.b9.b xae.pass zch))
   (xk (CN (h9 fj T.c_ag T.ca.m (okT_ca T) fA T.ca.b xae.pass zeh))
   (jI (h9 fj T.c_ag T.ce.m (okT_ce T) fA T.ce.b xae.pass zeh)))))),?_⟩
  refine sq6 ?_; intros; ext Fa; ext kL k g j U R q h;obtain⟨S,O⟩:=k.ins;cases de with
  | come n x y s' lo hi dn dx dy ds dl dh =>
   obtain⟨⟨Z,Y,X⟩,ts,tl,th⟩:44:=U;cases sh with
   | true=>exact IJ (h8,iteT ⟨qaa,Py 2,Py 3,_,rfl,rfl,oG,rfl,C,J,M,qaf,I,n,x,y,wG,DR,.non,dn,dx,dy,wG,DR,.non,rfl,k,g,Z,Y,X,LG,jC,.non,R,q⟩)
   | false=>exact IJ (h8,iteF (IJ ⟨C,S,_,rfl,O,oE,u,_,1,_,rfl,rfl,oG,rfl,u,_,2,_,rfl,rfl,oG,rfl,u,_,3,Py 4,Py 5,Py 6,_,rfl,rfl,oG,rfl,C,J,M,qaf,I,n,x,y,s',lo,hi,dn,dx,dy,ds,dl,dh,rfl,k,g,Z,Y,X,ts,tl,th,R,q⟩))
  | go n d=>show(zdT,(Cc (IJ ⟨C,S,_,rfl,O,oE,u,_,1,_,rfl,rfl,oG,rfl,C,J,M,z,L,D,h',ps,ss,v,prs,I,n,d,rfl,k,g,U,R,q⟩)))
  | shift n x y d dx dy=>show(zdT,⟨u,_,0,_,rfl,zxK oG (h8,ifN gH (Cc (IJ ⟨qaa,_,rfl,rfl,oG,rfl,u,_,2,_,rfl,rfl,oG,rfl,u,_,3,_,rfl,rfl,oG,rfl,C,J,M,z,L,D,h',ps,ss,v,prs,I,n,x,y,d,dx,dy,rfl,k,g,U,R,q⟩)))⟩)
  | unbar s' r ds dr=>show(zdT,(Cc (Cc (sP u 0 ⟨45,rfl,oG,rfl,rfl,(h8,ifN gH (IJ ⟨zMi,oG,rfl,u,_,2,_,rfl,rfl,oG,rfl,C,J,M,z,L,D,h',ps,ss,v,zMe⟩))⟩))))
  | bar s' r ds dr=>show(zdT,(Cc (Cc (Cc (Cc ⟨zMi,oG,rfl,u,_,2,_,rfl,rfl,oG,rfl,C,J,M,z,L,D,h',ps,ss,v,zMe⟩)))))
theorem okT_a2 (T:eX):FnOk true P w K mg base eW 6 t.f_a2 t.d_a2 Xv (xv8 t):=by
 refine T.a2.F.okx (k:=5) sc_a2 eZ (λ cdv A outer s H vs Q E hr h=>?_)
 .obtain ⟨a,dp,O,D,w',h',ps,ss,S,de,sh,rfl,_⟩:=h;rfl
 .obtain ⟨a,dp,O,D,w',h',ps,ss,S,de,sh,rfl,h⟩:=h;refine⟨_,xk (zGa (xag fj T.c_a T.m_b (okT_b T) fA T.b_dc.choose_spec.2 T.b_dc.choose_spec.1 xae.pass zch))
   (xk (CN (h9 fj T.c_a T.m_b (okT_b T) fA T.b_b xae.pass zGN))
   (xk (CN (h9 fj T.c_a T.ba.m (okT_ba T) fA T.ba.b xae.pass (i3 qY)))
   (xk (CN (h9 fj T.c_a T.bb.m (okT_bb T) fA T.bb.b xae.pass zch))
   (xk (CN (h9 fj T.c_a T.o.m (okT_o T) fA T.o.b xae.pass zeh))
   (jI (h9 fj T.c_a T.s.m (okT_s T) fA T.s.b xae.pass zeh)))))),?_⟩
  refine sq6 ?_; intros; ext Fa; ext kL k L C dk hE q h;show(Xg,dz,J,k.pic);cases de with
  | come n x y s' lo hi dn dx dy ds dl dh =>
   obtain⟨⟨tn,tx,ty⟩,ts,tl,th⟩:44:=dk;cases sh with
   | true =>
    refine II (h8,iteT ⟨zEc,rfl,D,_,3,_,rfl,rfl,uu,rfl,a,dp,O,_,_,ps,n,x,y,wG,DR,.non,.int mO,dn,dx,dy,wG,DR,.non,.int mO,rfl,k.pic,tn,tx,ty,LG,jC,.non,.inl Ge,hE,λ no nm i j sd l hh X U Z e3 e4 e5 e6 M I po un le=>?_⟩);ext MX;show(ij,nm=xe1 dn,jn U)
    show(ij,i=intD dx,jn Z)
    show(ij,j=intD dy,jn e3)
    cases e4;ext BF e5 e6;have pk:=L.snoc po (zAo J) (λ m=>by ext Fk J; exact (zep).1 e) (λ m=>by ext Fk J; exact (zep).2 e) le;exact zWA
   | false =>
    refine II (h8,iteF (II ⟨zPc,ET 2,ET 3,ET 4,ET 5,ET 6,rfl,uu,rfl,a,dp,O,_,_,ps,n,x,y,s',lo,hi,_,dn,dx,dy,ds,dl,dh,_,rfl,k.pic,tn,tx,ty,ts,tl,th,xpd th _,hE,λ no nm i j sd l hh X U Z e3 e4 e5 e6 M I po un le=>?_⟩));ext MX;have ep:De.pts false mO ps (.come n x y s' lo hi dn dx dy ds dl dh)=ps++[zcC hh]:=by
     rw[U,Z,e3,e4,e5];show ps++[((zcC,intD (hiD mO dh)):Pt)]=_;rw[e6];rfl
    rw[ep] at q;have pk:=L.snoc po (zAo J) (λ m=>by ext Fk J; exact (zep).1 e) (λ m=>by ext Fk J; exact (zep).2 e) le;exact zWA
  | go n d =>
   refine zwr (zaA (II ⟨a,dz,_,rfl,J,gB,D,_,1,_,rfl,rfl,uu,rfl,a,dp,O,_,_,ps,n,d,rfl,k.pic,dk,hE,iR no nm X U M I⟩));subst U;exact q no X S zmM (k.pts M I (L.filt _)) (L.filt _)
  | shift n x y d dx dy =>
   ext nF tn tx ty dk;refine zwr (zkh (II ⟨zPc,ET 2,ET 3,rfl,uu,rfl,a,dp,O,_,_,ps,n,x,y,d,dx,dy,rfl,k.pic,L.nn,tn,tx,ty,hE,λ no nm i j X U Z e3 M I=>?_⟩));subst U Z e3;ext zIG;have pk:=zGq L;exact q no X S zmM qbZ pk
  | unbar s' r ds dr =>
   obtain⟨ts,tr⟩:=dk;show(jG,aa,fV k.ok,Hg ⟨45,rfl,uu,rfl,rfl,zrP (zaA (zkh (II ⟨zEc,rfl,a,dp,O,_,_,ps,ss,s',r,ds,dr,rfl,k.pic,k.sts,eA,λ z b i i1 i2=>xiq eA k.ok eA uC i1 i2,ts,tr,hE,λ no b i X U Z i1 i2 nin M I Y=>?_⟩)))⟩);ext zdU U Z xkb;show(zDn,xoe k.ok i1 i2 nin (zB Y.choose_spec))
  | bar s' r ds dr =>
   show(CC,ts,tr,dk,zwr (zkh (zkh ⟨HY dz,J,gB,D,_,1,_,rfl,rfl,uu,rfl,D,_,2,_,rfl,rfl,uu,rfl,a,dp,O,_,_,ps,ss,s',r,ds,dr,rfl,k.pic,k.sts,ts,tr,hE,λ no b i X U Z i1 i2 hm M I Y=>?_⟩)));ext zdU U Z xnn;show(zDn,(eG,k.ok.1.filter _,Z5 xb (fV k.ok),(zo,k.ok.2.2 s zsV)))
section
variable {H:Hp}
def tld0 {s:Str} (hs:zbQ):∀ v∈[zAB],SV:=λ v a=>by
 rw[Zq.mp a];ext we zwX
def tld1 {s:Str}{a:V}{d:DV} (hs:zbQ) (ta:Eo a):∀ v∈[zAB,a],SV:=λ v b=>by
 rcases GJ with rfl|b
 .exact mr zwX
 .rw [Zq.mp b];ext we ta
def tld2 {s:Str}{a b:V}{d e:DV} (hs:zbQ) (ta:Eo a) (tb:Thg H b e):∀ v∈[zAB,a,b],SV:=λ v f=>by
 rcases GI with rfl|f
 .exact mr zwX
 .rcases GI with rfl|f
  .exact mr ta
  .rw [zAs];ext we tb
def xqc {ps:eI} (nmk:O0) {nm:Str}{x y:Int}{er:Er} (e:U2 Kx):zoF:=by
 unfold xch at e;ext kP
 .ext zHD
 .ext kP
  .ext zHD
  .cases e
def xno {pw ph:Int}{ps:eI}{dn dx dy ds dl dh:DV}{n x y s lo hi:V} (nmk:O0) (tn:zeg) (tx:yq) (ty:FL) (ts:Lf) (tl:zdB) (th:Thg H hi dh) {er:Er} (e:(U2,xa3 pw ph ps dn dx dy ds dl dh n x y s lo hi)):zoF:=by
 unfold xa3 at e;ext kP
 .ext kP
  .ext kP
   .ext kP
    .ext kP
     .ext yd tn
     .ext kP
      .ext mC;exact tld0 gH
      .exact xqc nmk e
    .ext Rx tl th
   .ext yd ts
  .ext Rx tx ty
 .ext yd tn
theorem xu0 {sh:Bool}{pw ph:Int}{ps:eI}{ss:eF}{de:De} (ok:zAU) (nmk:O0) {er:Er} (e:de.out sh pw ph ps ss=some er):zoF:=by
 cases de with
 | come n x y s lo hi dn dx dy ds dl dh =>
  obtain⟨⟨h,f,b⟩,j,q,th⟩:44:=ok;cases sh with
  | true=>exact xno nmk h f b (.str _ gH) jC jC e
  | false =>
   refine xno nmk h f b j q ?_ e;rcases xpd th ph with⟨_,e1,e2⟩|⟨_,e1,e2⟩
   .ext uM e1 e2 jC
   .ext uM e1 e2 th
 | go n d =>
  ext zgt Ld;unfold xey at e;ext kP
  .cases e
  .ext yd ok
 | shift n x y d dx dy =>
  ext zgt zmg;unfold xe2 at e;ext kP
  .ext kP
   .ext kP
    .exact xqc nmk e
    .cases e
   .show(Rx,fV ok,jr ok)
  .ext yd Oi
 | unbar s r ds dr =>
  ext zgt znY;unfold xda at e;ext kP
  .ext yd Oi
  .ext kP
   .ext kP
    .show(Rx,Oi,ok.2)
    .cases e
   .show(yd,ok.2)
 | bar s r ds dr =>
  ext zgt znX;unfold xdc at e;ext kP
  .ext yd Oi
  .ext kP
   .ext kP
    .cases e
    .show(Rx,Oi,ok.2)
   .show(yd,ok.2)
theorem xsw {K:Zd}{v:V}{d:DV} (h:Nv):∃ ty b,TyOf K H v ty/\Y3 K ty (.type "bool")=some b:=by
 cases h with
 | non=>show(P7,.non)
 | bl b=>exact gM _ true mU xcu
 | int i=>ext P7 fF
 | str s h=>ext P7 pB
 | lst h f=>show(P7,.lst h)
 | tup h f=>show(P7,.tup h)
#check _
structure Apt (hd dp do_ a dpa doa:Addr):Prop where
 a1:a≠hd
 a2:dpa≠dp
 a3:doa≠do_
section
variable {t:Adr}{H H1:Hp}{hd pa dp do_ lg a dpa doa:Addr}{w h:Nat}{ps psa:List Pt}{ss srt ssa srta:List Seat}{prs:List Pr}{qs:List Addr}
def Dr.past (k:Dr t H a dpa doa w h psa ssa srta) (n:HnO t H hd pa dp do_ lg w h ps ss srt) (ap:zmQ) (kc:∀ b u,K8 hd DK do_ kC zbw):Dr t H1 a dpa doa w h psa ssa srta:=by
 show(AG,z,n.ins);show(sx,B,v,n.dr.pic.pl,A,j,n.dr.sts)
 show(ziB,H1,λ b xs f=>kc _ _ zyy zyA zyz f,⟨(hV,let ⟨x,f⟩:=k.pic.ins; ⟨x,kc _ _ ap.a1 zyA zyz f⟩,let ⟨y,f,q⟩:=k.pic.pl; (zeN,y,kc _ _ zyy ap.a2 zyz f),k.pic.w1,k.pic.w2,k.pic.h1,k.pic.h2,k.pic.len),?_,k.ok,k.pm,k.lt,k.nm⟩);show(pZ,y,f,r,k.sts,y,kc _ _ zyy zyA ap.a3 f,r)
def Hn.past (n:Hn t H hd pa dp do_ lg w h ps ss srt prs qs) (k:Dr t H a dpa doa w h psa ssa srta) (ap:zmQ) (kc:(Rj,b≠dpa,doa,kC,zbw)):Hn t H1 hd pa dp do_ lg w h ps ss srt prs qs:=by
 ext nF f z C n;show(AG,B,f.ins);show(sx,I,y,k.pic.pl,D,v,k.sts)
 show(ziB,H1,λ b xs j=>zan j,eG (gF,(xr,zan B),gY (hV,let ⟨x,j⟩:=f.dr.pic.ins; ⟨x,zan j⟩,let ⟨A,j,q⟩:=f.dr.pic.pl; (zeN,A,kc _ _ (Zz ap.a2) (ne_f j v) j),f.dr.pic.w1,f.dr.pic.w2,f.dr.pic.h1,f.dr.pic.h2,f.dr.pic.len) ?_ f.dr.ok f.dr.pm f.dr.lt f.dr.nm,f.pok,f.b,f.ne) (gF,zan z.hl,z.pl.keep tp,z.nn,z.le,z.rw) C);show(pZ,A,j,r,f.dr.sts,A,kc _ _ (ne_f j y) (Zz ap.a3) j,r)
#check _
def Hn.via {t:Adr}{H H1:Hp}{hd pa dp do_ lg:Addr}{w h:Nat}{ps:eI}{ss srt:eF}{prs:fC}{qs:eV} (n:Hn t H hd pa dp do_ lg w h ps ss srt prs qs) (kc:∀ b u,(∀ zs,u≠HO.lst zs)->kC->zbw) (kl:yB lg qQ):Hn t H1 hd pa dp do_ lg w h ps ss srt prs qs:=by
 ext nF j A C n;show(ziB,H1,λ b xs y=>Rz,eG (gF,let ⟨x,y⟩:=j.ins; ⟨x,Rz⟩,gY (hV,let ⟨x,y⟩:=j.dr.pic.ins; ⟨x,Rz⟩,let ⟨B,y,q⟩:=j.dr.pic.pl; zeN B Rz,j.dr.pic.w1,j.dr.pic.w2,j.dr.pic.h1,j.dr.pic.h2,j.dr.pic.len) ?_ j.dr.ok j.dr.pm j.dr.lt j.dr.nm,j.pok,j.b,j.ne) (gF,kl,A.pl.keep tp,A.nn,A.le,A.rw) C);show(pZ,B,y,r,j.dr.sts,B,Rz,r)
theorem Thg.via {H H':Hp} (kl:zai) (kt:zN) {v:V}{d:DV} (h:Nv):zeC:=by
 cases h with
 | non=>exact .non
 | bl b=>exact .bl b
 | int i=>exact fF
 | str s h=>exact .str s h
 | lst h f=>exact .lst (kl _ _ h) f
 | tup h f=>exact .tup (kt _ _ h) f
theorem De.ok.via {H H':Hp} (kl:zai) (kt:zN) {d:De} (h:d.ok H):d.ok H':=by
 cases d with
 | come=>exact(gX,(eG,(i0).1.via kl kt,(fV i0).via kl kt,(jr i0).via kl kt),(UH).via kl kt,(fV jX).via kl kt,(zB h).via kl kt)
 | go=>exact Thg.via kl kt h
 | shift=>show(fU,(i0).via kl kt,(UH).via kl kt,(jr h).via kl kt)
 | unbar=>show(fc,(i0).via kl kt,(jX).via kl kt)
 | bar=>show(fc,(i0).via kl kt,(jX).via kl kt)
inductive xyr (t:Adr) (vs:eB) (H:Hp) (Q:VK) (_:XK):Prop
 | mk (hd pa dp do_ lg a dpa doa ld:Addr) (w h:Nat) (ps:eI) (ss srt ssa srta:eF) (prs:fC) (qs:eV) (de:De) (sh:Bool) (e_:vs=[AY,fE,zAL,.bl sh]) (r_:(fS,Hn t H hd pa dp do_ lg w h ps ss srt prs qs,Dr t H a dpa doa w h ps ssa srta,zmQ,(fb,ss.Perm ssa,fO ld (.lst de.vs),zAU,(∀(er:Er) (H':Hp) (T l:Addr),lX gu zNe zPC (∀ v∈er.told,∃ d,zeC) Bd),(∀ H' T l lg' srt' srta' prs' qs',(tI hd DK (K8,do_,b≠dpa,doa,kC,Ke))->(lX,Hn t H' hd pa dp do_ lg' w h PF zxi srt' prs' qs',Dr t H' a dpa doa w h PF (de.sts ssa) srta',zNe,sY (.tup wz),Bd)))))
def ok_bv (T:eX):FnOk true P w K mg base eW 14 t.f_bv t.d_bv zky (xyr t):=by
 refine T.bv.F.okn (k:=13) sc_bv eZ (λ cdv A outer s H vs Q E hr h=>?_)
 .obtain ⟨Y,pa,dp,R,lg,a,af,ah,ld,U,h',ps,ss,av,aa,ab,prs,qs,M,I,rfl,_⟩:=h;rfl
 .obtain ⟨Y,pa,dp,R,lg,a,af,ah,ld,U,h',ps,ss,av,aa,ab,prs,qs,M,I,rfl,h⟩:=h;refine⟨_,xk (zYt 4)
   (xk (zYt 5)
   (xk (xcm (xqa (E:=(λ σ' e C' H'=>∃(C D:Addr) (q:Er),zCy [xi,jS,TL,Rl,Ni,Bc,none,none,none,none,none] (Gm D wz))) rfl T.g_a4 T.mk_a4 sc_bv.nd (j:=7) rfl rfl rfl rfl (λ_ _ tk=>xk (pS 6 sc_bv.nd (xcr (okT_bw T) fA rfl T.bw.g T.bw.F.kp T.bw.b .nil tk.pass (kH fj fZ gV)))
   (xk (xas zFT)
   (uy zFT))) (λ_=>xq (pS 4 sc_bv.nd zCf))))
   (xk (xcm (xqa (E:=(λ σ' e C' H'=>∃(C D:Addr) (v6:iM) (q:Er),zCy [xi,jS,TL,Rl,Ni,Bc,v6,none,none,none,none] zZm)) rfl T.g_a4 T.mk_a4 sc_bv.nd (j:=7) rfl rfl rfl rfl (λ_ _ tk=>uy (xcr (okT_a2 T) fA rfl T.a2.g T.a2.F.kp T.a2.b .nil tk.pass Rg)) (λ_=>xq (pS 5 sc_bv.nd zCf))))
   (xk (pS 8 sc_bv.nd (Fw (VA ia) (VA iO)))
   (xk (IY (xvc rfl T.n_zip (hF ia iO)) (tQ 9 sc_bv.nd 10 sc_bv.nd) (xq (xcm (sS (X2 (zHd BL) (zHd Bw) BL Bw) (xq (pS 8 sc_bv.nd (xeo)))))))
   (yo (hF zv ia))))))),?_⟩
  refine sq7 ?_; intros; obtain⟨hn,da,ap,pm,ar,dk,⟨qr,qd⟩⟩:47:=h;have aB:=da.nm;ext CG C aD;show(X0,o9 H C wz,aD);ext CG D aC;show(zot,o9 H1 D wz,aC);show(eK,ac,s1.trans s2,aF,zAh)
  show(Kt,∃(C D:Addr) (v6:iM),gL σ' [xi,jS,TL,Rl,Ni,Bc,v6,none,none,none,none] (Gm D wz) ((∃ q,M.out I zjL mO ps ss=some q/\gu/\zZm)\/(jH,M.out I zjL mO ps ss,none,Gm C wz,(∀ b u,K8 Y DK R kC Ke),∃ lg' srt' prs' qs',Hn t H' Y pa dp R lg' U h' zrW (M.sts ss) srt' prs' qs')))
  .refine zAm
   .ext zsx; have ae:=hn.same ac;refine⟨Y,pa,dp,R,lg,ld,U,h',ps,ss,av,prs,qs,M,I,rfl,(jx,ae.1,fV ae,ac _ _ ar,dk.same ac,λ q L e H' X=>(zE,C,D,q,rfl,rfl,L,xb7.pre ac X,X.1 _ _ g2),λ out H3 tp srt' lg' prs' qs' k3 hn3 told=>?_)⟩;obtain⟨lo,lm,Tt,xs,⟨ys,au,ai,a9,xl,yl,f1,f2,n1,n2,n3⟩⟩:121:=told;obtain⟨⟨aN,aM⟩,aP,_⟩:=hn3.1;refine sP tp 0 (iu,rfl,iZ au,rfl,wv ai,(ztx,lo,ai,Jr xl eJ));have u4:(tS,lo,H3 b=some u,H3,.lst (xs++[zgh])):=λb u nb e=>by
     ext lC nb e
    revert u4;generalize iE H3 lo (xs++[zgh])=H4;intro u4;show(Bu,a8,u4 _ _ (ne_f au ai) au,ao,u4 _ _ (Zz n1) a9,sP tp 2 (iu,rfl,iZ a8,rfl,wv ao,(ztx,lm,ao,Jr yl eJ)));have u5:(Rj,b≠lo,lm,H3 b=some u,kK H4 lm (.lst (ys++[zgh])) b u):=λ b u nb nc e=>by
     show(lC,nc,u4 b u nb e)
    revert u5;generalize iE H4 lm (ys++[zgh])=H5;intro u5;show(sx,aL,a6,ae.1.dr.pic.pl,aJ,a0,ae.1.dr.sts)
    obtain⟨aO,aE⟩:=ae.1.ins;show(gq,ax,(By,H2 b=some u,b≠lo/\b≠lm),jE ⟨mK f1 e,mK f2 e⟩,kp,∀ b u,(K8,Y,DK,R,H2 b=some u,H5 b=some u),λ b u b1 b2 b3 e=>u5 _ _ (ax _ _ e).1 (ax _ _ e).2 (k3 _ _ b1 b2 b3 e),ak,∀ b xs,H2 b=some ro->H5 b=some ro,(l0,kp _ _ (jg aE) (jg a6) (jg a0) e));refine(oM,C,D,_,rfl,ak _ _ g2,.inr (gX,out,ak _ _ aF,λ b u b1 b2 b3 e=>kp _ _ b1 b2 b3 (ac _ _ e),ir lg' srt' prs' qs' ?_));exact hn3.via (Eh,nl,u5 _ _ (zHj ai) (zHj a9) e) (u5 _ _ (Zz n2) (Zz n3) (fV hn3).hl)
   .rintro σ' e C' H' (⟨ad,aw,q,rfl,rfl,L,X,as⟩:105);refine(hV,xub T q,xqs T q,e,q,rfl,X.2,fW H3 l3 s3 f3 g3);exact(oM,l3,aw,none,rfl,vX as,.inl (fY,q,L,X.1.trans s3,g3))
  rintro _ H3 (⟨ad,D,v6,rfl,as,r⟩:103)
  show(Kt,∃(C D:Addr) (v6:iM) (vs:eB),(fb,σ'=[xi,jS,TL,Rl,Ni,Bc,v6,none,none,none,none],Gm C vs,Gm D vs,zNM,((∃ q:Er,vs=q.told/\gu)\/(vs=wz/\(tI Y DK (K8,R,b≠af,ah,kC,Ke))/\∃ lg' srt' srta' prs' qs',Hn t H' Y pa dp R lg' U h' zrW (M.sts ss) srt' prs' qs'/\Dr t H' a af ah U h' zrW (M.sts aa) srta'))))
  .refine zAm
   .rcases r with⟨q,L,s3,g3⟩|⟨out,g3,k3,lg',srt',prs',qs',hn3⟩
    .show(fR,am,De.out I zjL mO ps aa M=some q,(zTt).symm.trans L,(zHs,da.same s3,vX ar,dk.same s3,fW aH J e H' X,iy no))
     .rw [am] at J;cases J;exact⟨125,ad,D,v6,q,rfl,rfl,L,xb7.pre s3 X,X.1 _ _ g3⟩
     .ext Bp am no
    .obtain ⟨dx,hh⟩:=(HV).ins;show(sx,kd,a7,(HV).dr.pic.pl,ko,a4,(HV).dr.sts)
     show(eC,kl,∀ b xs,(pP nG)->H3 b=some nG,zGg,kt,∀ b xs,(pP ro)->H3 b=some ro,zGg);have aj:=da.past HV ap k3;show(sx,aK,a5,aj.pic.pl,aI,az,aj.sts)
     refine(zHs,aj,kl _ _ ar,dk.via kl kt,eQ aH J,iR no H4 srta' k4 da4 pk4)
     .rw [<- zTt,out] at J;cases J
     .have ay:∀ b xs,H3 b=some ro->H4 b=some ro:=(l0,k4 _ _ (jg a5) (jg az) e);exact⟨125,ad,D,v6,_,rfl,ay _ _ g3,ay _ _ as,tld0 gH,.inr (Eg,(zSI,k4 _ _ b4 b5 (k3 _ _ b1 b2 b3 e)),ir lg' srt' srta' prs' (eG,qs',hn3.past aj ap k4,da4))⟩
   .rintro σ' e C' H' (⟨ad,aw,aA,q,rfl,rfl,L,X,aG⟩:125);refine(hV,xub T q,xqs T q,e,q,rfl,X.2,fW H4 l4 s4 f4 g4);exact⟨125,ad,l4,aA,q.told,rfl,oP aG,g4,xu0 (dk.same (X.1.trans s4)) aB L,.inl (jw,q,X.1.trans s4)⟩
  rintro _ H4 (⟨C,D,v6,vs,rfl,g1,g2,th,r⟩:125);refine(uE,C,vs,zxX g1,(oN,84,D,vs,rfl,zxX g2,?_));ext xT; show(N5,(iQ,124,C,D,vs,vs,rfl,iZ g1,iZ g2,?_),xsb (xs:=vs) (ys:=vs) rfl (λ i Z H'=>∃ v9 aq b,DN/\Z=[xi,jS,TL,Rl,Ni,Bc,v6,none,some mU,v9,aq]/\Same H4 H') (oN 103 _ _ _ zoE lU) (λ i Z H' ⟨1103,_,_,_,_,_,s⟩=>⟨iZ (s _ _ g1),iZ (s _ _ g2)⟩) ?_ ?_)
  .rintro i x y Z H5 p hx hy (⟨v9,aq,b,hb,rfl,s5⟩:103) hp;ext gQ hx hy hy;obtain⟨d,td⟩:=th x (Zo hx);generalize eu:qN H5 p x x=H6;show(CB,s6,hp,eu,g6,t6,td.same (s5.trans s6));show(o6,ty,bb,ht,hk,xsw (K:=K) t6);show(uw,p,g6,hB ?_ Uw);ext ztC; exact(zKt,zKt ⟨0,0,.bl bb,.bl bb,.bl,.bl,eJ,eJ,_,rfl,ifN Db (zdm d d t6.dv t6.dv (h8,ifN Db (oN,103,_,_,b,hb,s5.trans s6)))⟩)
  .rintro Z H5 (⟨v9,aq,b,hb,rfl,s5⟩:103);subst hb;ext BY T hT;generalize eu:qN H5 T Gi gZ=H6;ext xN s6 hT eu;show(eK,g6,ug_e eu,O,s5.trans s6);rcases r with⟨q,rfl,s⟩|⟨rfl,k4,lg',srt',srta',prs',qs',hn4,da4⟩
   .exact qr q _ T C (s.trans O) g6 (O _ _ g1) (zFI O)
   .exact qd _ T C lg' srt' srta' prs' qs' (zSI,O _ _ (k4 b u b1 b2 b3 b4 b5 e)) (hn4.same O) (da4.same O) g6 (O _ _ g1)
noncomputable def outD (c:CV):DV:=(Go,uS,.lst ((wg).map DV.str))
theorem OutL.dv {K:Zd}{H:Hp}{cs:iD}{qs:eV} (h:KK) {l:Addr} (e:AV):lE 3 gS zQU:=by
 ext zHS b;rw[Zf] at i b;ext tR q z i;ext tR c A b;show(jb,I,D,y,C,B,h.get z);ext gQ A y y;refine .tup (iZ C) rfl (fW j x d i b)
 match j,i,b with
 | 0,i,b=>show(Hr,i,b,.str)
 | 1,i,b=>cases i; cases b; exact xe6 B
noncomputable def xd0 (H:Hp) (T:Addr) (w:Nat) (prs:fC) (nms:eO) (cs:iD):Prop:=∃(l1 l3 l4:Addr) (qs qs4:eV),(Mg T (zQw oH))/\(fb,fO l1 qQ,vb,fO l3 (.lst ((xbs nms cs).map V.str)),fO l4 (.lst (qs4.map V.ref)),OutL H cs qs4)
def xd0.same {H H':Hp}{T:Addr}{w:Nat}{prs:fC}{nms:eO}{cs:iD} (s:gu) (h:zvy):zeX H' nms:=by
 obtain⟨j,i,f,c,⟨b,y,x,v,r,q,n⟩⟩:121:=h;exact ir j i f c (iC,66,b,s _ _ y,s _ _ x,v.keep (Same.tups s),s _ _ r,s _ _ q,n.keep s)
theorem xd0.dv {K:Zd}{H:Hp}{T:Addr}{w:Nat}{prs:fC}{nms:eO}{cs:iD} (h:zvy):lE 4 Bd (.tup [.lst (prs.map prD),zvi oH,.lst ((xbs nms cs).map DV.str),zQU]):=by
 obtain⟨M,L,J,I,⟨q,D,C,B,A,z,y⟩⟩:121:=h;show(zps,iZ D,c)
 match j,c,b with
 | 0,c,b=>cases c; cases b; exact (B.dv C).le eJ
 | 1,c,b=>show(Hr,c,b,.int)
 | 2,c,b=>cases c; cases b; exact (xe6 A).le eJ
 | 3,c,b=>cases c; cases b; exact y.dv z
theorem OutL.via {H H':Hp} (kl:zai) (kt:zN) {cs:iD}{qs:eV} (h:KK):zcn:=by
 induction h with
 | nil=>ext mj
 | cons h hl _ ih=>exact .cons (kt _ _ h) (kl _ _ hl) ih
def xd0.via {H H':Hp} (kl:zai) (kt:zN) {T:Addr}{w:Nat}{prs:fC}{nms:eO}{cs:iD} (h:zvy):zeX H' nms:=by
 obtain⟨n,m,j,f,⟨c,A,z,y,x,r,q⟩⟩:121:=h;exact ir n m j f (iC,66,c,kt _ _ A,kl _ _ z,y.keep kt,kl _ _ x,kl _ _ r,q.via kl kt)
inductive xx5 (t:Adr) (vs:eB) (H:Hp) (Q:VK) (_:XK):Prop
 | mk (hd pa dp do_ lg:Addr) (w h:Nat) (ps:eI) (ss srt:eF) (prs:fC) (qs:eV) (e_:Gy) (r_:Hn t H hd pa dp do_ lg w h ps ss srt prs qs/\∀ H' T cs so ho,vq gu (zeX H' pG) FA Bd)
theorem xoc {K:Zd}{H:Hp}:∀{vs:eB},(∀ v∈vs,SV)->∃ ds:wZ,vs.length=ds.length/\∀(j:Nat) (x:V) (d:DV),(hU vs x)->(hU ds d)->(lE 1 x d)
 | [],_=>(jw,[],λ j x d h=>jz)
 | v::vs,h=>by
  show(U7,d,h v nO);show(eE,ds,l,f,xoc (K:=K) (vs:=vs) (rO,h z (Zm _ hz)))
  show(jV,d::ds,tt ZB ZB l,fW j x e b a);cases j with
  | zero=>show(Hr,b,a,c.dv)
  | succ j=>exact f j x e b a
def xg0 {Hb H:Hp}{l:Addr}{o:HO} (s:Same Hb H) (f:Hb l=none):Same Hb (jj l o):=λb u e=>by
 show(eY,m7 f,s b u e)
def Run.short {room:pq}{ns:eO}{so:gJ}{ho:fw}{cs:iD} (r:AS) (nd:ns.Nodup) {c:CV} (hc:c∈cs):Be wg ns.length:=by
 obtain⟨_,_,_,k,s⟩:83:=r.crowd nd c hc;exact Qd.length_le_of_subset (zjV k.nd) (rO,s z (Zm _ hz))
def xde {srt ss l:eF} (p1:l.Perm ss) (lt1:l.Pairwise xbz) (p2:RH) (lt2:Pk):l=srt:=xc3 xea (p1.trans p2.symm) lt1 lt2
def ok_bp (T:eX):FnOk true P w K mg base eW 11 t.f_bp t.d_bp zcx (xx5 t):=by
 refine T.bp.F.okn (k:=10) sc_bp eZ (λ cdv A outer s H vs Q E hr h=>?_)
 .obtain ⟨D,R,U,x,S,L,h',ps,ss,v,prs,X,rfl,_⟩:=h;rfl
 .obtain ⟨D,R,U,x,S,L,h',ps,ss,v,prs,X,rfl,h⟩:=h;show(pb,yo (Gn (qy fj T.c_ag T.bz.m (ok_bz T) fA T.bz.b xv) zEM (qy fj T.c_ag T.b1.m (ok_b1 T) fA T.b1.b xv) zEN));ext qL J;show(AG,Y,(qO).ins);show(gE,⟨D,dx,_,rfl,Y,oE,D,R,U,x,S,L,h',ps,ss,v,X,rfl,qO,(fV J).hl,fW H1 l1 s1 f1 e1⟩,⟨D,dx,_,rfl,BT Y,oE,D,R,U,x,S,L,h',ps,ss,v,prs,X,rfl,J.same s1,eQ H2 s2⟩);show(zbZ,I,⟨D,dx,_,rfl,I _ _ Y,oE,D,R,U,x,S,L,h',ps,ss,v,rfl,(qO).same I,λ H3 l3 cs so ho s3 f3 e3 O=>?_⟩);have C:=I.trans s3;refine⟨D,dx,_,rfl,C _ _ Y,oE,D,R,U,x,S,L,h',ps,ss,v,rfl,(qO).same C,λ H4 l4 aa ae ac ad s4 f4 e4 ab M _=>?_⟩;show(Fi,43,O.det M);show(rQ,sM leS4,T,hT);show(zsN,T,zQw (gk L));ext xN Z hT eu;show(eK,g5,ug_e eu,y,s4.trans Z);exact q _ T cs so ho (C.trans y) (ir l1 l3 l4 X (iC,66,aa,g5,(s2.trans (s3.trans y)) _ _ e1,(fV J).pl.keep (Same.tups (C.trans y)),y _ _ e3,Z _ _ e4,ab.keep Z)) O
def xxu (T:eX):FnOk true P w K mg base eW 15 t.f_law t.d_law E1 (xlh K):=by
 refine T.F_law.okn (k:=14) xdn eZ (λ cdv A outer s H vs Q E hr h=>?_)
 .ext wt sc ns
 .ext wu sc ns;refine⟨_,xk (pS 1 xdn.nd (pC (ok_ak T) hr T.ak.g T.ak.F.kp T.ak.b (i3 fj)))
   (xk (pS 2 xdn.nd (xeb T.k_ag (ok_cb T) fA rfl T.g_ag T.cb.b .nil xv lZ))
   (xk (xbu ZS rfl (xkt rfl T.n_range (hF (xt) (xao (xqu rfl) rfl T.n_min boot_min (hF (VA fj) (xt))))) (pN 3 xdn.nd) (xk (pS 4 xdn.nd VS)
   (xk (xcm (xcn (pC (ok_bv T) hr T.bv.g T.bv.F.kp T.bv.b (Gn fZ fG (pC (ok_bu T) hr T.bu.g T.bu.F.kp T.bu.b (hF fG (sE fj gV))) (Fw (sC (sE fj gV)) (xt)))) (xa4 rfl (tQ 5 xdn.nd 6 xdn.nd))))
   (xk (yp (PW.pt (xd2 (xcs (xa2 (pv 5))) (xdj (PW.pt (xhh (Ic kI (xaq (xg (xaj) (xj)))) (xgj (Ic VS ia))))))) zgf)
   (xk (pS 7 xdn.nd zEO)
   (xk (yp (X2 (V6 lP) (V6 fG) zAS zzV) zgf)
   (xk (pS 8 xdn.nd VS)
   (xk (yp (Ic zAS (xbp (xj))) (uy (h9 lP T.c_a T.s.m (xsg T) fA T.s.b xv (hF zVV zVV))))
   (xk (zoK (qy fZ T.c_ag T.bz.m (ok_bz T) fA T.bz.b xv))
   (xk (zoK zEP)
   (xk (IY (xay zkR) (tQ 9 xdn.nd 10 xdn.nd) (uy (KG Bw SU)))
   (xk (zoK zkR)
   (xk (yp (X2 VS zv (OA zEO) zzV) zgf)
   (xq (xcm (Bk (X2 zEP (pC (xht T) hr T.B_kept.g T.B_kept.F.kp T.B_kept.b lZ) zkR (pC (ok_by T) hr T.B_by.g T.B_by.F.kp T.B_by.b lZ)) (xeo)))))))))))))))))
   zgf)),?_⟩
  refine sq4 ?_; intros; ext vP hs n63;refine(BG,sc,ns,hs,λ H1 a0 af ah w' h' bX st0 aS s1 cT cU dr cG=>?_);show(eK,w2,dr.pic.w2,h2,dr.pic.h2);refine (fW M aO hx cO ne);have k1:(By,H1 b=some u,kK zQG M zRQ b u):=(jE,ziK TW cO)
  have fr:∀{b:Addr},(Hf zQG M zRQ b)->zuw:=λ{b} z=>by
   cases e:H1 b with
   | none=>rfl
   | some u =>
    show(HH,k1 _ _ e)
  refine⟨M,aO,a0,af,ah,w',h',bX,st0,aS,rfl,xh,dr.same k1,cG,eA,eA,λ H2 pa dp O lg prs qs k2 f1 f2 f3 hn=>AW⟩;ext xT; have am:vz:=(jE,k2 _ _ (xp e hx) (k1 _ _ e));have az:=s1.trans am;show(gq,fd,gz M,s1.free hx,fp,TK,s1.free (fr f2),fo,gz O,s1.free (fr f3));show(sx,ka,cz,dr.pic.pl,kb,cy,dr.sts)
  obtain⟨eg,cu⟩:=dr.pic.ins;show(i6,ap,Apt M dp O a0 af ah,(eG,mK hx cu,(mK,fr f2,cz),(mK,fr f3,cy)),pd,aS.Perm st0,dr.pm,(iC,sc,_,rfl,.inl (Same.seqL az hs),_,_,rfl,?_));rw[Za];obtain⟨hi,c3,ea,dZ⟩:∃ hi:Int,(gL,if (gk 29)<zbR then 29 else zbR,hi,hi<=29,hi<=zbR):=by
   split
   .exact fh 29 rfl vU eA
   .exact fh _ rfl eA vU
  have eb:0<=hi:=by rw[<- c3]; ext rB
  rw[c3];refine(BG,5,hi,fh eJ eJ eA eA,?_)
  let Pv (i:Nat) (Z:L2.St) (H5:Hp):Prop:=∃(lg:Addr) (ps:eI) (ss D R:eF) (prs:fC) (qs:eV) (v3 v4 v5 v6 v7 v8 v9 aa:iM),(fb,Z=[GL,GK,G8,v3,v4,v5,v6,v7,v8,v9,aa],My,Hn t H5 M pa dp O lg w' h' ps ss D prs qs,Dr t H5 a0 af ah w' h' ps R D,ss.Perm R)
  refine xf8 (Pv:=Pv) ?_ ?_ ?_
  .exact ⟨lg,bX,aS,aS,st0,prs,qs,_,_,_,_,_,_,_,_,rfl,az,hn,dr.same am,pd⟩
  .rintro i Z H5 ec (⟨lg,ps,ss,D,⟨R,prs,qs,v3,v4,v5,v6,v7,v8,v9,aa,rfl,s5,aM,aD,pm⟩⟩:121);refine gn ?_; refine sq13 ?_; intros; have il:5+i<ns.length:=eA
   have at_:atI (ns.map V.int) (5+jT)=some (.int (ns[5+i])):=by
    rw[(kM,(gk 5)+jT,(kh,5+i),eA)];exact xdd (On,Zc il)
   generalize ns[5+i]=c at at_;refine⟨WZ,qs,rfl,aM,λ H6 T6 cs so ho s6 b9 aA=>?_⟩;have bh:=s5.trans s6
   show(Kt,∃(lg:Addr) (ps:eI) (ss D R:eF) (prs:fC) (qs:eV) (l:Addr) (vs:eB),(jH,σ',[GL,GK,G8,K0,MA,MF,vF,v7,v8,v9,aa],gu,Hn t H' M pa dp O lg w' h' ps ss D prs qs,(fb,Dr t H' a0 af ah w' h' ps R D,ss.Perm R,sY (.tup vs),zNM,vs=wz\/(xd0 H' T6 w' prs pG cs/\(zaO D pG)))))
   .refine ⟨sc,_,_,_,rfl,rfl,Same.seqL bh hs,at_,a0,af,ah,w',h',ps,c,rfl,lN s6 aD.pic,aD.nm,iR H7 ld de s7 cN dk⟩;show(eK,bM,bh.trans s7,bK,s6.trans s7);show(gE,⟨sc,_,_,_,rfl,rfl,Same.seqL bM hs,at_,(mJ 5),rfl,?_⟩,⟨M,pa,dp,O,lg,a0,af,ah,ld,w',h',ps,ss,D,R,D,prs,qs,de,_,rfl,aM.same bK,aD.same bK,ap,pm,cN,dk,λ er H8 T l s8 hT hl th=>?_,λ H8 T l lg' srt' srta' prs' qs' k8 ab ao hT hl=>?_⟩)
    .refine oO T hT;show(eK,bJ,s7.trans s8,be,s6.trans bJ);exact⟨lg,ps,ss,D,R,prs,qs,l,_,rfl,s5.trans be,aM.same be,aD.same be,pm,hl,th,.inr ⟨b9.same bJ,aA⟩⟩
    .refine oO T hT;show(ij,srta'=srt',xde (ao.pm.trans (zRK).symm) ao.lt ab.1.dr.pm ab.1.dr.lt);exact⟨lg',_,_,srta',_,prs',qs',l,_,rfl,(jE,k8 _ _ (xp e fd) (xp e fp) (xp e fo) (xp e cT) (xp e cU) (bM _ _ e)),ab,ao,zRK,hl,tld0 gH,jO⟩
   clear aM aD pm b9 aA s6 bh s5;rintro _ H8 (⟨lg,ps,ss,D,⟨R,prs,qs,l,vs,rfl,s8,ab,ao,pm,hl,th,r⟩⟩:121)
   show(zsQ,H8,[GL,GK,G8,K0,MA,MF,vF,v7,v8,v9,aa])
   .ext ztC; show(gE,(h8,ifN eJ ?_),vA zxr q9 cI);generalize U:o9 H8 q9 wz=H9;ext wP s9 cI U g9;have dq:Dv K H9 2 (.ref q9) (.tup wz):=.tup (iZ g9) rfl λj x d h1 h2=>by
     cases j with
     | zero=>show(Hr,h1,h2,.str)
     | succ j=>cases h1
    rcases r with rfl|⟨sn,aA⟩
    .have dl:Dv K H9 2 gS (.tup wz):=.tup zTq rfl λj x d h1 h2=>by
      cases j with
      | zero=>show(Hr,h1,h2,.str)
      | succ j=>cases h1
     exact(zR,2,dl,dq,ifN Db (ifN eJ (uj s9)))
    .show(on,ds,c6,df,xoc (K:=K) (H:=H9) (zFI s9))
     show(gE,⟨2,2,.tup ds,_,.tup zTq c6 df,dq,eJ,eJ,_,rfl,ite2 zAR (λ_=>ifN eJ (uj s9))⟩,⟨WZ,qs,rfl,ab.same s9,λ cC em ek dQ dY ar bC bP=>?_⟩);show(Fi,43,aA.det bP);exact(zR,4,bC.dv,(sn.same (s9.trans ar)).dv,ifN Db (uj,s9.trans ar))
   ext zfG H9 s9
   replace ab:=ab.same s9
   replace ao:=ao.same s9
   replace s8:=s8.trans s9
   clear s9 th hl r;show(CC,di,cv,ab.1.ins,⟨M,di,_,rfl,cv,oE,M,pa,dp,O,lg,w',h',ps,ss,D,rfl,ab.1,λ cC a' aC a6 ar _ _ cV ai=>?_⟩);have bI:=s8.trans ar;show(eK,aL,ab.same ar,X,ao.same ar);show(EZ,aB,aY,ai.pic);show(EZ,c5,bu,X.pic)
   show(zsQ,cC,[GL,GK,G8,K0,MA,MF,vF,zhL,v8,v9,aa])
   .show(IM,⟨a',aB,_,rfl,aY,gB,a',aC,a6,_,_,ps,rfl,ai.pic,iR d4 lp dS ay dg ce⟩);show(gE,⟨a0,c5,_,rfl,ay _ _ bu,gB,a0,af,ah,_,_,ps,rfl,lN ay X.pic,iR aZ lq dR am dd cd⟩,(zR,2,(ce.keep (Same.tups am)).dv (am _ _ dg),cd.dv dd,zwZ));have az:=ay.trans am;refine⟨(Me,a',aB,az _ _ aY,aC,a6,D),(BX,lN az ai.pic,ai.sts.same az,bt,ba,aI,b2,aF,aJ,aK)⟩;ext zGt;ext xN aV b2 U;show(eK,bx,ug_e U,aW,az.trans aV);refine⟨(Me,a0,c5,aW _ _ bu,af,ah,R),(BX,lN aW X.pic,X.sts.same aW,as,d9,bU,b1,bH,cc,cp)⟩;generalize U:upd aj as (.lst (bU.map V.ref))=aE;ext wP ak b1 U bw;show(Uh,xde aJ aK vm ai.lt,xde cc cp X.pm X.lt);exact(zR,2,(aF.keep (Same.tups (aV.trans ak))).dv (ak _ _ bx),(bH.keep (Same.tups ak)).dv bw,ifN Db (uj,aW.trans ak))
   ext zfG d4 ay;refine⟨WZ,qs,rfl,aL.same ay,λ aZ T8 cs so ho am bb aA=>?_⟩;show(eK,ax,ay.trans am,I,ai.same ax);show(eK,cw,aL.same ax,c7,X.same ax);show(eK,bO,bI.trans ax,ac,ax _ _ aY)
   show(Kt,(tI,a6,aZ b=some u,H' b=some u)/\σ'=[GL,GK,G8,K0,MA,MF,vF,zhL,zAH,v9,aa])
   .show(IM,⟨a',aB,_,rfl,ac,gB,a',aC,a6,_,_,ps,D,rfl,I.pic,I.sts,λ bt ba aI b2 aF aJ aK=>?_⟩);ext zGt;ext wP aV b2 U bx;show(nK,xde aJ aK vm I.lt);ext rQ XA as cx;generalize U:uI aj as=aE;ext xN ak cx U;show(eK,bw,ug_e U,aw,aV.trans ak);show(fR,d0,Dv K aE 2 (.ref as) (.lst (([]:eF).map xez)),(.lst (ft bw) rfl λ j x d h1 _=>by cases h1),(zR,2,(aF.keep (Same.tups aw)).dv (ak _ _ bx),d0,ite2 DU (λ_=>(uj,λ b u _ e=>aw _ _ e))));cases ba with
    | nil=>ext iF xbw y y
    | cons z zs =>
     have bz:=I.ok.2.2 z nO;have c0:∀{l:Addr}{ss':eF}{rs:eV}{H':Hp},xbq H' ss' rs->ss'=z::zs->∃ q0,(Hm,atI (rs.map V.ref) 0,w4,kf q0 (AR z)):=λ{l ss' rs H'} sl e=>by
      ext iL;cases sl with
      | cons h _=>exact hB zqP h
     refine⟨a',aB,_,rfl,aw _ _ ac,gB,a',aB,_,rfl,aw _ _ ac,gB,a',aC,a6,_,_,ps,_,(BX,lN aw I.pic,I.sts.same aw,br,d8,bT,cX,bG,cb,co)⟩;generalize U:upd aE br (.lst (bT.map V.ref))=cB;ext wP bL cX U cS;show(eE,bW,dz,dc,c0 (l:=br) bG (xde cb co vm I.lt));have aR:=aw.trans bL;show(gE,⟨br,_,0,.ref bW,rfl,rfl,ft cS,dz,bW,_,0,_,rfl,rfl,iZ (bL _ _ dc),rfl,?_⟩,⟨(Me,a',aB,aR _ _ ac,aC,a6,_),(BX,lN aR I.pic,I.sts.same aR,a5,d7,bS,b0,bF,ca,cn)⟩);generalize U:upd cB a5 (.lst (bS.map V.ref))=b5;ext wP aU b0 U cR;show(eE,bV,dy,aN,c0 (l:=a5) bF (xde ca cn vm I.lt));have bd:=aR.trans aU;refine⟨a5,_,0,.ref bV,rfl,rfl,ft cR,dy,bV,_,1,_,rfl,rfl,iZ (aU _ _ aN),rfl,?_⟩;exact⟨a',aC,a6,_,_,ps,_,z.1,z.2,rfl,lN bd I.pic,I.sts.same bd,bz.1,bz.2,nO,λ d3 cH _ _=>uj (HM,cH _ _ nb (bd _ _ e))⟩
   ext zfG aj aX;show(jL,kn,bv,I.sts)
   have a7:Same H9 aj:=(jE,aX _ _ (xp e cV) (ax _ _ (ar _ _ e)));show(eK,J,ab.same a7,Y,ao.same a7);show(eK,bN,s8.trans a7,bB,bb.via (l0,aX _ _ (jg bv) e) (l0,aX _ _ (jg bv) e));obtain⟨ae,ad⟩:=(qO).ins;show(EZ,dh,cK,Y.pic);show(eC,bp,LZ,(qO).pok.nn,nl,Sz pG,by unfold xar; show(eY,Za,(qO).pok.le))
   clear ab ao s8 bI aL X ar ai I cw c7 bO ax ay am bb aX bv a7 ac bu aY cv;refine⟨M,ae,_,rfl,ad,oE,M,pa,dp,O,lg,w',h',ps,ss,D,qs,rfl,qO,(fV J).hl,λ aE as ak b1 b4=>(F8,wv b4,as,rfl,b4)⟩;have av:Same aj (uI aE as):=xg0 ak b1;revert av;generalize uI aE as=cB;intro av;refine⟨(Ih,av _ _ ad),D,rfl,(qO).same av,λ b5 a5 dw cD cM aU b0 aN _=>(F8,wv aN,a5,rfl,aN)⟩;ext zmx; have au:Same aj (uI b5 a5):=xg0 (av.trans aU) (av.free b0);revert au;generalize uI b5 a5=d3;intro au;refine⟨(Ih,au _ _ ad),D,rfl,(qO).same au,λ eq ct dG dM dC dJ cF ef b3 ch a4 ci=>fh ct rfl (mr,ft b3) ?_⟩;show(gP,L,rfl,eL,hL,ci);show(mq,cl,a4.outs.2,Ll,L.length<=12,by rw[eL,Za] at cl; lia)
   have b8:=au.trans cF
   let Pv (j:Nat) (Z:L2.St) (H':Hp):Prop:=∃ v9 aa,(jH,Z,[GL,GK,G8,K0,MA,MF,vF,zhL,zAH,v9,aa],Same aj H',kf ct (.lst ((zhg).map V.ref)),∀ x∈L,(kf gG zWt)/\∃ zs,(kf iG zhy)/\zs.length<=12+j)
   show(EE,(zhg).map V.ref,?_,?_)
   .refine (gY,_,_,rfl,b8,b3,El (fh,ux zgX,_,zB zgX,?_));rw[Za];show(iP,a4.short bp (c:=Bo) (by rw[eL]; exact Zj.mpr (jv x hx)))
   .rintro j Z H' _ (⟨_,_,_,_,e,_⟩:84);exact SqL.of e
   .rintro j v Z H' hv (⟨v9,aa,rfl,s,e,f⟩:84);rw[Zf,Zf] at hv;ext tR q0 cJ hv;ext tR x hx cJ;show(eK,xm,Zo hx,jl,zAd);obtain⟨ex,zs,ez,zl⟩:=f x xm;show(uw,gG,ex,⟨wv ez,iG,_,_,rfl,rfl,ez,Jr (eA:_<=24) eJ,_,_,rfl,xg0 s (au.free (hL x xm).1),?_,zxb⟩)
    .show(ie,lB (fV (hL x xm)),e)
    .obtain ⟨ey,ws,ew,wl⟩:=f y hy;refine jF (eP,w6 ey ez,ey);ext mX zjA iG
     .rw [c,xh];exact h8 Le
     .rw [xo c];ext fU ws ew eA
   .rintro Z ep (⟨v9,aa,rfl,aT,_,_⟩:84);clear av au b8 hL a4 ch b3 b4 aN;refine⟨(Ih,aT _ _ ad),D,rfl,(qO).same aT,λ cA bq dF dL dB dI cE cW c4 _ _ _=>(F8,wv c4,bq,rfl,c4)⟩;have aQ:Same aj (uI cA bq):=xg0 (aT.trans cE) (aT.free cW);revert aQ;generalize uI cA bq=eo;intro aQ
    show(zsQ,aj,[GL,GK,G8,K0,MA,MF,vF,zhL,zAH,v9,aa])
    .show(IM,⟨WZ,qs,rfl,J.same aQ,λ d2 el dK dA dH aH bA bo=>?_⟩);show(Fi,43,aA.det bo);have aP:=aQ.trans aH;show(gE,(zR,4,bA.dv,(bB.same aP).dv,zwZ),⟨(Ih,aP _ _ ad),D,rfl,(qO).same aP,λ c9 a3 dt du bg _ _ _ a8=>?_⟩);show(D4,dj,cL,a8.pic,⟨Me a3 dj cL dt du D,BX a8.pic a8.sts cr d6 bR c2 bE bZ cm⟩);generalize U:upd c9 cr (.lst (bR.map V.ref))=c8;show(CB,aG,c2,U,cQ,aq,aP.trans (bg.trans aG));refine⟨(Me,a0,dh,aq _ _ cK,af,ah,R),(BX,lN aq Y.pic,Y.sts.same aq,cq,d5,bQ,c1,bD,bY,cj)⟩;generalize U:upd c8 cq (.lst (bQ.map V.ref))=d1;ext wP a9 c1 U cP;show(Uh,xde bZ cm vm a8.lt,xde bY cj Y.pm Y.lt);exact(zR,2,(bE.keep (Same.tups (aG.trans a9))).dv (a9 _ _ cQ),(bD.keep (Same.tups a9)).dv cP,ifN Db (uj,aq.trans a9))
    ext zfG d2 aH;refine hB ?_ Uw;show(IM,⟨(Ih,aH _ _ ad),D,rfl,(qO).same aH,λ c9 dU ej dP dX bg ee db bn=>?_⟩);have b7:=aH.trans bg;refine(zHt,b7,λ c8 cr ei dO dW aG c2 da bm=>?_);show(Fi,43,bn.det bm);refine(zR,1,xe6 (aG _ _ db),xe6 da,zwZ);have aq:=b7.trans aG;refine⟨(Ih,aq _ _ ad),D,rfl,(qO).same aq,λ d1 cq dE eh dN dV a9 c1 cZ cg bj _=>?_⟩;have b6:=aq.trans a9;refine(zHt,b6,λ en dT dD dw cD cM bf ed cY cf bi _=>?_);show(Fi,43,bj.det bi);have bc:=b6.trans bf;exact(zR,3,(cg.keep bf).dv (bf _ _ cZ),cf.dv cY,ifN Db ⟨lg,ps,ss,D,R,prs,qs,_,_,_,_,_,_,_,_,rfl,bN.trans bc,J.same bc,Y.same bc,pm⟩)
  .rintro Z H5 (⟨lg,ps,ss,D,⟨R,prs,qs,v3,v4,v5,v6,v7,v8,v9,aa,rfl,s5,aM,aD,pm⟩⟩:121);exact q _
#check _
#check S81
-- the names of the twins of whole trees and heaps are xco here,so that the head makes no such twins (they are what makes its compiled file large); see NOTE.md
namespace PySem.W.Fast
#print"cw_rimnotes_k81_deeds_of_a_hand_holds _43 o_1 _1 o_2 _2 o_1 _1 o_1 _1 o_9 _1 o_9 _1 o_5 _1 o_8 _1 o_5 _1 o_3 _1 o_11 _1 o_5 _1 o_3 _1 o_11 _1 o_5 _1 o_3 _1 o_11 _1 o_5 _1 o_3 _1 o_11 _1 o_5 _1 o_3 _1 o_11 _1 o_5 _1 o_3 _1 o_11 _1 o_5 _1 o_8 _1 o_5 _1 o_3 _1 o_11 _1 o_5 _1 o_3 _1 o_11 _1 o_5 _1 o_3 _1 o_11 _1 o_5 _1 o_3 _1 o_11 _1 o_5 _1 o_3 _1 o_11 _1 o_5 _1 o_3 _1 o_11 _1 o_5 _1 o_3 _1 o_11 _1 o_4 _1 o_3 _1 o_13 _1 o_5 _1 o_3 _1 o_6 _1 o_6 _1 o_6 _1 o_11 _1 o_5 _1 o_3 _1 o_6 _1 o_6 _1 o_6 _1 o_11 _1 o_6 _1 o_1 _1 o_4 _1 o_4 _1 o_4 _1 o_4 _1 o_4 _1 o_6 _1 o_6 _1 o_6 _1 o_4 _1 o_6 _1 o_4 _1 o_3 _1 o_6 _1 o_6 _1 o_13 _1 o_4 _1 o_6 _1 o_4 _1 o_1 _1 o_4 _1 o_4 _1 o_3 _1 o_4 _1 o_4 _1 o_6 _1 o_6 _1 o_13 _1 o_4 _1 o_1 _1 o_6 _1 o_6 _1 o_4 _1 o_3 _1 o_7 _1 o_6 _1 o_6 _1 o_6 _1 o_6 _1 o_6 _1 o_6 _1 o_6 _1 o_6 _1 o_6 _1 o_6 _1 o_11 _1 o_1 _1 o_4 _1 o_6 _1 o_6 _2 o_1 _1 o_4 _1 o_3 _1 o_7 _1 o_6 _1 o_6 _1 o_6 _1 o_6 _1 o_6 _1 o_4 _1 o_6 _1 o_6 _1 o_6 _1 o_6 _1 o_4 _1 o_6 _1 o_6 _1 o_6 _1 o_6 _1 o_6 _1 o_4 _1 o_12 _1 o_4 _1 o_3 _1 o_7 _1 o_6 _1 o_6 _1 o_6 _1 o_6 _1 o_6 _1 o_4 _1 o_6 _1 o_6 _1 o_6 _1 o_1 _3 o_1 _1 o_1 _1 o_6 _1 o_6 _1 o_6 _1 o_6 _1 o_4 _1 o_6 _1 o_6 _1 o_6 _1 o_6 _1 o_6 _1 o_4 _1 o_6 _1 o_1 _1 o_6 _1 o_6 _1 o_6 _1 o_5"
#print"cw_rimnotes_k81_deeds_of_a_hand_holds _47 tree_1 _22 tree_1 _14 tree_1 _21 tree_1 _21 tree_1 _21 tree_1 _21 tree_1 _21 tree_1 _21 tree_1 _14 tree_1 _21 tree_1 _21 tree_1 _21 tree_1 _21 tree_1 _21 tree_1 _21 tree_1 _21 tree_1 _22 tree_1 _42 tree_1 _49 tree_1 _59 tree_1 _53 tree_1 _6 tree_1 _51 tree_1 _15 tree_1 _98 tree_1 _21 tree_1 _145 tree_1 _79 tree_1 _84 tree_1 _29 tree_1"
#print"cw_rimnotes_k81_deeds_of_a_hand_holds _39 heap_1 _6 heap_1 _1107 heap_1"
#print"cw_rimnotes_k81_deeds_of_a_hand_holds _49 sts_1 _36 sts_1 _21 sts_1 _21 sts_1 _21 sts_1 _21 sts_1 _21 sts_1 _36 sts_1 _21 sts_1 _21 sts_1 _21 sts_1 _21 sts_1 _21 sts_1 _21 sts_1 _21 sts_1 _22 sts_1 _42 sts_1 _49 sts_1 _59 sts_1 _53 sts_1 _6 sts_1 _51 sts_1 _15 sts_1 _98 sts_1 _23 sts_1 _226 sts_1 _81 sts_1"
#print"cw_rimnotes_k81_deeds_of_a_hand_holds _39 view_1"
def tw2835452539907639797:=Nat
#check PySem.W.Fast
namespace S81
open PySem L2 XL
def walk {l:PySem.W.OpenLaw}{q:Program}{loose:eO}{XP:zta}{YP:zqq}{d:DefRec}{K:Params->Zd} (hn:l.most=some 63) (hdf:znJ)
    (hY:(zLq,(Aq).In h))
    (F:∀(w:World) (mg:Str->Option Value) (fa:Addr) (h:Heap),(Aq).In h->EL->zra ->
      ∃ fd:FuncData,(zle "_law_script")/\(zbo,(Aq).In base,FnOk true l.prog w Aq mg base zsS 15 fa fd E1 zTf)) :
    zEn :=
  L2.walk_of (q0:=true) (n:=63) (k:=15) (x:="_law_script") (CX:=λ w=>zsS) (sp:=λ w=>zTf) hn eJ hdf (fh re eJ eJ rfl) hY F (λ_ _ a ns hl _ hS=>gY a ns rfl hS hl re)
    λ w H s e s' z=>by obtain⟨_,_,_,_,_,_,_,_,_,_,_,_,_,_,q⟩:=z; ext nh
def all_mk {l:PySem.W.OpenLaw}{w:World}{K:Zd}{h:Heap}{mg:im}{fa:Addr} (hfa:jZ "law" fa) (TT:∃ t,eX) :
    ∃ fd:FuncData,(∀(s:Shared) (v:Value),zgI (mh [v]) [("_law_script",v)])/\(zbo,zxk,FnOk true l.prog w K mg base zsS 15 fa fd E1 (xlh K)):=by
  obtain⟨t,T⟩:=TT;have e:=hfa.symm.trans T.g_law;ext mC;refine(pR,t.d_law,zyq,λ base _ _=>xxu T);obtain⟨z,od,B,i,u,an,j,C,b,e,A,c⟩:=T.F_law.ex;rw[e];exact .of_eq rfl
#check S81
open PySem PySem.W PyProof.Rows
end
set_option maxRecDepth 100000 in
set_option maxHeartbeats 0 in
theorem PySem.Challenge.cw_rimnotes_k81_deeds_of_a_hand_holds : PySem.Challenge.rw_rimnotes_k81_deeds_of_a_hand.Holds := by
 w_on; o_law; k_head; (case hw=>w_witness2)
 k_fill
 refine S81.walk (l:=PySem.Challenge.rw_rimnotes_k81_deeds_of_a_hand) rfl rfl (fun w h Y=>PySem.W.kIn_of Y) ?F
 case F =>
  intro w J K h D G A
  refine S81.all_mk (h:=h) A ?TT
  refine' S81.txt_mk (w:=w) D G ?g_a4 ?g_ah ?g_z ?g_g ?g_f ?g_k ?g_r ?g_w ?g_d ?g_u ?g_v ?g_ay ?g_q ?g_ac ?g_dd ?g_x ?g_m ?g_aa ?g_i ?g_ag ?g_a ?B_bq ?B_br ?B_bf ?B_a5 ?B_a6 ?B_bg ?B_av ?B_bh ?B_bs ?B_b3 ?B_bi ?B_bt ?B_bj ?B_bn ?B_a9 ?B_at ?B_bd ?B_a3 ?B_ao ?B_a1 ?B_bx ?B_meeting ?B_total ?B_b7 ?B_upright ?B_bl ?B_exchangeable ?B_a0 ?B_exchanged ?B_uncrossed ?B_a7 ?B_ai ?B_t ?B_crowds ?B_fits ?B_by ?B_kept ?B_bm ?B_az ?B_aw ?B_ar ?B_y ?B_least ?B_answer ?B_b4 ?B_cb ?a_c ?l_c ?c_c ?k_c ?i_c ?t_c ?B_ci ?B_b9 ?B_ca ?B_ce ?B_b1 ?B_aj ?B_bz ?B_b0 ?B_ap ?B_al ?B_bk ?B_an ?B_b5 ?B_a8 ?a_b ?l_b ?c_b ?k_b ?i_b ?t_b ?B_ba ?B_bb ?B_o ?B_s ?B_n ?B_j ?B_ae ?B_as ?B_am ?B_af ?B_ax ?B_e ?B_ab ?B_p ?B_h ?B_au ?B_aq ?B_b2 ?B_b8 ?B_be ?B_cd ?B_ak ?B_bc ?B_l ?B_bu ?B_bw ?B_a2 ?B_bv ?B_bp ?a_law ?F_law ?mk_a4 ?kc_ah ?ov_ah ?hd_ah ?sa_ah ?ga_ah ?gh_ah ?ca_ah ?mk_ah ?kc_z ?ov_z ?hd_z ?sa_z ?ga_z ?gh_z ?ca_z ?mk_z ?kc_g ?ov_g ?hd_g ?sa_g ?ga_g ?gh_g ?ca_g ?mk_g ?kc_f ?ov_f ?hd_f ?sa_f ?ga_f ?gh_f ?ca_f ?mk_f ?kc_k ?ov_k ?hd_k ?sa_k ?ga_k ?gh_k ?ca_k ?mk_k ?kc_r ?ov_r ?hd_r ?sa_r ?ga_r ?gh_r ?ca_r ?mk_r ?ov_w ?hd_w ?sa_w ?ga_w ?gh_w ?ca_w ?mk_w ?kc_d ?ov_d ?hd_d ?sa_d ?ga_d ?gh_d ?ca_d ?mk_d ?kc_u ?ov_u ?hd_u ?sa_u ?ga_u ?gh_u ?ca_u ?mk_u ?kc_v ?ov_v ?hd_v ?sa_v ?ga_v ?gh_v ?ca_v ?mk_v ?kc_ay ?ov_ay ?hd_ay ?sa_ay ?ga_ay ?gh_ay ?ca_ay ?mk_ay ?kc_q ?ov_q ?hd_q ?sa_q ?ga_q ?gh_q ?ca_q ?mk_q ?kc_ac ?ov_ac ?hd_ac ?sa_ac ?ga_ac ?gh_ac ?ca_ac ?mk_ac ?kc_x ?pg_x ?hd_x ?po_x ?sa_x ?mk_x ?a_LeftSide_init ?kc_m ?pg_m ?hd_m ?po_m ?sa_m ?mk_m ?a_RightSide_init ?kc_aa ?pg_aa ?hd_aa ?po_aa ?sa_aa ?mk_aa ?kc_i ?pg_i ?hd_i ?po_i ?sa_i ?mk_i ?kc_ag ?pg_ag ?hd_ag ?po_ag ?sa_ag ?mk_ag ?kc_a ?pg_a ?hd_a ?po_a ?sa_a ?mk_a ?cg ?ct ?n_cl ?n_bo ?n_b6 ?n_cc ?n_cg ?n_ch ?n_cj ?n_cm ?n_cq ?n_cr ?n_ck ?n_cn ?n_cf ?n_co ?n_c2 ?n_c9 ?n_da ?n_cu ?n_cy ?n_cv ?n_cw ?n_cp ?n_cz ?n_c0 ?n_c3 ?n_c8 ?n_c1 ?n_c4 ?n_c5 ?n_c7 ?n_cs ?n_abs ?n_all ?n_bool ?n_dict ?n_enumerate ?n_int ?n_isinstance ?n_len ?n_list ?n_min ?n_range ?n_set ?n_sorted ?n_str ?n_sum ?n_zip ?mro_ah ?mro_z ?mro_g ?mro_f ?mro_k ?mro_w ?ns_w ?ns_db ?mro_d ?mro_u ?mro_r ?mro_v ?mro_ay ?mro_q ?mro_ac ?kits ?v_c6 ?v_ct ?v_cx ?g_ad ?l_ad ?ns_ad
  case g_a4|g_ah|g_z|g_g|g_f|g_k|g_r|g_w|g_d|g_u|g_v|g_ay|g_q|g_ac|g_dd|g_x|g_m|g_aa|g_i|g_ag|g_a|a_law|g_ad=>delta S81.gI; k_is
  case B_a1|B_bx|B_meeting|B_total|B_b7|B_upright|B_bl|B_exchangeable|B_a0|B_exchanged|B_uncrossed|B_crowds|B_fits|B_by|B_kept|B_least|B_answer|B_b4|B_bk|B_an|B_b5|B_au|B_aq|B_b2|B_b8|B_be|B_cd|B_ak|B_bc|B_l|B_bu|B_bw|B_a2|B_bv|B_bp=>constructor; delta S81.gI; k_is; exact L2.fun_mk (by k_is) (by k_is) (by k_is)
  case B_bq|B_br|B_bf|B_a5|B_a6|B_bg|B_av|B_bh|B_bs|B_b3|B_bi|B_bt|B_bj|B_bn|B_a9|B_at|B_bd|B_a3|B_ao|B_a7|B_ai|B_t|B_bm|B_az|B_aw|B_ar|B_y|B_cb|B_ci|B_b9|B_ca|B_ce|B_b1|B_aj|B_bz|B_b0|B_ap|B_al|B_a8|B_ba|B_bb|B_o|B_s|B_n|B_j|B_ae|B_as|B_am|B_af|B_ax|B_e|B_ab|B_p|B_h=>constructor; delta S81.fI; k_is; exact L2.fun_mk (by k_is) (by k_is) (by k_is); k_is
  case a_c|a_b|a_LeftSide_init|a_RightSide_init=>delta S81.fI; k_is
  case F_law=>exact L2.fun_mk (by k_is) (by k_is) (by k_is)
  case sa_ah|ga_ah|ca_ah|sa_z|ga_z|ca_z|sa_g|ga_g|ca_g|sa_f|ga_f|ca_f|sa_k|ga_k|ca_k|sa_r|ga_r|ca_r|sa_w|ga_w|ca_w|sa_d|ga_d|ca_d|sa_u|ga_u|ca_u|sa_v|ga_v|ca_v|sa_ay|ga_ay|ca_ay|sa_q|ga_q|ca_q|sa_ac|ga_ac|ca_ac|sa_x|sa_m|sa_aa|sa_i|sa_ag|sa_a=>delta S81.fB; k_is
  case gh_ah|gh_z|gh_g|gh_f|gh_k|gh_r|gh_w|gh_d|gh_u|gh_v|gh_ay|gh_q|gh_ac|n_cl|n_bo|n_b6|n_cc|n_cg|n_ch|n_cj|n_cm|n_cq|n_cr|n_ck|n_cn|n_cf|n_co|n_c2|n_c9|n_da|n_cu|n_cy|n_cv|n_cw|n_cp|n_cz|n_c0|n_c3|n_c8|n_c1|n_c4|n_c5|n_c7|n_cs=>delta S81.fN; k_is
  case n_abs|n_all|n_bool|n_dict|n_enumerate|n_int|n_isinstance|n_len|n_list|n_min|n_range|n_set|n_sorted|n_str|n_sum|n_zip=>delta S81.gN; k_is
  case l_c|c_c|k_c|i_c|t_c|l_b|c_b|k_b|i_b|t_b|kc_ah|hd_ah|kc_z|hd_z|kc_g|hd_g|kc_f|hd_f|kc_k|hd_k|kc_r|hd_r|hd_w|kc_d|hd_d|kc_u|hd_u|kc_v|hd_v|kc_ay|hd_ay|kc_q|hd_q|kc_ac|hd_ac|kc_x|pg_x|hd_x|po_x|kc_m|pg_m|hd_m|po_m|kc_aa|pg_aa|hd_aa|po_aa|kc_i|pg_i|hd_i|po_i|kc_ag|pg_ag|hd_ag|po_ag|kc_a|pg_a|hd_a|po_a|cg|ct|mro_ah|mro_z|mro_g|mro_f|mro_k|mro_w|mro_d|mro_u|mro_r|mro_v|mro_ay|mro_q|mro_ac|v_c6|v_ct|v_cx=>k_is
  case mk_a4|mk_ah|mk_z|mk_g|mk_f|mk_k|mk_r|mk_w|mk_d|mk_u|mk_v|mk_ay|mk_q|mk_ac|mk_x|mk_m|mk_aa|mk_i|mk_ag|mk_a|l_ad=>first|k_is|kernel_rfl
  case ov_ah|ov_z|ov_g|ov_f|ov_k|ov_r|ov_w|ov_d|ov_u|ov_v|ov_ay|ov_q|ov_ac|ns_w|ns_db|kits|ns_ad=>kernel_rfl
