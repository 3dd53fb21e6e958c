import PyProof.Rows.All
import Wide.All
import OpenK.AllK
import PySem.Challenge.RW_rimnotes_k93_whole_mirrors
set_option maxRecDepth 100000
set_option maxHeartbeats 4000000
set_option Elab.async false
set_option linter.all false
set_option genSizeOf false
set_option compiler.extract_closed false
open List renaming length_map→Za,getElem?_eq_getElem→Zc,mem_map→Ze,getElem?_map→Zf,getElem?_eq_some_iff→Zk,mem_cons_of_mem→Zl,mem_cons_self→Zm,mem_of_getElem?→Zn,mem_singleton→Zp,map_map→Zq,length_append→Zr,map_cons→Zs,mem_cons→Zt,map_append→Zu,mem_append→Zy,range→Zz,mem_append_left→Z3,length_cons→Z6,mem_append_right→Z7,length_range→Z9,lookup_cons→ZA,size_toArray→ZB,take_add_one→ZD,nodup_cons→ZE,map_congr_left→ZF,nodup_append→ZH,length_singleton→ZI,mem_filter→ZN,mem_range→ZO,getElem_of_mem→ZQ,mem_of_find?_eq_some→ZR,take_length→ZY,take_of_length_le→ZZ,pairwise_map→Ja,getElem?_append_left→Jd,not_mem_nil→Je,getElem?_eq_none→Jg,flatMap_append→Ji,filter_cons_of_pos→Jj,length_take→Jm,filter_cons_of_neg→Jo,filter_append→Jq,append_nil→Ju,lookup→Jw,flatMap_singleton→Jy,all_eq_true→J6,getElem?_append_right→J8,sum_cons→JA,append_assoc→JG,getElem_map→JL,pairwise_iff_getElem→JN,filterMap_cons→JP,map_id→JQ,any_eq_true→JW,pairwise_append→JX,Pairwise→JZ,foldl_append→Yc,getElem?_range→Ye,mem_filterMap→Yj,find?_eq_none→Yk,cons→Yo,Perm→Yp,flatMap_cons→Yr,length_reverse→Yx,nodup_nil→Y3,take_append_drop→Y7,drop_eq_getElem_cons→Y8,range_succ→YB,zip→YC,length→YD,Nodup→YI,any_cons→YK,reverse→YV,map_nil→YW,find?_cons_of_pos→Qa,length_filter_le→Qh,reverse_perm→Qk,filter_congr→Ql,mem_reverse→Qq,getElem_mem→Qr,filter_cons→Qs,find?_cons→Qw,getElem_range→Qy,length_eq_zero_iff→Q3,ext_getElem?→Q9,filter_eq_nil_iff→QB,perm_middle→QL,ext_getElem→QM,append_inj'→QN,all_cons→QO,mem_of_mem_take→QR,mem_iff_getElem→QS,getElem?_set_ne→QT,filter_nil→QW,filter_map→QX,map→Wb,pairwise_cons→Wi,filterMap_map→Wj,take_sublist→Wm,any_eq_false→Wn,map_take→Wo,map_drop→Wp,nodup_range→Wx,flatMap_map→Wy,pairwise_singleton→Wz,getElem?_replicate→W0,range_succ_eq_map→WA,find?_cons_of_neg→WB,nil_append→WD,length_nil→WE,foldl_cons→WF,length_replicate→WL,getElem?_reverse→WM,take_zero→WU,take_succ→WV,perm_cons_erase→WZ,mem_erase_of_ne→Zaa,filter_eq_self→Zae,zip_cons_cons→Zak
open PySem renaming wpAny_bind→Zb,wpAny_pure→Zo,Spec→ZL,wpAny_holding→Jc,wpAny_dictEntries→Jn,wpAny_mono→Jr,wpAny_call_entry→Jv,builtinLookup_eq_fast→Jz,wpAny_callSpecial?_slot→J7,wpAny_field→JB,wpAny_setField_rec→JH,wpAny_dictEpoch→JI,wpAny_truthy_bool→JR,wpAny_newObj_type→JS,wpAny_specialOf→JU,wpAny_attempt→JY,boot_len→Ya,mem_of_lookup→Yd,typeLookup_type→Yf,wpAny_Call_Name_kw→Yi,codeAny_builtin→Y9,wpAny_pyIter_list→YE,wpAny_isInstance→YM,wpAny_typeNameOfWhole_itemiter→YO,wpAny_of_eq→YQ,wpAny_typeNameOfWhole_keyiter→YR,wpAny_typeOf→YU,tupleKind_room_in1→YX,wpAny_isOneOf_itemiter→YY,wpAny_passesOwn→Qb,wpAny_loadPart'→Qc,wpAny_ite_split→Qd,wpAny_setState_of→Qi,codeAny_mono→Qo,plainId_quiet→Qu,call_meetsIn→Q5,isSubtype_type→Q6,wpAny_notOrdered_dict→QD,wpAny_isOneOf_keyiter→QE,typeIs_str→QI,wpAny_forIn_list→QK,codeAny_call_builtin→QP,wpAny_rule→Wc,call_meets→We,wpAny_pyIter_enum→Wl,wpAny_call→W1,Within→W4,wpAny_pyNext_list_item→W8,wpAny_execs_nil→WC,wpAny_pyNext_list_end→WH,sizeLine_eq→WN,wpAny_seqItems→WQ,isSubtype_stop→WR,wpAny_pyIter_revIter→WW,wpAny_pyIter_keyiter→WX,wpAny_standAt→Zaf,Builtin→Zag
open PySem.W renaming Frag→Zd,findIn→ZU,fnOf→Jb,mg_none_of→Jh,keepIn→J5,mg_of→J9,kia_one→JJ,emptyDict→Yb,plainGet→Yh,hasDictIn→Yq,instObj→YA,plainOver→YF,makesIn→Qe,codeIn→Q7,isFn→QY,nsIn→W5,lookIn→WS,kitOne→WT,plainGet_of→Zac,callWith_K→Zaj
open PySem.Str renaming ofString→Zg,join→ZS,length→Qn,empty→QH
open Option renaming map_eq_some_iff→Zh,some→ZW,isSome_map→Qj,map_some→QV,isSome_iff_exists→Ws,bind_some→Wu,map→W2
open PySem.Heap renaming get?_push_of_some→Zi,get?_push_size→Zx,lt_size→Z0,SameBut→ZJ,get?_update_self→Jl,get?_update_other→JM,size_push→Yl,ExtBut→WP
open Nat renaming le_refl→Zj,le_trans→Z1,lt_of_lt_of_le→ZK,ne_of_lt→ZM,zero_le→ZP,lt_trans→ZX,lt_of_le_of_lt→Jp,ne_of_gt→JK,le_add_right→JV,lt_or_ge→Yy,le_of_lt→Yz,lt_irrefl→YJ,lt_succ_self→Wv,le_of_not_lt→Ww,succ_pos→W6,le_succ→WO,not_lt→Zai
open Bool renaming false_ne_true→Zv,and_eq_true→Z8,false_eq_true→ZC,eq_false_iff→Jx,eq_iff_iff→JD,not_eq_true'→YG,true_and→Qv,false_and→Q8,and_false→Wg,or_false→Wq,not_true→Wr,or_eq_true→WG
open PySem.Value renaming ref→Zw,none→JE,type→YS,bool→YT,builtin→Qg,int→Q0,str→Zab
open Ne renaming symm→Z2
open PySem.PassesOwn renaming never→Z4
open PySem.SeqAt renaming EqAt→Z5,RcNeAt→ZG,RcAt→ZT
open PySem.F renaming plainAttrs_list→ZV,type_list_append→Js,slot_list_append→Jt,slot_dict_itemiterator_next→Ym,slot_dict_keyiterator_next→Yw,slot_dict_get→Y6,plainAttrs_dict→YN,plainAttrs_str→YZ,called_set→Qp,slot_dict_items→Q2,entry_dict_get→QA,slot_enumerate_next→QG,slot_list_getattribute→Wt,type_str_join→WI,type_list_pop→WJ,slot_list_pop→WK,called_enumerate→Zam
open PyProof.Rows renaming callWith_type1→Jf,slot_tuple_getitem→QC,strKind→WY
open Sum renaming inr→Jk,inl→Q4
open Array renaming getElem?_toList→J0,length_toList→J4,getElem?_eq_getElem→JC,getElem?_eq_some_iff→Y5,getD→QJ,getD_eq_getD_getElem?→QZ,map→Wa,forIn_toList→Zan
open True renaming intro→JF
open PySem.Obj renaming mapSeq→JO,data_mapDictKeys→QQ,data_mapFields→Wh,putSet→W3,isFreed_of_dict→Zad
open Int renaming toNat_natCast→JT,eq_ofNat_of_zero_le→Ys,le_refl→Wk,emod_lt_of_pos→Zal
open Prod renaming ext→Yg,mk→Yn
open Or renaming inl→Yt,inr→Qx
open False renaming elim→Yu
open ForInStep renaming yield→Yv
open PySem.Calls renaming callWith_builtin→Y0,spliced_cons→Y4,spliced_nil→Qm,evalArgs_plain→QU
open PySem.Paired renaming length→Y1
open PySem.Around renaming under_plainId→YH
open PySem.Txt renaming split→YL
open PySem.Data renaming cell→Qf,fields→Q1
open Classical renaming byContradiction→Qt
open LawfulBEq renaming eq_of_beq→Qz
open PySem.StrLaws renaming glued_eq_join→QF
open PUnit renaming unit→Wf
open Exists renaming intro→W7
open PyProof renaming noPylong_small→W9
open PySem.NameKind renaming free→Zah
theorem aRfl (h:True:=by rfl):True:=h
theorem aDec (h:True:=by decide):True:=h
theorem aSmp (h:True:=by simp):True:=h
def vR:Lean.Syntax:=aRfl._auto_1
def vD:Lean.Syntax:=aDec._auto_1
def vS:Lean.Syntax:=aSmp._auto_1
set_option hygiene false
namespace Ab
open Lean
def is (s:Syntax) (n:Name):Bool:=s.isOfKind (`Lean.Parser++n)
abbrev Tb:=Std.HashMap Name (Array Name×Syntax)
def sub (p:Array Name) (a:Array Syntax) (b:Syntax):Syntax:=b.rewriteBottomUp fun s=>if s.isIdent then (match p.idxOf? s.getId with|some i=>a[i]!|none=>s) else s
def put (t:Tb) (n:Syntax) (a:Array Syntax):Option Syntax:=if n.isIdent then (match t.get? n.getId with|some (p,b)=>if p.size==a.size then some (sub p a b) else none|none=>none) else none
def par (b:Syntax):MacroM Syntax:=if b.isIdent then pure b else return (← `(($(⟨b⟩)))).raw
def tac (b:Syntax):MacroM Syntax:=match b.find? (is · `Term.byTactic) with|some x=>return (← `(tactic|($(⟨x[1]⟩):tacticSeq))).raw|none=>return b
def pat (s:Syntax):Syntax:=if is s `Tactic.rintroPat.one then s[0][0] else s
def cat (s:Syntax):Syntax:=mkNullNode (mkSepArray (s.getSepArgs.flatMap fun a=>
 let b:=if is a `Term.paren then a[1] else a
 if is b `Term.anonymousCtor&&b[1][0].isStrLit?==some "" then (b[1].getSepArgs).extract 1 b[1].getSepArgs.size else #[a]) (mkAtom ","))
def step (t:Tb) (s:Syntax):MacroM Syntax:=do
 if s.isIdent then
  if let some b:=put t s #[] then return ←par b
  return s
 if is s `Term.app then
  if let some b:=put t s[0] s[1].getArgs then return ←par b
 else if is s `Term.tuple then
  let a:=s[1]
  if let some b:=put t a[0] a[2].getSepArgs then return ←par b
 else if is s `Term.anonymousCtor then return s.modifyArg 1 cat
 else if is s `Tactic.show then
  if (s[1].find? (is · `Term.byTactic)).isSome&&(is s[1] `Term.paren||is s[1] `Term.byTactic) then return ←tac s[1]
 else if s.isOfKind `Lean.Elab.Tactic.Ext.ext then
  let a:=s[1].getArgs.map pat
  if let some b:=a[0]? then
   if b.isIdent then
    if let some b:=put t b (a.extract 1 a.size) then return ←tac b
   else if (b.find? (is · `Term.byTactic)).isSome then return ←tac b
 return s
def rp (p:Syntax):TSyntax `rintroPat:=⟨mkNode `Lean.Parser.Tactic.rintroPat.one #[if p[1].isNone&&p[0][0].getNumArgs==1 then p[0][0][0] else mkNode `Lean.Parser.Tactic.rcasesPat.paren #[mkAtom "(",p,mkAtom ")"]]⟩
def nm (c:String) (s:Syntax):Term:=mkIdent (.mkSimple (c++toString (s.isNatLit?.getD 0)))
def un:Nat→Syntax→Syntax
 |n+1,p=>if is p `Term.paren then un n p[1] else p
 |_,p=>p
def fn:Nat→Syntax→MacroM Syntax
 |0,s=>return s
 |n+1,s=>do
  let a:=s[1][0].getArgs.map (un 9)
  match a.findIdx? (fun p=>is p `Term.anonymousCtor&&((p[1].getSepArgs[0]?.bind (·.isNatLit?)).getD 0)>1000) with
  |none=>return s
  |some j=>
   let i:=a[j]![1].getSepArgs
   let f:Term:=mkIdent (.mkSimple s!"j{i[0]!.isNatLit?.getD 0-1000}")
   let x:Array (TSyntax `Lean.Parser.Term.funBinder):=(i.extract 1 i.size++a.extract (j+1) a.size).map (⟨·⟩)
   let g←fn n (←`(fun $x*=>$(⟨s[1][3]⟩))).raw
   let p:Array (TSyntax `Lean.Parser.Term.funBinder):=(a.extract 0 j).map (⟨·⟩)
   return (←`(fun $p* zzz=>$f zzz $(⟨g⟩))).raw
def step2 (s:Syntax):MacroM Syntax:=do
 if is s `Command.meta then return mkNode `Lean.Parser.Command.noncomputable #[mkAtom "noncomputable"]
 else if is s `Term.anonymousCtor then
  let a:=s[1].getSepArgs
  if let some n:=a[0]?.bind (·.isNatLit?) then
   if n>40&&n<1000 then
    let b:Array Term:=(a.extract 1 a.size).map (⟨·⟩)
    return (←`($(nm "n" a[0]!) $b*)).raw
 else if is s `Term.fun then return ←fn 9 s
 else if is s `Tactic.obtain then
  if (s[2][1].isNatLit?).isSome then
   let q:=s[1][0][0][0][1].getSepArgs.map rp
   let h:Term:=⟨s[3][1].getSepArgs[0]!⟩
   let f:=nm "i" s[2][1]
   return (←if h.raw.isIdent&&h.raw.getId.isAtomic then `(tactic|(revert $h:term;refine $f ?_;rintro $q*)) else `(tactic|(refine $f ?_ $h;rintro $q*))).raw
 else if is s `Tactic.rintro then
  let a:=s[1].getArgs
  if let some j:=a.findIdx? (fun p=>is p `Tactic.rintroPat.binder&&(p[2][1].isNatLit?).isSome) then
   let f:=nm "i" a[j]![2][1]
   let q:=a[j]![1][0][0][1].getSepArgs.map rp++(a.extract (j+1) a.size).map (⟨·⟩)
   let p:Array (TSyntax `rintroPat):=(a.extract 0 j).map (⟨·⟩)
   return (←if j==0 then `(tactic|(refine $f ?_;rintro $q*)) else `(tactic|(rintro $p*;refine $f ?_;rintro $q*))).raw
 return s
end Ab
local macro_rules|`(mutual $cs* end)=>do
 let d:=cs[0]!.raw[1][3]
 unless Ab.is d `Command.whereStructInst do Lean.Macro.throwUnsupported
 let mut t:Ab.Tb:={}
 let mut o:=#[]
 for f in d[1][0].getSepArgs do
  let f←f.rewriteBottomUpM (Ab.step t)
  t:=t.insert f[0][0].getId (f[1][0].getArgs.map (·.getId),f[1][2][2])
 for c in cs[1:] do
  if Ab.is c.raw `Command.check then
   let e←if c.raw[1].isIdent then `(command|end $(⟨c.raw[1]⟩):ident) else `(command|end)
   o:=o.push e.raw
  else if let some s:=c.raw[1].isStrLit? then
   let l:=s.splitOn " "
   let mut i:=0
   for r in l.tail do
    let [k,n]:=r.splitOn "_"|Lean.Macro.throwUnsupported
    if k != "" then
     for j in [i:i+n.toNat!] do
      let d:Lean.Ident:=Lean.mkIdent (.mkSimple s!"tw{(((`PySem.Challenge).str l.head!).str s!"{k}_{j}").hash}")
      o:=o.push (←`(command|def $d:ident:=Nat)).raw
    i:=i+n.toNat!
  else o:=o.push ((←(←c.raw.rewriteBottomUpM (Ab.step t)).rewriteBottomUpM Ab.step2).rewriteBottomUp (·.setInfo .none))
 return Lean.mkNullNode o
mutual
def a where
cu a b:=a=(some b)
cC a b c:=⟨a,b,c⟩
cm:=by lia
dM a b c d e f:=⟨a,b,c,d,e,f⟩
dk a:=(a:Int)
dW a b c d e:=⟨a,b,c,d,e⟩
gc a:=Option a
hW a b:=List (a × b)
cW a b:=by rw[a];exact b
cI a b c d e f:=by have a:b:=c;have d:e:=f
cB a b c d:=by have a:=b;have c:=d
cG a b:=λ a b=>?_
cD a b c d:=by obtain⟨a,b,c⟩:62:=d
fF a b:=a->(b->Prop)
f8 a b:=xa (pv a) b
cE:=by decide
fT a b:=(cC _ a b)
ix a b c:=(cu,a[b]?,c)
cX a:=some (.ref a)
mH:=by decide +kernel
cy:=by simp
cK a b:=by ext cW a b
c9:=by ext mH
cO:=p.1
cR a b c d e:=a/\(b/\(c/\(d/\e)))
dA a b:=(cu,H a,b)
dN a b c d e f g:=⟨a,b,c,d,e,f,g⟩
cA:=List V
dO a:=((a).2).1
iy a b c:=Inv X a Z b c
iT a b c d e:=(dM a b c d rfl e)
dz a:=if_neg a
eE a b c d:=(dW 63 a b c d)
cN a:=SqL.of a
cH:=List Str
cF:=List Seat
du a b c d:=⟨a,b,c,d⟩
df a:=if_pos a
AQ a:=(f8 a xg)
c8 a b c:=λ a b c=>?_
dC a b c d e:=λ a b c d e=>?_
rX a b:=(iy pins a b)
dS a b:=(ix a i b)
fX a:=((a).2).2
dy a b c:=by exact(cC a b c)
lF a:=.type a
cQ:=x.1
eC a b c d e:=a->(b->(c->(d->e)))
d9 a b c d e:=(dM 83 a b c d e)
d7 a:=(H a)=none
dc:=i+1
wA a:=(rX H a)
eJ a:=(fT rfl a)
cJ:=List Pt
hZ a:=⟨_,a⟩
eA a:=decide a
dH:=.ref a
jX a:=(fF a Shared)
gB a:=Same H a
eW a b c:=by refine(cC a b c)
cY a:=by refine (Zb a)
cM:=List Addr
eD a b c d:=(dW 44 a b c d)
cL:=(wA s)
dU:=pv 0
dG a b c d e:=by obtain⟨a,b,c,d⟩:63:=e
ff a b c d e:=(dM 45 a b c d e)
d0 a:=some (.int a)
d4 a:=⟨rfl,a⟩
fL a:=λ a=>?_
dQ a b:=by refine a;refine b
cU a b:=by exact⟨a,b⟩
iZ a b c d:=(iT a _ b c d)
fc:=(dk i)
dI a b c d:=a->(b->(c->d))
dh a b c d:=a/\(b/\(c/\d))
kT a b:=by obtain⟨a,rfl⟩:=b
oG a:=(fF a Hp)
cP:=Seat->(gc Str)
gS a b c:=(eE a rfl b c)
eQ:=by subst e
iz a b:={ cls:=(lF a),data:=b }
jv a b:=a=(.ref b)
je a:=a=false
fj a:=by have:=a;lia
cS:=List Pr
zil:=CXo P w
eT a b c d e f g h i:=⟨a,b,c,d,e,f,g,h,i⟩
lq a b:=(f8 a (AQ b))
kJ a b:=Q (.ref a) b
cT:=Txt w K mg t
jP a:=SqT.of a
dL a b c:=xr a b (xm c)
gU a:=(a:Str)
fA a:=a<=sizeLine
cV:=by cases h;subst_vars;rfl
dB a b c d e:=FnOk true P w K mg base zil a b c d e
c7 a b c:=(dC vs H a b c)
cZ a b c d e:=λ cdv A outer s H a b c d e=>?_
vT a:=by exact a
lM:=model prog w
oH a b:=xi (xh a b)
gX a b:=by refine⟨a,b⟩
kU a b c d e f g h:=λ a b ⟨1083,c,d,e,f,g⟩=>h
jo a b c:=(du a b rfl c)
NM a:=(hW Addr a)
gk a b:=by exact (absurd a b)
dw:=List Value
dP a b c:=by rw[a] at b;cases c
gP a:=xa a xg
jp a b:=by obtain rfl:a:=b
iO:=List Key
eG:=hmm hr
eP:=x.2
dX:=p.2
de:=List Nat
eR:=(dk w)
dF:=Zj _
dY:=(dO x)
qj:=model X.prog X.w
jV:=λ_ _=>rfl
nA:=x8 _
jS a b c d e:=by show(cB,a,su_e b c,d,ug_e e)
tT a b c:=by intro a s Z H b I c
fW:=s.2
gC a b:=(ix a j b)
gq a:=xk (xt a)
Ac a b c:=wpAny a b c Q E s
fJ a b c d e:=(dM 121 a b c d e)
xG a:=.str (numT a)
gg:=(gB H')
lR a b c:=upd a b (.lst c)
iP a b c:=upd a b (.tup c)
ip a b c d e:=let a:=b; (let c:=d; e)
oC a b c d:=(d9 a b rfl c d)
dZ a b c d:=by have a:b:=c;refine d
dJ:=(NM Obj)
fS a b:=by rw[a,b]
dE:=(jX Value)
eO a b:=by rw [a];exact b
gO a b:=(eA,a=b)
fC:=k+1
eX a b c d:=(a=b)/\(c/\d)
gE a b c d e f:=λ a b c d e f=>?_
sw a:=⟨#[a]⟩
eS:=(cO).nm
eg a:=by exact (.inl a)
dD:=Str->(gc Seat)
jO a:=((a).1).nm
kM a b c d e f g h i:=thn a (kU b c d e f g h i)
gm a b:=by rw[a] at b;cases b
ji a b:=(H a)=(some (.tup b))
fK a b c:=by rw[a,b];exact c
By a b c d e f g:=(dN a _ b _ _ rfl (ff c d e f g))
Md a:=xae (pv a) rfl
d8 a b c d e:=GB K mg a b c d e
ef a b c:=by rw[a] at b;exact c
eI:=List α
fR a b:=(cC a b rfl)
sF a:=(fT a ?_)
ou a b:=(je,a == b)
fe a:=by exact (.inr a)
hU a:=(dk (a:Nat))
ew:=pv 1
ie a b:=by show(eW,a,b,?_)
kC a b:=by rw[<- a];exact b
fG a b c d:=(dW 82 a b c d)
fb:=xal c9
i3:=s.1
dR:=(hW Key V)
iA a:=autoParam a vR
wQ a b c:=xv a (xv b c rfl) rfl
iu:=(dk n)
gs a b:=(cK,xi a,b)
eZ:=(Md 0)
fD a:=show a by lia
Ab a b:=xo a (xo b xac)
d6 a b:=((a).length)<=b
j4 a b c:=show (a=b) from c
hF a:=by ext kT t a
mo a b:=λ Z H a=>b
jD:=(rnd mask h r).1
gZ a b c d:=(iT 83 a b c d)
iX a b:=(c8 a b e)
jd a:=(oH e a)
nH a b c:=(oC a _ b c)
fO a b c:=by obtain⟨a,b,_⟩:62:=c
i8 a b:=[.int a,.int b]
fY a:=by rw[a];rfl
jA a:=a<=1000
eB:=Seat->Int
fU a b:=(iZ a rfl (jP b) ?_)
gK a:=by simp[a]
fw a b c d e f g h i j k l:=by ext cI a b c d e f;ext cI g h i j k l
qN a:=.str (xab a)
iE:=(hZ rfl)
eF:=Str->Int
tz:=(vT leS2)
Lq a:=by show a;decide
fE a b:=λ(a:Nat)=>b
mY:=(dk j)
eV:=(gc V)
fH:=(df rfl)
Ce a b c:=by show (wpAny _ a b _ _ c)
nK:=[a]
jq a b c:=by show(cD,a,b,rfl,c)
eK a b c:=by have a:=b;refine c
fM a b c d:=λ a b c d=>?_
iS:=.ref l
oA a b c:=by show(jp,a=(Zw b),c)
vd b c d e:=Pic t b a dp do_ c d e
jw:=c.1
hD a:=by rw[a]
zfV a:=["picture", a]
sP a b:=a=(pure b)
jz a:=(w+1)-a
mX:=(fL c)
m7 a:=⟨a,[]⟩
pE:=(oG St)
fQ a:=(Ac lM A a)
BC:=(hW Seat Int)
eY a b c d e f g h i:=by have a:b:=c;ext cI d e f g h i
gV a b c:=if (a=true) then b else c
fh:=_::_
hX a:=(fT a rfl)
iK a b:=upd H a b
mJ b c d e f:=(By a b c T.c_a d e f)
ge a:=xw (Same.refl _) a
sS a b c d e:=xak (zs:=a) (ys:=b) (fr:=c) (N0:=d) (sc0:=(xm e)) c9 rfl rfl rfl
ir a b:=by rw[a,b];rfl
mK a b c d e f g:=by obtain⟨a,b,c,d,e,f⟩:46:=g
oP a b:=(a,.ref b)
pW a b c d e:=(dM 64 a b c d e)
j6:=(dk h)
DI a:=Same H1 a
uI a:=(dS a x)
jj:=Zx _ rfl
mC a b c d:=(Ab,pN a b,pN c d)
CP a b:=itP a ss prs b
hO a:=by show a;lia
gH a b c d:=if (a=b) then c else d
pH:=xa3 hr
HP a:=(kJ a H')
iD a b c d e f g:=xam a b c d e f .nil xq g
jk:=by rfl
iF a:=by ext fj a
hV a b:=by ext kC a b
fV a b c d:=by have a:=b;rw[c] at d
gD:=by exact z
oa a b c d e:=(cu,upd a b c d,e)
i6:=Same.refl _
gM:=pv 3
jI:=(fX p)
fP:=(hW iO V)
ib a b c d e f g:=⟨47,a,b,c,d,e,f,g⟩
gu a b c:=by show(cD,a,b,rfl,Ze.mp c)
yD a b c:=.Call a b [] c
kn a b c d:=by obtain⟨a,b,c⟩:43:=d
im:=λ_=>none
jc a b:=(a-b).toNat
mW:=mask+1
ju:=P0 a
jH:=P0 a b
j0:=P0 a b c
jU:=P0 a b c d
gF:=Str->(gc Value)
AN a b c:=by show(gX,a,cG b c)
qw a b c:=by show(cD,a,b,rfl,Zh.mp c)
gz a:=by ext tT a Q h
pk a b c:=by have e:(a=b):=c;ext eQ
kc a b c d e f g h:=(kM a b c d e f g h ?_)
jl a:=⟨a,?_⟩
gT a b c d e:=by have a:=b;have c:d:=e
hJ a b c d e f:=by obtain⟨a,b,c,d,e⟩:83:=f
jZ:=["self"]
kY:=I.tok _
jT a:=((a).isSome)=true
fZ:=Str->BC
iw a c:=λ b o a e=>c
hI a b c d e f:=by obtain⟨a,b⟩:=c;obtain⟨d,e⟩:=f
o9 a b c d:=by obtain ⟨a,b,c⟩:62:=d
Hz:=by kernel_rfl
i4:=(cu,s.heap.get? b,o)
qd a:=ifN a ?_
gf:=(hW Str cH)
V5 a b:=⟨a,b,?_⟩
pA a:=by rw[a];lia
gQ:=by omega
AS a b c d:=a->(b->(fF c d))
iH:=(cX a)
nh a b c d e f:=(dN a b c rfl d e f)
kH:=(fX x)
gG:=Cl->(gc Str)
jF:=.inl rfl
ii:=Array Value
oK a b c d:=cells w a b c d
iW a b:=absI (a-b)
lZ a:=by show(Ce,_,a,_)
oF a:=xi (Z2 a)
qO a b c:=xaz Z4 rfl a b c
iL a:=by rw[(dz a)]
mj:=[dH]
uV:=λ_ _ _ _ _=>xau
jM:=ZP _
jW:=(gc Addr)
h8:=pv 4
kB a b c:=upd a b (.dK c)
pd:=.str p.nm
pG:=(AQ 0)
oU a b c d:=(eC a b c d C)
iR:=(d7 b)
Cr a:=way mask h a
wb a b c:=(eD rfl a b c)
gJ:=Array Nat
h9 a b c d:=(gS a (hZ (cN b)) (cG c d))
qM a:=(jo rfl _ a)
lY a b c:=(fJ a b _ _ c)
gL a:=xa1 I q a
gY b:=⟨a,b⟩
gR:=by assumption
kR:={ s with heap:=h' }
iJ:=by congr 1
hB:=pv 2
mR a b c d e f g:=⟨104,a,b,c,d,e,f,g⟩
mw a b c d:=(iP a b [c,d])
sD:=e::es
mO a b c d e f:=xar a b c d e f .nil xq
nJ:=c.2
gW:=List Int
DA a b:=(cC rfl a b)
mh:=P1 a
o6:=λ z=>(nomatch z)
lT:=P1 a b
mN:=P1 a b c
mG:=P1 a b c d
kf:=i<n
uM:=.lst (qs.map V.ref)
iG a b c d e:=by ext jS a b c d c;refine e
pq a:=eval a X.env
wT a b c:=IsTupleKey knd a b c
uH a:=(V5 _ a)
iY a b c:=Dv K H a b c
oq a b:=xax (top a) b
zF a b:=show (a=true) from b
tG a b c d e:=by obtain⟨a,b,c,d⟩:44:=e
om:=by split<;>lia
lv a b c d:=(dW a b c rfl d)
ia a b c d e f g:=by ext cI a b c d e f;refine g
jN a:=(cG p a)
j7 a b c d e:=(a=b)/\(c/\(d/\e))
vE a:=(d0 (dk a))
yl a:=λ b o e=>a
nZ:=(DI H2)
sW a b:=wpAny qj X.A a b X.xe s
lS a:=⟨a,rfl⟩
jb:=Zm ..
M4 a b:=["self", a, b]
jQ:=j+1
wn:=fc+1
jt:=pv 5
qb a:=(cG b a)
kX:=asked s
jE:=Int × Int
DH a:=Vals a us
AG:=Zi _ e
ij:=by cases h
iN:=λ_=>rfl
lm a b:=(cu,H' a,b)
i0:=n+1
mV:=(cX l)
js a:=(cK Za a)
iI a:=λ b u e=>a
sN a:=(ji q a)
kG:=2 ^ 62
pQ:=Pv dc
Ky a b c:=(cu,ZU K (.ref a) b,c)
NL:=xaw cE
kI a b:=Pic.same a b
nT a:=by rw[a];simp
kS:=by simp;lia
kQ:=by cases a
iC:=List Expr
iB:=(hW κ V)
lC a:=(lq 0 a)
lu:=(qN b)
CO a b:=xa a (xa b xg)
ki a b d:=∀ c u,((c≠a)->(b->d))
oZ:=tupleKeyHash knd k
i5:=(vd H pw ph ps)
jB a b c d e f g h i j:=⟨a,b,c,d,e,f,g,h,i,j⟩
kq a b c d e:=by obtain⟨a,b,c,d⟩:82:=e
Bb a:={ s with heap:=h',toks:=a }
sj:=List K
kh:=s.heap.objs.size+1
F1:=s.toks+1
tD a:=some (.str a)
Af a:=some (.bl a)
mM:=(gc Int)
iU a b c d e f:=(dN 46 a b c d e f)
ja:=(dz c)
NK a:=.str (Zg a)
iQ:=Str->cF
mf:=Zc lt
lA a b:=(a,V.str b)
sK a:=by show(ie,a,?_)
j9 a:=λ u e=>a
iM:=(zfV "pairs")
Co:=Pv i Z H
oE a:=xai rfl a
KJ:=Addr × Value
Mb a:=itP w ss prs a
o7:=xaa w ps srt
Hr a b c:=Run a b so ho c
nG a b c:=by rw[a,b,c]
sv a:=a<sizeLine
jf:=by wp_step
pi a:=some (some a)
jg a:=by exact (Zo a)
uf:=.ref d
jL:=pv 6
qZ:=P2 a
qV:=P2 a b
rP:=P2 a b c
rJ:=P2 a b c d
oQ a b c:=(iZ a 0 b c)
Fp a:=autoParam a vD
Aa:=(xG p.x)
z6:=(xG p.y)
i9 a b:=by refine' (xa a b rfl)
vk a b:=(eE _ a rfl b)
Pb a b:=(iA,(starEach a X.env)=b)
i7 b:=fun⟨a,h⟩=>b
zkG a b c:=Jb a b (xbd st) (xa2 st) (xm st) c kV doc pm an cdv ct
kN a:=by rw [a] at h
o4 a c d:=∀ b u,((b≠a)->(c->d))
y8 a b c:=by obtain⟨⟨a,b⟩,_⟩:=(id c)
kL a b:=(cC a b ?_)
oY:=.ref s.heap.objs.size
uG a:=(dA l a)
mU:=(dO p)
rD a b:=(H a)=(some (.lst b))
lX a:=by show(gk,rfl,a)
ue:=s∈ss
sH a b:=(lR a b [])
yx a b:=(j4 a b rfl)
tw:=Q .non H'
we a b:=.ins a dx b
NJ:=(Cr n)
Ch a:=runEnd mask a
jr a:=λ s hs=>a
jY:=RelV y u
nF a b:=xaf a b xz
uO a b c d e f:=xa9 rfl a b c d e (λ_ _ _ _ _=>f)
oM:=kv.1
uZ a b c d e f:=by obtain⟨a,b,⟨c,d,e⟩⟩:43:=f
rg a:=(dk a)+1
nE a:=s2 _ _ a
qS a:=by exact (SqL.of a)
lW a:=by refine (.inr a)
kP a b c d:=by exact(eE a b c d)
jG:=.str _
j5:=.int i
kW:=by refine (Zb ?_)
kE:=.str x
si:=(d7 l)
vP:=numT n
lQ:=(d4 rfl)
jK:=xad s
ud:=(oG V)
ku a b c:=by ext dP a b b;exact c
E9 a:=xas xa7 a xp jV
jJ:=w<=30
jR a:=by show (wpAny _ _ a _ _ s)
jC:=λ_ z=>(nomatch z)
Hq a:=⟨tz,a⟩
lE:=h.2
kO:=z.2
Ho a:=s1.trans a
lO a b:=by obtain⟨a,q⟩:=b
qF a b c d:=if (a<b) then c else d
Fo a b c:=by obtain⟨a,_,b⟩:62:=c
oW:=r+1
j3 a b c:=upd a b (.dT c)
Hc:=bits h
mT:=(AQ 1)
oz a b c d e:=(eC a b c d (HP e))
ld a b c d e f:=by ext dG a b c d e;refine f
qG a:=(isNm a)=true
qK:=(dA b u)
wm:=1+mY
oh a:=(Zk.mp a).1
j8:=h<=16
wu a b c:=x0 a b (pv c)
qr:=SqL K H a xs
B7 a:=way t.mask h a
Ep a b:=xaj a rfl T.n_len Ya b
lD:=h.1
mL a b:=by obtain⟨a,e⟩:=b
yC a:=by simp at a;lia
znr a b:={ D with nx:=a,ct:=b,bk:=D.nx }
qe a b:=[a,.ref b]
nD a:=s5 _ _ a
ma a b c d e f g h i:=(cR a b c d (cR e f g h i))
kD:=(df c)
vO:=(d7 p)
yO a:=PE X e a
tW a b:=xi (ne_f a b)
mr a b c d:=(dB 1 a b c d)
tV a b:=xu xb6 a b nA
sO a b:=(nH l a b)
rM a:=(Lq,(dk 0)<a)
tX:=⟨"",a,dx,_⟩
mx:=a=b
tF:=D.nx Z H
kK a b:=Z2 (xh a b)
kg:=relabel scope X.env
O7 a b c:=.ins t.C_c I (putF (Zg a) b c)
Ot b c d:=Pz t b pz a dl d_o d_r p d1 d2 n names ss lens so ho c d
lB:=nd.2
kZ a b c d e f:=by have a:=b;ext cB c d e f
rC a b c d e f:=I.turned (t':=s.toks) a b c d e f
yw a b:=∀ n s,(a->b)
yK:=(cO).y
nI:=m+1
se:=.ref b
pF:=.ref p
mq a:=by ext cW a e
oO a b:=hN _ _ a b
oJ a b:=by refine (thn a b)
oB a:=xk (xap a)
lK:=nAt mask h r
wz a:=λ i H=>a
lH a b:=(gS a (hZ (cN b)) ?_)
sG:=by simp at e
mE a:=if_neg (λ z=>a)
xH a b:=(wT s.heap a b)
mZ a:=λ c u e=>a
mQ:=(yl AG)
tR a b c d:=(gE ys a b c ly d)
wV a:=.inl (SqL.of a)
ziN a:=∀ H',(gg->a)
Lu a b c:=by intro a s Z H b c Q I r h
C8:=xbn xp
Fi:=X.pn++pins
n8 a b c:=by ext jS a b eu c eu
w6 a:=xk (xt (pv a))
vC a:=ys.length=a
yp:=by subst this
uU:=by simpa using e
mB a:=a<s.heap.objs.size
ng:=by intros;rfl
vX a b:=(cC a rfl b)
pZ a:=s7 _ _ a
qL a b c d e f g:=by ext cD a b c d;ext dy e f g
qR a b c:=(f8 a (lq b c))
mD:=X.calm=true
A4:=P3 a
mz:=by refine (io ?_);intros
yh:=P3 a b
zZ:=P3 a b c
zK:=P3 a b c d
lU a:=gb_2 X G a
NI:=s∈al
r8:=numT x
Hb:=Yt rfl
lJ:=(hW Int Int)
wO b:=(cu,h.get? a,b)
Cn:=(dA c u)
lP:=A0->Prop
xY:=(uI xs)
zoI a b:=s.heap.push (iz,a,.fields b)
me a b c:=by show(o9,a,b,rfl,c)
IT a:=(H a)=(some (.dK kvs))
yb a:=ZS (sw c) a
nO a b c:=(qO,x9 (pv a),b,c)
Ha:=xat ps
nW:=(jv x a)
FG:=xc2 scope
zhc a:=List (List a)
FQ a:=λ c u nc e=>a
CY a:=xb3 (xbe a)
lN:=(fF A0 A1)
IG a b:=backTo a (starEach b X.env)
DY a b c d:=g a Z b (λ σ2 H2=>(tb (znr c d) σ2 H2))
lI:=A0->(fF A1 A2)
lG:=(AS A0 A1 A2 A3)
sR:=b.1
rp:=q.1
AM a b:=congrArg a b
pJ a b:=((a).length)=b
nU a b c d e f g:=by obtain⟨a,b,c,d,e,f⟩:84:=g
um a b:=a=(decide b)
uy a b:=I.hok a _ b
va a:=some (.builtin a)
sM a:=tp _ _ a
qg a:=by exact(eJ a)
yB:=.bl _
pV:=pv 7
nY:=λ z=>?_
wc a b:=by show(dy,a,rfl,b)
m8 a b c d e f g:=⟨85,a,b,c,d,e,f,g⟩
nw:=φ s
nB a:=ne_f e a
pY a:=(jv v a)
nu a b:=(fS,Zc a,b)
mS:=(jz x)
FK a b:=xb1 (xaf a b xz)
qJ:=ns++[nm]
HN a b c:=(d9 a H b c q)
ye a b:=(Ky a b none)
mI:=(hW Cl S)
vN:=(Mb k)
mF:=I.ok.hd hc
mP:=p.pt ph
tu:=KV kvs vs
Mz a b c d e:=(gC a b)->((gC c d)->e)
pj a b c:=tSeq a (tSeq b c)
zuQ a:=xah cE (xah cE a)
ro:=z.1
Ma a:=show a from c9
sy a c:=∀ b o,(a->c)
nQ a b:=by have:=a;rw[b] at this
oS a b:=by rw[Za,a] at b
Vu:=List S
qI:=List Env
pX a:=s4 _ _ a
oI a b:=by show(cW,xi a,b)
og a:=(mg a)=none
Cg a:=(X.mg a)=none
GQ a:=(so a)=none
C7:=room a
qz:=.str pt.nm
CW a:=.str (jO a)
zJ:=.inr pt.nm
ut a b:=by show(eW,a,rfl,b)
sV:=(cu,h'.get? b,o)
wy a:=J9 X G a
oN a:=Jh X G a
qU:=xk xbu
qY a:=λ p hp=>a
Bx a b:=(dA,a,.tup (xba b))
zo a:=(ou a sysModules)
oD:=(b,r)
re a:=λ o e=>a
Pq a:=(H a)=(some (.dT kvs))
zyM:=.int 0 0
nN:=["self", "name"]
nR:=Cl->(gc S)
nX:=by ext kT t' a
nS:=(CP y fC)
pD:=(DH xs)
zgD:=V.int iu
UG:=(Ch jD)
zw:=eval e X.env
qC a b c d e f:=⟨66,a,rfl,b,c,d,e,f⟩
XF:=(cu,X.env.cells.lookup x,c)
rE:=(dS kvs (k,x))
TR a b:=∃ m',((m'<a)/\b)
Er a:=by show(gk,zF false a,Zv)
zvK a b:=KasT.kasWp cmp a b s
nM a b c d:=(sP,bindArgs (zkG a b .none) (m7 c),YC d c)
tP a b c:=by ext fK a b c
US a b:=by cases (show a from b)
FP a:=show a from r
Dl a:=λ_ _ z=>a
sQ a:=by rw [(dz a)]
B4:=(gc Value)
As:=(cX ls)
xX:=(cX lp)
HM a:=(rX H' a)
o8:=(hW Str V)
NH a:=.inr (d4 a)
pI a:=gb_1 X G a
pT a:=by show(gX,a,?_)
pP:=xbl R
r6:=numT y
qT:=(sw c)
pL:=n<100
vW a b:=h a (Zl _ b)
pU a b:=by ext AN tz a b
HC a b:=SymC w h a b
vA a:=x0 xa0 a xp
pR a:=(oq 54 a)
HL a:=(CO xp a)
oX:=by refine (gx ?_);refine (fq ?_);intros
vU:=by exact (Z0 e)
pb:=Tups H H'
vM a b c d:=by ext y8 a b c;refine d
pB:=(Ho s2)
pK:=y::ys
rY a:=by ext pk b it a
rG:=putK kvs k v
uW a b:=OpR X (compareOp a) b
qi:=by rw[Za];exact (xbj cm)
rH:=valV kvs k
T0 a:=Nat->(Nat->a)
y9 a:=by simp only[a,ZC,if_false]
zhb a b:=xai rfl (xo a b)
rF b c d:=(mJ b c T.n_a7 lkW d)
MD a b c d:=Sg t a p d1 d2 b c d
Tj a:=xa4 (xat ps) a
rA:=o.data=(.dict es ep)
PX b c d:=Dr t b a dp do_ w h ps c d
rQ a b:=by obtain⟨e,a⟩:=b
E8 a:=by rw[a];decide
uz a b c d:=by have a:b:=c;exact d
uD:=(cO).x
uE a b c d e f g:=a/\(b/\(cR c d e f g))
rZ:=.ref q
rh a:=by ext cW e a
tL a b c d e f g h:=by ext cD a b c d;ext cD e f g h
NU a b:=(f8 a (gP b))
zQ:=.str p.sd
sJ a b c d:=by have a:(b=c):=d;subst a
zuE:=(lF "list")
qP:=Zt.mp b
tS a:=.inl (d4 a)
qm:=Array DictEntry
yJ:=b::r
Vt:=lno c9
wZ:=Zp.mpr rfl
sC a:=by ext tT a D h
DD a:=by ext tT a R h
vg a:=L.map (λ x=>a)
CV a:=a+(fc*(-1))
ze:=(dk x.length)-1
qX a b c d e:=MH K C_a a b c d e
rT a:=by show(lZ,a>>=_)
qQ a b c d e f:=MB K t.C_a a b c d e f
rR a:=Q (.int a) H
rO a b:=xk (xaf a b xz)
qE:=N->(gc S)
zjE:=(pq o)
zY:=(jv y q)
qy:=(hW iO KJ)
L9:=(kJ l H2)
vp:=(E9 dU)
zfU a:=(Hr room a cs)
yH a b:=by show(Fo,a,rfl,b)
Hx:=(s,l)
FO a b c d e:=(ff rfl a b c (cG d e))
qH:=RelV v u
zfT a b:=.hand a b asked s
uu a:=λ z hz=>a
qv:=(H1 l)=none
UY a b c:=(iT 45 rfl a b c)
wE a b:=by refine (xbc (xs:=a) (Pv:=Pv) b ?_ ?_ ?_)
qD:=PE X a ta
qu:=HOk P w H h
rV:=Hc % mW
tO:=al++[s]
rS a:=by ext Lu a xs us
zj a b c:=wpAny qj X.A a b X.xe c
rb a:=(zvK a G)
qh:=(Fp (ou x (gU "__debug__")))
zqd:=(oP "lengths" J)
uY a:=.inl (DA _ (cN a))
qx:=Tab t es L
uN a b c:=by intro a s Z H x y v u Q I b c h
qW a:=λ D Z H=>a
zI:=xa6 ps srt
wS a b:=lt (g p a) (g p b)
qp:=Sts H do_ ss
zxi a b c d:=xdp a b c Z fr d te l H1 Q
sE a:=⟨q,a⟩
sx a b c d:=by have a:b:=c;refine d
GD a b c d:=by obtain⟨a,b,c⟩:81:=d
wR a c:=if b then a else c
AL a c:=∀ b u,(a->c)
zha a:=∀ x c,(XF->a)
CU a b c d e f:=by obtain⟨a,b,c,d,e⟩:45:=f
tE a b:=DGet.k (k:=a) b
sr a b:=by show(cW,dz a,b)
ug a:=(dO,(a).2)
sL:=1<=w
vc:=(gU "point")
xN:=(gq xa5)
wD a b:=(lR H a b)
tH a b c d:=(iP a b [c,.int d])
Ah a b c d:=Geo.cells w a b c d
ur a b:=(0<=a)/\(a<=b)
RC:=(cu,H' c,u)
AZ a b:=(nH a b ?_)
xW:=(h+1)-y
BP a:=ha a s Z H _ I h
D9:=I.hok.fresh (Zj _)
UP a:=V.str (Zg a)
TZ a:=(cu,so n,a)
AR a b c d:=(pW a b rfl c d)
su a b c:=by show(AN,vT a,b,c)
BY a:=xas xby a xp jV
tI a:=ZS (sw 32) a
Ol a b:=(false,a)::b
rW a:=Q (.bl a) H
xM:=RelV x v
E2:=(H' b)=none
Ga a:=ZX (cm:a) cE
Bv a b:=(H' a)=(some (.tup b))
sA a b d:=(oa a b d c u)
zqn a:=(H2 l)=(some (.lst a))
zd a:=(J5 K (.ref a))=true
AI a:=(lY _ _ a)
xL:=(B7 m).j
yI a b:=PI X tg a b
LL:=Same H2 H'
zyL:=(zuQ xcf)
Oj a b:=(gZ a H I b)
Oi a b:=SqL K H1 a b
vv a b c:=(pW a b ?_ ?_ c)
He a b:=λ i H a H'=>b
rK a b c d:=by obtain⟨a,g,b,c,d⟩:=s
sI a b c d e:=by ext mK a b c d e q h
Fh:=ite2 mX mX
uT:=(cu,asked s,a)
LQ a b:=Fun K a b st f fd
Ar:=[Aa,z6]
rq:=(gc,Int × (Str × Seat))
rL:=S->(gc N)
zdw:=eval a X.env
zgZ a b:=by show(cD,u,rfl,a,xcl b)
zqY a b c:=X.blkG scope zs ys a b s H c
rB a b:=by rw[Zf,Zh] at hx;ext jq a b hx
zTN b:=(yD,.Name b p2,nK,pos2)
DW a b c d:=λ_ _ _ _ _ a b=>(c:PG _ _ (gTup K d _))
Ly a b:=ha a b s Z H _ I h
Hn a:=⟨a,kw⟩
Cc:=by ext Hz
tJ a b c d e f g:=by obtain⟨a,b,c,d,e,f⟩:65:=g
uL:={ s with toks:=F1 }
uq a:=by obtain rfl:=a
So:=by simpa using this
wW a b c:=by rintro (⟨a,b,c⟩:62)
uj:=by exact .nil
tN:=List DV
tM:=List Wd
zei a b:=(cu,ps.find? a,b)
uF a:=s6 _ _ a
vL:=(dk k)
vK:=.ref x
tK a b c d e f g h:=by ext cB a b c d;ext cB e f g h
V4 a b:=(a == b)=true
wj a b c d e f:=(dN 103 a b c d e f)
ux a b:=(c8 h' a b)
yA:=.bl b
NG:=P4 a b
Mv:=P4 a b c
LK:=P4 a b c d
Hw:=own n
C6:=lens n
xV:=xaq P w
ui a b c:=by show(dQ,fU a b,c)
uC:=Zc c
yy:=vs=mj
sZ:=xaq X.prog X.w
wh:=fp p
uB:=v::r
TQ:=(gq xcd)
yk a b c d:=(lR,a,b,c++[d])
vz a:=(Ac qj A a)
uc:=2 ^ 64
ua:=(fY e)
G9:=(jA _)
NF a:=(Lq,a<1000)
tZ:=xdm cm
Dy:=Z[i]?
tt:=(zfV "names")
uA:=x::L
vj:=(CP y k)
vi:=RelV x u
yd a b:=(mg a)=(cX b)
zX:=(iX b u)
tY:=Gl X x
SQ a b:=(Pb a [(false,b)])
xU:=(uG uM)
Tn a b c:=(eD a rfl b (eJ c))
V3 a b:=leap mask a b
tf:=PtsL H ps qs
Lx a b:=ite2 (fL a) (fL b)
zyK:=F i y H'
BW a b:=xcj (pv a) (xbz b)
B6 a b:=(wb (jP a) rfl b)
uP a:=(sW,a,EP X pins Z Q)
uo:=N->Vu
uh a b c d:=(zhb a (mC b c d c))
sX:=(Ot H own rent)
ER:=ns.map V.int
Be:=es'.map (λ x=>(Zw dY))
zvJ a b:=(TR,m,W dc m' a b)
tQ a b c d:=wpAny lM A a b c d
xK:=(lq 2 3)
uS:=Z.set i (some v)
RF a b c d e:=Turn P w K a b c d (λ i h=>e)
E1:=pd::(ptV p)
zn a:=(t.slot a)=.empty
zdH a:=.inr (gS _ a rfl)
Ae a:=xdn dU a rfl
tU a b:=xc4 pH a b jV
uw a b c:=by ext tG a b c q h
xF a b c:=(sS [a] [] [] b c)
yc a b c d e:=(sS [a] [b] [c] d e)
uX a b c:=(uO,a,b,pM 0,NL,uV,c)
Bu:=shR rent asked g
sU a b c:=by obtain⟨_,rfl⟩:=C;ext dy a b c
ziq:=by show(oA,v,_,C)
sY a b:=by obtain ⟨a,b,rfl,h⟩:=h
KI:=xaa I ps srt'
IK:=Geo.upL pt.x pt.y r
zcI:=ptF ac dn w h
zQB a:=Bf a ho name crowd al asked
uK:=.Tuple elts x1 tpos
vt a b c:=⟨a,(cG b c)⟩
AY:=nd.1
wC a b:=absurd a b
u0 a b c d e:=by obtain⟨a,b⟩:=c;ext cU d e
Ad a:=by ext yC a
zdG a b c:=if a then (some b) else c
yL a:=by refine(qM a)
ya a b:=by have:=a;ext fj b
CN:=λ_=>?_
w4 a b c d:=by obtain⟨a,b,c,_⟩:63:=d
wx a:=s8 _ _ a
vJ:=.int _
wg:=pv 8
Ai:=by refine (Zo ?_)
V2:=own a
xT:=.str nm
wv a b c d e:=by have a:(b=c):=d;refine e
wB a b:=(c8 a b z)
wK:=by refine (iq ?_);intros
GP a:=(eJ (qd a))
GO a:=Drw.rim w a
vh:=(jX Unit)
ND:=rent s
GC a b c d:=by ext dQ a b;ext dQ c d
uQ:=(cu,h.get? b,o)
zh:=(fA xs.length)
wf:=p::r
vw a:=λ b xs e=>a
ww a b:=by show(eO,xi a,b)
vG:=by show(eg,rfl)
CL:=(jO p2)
CK:=(jO p1)
yN a:=λ b z=>a
vF:=by show(fe,rfl)
vI:=(hU 0)
xO a:=by refine (Zb (Jc a))
ztt:=Int × Value
AF:=2 ^ 63
NC:=Zi _ q
zv a b:=s.TypeIs (.ref a) b
v0:=(x,x)
vZ:=x::xs
GN a:=cans w ss a
zik:=rent cQ
ve:=totI w prs
vH:=R++[x]
EG:=(so z).isSome
vV a b:=(wu xcy a b)
vo:=(yO te)
zuP a:=valV kvs (.inr a)
Ti a:=(ix crowd k a)
Sc:=blk0 Z fr n
wa a:=by exact (Z1 a cE)
xJ:=.str x t
Lp:=(Ep xay pG)
wY:=k _ _ jF e
uR:=ws.flatMap Wd.rs
zfR a b:=prs.map (xb7 a b)
Vs:=zs++ys
vQ a:=by ext qw o ho a
vm:=(zfU ns)
Em:=shO own crowd g
vY:=q::qs
L8:=(dS ys y)
T8 a b c:=(dI gg a b (HP c))
VF a:=λ xs H Q=>a
Kc:=pyNext (.ref it)
UF:=(zqn ys)
zC a b:=by rintro Z a ⟨b,rfl⟩
wp a b c:=xk (pS a b c)
Lw a b:=(i8 (dk a) (dk b))
zE:=(vk jj rfl)
zeU a b:=(Ma (ou (gU a) b))
F4 a b c d:=by rw[ZA,a];show ((Jw b c)=d)
zKe a b:=∃ N:pE,((∀ σ' H',((N σ' H')->a))/\b)
NQ a b c d e:=[a,b,c,.int d,.int e]
yR:=es'.getD i ([],0,.none)
Fg:=PtOk w h p
vq a b c:=xdc pH a b c rfl
RQ a b:=.ask crowd asked a b
xE:=(l+r) / 2
K5:=(zqY C ex pn)
Ia a:=by let Pm (Z:L2.St) (HX:Hp):Prop:=a;ext sK Pm
vb:=xbf eR j6 ps
zmt a b:=envOfC qual a s.heap.objs.size f b
yT:=lrB L R (decide (i=0))
Ex a b:=by exact (JJ a I.kIn b e o6 h)
zLz a:=#[(.int lo t),(.int hi u),(.int a v)]
zS a b:=by obtain⟨a,hs⟩:=b
yu a b:=by simp[a,b]
zA a:=by simpa using a
Kw a:=by simp only[a];lia
wU b c:=by subst b;ext oA u a c
yM a:=a≠none
D3 a:=X.s₀.heap.objs.size<=a
AT a b c d:=by have a:=b;rw[c,d] at a
Ag a b:=by have:=a;show b;lia
yS a:={ s with heap:=a,toks:=tk }
Ee:=by simpa using hb
wJ:=by simpa using h
BO a:=show a by decide
wG:=∀ s,((jT kX)↔NI)
yG a b:=by exact ⟨a,b⟩
G8:=(dk 1)
NB:=.ref I
AO a:=by refine (.inl a)
yt a b:=xbk (pv a) b
yF a b c d e f g h:=by ext cI a b c d e f;have g:=h
yi a b c d e f g h i j:=by ext cI a b c d e f;ext cB g h i j
C5:=.int x
Gw:=i3=true
zij:=(cX pz)
Dh a b:=(cK (oH a b) a)
Gv:=(dO eP)
NA:=.str b
yY a b:=λ z=>(by rw[z,a] at b;cases b)
xD:=(jX Bool)
Aq:=(gB H5)
DQ:=1<=x
xC:=ps.take i
yo:=by rw[Zq];rfl
xS:=s _ _ e
FZ:=s1 _ _ e
Cb:=(vT leS3)
yj a:=gb_3 X G a
AE:=numT w
zg:=(hW Str Value)
xR:=Nat->pE
VE a:=(Lq (fA a))
Ap:=(h+1)-r
Gu:=iteF ?_
zy a:=ho a s Z H _ I h
xI:=(uI X.N)
yr a b c d e f g h:=(ib a b c d e f ⟨g,h⟩)
wM:=A.handled=none
HK a:=xdj w h a
Iy:=(dk its.toArray.size)-1
zdv:=i<=xs.length
Av a:=x0 xbi a xp
GM a:=λ c xs e=>a
Dx:=(u,v)
CJ:=(qb hb)
BV:=ns++[pt.nm]
zp:=by refine (Zb (Zo ?_))
AD:=(nT e)
Ca:=(iX b xs)
zeT a:=Ze.mpr (fR p a)
Lo:=.Name x pos
L7:=Sem Value
Cq a b c:=[a,.ref b,.ref c]
xZ a b c d e f g:=(eT 86 a b rfl c d e f g)
xB:=W i m Z H
wF:=(cu,s.heap.get? d,o)
wL:=DecidableEq κ
xA:=(GQ name)
xQ:=Arr n p
ym:=by ext Er hs
ziM a:=GPr ps w h a
FF:=(cG s hs)
Lm:=sp vs H Q E
F9 a:=(zha,c≠a)
zP:=(cK e JF)
yE a b:=by ext kn a b q h
zvI a b:=Kp.Mt (xav lens) a b
Ls:=by simp at e;ext eQ
zR a:=by refine(sF (gq a))
w8:=a.lt _ cm
Te:=(we C fs)
yq a c:=λ b o a g=>c
MZ a:=(HN a kY iE)
Rq a:=.Attribute o a apos
wX:=Seat->Seat
NT a b:=λ σ' H' a=>b
wH:=by simp only[ZC,if_false]
SO a b:=(Same a HX)/\(Z=b)
Mu a:=Zi _ (Zi _ a)
Vr a b:=(MD a b so ho)
FN a:=xce K fd a []
yg:=Pt->Pt
wP:=tupleKind kk
xP:=more[x]
wI:=λ_ _ _ _ _ z=>z
LJ:=(i8 jw nJ)
ziL a:=putK a cQ eP
Rp a:=(zoI "range" (zLz a))
Bj:=sIx items.size 0 lo
Bq a b:=(iz,"tuple",.seq (#[a,b]))
Sk a:=(1<=fW)/\(fW<=a)
Sb:=seG ac dn h
Bl a b:=Kp.Rch a b (.fin so' ho')
LI a:=(eE a cy jM h0)
wN a:=(zKe (zvJ σ' H') a)
D4:=by rw[Yf,Jz];ext Hz
BJ:=btw r1 y2 r2
zu:=btw r2 y1 r1
BD a b:=xck ZV Jt Js xci a b
Ig:=near lens own rent asked crowd
zjX:={ cls:=(lF "set"),dict:=none,data:=.set (#[]) 0 (.fresh 0 0 x) }
AX a b:=⟨a,(b).2⟩
AH a b:=by rw [a] at b;cases b
KK a c d:=∀ b o,((b≠a)->(c->d))
At a b c d e f:=by obtain⟨a,b,c,d,e⟩:64:=f
zt:=λ_ _=>False
VI a b c:=∀ h',(a->(b->c))
AW:=#[v]
OK a b c:={ cls:=zuE,dict:=a,data:=b,slots:=c }
zm a:=(yb a).cps.toList
yZ a b c:=by obtain⟨⟨a,b⟩,_,_⟩:=(id c)
AC:=List N
zts:=List Keyword
Vq a b:=(cu a (g,b,s))
G7:=.ref C
Ao:=.ref it
Gs:=.ref q0
CI:=.ref pz
HJ a b c d e f g:=by ext cI a b c d e f;refine g
FM a b c:=(ix,a,(b-1)-i,c)
zii:=(cX ln)
Dd a b:=(cK (jd a) b)
Nz:=(dO e)
An:=.type T
AB:=(df e)
AA:=.inr x
zW:=.inr rfl
Ew a b:=(H a)=(some (.own b))
Az:=some v
zjD:=(d0 c)
V1:=id st
AV:=ck c
zO:=(oG Bool)
zV:=Array ztt
Am a b c d e f g h i j:=(dL [a, b, c, d, e, f, g, h] i j)
E7 a:=(fA,(a).length)
AU:=x::r
Ay:=Zg " "
AK:=xbg e
AJ:=xc1 R
Kb:=b≠X.env.locals
zL a b:=by have z:=a;rw[b] at z
Dc a b:=xu xfh a b nA
zB a b:=by ext hF a;ext kT t' b
Dw:=Zo ?_
BN a:=he a s Z H _ I h
zU:=Pv 0 Z H
V0 a b:=(fD,(hU a)=b)
Bp a b:=(mo,Q,t Z H (λ a H1=>b))
Ny a:=(qM (qd a))
Ev:=prs.length<=12
Bt:=names.length<=12
zr:=SqT K H a xs
F3 a b:=by show(cY,JU a b ?_)
Ax:=p∈ps
MY:=cO∈ps
Al:=Itl K a
Bh:=Kp.kstep room so ho
Du:=g i j
zk:=nxtP w ss prs
zT:=(zhc Nat)
GL a:=pure (Yv a)
yV a:=(mo,Q,ta Z H (λ x H1=>a))
GK a:=∀ i,(kf->a)
Dk a:=λ i y H=>a
Ed:=Kp.upd1 asked s a
yX:=h.Ns mainGlobals mg
Ak:=ps++[p]
zsu:=(X.fn x)=true
Nx:=(TZ s)
zN:=.cons r t
FJ a b c d:=by ext zgZ a b;ext oA u c d
El:=(zTN "reversed")
Pp a b:=(zei,λ p=>(gO p.nm a),b)
K6 a b:=xw (o:=(.tup a)) i6 b
Dj a:=(zdH,xdg a)
G6:=xcw zyL
Sa:=Seat × Int
Aw:=s∉al
zG a b:=by rw [a,b] at e;cases e
BK a b:=call (.builtin a) b
Aj a b:=SetT knd a d b
zxB a:=FpOk X pins a b
Fl a b c d:=(nh 84 a _ (wV b) c d)
Gr:=(zuP nm)
zD:=xbx ky ad i
yW:=Array (Option Value)
Eu:=xcv (j:=0) rfl
zH:=K w.params
zx a b c d e:=λ a b ⟨1062,c,d,e⟩=>?_
Dt:=UG-jD
Ds:=[a,b]
zbt a:=∀ Z H,((Pv a Z H)->tF)
Ro a b c d e:=(cu,K.lookup a,du b c d e)
zM:=PE X b tb
K4:=eval b X.env
EF:=PrsL H prs qs
D2 a b c:=(sP,typeLookup (.type a) b,c)
zq a b:=(eD a cE cE (eJ b))
zms:=(sH M s2.heap.objs.size)
IE:=("opened",V.ref do_)
Au a:=ZK (Z0 e) a
zf:=(FQ (gs nc e))
DS a b c d:=xbo rfl a b (pM 0) NL uV (λ_ _ _ _ _=>c) (j:=d) rfl Hb
RG a b c d:=(eT 124 _ _ _ a rfl b c d)
PN:=(eD cm cm cm cm)
D0 a b c:=xaf (PW.pt (xch a (xb4 b))) c xz
O3 a b:=λ i m Z H=>(eX,m,a-i,b,Co)
yP:=xas (r:=(rIxT K)) xby dU xp jV
znz a:=by rintro i m Z H (⟨rfl,a,p⟩:43)
zi a b c:=by obtain ⟨a,b,c,rfl,h⟩:=h
yU a:=by simp only[Zt,Je,or_false] at a
y0 a b c:=xdr (i:=a) b rfl (Qx rfl) c
T7 a:=by ext dG o e c d a
zcb a b:=Best own rent asked a b
A5:=∀ o' u',((X.H₀ d)≠(some (.frz o' u')))
Ka:=tSeq t1 u2 d s H
Oc a:=⟨a,cm⟩
zeh a:=⟨a,hd Z H p⟩
Cm:=T.size.2
Eh:=(rnd mask h r).2
GA a b:=by obtain⟨a,c⟩:=b
Bs:=by simpa using c
T6 a:=by rw[a];simp only[]
DC a b c:=by show a;ext cW b c
Dg a:=by have:=a;ext So
DP:=[a0]
CQ a b c:=by obtain⟨i,a,b⟩:=c
BI:=ZJ.update ..
zdF a b:=∀ i Z H,(a->(Co->b))
KN:=by simp only[if_true]
ID a:=by unfold pyNext;refine (Zb (JY a))
DO:=(NJ).j
Bk a b:=by cases a<;>simp at b ⊢<;>lia
F8 a b c:=DGet.t (k:=a) b c
zqX a:=∀ b∈crowd,(b∈a)
Dz a b:=a->(b->Bool)
DN:=wn+1
DB a b:=by show(cW,oH a b,a)
Dq a b:=by show(cW,oF a,b)
Df a b c d e f g h:=by ext cB a b c d;ext dZ e f g h
VD a:=.int (dk a)
Nw:=(cX q)
CH a b:=by exact (congrArg a b)
K3:=.str "point"
CG:=(dz cm)
Gq:=(dz cE)
C4:=K.In h
Hd a b c d:=by have a:(((b).length)=c):=d
Dm a b c d:=by show(cD,a,b,c,Ze.mp d)
CT a:=(df (hD a))
C3:=(AQ 5)
DM a b:=by show(dy,a,b,rfl)
Nv:=(d7 a)
FY:=(eJ rfl)
CF:=(eJ ?_)
CD:=(jX B4)
CC:=(d4 ?_)
B9:=model P w
DL:=1<=h
DK:=1<=r
CB:=(oG cA)
De a b c:=vs=[a,b,.int c]
Dp:=toP p
EQ:=(gU "frame")
Kl:=(fA kvs.length)
Di a:=gb_4 X G a
Cp a:=by show(gk,a,YJ _)
Hv:=xbt e
Nu:=runs R
L6:=(xG p.lo)
L5:=(xG p.hi)
Cd a b c:=by have z:=a;rw[b,c] at z
BH:=Zz as.length
Do:=by ext hF rx
Gp:=(gK lt)
G5:=Q v H'
DJ:=1+fc
CA:=(pA Za)
BB:=["self", "x"]
zih:=(vE h')
PV a:=(dA,q,.tup (prV a))
C2:=α->β
Cz:=(Bb tk)
zig:=(Af dn)
E0:=(hW Cl Str)
FE:=xb8 w prs
TN:=s1 _ _ U
Cy:=b::rest
Db a b:=(Hq (cG a b))
zfC:=.Name x p
Br:=Kp.Mt room so ho
CS a:=(iy a H kR)
DG a:=(tV a xp)
G4:=(wO o)
DF a:=(AM YD a)
BM a:=(decide a)=false
Bg:=(X.A.units+1)<cLine
FL a:=λ i j=>(.int a)
Nt:=(zo a)
Bw:=s.heap.push zjX
BU:=(Dl z.elim)
zif:=s _ _ h
Cw:=(HM s')
C1:=XC K C
L4:=(fE n zgD)
MC a b:=by have:(a=b):=cm;ext yp
FD:=(rD l xs)
BA:=(hW κ Value)
Lk:=(ho s)=none
BT:=Pl H ps kvs
FI a b c:=by rw[Zf] at a;ext qw b c a
Cv:=by rw[ZH] at nd
UO a:=.ok (.ret a)
BG:=(dS crowd a)
Cu:=dEq d e
SN:=tSeq t2 u3
zeE:=xav lens n
DE a:=(Oj yB a)
BS:=K.In s.heap
FC:=(dS ps p)
Fk a b:=TyOf K H a (lF b)
B5 a b:=(UY (jP a) rfl b)
EE:=(PX H ss srt)
Ct a b c:=Jr a b (λ_ _ c=>c)
HI a:=λ y hy=>a
Da a b:=(zdG a b none)
Ck:=(true,0)
Hm a:=λ i y _=>a
BF:=(hW sj Addr)
Cj:=(lq 1 2)
Cf a:=by show(eO,oF a,xj)
ziK a b:=a/\(y=(.str b))
C9 a:=(DY x H' a a)
F2 a b:=pS a b (xbp xg)
Go:=vs++dvs
G3:=us++ds
B3:=Nat × Nat
Dn:=C x v
B2:=(ir xj Zu)
GJ a b c d e:=(kc a v b x c d r1 e)
L3:=(Oi a xs)
zcr a:=IsRv s.heap I x t a
K7 a b c d:=(By pz dx a T.c_c b c d)
ET a b:=(RF tg a [it] it b)
C0:=by exact (ih uU)
B8:=(cG z hz)
Bo a b:=xu (xe8 (xb0 hr)) a b nA
Bd:=(dA,q,.tup (xba s))
EZ:=KT H kvs xs
A9:=o.setIfInBounds j (some k)
zdV:=(c8 x H' y)
zdE a:=Inv X a σ' H' s'
FB:=xa4 ns cs
BE:=by simp at h
Cs:=[a0,a1]
LH:=crowd++[h]
B1:=(jc hi lo)
Tl a b c d:=xbb X.prog X.w a b c d
BR:=xd5 lens ss
Bm:=(M4 "side" "row")
Ef a c d e:=∀ b,(((upd a c d b)=none)->e)
A8:=(Pb sD (Ol,zw,starEach es X.env))
Ci:=lrSs L R
BQ:=(lo+hi) / 2
DU:=sIx items.size items.size hi
BX a b c:=(mR _ _ _ rfl a b c)
Hl a b c:=(Mz ys y a b c)
B0:=(zvI so ho)
CZ a b c d:=JH a cy (c8 b c d)
Fn a b c:=kas_place p k a b c
zqc a b:=∃ o,(a/\(o.cls=(.type b)))
BZ:=[a0,a1,a2]
II a b d e:=∀ c u,(dI,c≠a,c≠b,d,e)
RX a:=by show(kn,rfl,rfl,rfl,a)
OU:=(y.2-(G b))-(C y.1)
zqN:=R (.error e) s'
Ba a b:=by exact(fT,a,λ v k=>(by ext gm b k))
A6 a b:=(jo,_,_,.inl (mR _ _ true a rfl xdu (vX true b)))
Bz:=[a0,a1,a2,a3]
A7 a b:=by exact(fT,a,λ v k=>(by have k':(b=(Qf v)):=k;cases k'))
zkT a:=.ListComp elt [(du a iter ifs 0)] scope pos
Bc:=BlkG X scope zs ys fr
zDg a:=FnOk q0 X.prog X.w X.K X.mg X.base a k f fd ps sp
zkS a b c:=cxOf q0 a P w K mg base N qual b f c A outer s H E
Hk a:=⟨dx,a⟩
Hj a:=⟨ob,a⟩
Hi a b c d e:=⟨a,(fG b c d e)⟩
HV:=(kH).2
Gz a c:=by obtain⟨b,a⟩:=c
FA:=by ext sG
VC a:=xs.length+a
Og a b c:=by cases a;ext cU b c
Of:=by rintro rfl
Hh a b c d e:=by refine a;ext dZ b c d e
Fm a b c:=by obtain⟨a,b,_⟩:43:=c
GI a b c:=by obtain⟨j,a,b⟩:=c
zcH:=∀ b∈fp,E2
zuO a:=∀ b∈fp,(zxB a)
Oe:=by split at e
FX:=(Ha).Nodup
FW:=(Vs).Nodup
RE a:=λ_ _ _ _ _=>(xei a)
M3 a b c:=DPut.k (k:=a) b c
VZ a b:=a=(.fields b)
Fz:=List Stmt
FV:=List Itm
MX a:=some (.dK a)
Gn:=(dk h')
Gm:=.ref ln
Vp:=.int y
Ms:=.int p.x
Mr:=.int p.y
HH a:=(fF a cM)
G1:=b=true
VB a:=(H' a)=none
Vo:=(cX O)
VY a b:=(cK a (dO b))
GG a:=(dO (fX a))
MW:=.str eS
Od a b c:=(du 1062 a b c)
Gk:=Zt.mp h
Nr:=numT h
HU:=ZQ h
Nq:=(AQ 3)
zie:=(wA s')
Gj:=(eJ Fh)
HS:=so n
Gi:=Zy.mp z
NY a b:=by rw[a];exact (xdv b)
K2:=names.take i
EO:=crowd.take i
zid:=(je i3)
zyJ:=s7 _ _ e
D7 a:=(kJ s.heap.objs.size a)
G0:=s∈C7
Vn:=Zg "-"
EJ a b c d e:=xo a (xo b (xo c (xo d e)))
HG a:=(fS a Za)
NS a b:=xu xhb a b nA
Gh:=α->Int
Ob a:=(Ac M A a)
SM a b c d e f:=(wQ a b (wQ c d (wQ e f xg)))
Hu:=(x,r)
Fy:=Nat->Addr
GZ:=xbj cm
Fx:=ZZ (Zj _)
zgC:=Hp->Prop
FU:=eI->Prop
MV:=(hX jj)
Gg:=Zt.mp d
Hy:=by ext iL cE
VX:=g p i
UN a:=xaa w a srt'
Hg a:=(DA rfl a)
MU:=ptsS ps
HR:=a::l
Gf:=(jN hp)
GF a:=∀ b,(iR->a)
GY:=b∉ch
GX:=(lC 1)
Lj:=X.clo scope
Ge:=(Bb t')
TM:=(jv y b)
Ht:=xs[j]
GW:=(pi v)
Fw:=(hW K KJ)
UE a b:=Ze.mpr (fR a b)
HF a c d:=(oa a c d b u)
zvY a:=valV kvs (xad a)
Oa:=(b,i)
F7 a:=λ b u S e=>a
EN:=PrsL H ps qs
Gd:=vs=[iS]
Ec:=(cu,h.get? d,o)
EM:=nxtP w ss vN
GU:=(zhc K)
Et:=DecidableEq α
HE a:=λ x hx=>a
Eb:=(A.units+1)<cLine
KO a b c d e f:=by have a:=(su_e b c);show(cB,d,ug_e c,e,f)
GT:=n∈FG
SU a b c d e f:=by show(fO,a,b,id c);show(fO,d,e,id f)
GS:=(Pq a)
Es:=s.heap.push Yb
ED:=ss.length<=32
UD:=(NH ?_)
EY:=xa8 H cs qs
Ej a:=(ziN,Q (.int a) H')
Gc:=(Tj cs)
Kk:=crowd.map V.str
E6 a:=if_neg (λ y=>a)
Eo:=by refine (Jn hd hdat ?_)
En:=by refine (JI hd hdat ?_)
Fv:=PE X o td
E5 a:=xu xe0 a xa5 nA
Gy a b c d:=(j7 Z a (gB b) c d)
E3:=by exact (.cons h ih)
EX:=Room q0 k A
Hs:=a≠b
M0 a b c:=(eX Z a (gB b) c)
zgY a:=canO w ss p a
Fu:=(zQB room)
L0:=ps.map fp
EI a b:=HT.sIx xs.length a b
Ft:=PA X sD t
zmB a:=s.heap.push (iz,"list",.seq a)
Ea:=Loc X.env.scope x
D6 a:=(o4 a qK (cu,H' b,u))
Fj:=by rw[Zs,ZE] at nd
D5 a b:=by show(cY,JB j a (x:=b) rfl ?_)
HQ:=I fC
zxh:=(0,.none)
Ei a:=(t.slot a)=(.live i)
No:=(zeT b)
EW:=(IG pos es)
EA a:=(gZ,oY,_,a,q _ D9)
FT:=(ziM prs)
Ff:=PA X nK ta
Fe:=vs=[dH,iS]
Lv a c:=∀ b o,(a->(i4->c))
LP a b:=upd a dx (.own b)
zst:=(jv (fX e) b)
F6 a:=(dL jZ jZ a)
EV:=Vals xs its
EL:=xdx kvs more
TL:=.frz o u
MT:=t Z H Q
Ez a b c d:=xbk a (xai rfl (mC b c d c))
FS:=(RQ i j)
Ey a:=∀ p,(vO->(kJ p a))
GR:=xd2 ry
zcq a:=∀ p∈Fi,(cO≠a)
Kv a:=λ_ _ _ _ _ st h=>a
zdu:=.tup (xba s)
EU:=Vals dvs ds
KM a b c:=by exact(fG,_,.ref (a[i]),b,c)
Fd:=(HC fp φ)
Lr a b c:=(dN 84 _ _ rfl a b c)
GE a:=λ c xs q=>a
EC:=(zmt scope cd)
PU a b c d e:=(kc (Ly pos a) us b vs c d r1 e)
ES a b:=IsEnum a e it b old
Eg:=xce X.K fd ps ds
RT a b c d:=λ i a b c d N M hN hM=>?_
Gb:=(zDg CX)
DR:=zsu\/(cu,X.env.scope.names.lookup x,.local)
EK:=λ_ _ _ e=>e
FR:=name::hs
zyI:=#[iS,zyM]
zss:=names++[name]
Pj a b:=by have a:(kvs.length=vs.length):=b
Fs:=(dS qs q)
Gx a b:=(eD a cE cE b)
Fq:=PE X i ty
HD a:=by ext gm a e
Hf a:=(gV a _ _)
zbW:=.inl (SqL.of z)
RP a b:=xc7 X (.builtin a) b
zaD:=("placed",V.ref dp)
P9 a:=ite2 (fL y) (λ y=>a)
Fc:=SD H d n m
znq a b:=(Q σ' H')/\((σ'.length=a)/\b)
D1 a:=(mo,R,ta Z H (λ vs H1=>a))
DX a c d f g h:=λ h' eb=>(d4 (rC (iw,a,eb b o a e) c d f g h))
Fb:=(SQ nK zdw)
IH a b:=by rw [Zf,Zh] at hx;ext jq a b hx
Iu a b c:=(jo a _ (Tn,.inr (SqT.of b),rfl,c))
K1:=xek I.hok eb
zeD:=start N vs
EB:=Sym w h fp φ
E4 a b:=by refine (Qb hp (thn a b))
EH a b c d:=by obtain ⟨a,b,c,d,rfl,h⟩:=h
IJ a b c d:=by rintro i a b lt (⟨c,_,_,d,_⟩:64)
zEz a:=xaj xds rfl T.n_isinstance boot_isinstance a
Rm:=ZJ d s.heap h'
Ek:=ledS C (pt,b,r)
zeg a:=λ i h h' st k=>a
FH a b:=Un fs ex H a h b
DT:=x9 (mO,dU,T.c_a,T.d.m,ok_d T,eG,T.d.b)
Fa:=xfc CX X E
zmA a:=(a="left")\/((a="right")\/(a="both"))
KH:=at2 dEq ds es
TK a c:=(gE b o e n a c)
zCY a c:=(CY,pC (ok_ai T) hr T.ai.g T.ai.F.kp T.ai.b (f8 a c))
DZ a b:=∀ ys H2,(eC nZ UF (vC a) b L9)
zbN a b c:=(eT p a _ rfl b Vt _ rfl c)
HW:=X.blkG scope zs ys s3.heap.objs.size fp s3 zms Fi
D8:=pzF a dl d_o d_r p
zlC a b c:=by ext znz a;have q:=(hl i Z H b p);by_cases hlt:(i<c)
N9 a:=⟨h0,a⟩
K0 a:=decide_eq_false a
Sj a:=decide_eq_true a
LO:=by by_cases e:(cO=k)
MA a b:=by rw[a,b];constructor
ziJ a:=kvs.length+a
PL:=by simpa using b
zxA a b c:=if a then (g p b) else c
Ku a:=s.heap.objs.size<=a
ziI a:=∃ vs,(tu/\a)
NX a b c d e f g:=by obtain⟨a,b,c,d,e,f⟩:103:=g
UR a c d e:=∀ b o,(dI a c d e)
Kg a b:=by have:=a;ext gm b this
zjC:=[name]
NP:=by intro _;rfl
Kt:=λ_ _ _=>False
LZ:=(vP).length
Nn:=λ_=>0
I0:=by simpa using m
IS:=by simpa using hu
Sn a:=by simp only[a,if_true]
IZ:=by simpa using d
zbF:=λ_ _ _ _=>False
My:=by simpa using z
IR a:=∀(i:Nat) (y:V),(L8->a)
zaI a b:=∀ p∈prs,(PrOk ps a b p)
NN a b c:=a->(b->(c=true))
NW a b c d:=(cC ⟨a,b⟩ c d)
Nm:=(dk C)
Ks:=(dk xs.length)
Nl:=.int w
MS:=.int wn
Li:=.int (lo+i)
Mx:=by refine (xiq ?_)
Vm:=lens a
UC:=(cX lk)
Vl:=(dO z)
Nk:=(dz e)
Mq:=if_pos h
Nj:=(AQ 4)
MR:=Zy.mp b
zic:=.inr nm
zib:=some lu
zyH:=P5 a b c
zvH:=P5 a b c d
Lh:=(jX Result)
N8:=i<len
KZ:=i<es'.length
N7 a b c d e f g h i j k:=(dL [a, b, c, d, e, f, g, h, i] j k)
zgB:=L.take p
zgA:=L.drop p
TJ a b:=(iz,a,.fields b)
zfB:=(vT leS6)
N6:=Inc R
NV a b:=by show(fe,⟨a,b⟩)
Ni:=Zi _ g
zyG:=(dA a u)
KG:=(jA x.length)
LY:=Nat->Bool
MQ:=Nat->sj
MP:=Nat->ud
MO:=(qN i3)
zgX a b:=.call (.ref a) b
MN:=iteT ?_
Lg b:=(∃(a:A0),b)->C
IM c:=(∃(a:A0) (b:A1),c)->C
Ir d:=(∃(a:A0) (b:A1) (c:A2),d)->C
Ic e:=(∃(a:A0) (b:A1) (c:A2) (d:A3),e)->C
Nh a:=(iF (oh a))
Rk:=.int es.size 0
MM:=ws≠[]
Ng:=(lS t)
ML:=(DH vs)
MK:=(sN E1)
KY:=qs.map V.ref
N5:=α->V
UB:=(k-1)-i
Kr:=(sv xs.length)
LX:=Str × cH
ST a:=(kJ l (iK l a))
NO:=by cases r;rfl
zeC:=I.pin p hp
N4:=(b,o)
Nf:=(w6 3)
Nd:=.dT []
Kj:=ss.Pairwise xb2
Nc:=(IT a)
Mp:=F i y H2
Nb a:=(IG cpos a)
Na:=Y s hs
zgz:=.int i t
M9:=(Pq d)
RB:=V.str "point"
IY:=∃ t,(u=(Q0 i t))
zbj:=Kp.upd1 asked s b
LW:=MkOk mask
SL:=turns mask
Lf:=Sd H ps kvs
Oh a b c d e:=by refine(dM a b rfl c d e)
LV:=PE X o to
zxz a:=xu xgt a xa5 nA
Ke:=by exact ((FP False).elim)
Mw:=by ext hF r;rfl
zgy:=φ (f n)
Le:=φ (f p.nm)
IC:=Geo.lvL z pt.x true r
IA:=Geo.lvL z pt.x false r
LG:=λ_ _ q=>q
Mo:=(iK a o)
Td:=(lm l uM)
Vk:=(Ti a)
Mn a:=(zxi a n g tc)
zbV:=AllBare s'.gens
LN a b c:=by obtain⟨a,b⟩:=(Zk.mp c)
Mm:=(#[]:ii)
zXQ:=x≠"__name__"
zdU:=fW<=(hU jQ)
N3:=nm::S
zeS a:=fr.map (λ i=>a)
zng a:=(dA,a,.lst (rs.map V.ref))
LR a b c d:=(dB a b c ["words"] d)
LF a:=xk (xt (xag a))
OD:=(cu,X.env.cells.lookup n,c)
Ld:=frs X.stack
N2:=xbl L
MJ:=qs++[q]
zuD:=xs.getD k 0
KW a:=s7 _ _ (s6 _ _ a)
Rj:=λ b u nb e=>?_
SK:=xcb true L
Lc a:=(Yh K a QH)=true
Ml:=(LQ x q)
LE:=SsOk j6 ss
zbi:=xbq xcg dU C8 xcm
LU:=lsS x r c
MI:=nm∉ns
Kf a b:=by have:=a;ext ef b this this
Km:=by rw [Za];exact (xbj cm)
Ki:=(l.map f).Nodup
LD:=(zqX names)
SJ a b:=wpAny lM A a b E s
Mj:=(CP v n)
UM a:=(ki a Cn RC)
Kd a b c:=by show(uZ,z,a,vs,b,c,xfg I.hok e)
IN a:=by rw[(dz a)] at hm;ext lX hm
zbU:=(cu,so eS,dX)
IX a:=.dT (al.map (λ s=>a))
Mi:=(Vr H n)
RD a b c d e:=(eT a 1 b rfl c d true rfl e)
IU a b:=(zqc (cu,h.get? a,o) b)
MG:=(zkT tg)
zvX a:=more.foldl a kvs
UA a b:=by simp[a,Qw,b]
M8:=a == b
M7 a:=λ σ' H'=>a
Me:=by by_cases c:(b=D)
LC a:=o.cls=(.type a)
Mh:=xcr w ss
M6 a:=Jf a hs rfl
MF:=xbw p s
LT:=ifP jk ?_
Lb:=xao H ss qs
RS a:=o.getD a (some 0)
KU:=(kB H3 G [])
Iq a b c:=by ext DD a;refine (Call_ (xc0 I hg hm b c))
SI:=(hO,wm<=_)
zeB:=(zfR zcI Sb)
KR:=SqL K H a ER
La:=λ n:Nat=>zgD
PK:=bubble p k (k-m)
LB:=(eP-V2)-zik
XI a b c:=(zEz (NU,0,xey (v:=(.ty a)) rfl b c rfl))
NR a c:=(zCY a (HL c))
K9:=⟨cE,cE⟩
M5:=Cl->Cl
VW:=YX hu
zqb:=by rw[Q6];ext Hz
N1 a:=λ_ H Q=>a
NZ:=s::ss
ME:=[p0,p1]
OI:=[(NK "left"),(NK "right")]
Pd a:=∀ z,(((so' z).isSome)=a)
Kx a b c:=PW X (.BoolOp a b pos) c
KF:=(NM,V × V)
Mg a:=(Ac qj X.A a)
Mf:=Ord n lt
SH:=1+(v % mY)
zTL:=[("picture",dH)]
KQ:=xc5 lens prs
Iw:=(M4 "askers" "asked_by")
Iv:=(dA,q,.tup (k.map kV))
LA a:=(X.mg x)=(cX a)
KL:=by exact (.cons e .nil)
LM a b c d e:=(eT 86 _ _ rfl a b c d e)
zMA a:=["self", a, "points", "seats"]
KP:=(kB H1 J [])
Ib:=(dA,la,.lst (crowd.map V.str))
KC:=by show(US,u=(Zw a),rx)
znp:=λ s:Str=>s.cps.toList
zlM:=(V4 apos.endLine cpos.line)
IP a b:=(cu,entryFor table a,b)
P8 a b:=(lv a _ _ (wb b ?_ ?_))
Il:=["picture", "one", "other"]
K8:=xbf eR h ps
Ip:=tupleKind (xaq X.prog X.w)
PJ:=by rw[Zr,ZI];lia
zca a b:=by rw[ZA,(zF,(gU a) == b,c9)]
Ra a b c d:=(sS ["side", "row"] a b c d)
Ie:=["self", "name", "side", "row"]
zRX:=λ acc x=>(ziL acc)
zag a b:=(eJ,ifN (decide_eq_false a) b)
Th a:=Dv X.K H m a e
zgW a b:=BindsTo s fd a b
P7 a b:=probe.go t hashAt h a b
Id a:=xdz (by rw[Y.sz];exact (ZO.mp a)) none
zlm:=λ b H4=>(gV,b,te σ' H4 N,M H4)
IV a b:=by obtain⟨z,its,n,r,a,e⟩:=b
IB:=lenI eR p.x p.y i3 fW
zeR a b:=HOk X.prog X.w a b
KE a:=λ_ _ _ H _ I h=>a
zII a b c d:=[a, b, c, d, "_law_name", "_law_side", "_law_row"]
zuC a b:=∀ l,((Hx∈a)->(b=l))
Lz:=[p0,p1,p2]
Rt a:=by obtain ⟨a,rfl,h⟩:=h
Ik a b c d:=by obtain⟨⟨a,b⟩,⟨kvs,c,pl⟩,_⟩:=(id d)
IF a b:=(cu,kstep room so ho a,b)
Kq b:=(cC (wy H.a) H.F b)
Kh:=picF w h dp do_
zKd a:=backToKw a (keywordEach [] X.env)
Io:=(behindInMarks op b)=false
zcG:=eOf X.K H m d
zPd:=[("picture",dH),zqd]
zsr a b:=(dN 65 a cy kS b xj ?_)
zXP a:=x0 xa0 xp (x0 xbi a xp)
IL a b:=by obtain ⟨its,a,pl,hz⟩:63:=b
IQ:=AkD H da al asked
IO a b c:=by show(jp,v=(YT _),C);ext dy a b c
KA a b c:=by show(jp,v=JE,C);ext dy a b c
OJ a:=(attributeBase o a X.env zjE)=zjE
KD:=[p0,p1,p2,p3]
Ii a:=by simp only[Zt,Je,or_false,not_or] at a
Ko:=GH K g st f fd
Kn:=Cmp n lt cmp s
Ij:=(xab n.b)::(n.ws.map Wd.tq)
Kz:=by ext GD ok ov st st
OZ a b:=(dN 65 [] rfl dF (ge a) xj b)
zkr a:=pC (ok_al T) hr T.al.g T.al.F.kp T.al.b (f8 a (gP xp))
Oq:=(DW ow nd (oE (Ab,pO 0 nd ow,pO 1 nd ow)) 2)
IW:=[a0,a1,a2,a3,a4]
HZ:=∀ i y H H',((Tp H H')->((F i y H)->zyK))
Op a:=pC (ok_ab T) hr T.ab.g T.ab.F.kp T.ab.b (f8 a (gP eZ))
HY a:=xbh (xdo rfl (xgz hr)) rfl T.n_dict boot_dict (gP a)
XH a b d e:=[a,(vE G),zjD,(Af U),(d0,m1 % 7),mV,b,d,e]
Iz:=[a0,a1,a2,a3,a4,a5,a6]
Ih:=notedBy lM A env (λ e s'=>zqN)
Im g:=F.binds (λ a b c d e f us j=>g)
O6:=by intro m y e G A u v R M C
TH a b:=((a).cps.toList)=b
TD a b c d:=by obtain⟨a,b⟩:=c;refine d
OF:=by cases b<;>decide +kernel
TY a:=show a from z
R9:=["picture"]
zia:=[pt.nm]
Tc:=λ_=>true
SG a b c d e f:=["picture", a, b, c, d, e, f]
PH:=by simpa using f
PD:=by simpa using q
T4 a:=by split at a<;>cases a
zvG:=(Be).toArray
VA a:=∀{l:eI},a
UL a:=∀ n∈zss,a
RA:=∀ p∈ps,Fg
UX a b c d e:=by obtain⟨a,b,c,d,_⟩:64:=e
UK a:=xfq (i:=i) a
Rn a:=(way t.mask oZ a).j
zcL:=by split<;>split<;>lia
VG a b c d:=DPut.t (k:=a) b c d
znR:=∃ p∈ps,(p.nm=nm)
zuN a:=∀ s∈ss,(Sk a)
TC:=List Row
VU a b:=(cu,H1 a,b)
zcp a b:=(cu,s.heap.get? a,b)
zvF:=x.length+1
zjB:=.ref o
zhZ:=.ref cO
T5:=by refine (xhr ?_)
Vj:=.str a
Vi:=(cX d)
R8:=.str "both"
R7:=.str "left"
RO:=.str "right"
Uz:=.str jw
Uy:=(dz c1)
Ux:=(dz c2)
Uw:=(df cm)
Vh:=(AQ 2)
ztC a:=(cu,h'.get? b,a)
zjA:=(fX z)
Vz a:=(fX (fX a))
zhY:=Ze.mp b
TB:=(hW V V)
VT a:=(eJ (Lx a a))
Uv:=.inl lQ
Uu:=(oG It)
SF:=prs.take i
Tz:=s2 _ _ e
Ty:=s4 _ _ e
Vg:=Qh _ _
Sh a:=(NM,Addr × a)
zjz:=c≠da
zjy:=Zg "."
PR a:=ao.keep (Same.tups a)
RW a b c:=(dN a _ rfl b _ rfl c)
Tx:=Nat->Int
VS:=Zz 16
VR:=Zz mW
RN:=(hW Str Tok)
zvE a b:=(iZ a rfl (cN b) ?_)
zbs b:=(cu,s.heap.get? a,b)
Ut a b:=h a s Z H _ I b
Us:=(jd hl)
zjx:=(jA n)
Ur:=(gK Qn)
R6:=prs.drop dc
Tw:=(h+1)-fW
zef a:=hi a s Z H _ I h
TX a:=(Yq K a)=true
TW a:=(YF K a)=true
TV a:=(Qe K a)=true
Vf:=(hD e)
zhX:=(m7 us)
Ri a b:=(H5 a)=(some (.lst b))
Uq:=(pA Jm)
Uo:=(pA Zr)
Pa:=["self", "picture"]
zfA:=x9 (pv 0)
Tb:=x9 (pv 1)
Rz:=ps.length<=12
VQ:=a::yJ
zyF:=λ x=>(#[])
zvD:=λ x=>x.snd
RV:=by refine (Zb (Wc ?_))
Ve:=b∉ex
UQ a b:=by rw[a,b] at z;ext gD
Um:=(sN LJ)
Vy a:=absurd a cy
Ul:=(Bb F1)
zjw:=(tD b)
zvC:=(tD pt.nm)
Rh:=(x.length-1)-i
PZ:=(sv kvs.length)
Tv:=acc++[x]
Po:=.frz ob (.dK kvs)
VP a b:=(nF a (gq b))
Vd:=z∈ns
Vc:=(rg r)
Uk:=(rg h')
Uj:=(nE g1)
Ui:=Itt K a
Vb:=subs l
SE:=eval e env
Uh:=(qG nm)
Va:=oW∈R
UJ a:=.inr (xab a)
RM a b:=OpR X (binaryOp a) b
ziH a:=by show(cY,YU a ?_)
zaC:=blk0 Z fr zs.length
U9:=(w6 4)
U8:=.dK []
PB:=srt.Pairwise xb2
Ug:=s<=mask
Tu:=(dA a o)
Ta:=(dA a Te)
U7:=YL x y
U6:=(IT d)
Vx a:=λ fin s'=>a
UW:=by exact (xkn cm)
Tg a:=xcj (pv a) xh9
UI a:=(ye t.C_c a)
SS a:=al.map (λ s=>a)
R5:=ss'.Perm ss
R4:=srt.Perm ss
VO:=u::us
Tt:=(cG r b)
Rs a b c:=PE X (.BoolOp a b pos) c
Uf:=Cls K C
zaB:=assignEach es X.env
R3:=CrL H cs qs
Ue:=(vA eZ)
zsF a:=(ziN,Q (.bl a) H')
zLy:=base.Ns mainGlobals mg
U5:=(Tj R)
SC:=.bool true
SB:=Wd.shape o
Ts:=(E8 xcq)
VN:=r<=ph
Rg:=(asked s)=none
VM a b:=.lst (a++[b])
VL:=p::ps
zdt:=(UP "right")
Ud:=(BY dU)
RU:=by exact (.cons zif ih)
U4:=(zd f)
UV a b c:=(AI (RG _ a b c))
Uc:=V->Bool
VH:=by rw[(df cE)]
UH a:=(nG ly Za a)
zeQ a b c:=by rw [Zf,Zh] at a;ext jq b c a
zgV a b:=ZN.mpr ⟨a,b⟩
zgx:=X.wish E
U3:=hf b D
OG:=by refine (nx ?_);refine (fq ?_);intros
S9:=SsOk h ss
zvB:=W2 (mir w)
S8 a b:=EP X pins Z Q a b
Tf a:=(zxi a n g xd4)
S7:=(Kw turP)
Sm a:=by refine (ZF (λ i _=>a))
zgw:=P kv.1
zfz:=kV kv.1
zTK:=.inr (Zg "left")
zxy a:=(Ky C a (cX f))
zmf:=(dA,d,.frz o (.dK kvs))
XZ:=(dA,d,.frz o (.dT kvs))
Py:=GvF lens names f
Px:=xdq lens names f
zdT:=acr w x1 b1
zdS:=acr w x2 b1
Tm a:=by ext Ls;ext wc a h
Vw a:=(MZ,.int a)
zhW:=(Mu ?_)
Oo a b c:=by ext ziq;show(dG,w,r2,B,J,I.list hb);have N:=r2.length;ext dy a b c
Om a b c:=by ext ziq;show(dG,w,r2,B,J,I.tuple hb);have N:=r2.length;ext dy a b c
UU:=by exact (Yt rfl)
U2:=h a Zm
zyE:=(k,v)::r
zio:=by rw[Zq,Zq];rfl
SA:=xbf w h ps
O5:=by ext kQ;cases b;exact .int
Sz:=x=(.int i)
UT a b c:=(oQ a _ (B6 b c))
OT a b:=(FK,PW.pt (xch a (xb4 b)),TQ)
Sy:=sets m L c
Pu:=(yw,s∈zeE,ue)
Rf:=(AS V V Hp VK)
O9:=(oK x2 y2 false r2)
Re:=(zbt xs.length)
Ub:=.dK kvs
Sx:=Up t.place
zds:=ss'.map mirS
R1:=α->(gc α)
Tq:=(lq 5 6)
XA:=(cu,sc.names.lookup x,.cell)
Ry:=(Hr zI Ha cs)
zdR:=xcb false R
To:=(wS k j)
Ua:=(zcr ze)
OV a b:=by show(Ce,_,a>>=_,(dW,b,g,d,N+1,os))
S6:=p.nm≠nm
zjv:=(zuO H)
Vv a:=∀ l,(si->a)
RR a:=prs.find? (nmF a)
zhV:=Z7 _ wZ
S5:=(cG d hd)
Sw:=(eR+1)-p.x
O8 a b:=(mw H s.heap.objs.size a b)
Rx:=(cu,ho s,h)
U1:=(zvY s)
R0:=xao H ss rs
Sv:=(Pp nm pt)
Rw:=IntsAre vs ns
ziG a:=(fM b o e a)
Rr a b c:=let d:=D; (ip s Z a b c)
S4 a b c d e f:=(kM (BP a) v b x c d r1 e f)
zlL:=.builtin "object.__class__"
zju:=xbp xg
zaY a:=∃ σ' H',((zdE pins)/\a)
ziF a:=∀ xs,(a->xY)
zuB:=.inr (jl j)
RZ:=(gO z name)
O2:=(QY K (.ref f))=true
XR:=(iz,"list",.seq vs.toArray)
Sf a:=λ s:Seat=>(eA a)
O1:=(X.A.units+20)<cLine
zeA:=(iY n x d)
S3:=PT X a tA
zbM a:=PE X (yD zfC sD pos) a
RL:=DGet H a y o
zkX a b:=by show(lW,(du a pQ (NT b (AR,xs.length-dc,cm,hlt,b)) zdV))
Rb a b c:=λ a b=>(eJ,ifN cE (lS c))
zbZ a b c d:=xbc (xs:=a) (Pv:=b) c d ?_ ?_
Ph:=Value->(Value->L7)
Pe a b d:=(jo,c,a,λ b _ _=>(jl (rM d)))
TU b:=DGet H2 a y b
zbL a b c d e:=(dN a b rfl (hV c d) false rfl e)
RK:=xe3 h L R ps
zqm a:=Room q0 k (A.deeper a)
zaX a b c d e:=[zij,(cX la),(cX da),some a,b,c,d,e]
Os:=by show(tG,n0,nL,nC,nP,I.size_lt (Zj s.heap.objs.size))
U0:=St->XK
S2:=as.zip bs
T9:=rn≠rf
VJ:=x2<x1
zhU:=(xn,rf)
UZ:=jw::nJ
Sl a b:=by have:=a;rwa [b] at this
PQ a b c:=by obtain⟨a,rfl,b⟩:=c;cases r1
Pg:={ D with nx:=u D }
zos a:=∀ u,((dA a u)->(cu,H' a,u))
PP a:=srt'.Perm (srt.map a)
zlO a:=(cu,scope.names.lookup y.1,a)
Su:=(hW TE TE)
Ss:=(hW Tr jE)
S1:=.cons _ t
RY:=(fF Str Sa)
zee b c:=by show(cY,YQ (a:=b) c ?_)
zxg:=(gO i3 b)
RJ:=absurd rfl h
Sr:=below xs j
zdr:=(CO xan xan)
SW a b c:=(yx,(a:cH),b++[c])
Rc a b:=(yD,.Name a p,b,pos)
S0:=Cls X.K C
OS:=(zoI "list_iterator" zyI)
Rv:=PrOk ps w h p
Pn:=relabel scope env
zdq:=(zfT so1 ho1)
Pf:=xab (decide (i=0))
ON:=(dA,b,.tup (k.map kV))
SV a b c:=Un a b H H' s.heap c
zdQ:=(p2.1,p1.2)
zdP:=(p1.1,p2.2)
PY:=(zQB,xav lens)
Ou a c d:=by subst ey;show(US,u=(Zw b),ry);show(uZ,z,a,xs,c,d,xgc I.hok e)
OM:=["signs", "width", "row"]
OY:=(V3,(NJ).i,(NJ).pt).1
SR a:=(iZ 83 _ rfl a)
Sq b c:=(nh a b _ c fb ?_)
zQA a:=backTo pos (starEach a env)
zxx a:=(OK,none,a,#[])
zqW b:=(mJ L G T.n_bb lkH b)
SZ:=xb7 fp φ
RH:=by obtain⟨u,v⟩:=c
zaQ:=Kp.Mt room so' ho'
SY:=Rch f a b
zvA:=dEqs ds es
OE a b:=(us:eI)->(us.length=a)->(b->(P us))
O0:=(Q7 K cdv qual)=true
Pk:=(valV kvs k)=none
Xw a b:=(sP,swapsWith a b pos.line X.env,false)
RI:=(Ah x y b r)
zQz a:=I1.adopt n0 I.sz nL nC nP a
zlg:=by obtain⟨u,rfl,⟨t,rfl⟩⟩:62:=(xcl r)
OC:=∀ b xs,((ji b xs)->(Bv b xs))
OL:=∀ z,(um,EG,z∈names)
zny a:=∀ H' l',(T8 (d7 l') a l')
Oy a:=fB K a "__setattr__" "object.__setattr__"
SX:=exP C v p
zuA a b c:=((a<=v)/\(v<b))\/(c/\(v<=a))
zdp:=btw rf yn rn
zcF:=ptF G dn C h'
OH:=(O7,"lengths",.ref J,zTL)
OW:=(O7,"own",.ref G,zPd)
zJt a b:=[(a,b),(.inr (Zg "right"),(NK "left"))]
Xp:=x9 (mO,dU,T.c_a,T.k.m,ok_k T,eG,T.k.b)
Oz:=backToKw pos (keywordEach kws env)
OA a b c:=⟨126,D,_,I,_,rfl,a,T.c_c,b,(NF c),?_⟩
OX:=o.data=(.set es ep t)
Ow:=H.push (iz,"tuple",.seq (#[en.key,en.val]))
Ru:=(zmA sd)
zTJ a:=by obtain ⟨a,q⟩:=(QN e rfl);cases q
OB:=∀ f,(RelO (fs.lookup f) (mA f))
Ox:=∀ vs H Q E,(Lm->(vs.length=ps.length))
Se a:=(d8 g st a f fd)
zmO:=λ v z=>(by ext gm d z)
zFO:=[("picture",dH),zqd,(oP "own" G)]
O4 a b:=by rw[(jd a),(jd b),e] at z;cases z
Ov b:=show (xbb X.prog X.w H s.heap a b) from (uy a ea)
zTI a:=Fit lens a so ho own rent
Pc a:=(Ro,f,oc,od,.func a,osl)
Xi:=(znq,Z.length,∀ i,((n<=i)->((σ'[i]?)=Dy)))
zIH a b:=[a, b, "x", "y", "sides", "low", "high"]
On:=Grow lens names name so ho crowd al asked own rent
OR:=(dI V mM mM (fF Hp VK))
Tk a b:=by intro a b s Z H Q I h
XX a:=by obtain⟨_,_,r1,r2,x1,x2,y1,y2⟩:=a
zkM a b:=#[.none,(.bool false),uf,zyM,a,(.int b 0),.none,.none]
zku b c:=by show(Ia,(SO b [(cX sc),(vE C),zih,As,xX,iH,zii,(d0 T'),c,none]))
zgv:=T.size.1
ziE a b:=by show (a=b);lia
zeP a:=by rw[<- a];rfl
zed a:=by cases a<;>rfl
zcK:=by rw[KasT.kasWp_bind]
zco a b c:=if ((dk a)<0) then b else c
zfy:=(cQ).isSome
Xq a b:=∀(pins:dJ) (s:Shared) (Z:St) (H:Hp) (Q:a),b
zgu:=λ_=>(#[])
zgU a b:=by obtain ⟨a,rfl⟩:=b
zbh:=by simpa using h1
zbg:=by simpa using h2
zqa a b:=I.turnedL (t':=s.toks) a b
zgG:=by unfold KV at r
zdo:=by size_fits
zaA:={ d with heap:=h' }
zcE:=(vP).cps.toList
ziD a:=∀ s∈a,NI
Xx a:=by unfold Geo.upL Geo.upN Geo.dn;rw[a,a]
Xk:=by unfold Geo.upL Geo.upN;rw[Za,Z9];ext om
Xj:=by unfold Geo.lvL Geo.lvN;rw[Za,Z9];ext om
zxf a b:=∀ H' v,(gg->(a->b))
zaj:=by unfold acrI;ext om
zcD:=∀ s∈al,ue
XT:=bif u then (G.map YV) else G
zfx:=List Bool
zfQ a b:=(cu,h.get? a,b)
zez:=r.length+1
zuz:=X.A.units+1
zdD a:=by exact (decide_eq_true a)
zjt:=(dk a)
zcC:=(dk x.length)
zjs:=.ref t
zae:=.ref s2.heap.objs.size
zhT:=.ref ls
zhS:=.ref lp
zhR:=.refl _
zfw:=Yp.refl _
zjr:=.int b
zhQ:=.int 16
zxe:=.int p.hi
zjq:=numT a
zhP:=(dO p2)
zhO:=(dO p1)
zjp:=(dz h)
zhN:=(dz hd)
zgt:=ZW.inj h
zhM:=Zy.mp h
zhL:=Ze.mp h
zjo:=(df q)
zhK:=(df hd)
zjn:=(AQ 6)
zcj:=by refine (sq2 ?_);intros
zhJ:=Zp.mp b
zjm:=numT b
zjl:=(d7 d)
zhI:=.inr cQ
zfv:=(eJ,Zo h)
zjk:=some s
zjj:=.inl k
zji:=.inl e
ztr:=(eA,c∈m)
zhH:=(jX α)
zap:=X.env.cells.lookup n
zjh:=(d0 w)
zjg:=rent z
zaP:=Str->(gc NameKind)
zyD:=l.take i
zfu:=ws.take i
zey:=its.take i
zhG:=J _ _ e
zhF:=R _ _ e
zjf:=Wm _ _
zdn:=Data.seq _ _
zaW a:=by refine a;refine (sq2 ?_);intros
zhE:=s∈srt
zdm:=s∈(room n)
zsq:=Zg "__next__"
zhD:=lasts R
zbK a:=au.keep (Same.tups a)
zhC:=numT lo
zeO a b:=by have z:=a;ext ef b z z
zdl:=Zz ps.length
zft:=ns.take j
zaV a:=of_decide_eq_true ((a).1)
zhB:=(iA zlM)
zdO:=as.filter q
zci:=(jA fs.length)
zfs:=(h+1)-p.y
zex:=(h+1)-p.hi
zfr:=ZO.mpr cm
zje:=ps[i]?
zjd:=as[i]?
zuy:=(jz (GO b))
zhA:=j.val k
zhz:=(fQ Kc)
zjc:=(DI H)
ziC a:=xag (NU 0 a)
zhy:=Ze.mp d
zeN a b:=h.IsListIter a b i
zhx:=(pA ZB)
zbf:=["self", "width"]
zjb:=(oF D)
zbT:=λ s=>(s.length=1)
zbE:=λ s=>(s.length<=5)
zew:=a::(a2::r)
zgs:=(jv x l)
zja:=(qb D)
zgr:=b∉X.fs
zdC a b:=by rw[a,b] at z;exact (g_at z)
zgq:=asked cQ
ziZ:=n<1000
zgp:=α->Bool
XV:=by refine (gx ?_);refine (io ?_);intros
ziY:=(Mb n)
zfq:=upI w prs
zhw:=(Fp zXQ)
ziB a:=by ext kN a;cases h
zfp:=s1 _ _ hl
zev:=crowd++[x]
zgo:=Zy.mp hs
zgn:=Ze.mp hs
zgm:=Zy.mp hz
ziX:=xg4 hz
zdk:=ns.length<=n
ztq:=(j z).isSome
zhv:=Ite K a
zgl:=Ite1 K a
zux:=strValues l
zhu:=(cm:G9)
zll:=(cu,sc.names.lookup x,.local)
zcB:=Mt room so ho
zgk:=Sem Bool
zfo:=(r-1)∈R
zfn:=(x-1)∈R
zgT a:=.inr (.inl a)
zht:=(ziN tw)
zFN:=(va "getset_descriptor.__get__")
zfm:=Q false s
zhs:=Z1 C cE
zch:=Same.seqL s hs
zec a b:=(FK,xbe (pv a),b)
zql a:=(sW,a,TP X pins Z Q)
ziA a:=(ye t.C_a a)
ztp:=xhv (xb0 hr)
ziW:=xad s0
zeM a b c:=by rw[(yx,cutV a b none,c)]
zfP a:=by rw [a] at e;cases e
zfl:=n∈crowd
ziV:=(Cg x)
zdB a b:=(dL a ["picture"] b)
zeL a b:=(dL a ["words"] b)
zeK a b c d:=(d8 a b ["picture"] c d)
zgS a b c d:=(d8 a b ["words"] c d)
zcg:=srt.length<=32
XN a:=(cu,h'.get? s.heap.objs.size,a)
zgj:=(cG q b)
zbJ a b c:=PE X (.Subscript a b pos) c
zgR a b:=T.keep _ _ _ a b
zcf:=(hW Key Value)
zhr:=xbm w p
zgi:=acrI w p
zgh:=uprI w p
zdj:=k+sep.length
zxd:=(dS as a)
zuw:=(UP "both")
zaw a b:=by exact (absurd (decide_eq_true a) b)
zhq:=fq z hz
zcA:=Room q0 k X.A
zeu:=(zTN "set")
zet:=(dS prs p)
zgQ a:=St->(fF Hp a)
zcz:=(PX H st srt)
zhp:=(zn xL)
zgg:=(Ae xg9)
zho:=.dT kvs
zfk:=ps.map zcI
zuv:=λ_ _ q=>NC
zgP a:=(eJ,ifN ?_ a)
zfj:=PA X es t
zbe:=Vis X.env.scope x
zdi:=I.cell x c e
zcy:=I.freeC x c e
zdN:=putF f v fs
zaH a b:=by show(cY,JB a rfl (x:=b) rfl ?_)
zes:=ss.map xad
zdM:=x.length<kG
zfO a:=by exact (.inl (.inl a))
zfN a:=by exact (.inl (.inr a))
ziU:=(HK m)
zfM a b c:=pS a b (x0 xbi c xp)
zhn:=(FN ps)
zgf:=da≠d_r
zgO a:=((a).length)<33
zyC:=M _ _ hp
ziT:=h a jb
zfi:=(dS cs c)
zdh:=(gO z.nm nm)
zXO:=(gO z.nm p.nm)
zyB:=(iX c s)
zhm:=(Ny cy)
zad:=(yw,s∈(room n),ue)
zbS:=(AS V cA Hp VK)
zpZ:=(oK x2 y2 b2 r2)
zge:=λ_ q=>q
zbD:=λ_ q=>(nomatch q)
zaO:=(pt.x,pt.y+(fc*1))
zbC:=(pt.x,(CV pt.y))
ziS:=[e,it]
zer:=(cK Zu xj)
ziR:=al p b
zxc:=a.lt k cm
zgd:=hidT h H
zbB:=hidT s₁.heap H
ziQ:=(PV p)
zsE a:=tb Z H1 (λ y H2=>a)
zsD a:=ty Z H1 (λ y H2=>a)
X5 a:=(sy (cu,X.base.get? b,o) a)
ziz a:=xa8 H5 a qs2
zdg:=MayA srt prs
zaN:=(oK x1 y1 true r1)
zpY:=(oK x1 y1 b1 r1)
zuu:=(Zk.mp e).1
zfL a b:=HoD.keep a (j9 b)
zbA:=L.length<=t.mask
zcn a:=∀ s',(a->(Q () s'))
XY:=["_law_script", "_law_k"]
ziy a:=Q (.bl a) H1
zxb:=.int wn N
XU:=by refine (gn ?_);refine (io ?_);intros
zdf:=SqL K H p xs
zgN a:=DGet H d se a
zsp:=(we t.C_a [])
zfK a:=R (UO .none) a
zgF:=by rw [(xi c)] at e
zbz:=ae.map (turS h')
ziP:=(zgY q)
zcx:=V->(fF Hp VK)
zgc:=(zmB,#[])
zhl:=k b u q
zby:=Rd H a (.dK kvs)
zgb:=m (mY,r)
zCD:=G.heap.push (iz,"dict_items",.fields (#[uf]))
zpX:=.ask [nm] im 0 0
zcJ:=by ext dG kvs e l f s
zxa:=⟨J,D⟩
zwZ a b c d:=layClean.free mask a b c d
zcw:=t.dummies=(#[])
zfD:=by by_cases hb:(b=a)
zor:=(c.val k).isSome_eq
zbd:=["word", "width"]
zix a:=by rw[Zq];exact (ZF a)
zgM a b:=by rw[(dz a)];exact (Zo b)
zmN:=(carriedByValue v)=true
zhk:=eqV y x
X8:=cu4.keep (Same.tups s5)
zeq:=atKey xs k
zde:=(fR rfl rfl)
zav a b:=(cu,findIn K (.ref C) a,b)
zso:=a.lt (k-1) cm
zbr a b c:=by intro a s Z H x vs v us Q I b c h
zep:=(cC o e c)
zhj:=(zxz ew)
ziw a:=(Hn,a::args)
zfh:=D b o e y
Xy a:=Zb (m:=(Builtin.Tuple.tupleExact _)) a
zto:=(cu,m c,s)
zhi:=(zng ls)
zfg:=(Vq Ig a)
zqk a:=by show(dG,its,r,pl,hz,I.list a)
zaU a:=by show(mL,t,FP a);cases e;rfl
Xn:=(AL (cu,h.get? b,u) (cu,h'.get? b,u))
zgL a:=xa (xag a) xg
zdd:=(KK I i4 sV)
zNG a:=h'.DictOfH (tupleKind kk) d a
zhh:=(zvX zRX)
ztn:=upd1 so1 a s
zbR:=xcc w ps ss prs
zgE:=by ext gu z hz b
zdA a:=shO own crowd g a
X2 a:=by rw[a];intro z hz;show(yH,i,Ze.mp hz)
zdL:=f j q w D G
ziv a b:=xgu 1 a b cE cE
zme:=x.heap.push (revObj l Iy)
Xv:=s.heap.push (iz,"dict",.dict (#[]))
zff:=(zKd cpos)
zut:=(zXP (zkr 1))
ztB a:=tupleKeyHash knd a
zfe:=ps.zip us
zeo:=M.trans s2
zdc:=c1.append c2
zeb a b:=Slot "reversed" a b
zoH:=λ_ _ h=>(nomatch h)
zhg:=(x2,r1)
zhf:=(x1,r2)
zbc:=10*(turns t.mask)
zau a:=(more.map (λ x=>a)).Nodup
zwY:=(cG l1 Z)
zVW:=(lexK x y)=true
zen:=(dS es en)
zdb:=(gU (sw 32))
zfJ a:=by show(eO,tW e a,zyJ)
zwX:=ih nd.1
zea a:=field (.ref e) a
ztm:=(jT,so2 z)
zcv:=o.getD j none
zem:=(DA cm cm)
zfd:=PS X st t
zfc:=(Bx t dX)
zwW:=ZM (Z0 e)
zgK a:=(AZ _ (FQ a))
zaT a:=by ext fO o e a;ext vU
zai:=s.heap.IsList l items
zgJ a b:=(oz gg si a b l)
zbY a b:=(nh,pz,a,_,b,xh1 c9,?_)
zga:=(zcb P f)
zel:=(zdF zdv qr)
zdZ a:=by refine (Qd (λ c=>a) CN)
zdK:=h.Ns1 dx mA
zgI a b:=kas_desc f p a b
zbb:=Itv K a xs.length
ztl:=upd1 ho1 s a
zfI a b c d e:=(eT 124 a b _ _ rfl c d e)
Xt b:=show (s.heap.IsTuple a its.toArray) from b
zVV:=xu xkw Lp xp nA
zce:=(zQA,e::rest)
zbq a b:=show (Tl _ h' _ a) from b
zek:=(zTI names)
zaG a:=⟨a,[(Zg "start",v)]⟩
zmr a b:=Builtin.List.listExtendWith a NB b
zcP a b c d:=SortSt.mk' general' a b c d
zhe:=x1≠x2
zbx:=λ_ h=>(nomatch h)
zda:=λ_ _ h'=>h'
zgH a c:=λ b a q _ _ _=>c
zXN:=("picture",dH)
zeJ a:=∃ c,(ziK a jw)
ziu a:=(Z8 _ _)▸a
zoM a:=∃ xs,(a/\(xs.length<=i))
zQy a:=∃ xs,(a/\(k=(! xs.isEmpty)))
zfb:=[p.x,p.y]
zcm a:=∀{xs:cA}{us:dw},a
zac:=by simp only[ZB]<;>lia
zbI a b:=∀ base:Heap,(a->(zLy->b))
Xs:=∀ y∈scope.names,(y.2≠.cell)
zbH a b:=by obtain⟨⟨old,a⟩,b⟩:=V1
zcO a b:=by obtain⟨⟨a,b⟩,q⟩:=h
zbw:=(way mask C m).j
zba:=["first", "last"]
zDf a b:=by unfold Geo.lvL Geo.lvN Geo.wayI;ext y9 if_true;rw[(j4 a b cm)]
zeI a:=xg1 (xs:=a) rfl
zbp a:=xet (ns:=ns) (i:=a) cm
zdz a b c:=setField a b (rawInt c)
zcZ:=(hW Nat Nat)
zcY:=(fF Int Int)
zit a b:=PW.pt (xch a b)
zej:=(dA lp uM)
zus:=(dz (E8 b))
ziO:=ks x B
zdY a:=.inl (hX (cN a))
zhd:=xcb b R
zin:=by show(fj,xgm u)
zvz:=.Name y py
zbo a:=s.heap.IsRevIter I l a
zVU:=(ji cO [mU,jI])
zfZ:=main R h
zbQ:=(pt.x+(fc*1),r)
zcu:=((CV pt.x),r)
zfY:=xip X cQ
XE:=(ir ZA (zeU "across" "width"))
zTH:=(iF,xbv kvs k v)
znx a:=.ins a J [("width",.int z)]
zvy:=valV kvs j
zat a:=(mo,Q,ty Z H (λ y H1=>a))
zah:=(M4 "width" "height")
zcX:=(M4 "x" "y")
zKF:=∀ b,(zst->(¬ (xH k b)))
zvx:=(lm qs zdu)
zyA:=(kI M O)
zaZ:=(zkG x qual .none)
zXM:=upd1 asked s a
Y2 a b:=λ zs hz=>(cK,I.list_inj hz a,b)
X1 a:=by intro z;show(gk,(ZW.inj z).symm,a)
zdJ:=StL H ps ts
zfX:=Itr lo n
zfa:=x=(.bl c)
zcW:=SoD H d n so
zcV:=HoD H d n ho
zeZ:=(uW op r)
zvw:=(zfT so ho)
zfH a b c:=((a=b)/\(v=.non))\/c
zcU:=(yI iter wi)
zis a b c:=((m=a)/\(l<=b))\/c
zaM:=srt.filter (xbw p)
zeH a:=y _ _ (ne_f a j) a
zaf a:=ps.find? (λ p=>(gO p.nm a))
zcl a b c:=PE X (yD (Rq a) b cpos) c
zur a b:=[(false,a),(false,b)]
zaS a:=by have a:((Q1 _)=(Qf v)):=z;cases a
zao:=["cell", "x", "row"]
zbP:=(V3 p.i p.pt).1
zqM:=ps.map (mirP C)
zaz:=(gs,xeo q e o6,q)
zrL a:=(GM (cK (tW e a) e))
zoq:=tupleKind (xaq P w)
XB a:=∃ o,(a/\(∀ v,(o.data≠(.cell v))))
zcd:=((IK).length)<17
XJ:=∀ a b,(((k a)=(k b))->(a=b))
zck a b:=.cons a (.cons b .nil)
zcc:=Zz ((UG+1)-jD)
zwV:=(CK,CL,c)
zct:=PrsL H prs us
zcs:=xa8 H5 IK qs1
zcT:=λ b u _ q=>q
zcS:=λ c v _ q=>q
XM a:=g a Sc H2 (λ σ' H3=>(te σ' H3 N))
XG a:=g a Sc H2 (λ σ' H3=>(tc σ' H3 zlm))
zRW a b:=(∀ y H',(LL->(a->(N y H'))))->b
zuq a b:=by show(dG,its,rv,p,a,I.list b)
Xo a b:=OpR X (compareOp a) (rI0 (λ i j=>(.bl (decide b))))
zfG a b c:=(eE a b c (cG nm h))
Xz:=(iz,"list",.seq its.toArray n)
zmM:=(ji cQ (qe,.str Gv,dY))
zbO:=(hU,sIx n 0 lo)
zpk:=s2 _ _ (M _ _ hp)
Xm a b:=(mo,R,to Z H (λ x H1=>(∃ d kvs,((jv x d)/\(a/\b)))))
zQx:=.hand j I asked s0
X7:=.Compare a [op] [b] pos
zbk:=by intro m e h;cases h;rfl
zcN b:=λ a s Z H Q I h=>b
zeY:=exP p1 p2
zQw:=(b∈X.ex)\/(D3 b)
zmX:=(((z+1)+1)-pt.x).toNat
zop:=(names.map own).sum
zfW:=y=(kV k)
zcR:=λ i h h'=>cm
zRV:=Kp.kstep room j I
zbn a:=by rw[Zf,a] at hb;cases hb;rfl
zuM a:=by show(cY,Qi ho hd a ?_)
zwU a b c d:=(eT 124 a _ _ _ rfl b c d)
Xl:=by show(pk,i,xs.length,cm);show(eg,zeh (cC xs q dF))
X4 a b c:=FnOk q0 P w K mg base CX k a fd b c
zcM a b c d:=by refine (q _ p6 (qs1++qs2) a b c d)
zle a:=by obtain⟨⟨dx,hp⟩,_,w1,w2,h1,h2,_⟩:=(id a)
zcQ:=upL x1 y1 r1
X9 a b:=(zQz (du (VE 2) a b (vk hp iE)))
znQ:=(zJt zTK (NK "right"))
zaL:=(zIH "self" "name")
zpW:=es.getD B.2 zxh
zeX:=seF d1 d2
zfF a:=∃ m,((m<n)/\a)
zeG a c:=λ b o _ _ a e _=>c
zdy a b c d:=by rintro Z a (⟨b,rfl,c,d⟩:63)
zim:=by rw [tk,Ji,Jy]
zrK a:=by rw[<- a,<- l];exact (h _ kY)
zdW a b:=#[uf,zyM,a,(.int b 0)]
zlK:=["rows", "firsts", "lasts"]
zVS b:=∀ a u,((a≠d)->(zyG->b))
zir a:=ZS (Zg "") a
zIa a:=A.under (.builtin "type.__call__" a)
zeW:=Rch f a c
zvv a b d e:=(eC,c≠a,c≠b,d,Cn,e)
zfE a b:=by show(kT,a,Ys (fD,0<=b))
zan:=(zkG,x,qual,.ref T)
zam:=(O7 "picture" dH [])
zaR a:=(a:PE _ _ (tFld K _ _))
zLx:=[.int 4,.int 5,.int 7]
Xu a:=(iD,dU,T.c_a,T.l.m,ok_l T,eG,T.l.b,a)
zdx a b:=(tP (jd a) (jd b) e)
X3 a b:=by have:((dk a)=b):=cm;rw[this];ext iJ;lia
X6:=(O7,"rent",.ref M,zFO)
zaF b c:=show (xbb P w H h a b) from c
XW a b c:=by rw[Zq,(j4,a∘b,id,funext c)];exact (JQ _)
zdI:=tOp r ta tb
zay:=storedH xs cQ dY kH
zup:=at_ c (f a)
zbv:=lvL w x1 true r1
zal:=[.int OU,NA,.ref qk]
XQ:=(qF,yK-jI,0,-(yK-jI),yK-jI)
zas a:=aa _ _ (ne_f a ab) (ne_f a Y) a
zMz a:=(By p C y T.c_p T.n_bt lkSo a)
zQv a b c d e:=Kp.Rch a (.go (setI b nm 0) c im [nm]) (zfT d e)
zXL a:=(dh a Kb (F9 b) (zcq b))
zno a:=(Gw/\((k=0)->a))\/(eX k 1 zid a)
zeV:=G i j B C
V7 a b c d e f g h j:=by refine(h9 a b c d);refine (xco e (λ i zs f=>(∃ rs:cM,(cR,zs=(rs.map V.ref),rs.length<=i,g,h,j))) ?_ ?_ ?_ ?_)
Xg:=by show(zTJ,rfl);show(RX,ih r0);have z:=(rc.det rfl rc0 rfl)
X0 a:=Env0 P w K mg base a outer s H
zDG a b:=∃ t,((PSs a b t)/\(t { nx:=λ_ H'=>tw,rt:=Q } zeD H))
zax:=(way t.mask oZ i).j
zET:=pl.no (nm:=nm) (λ p G=>((no p G).1))
zar a:=xfj (i:=4) a rfl (Qx rfl)
zwT a b:=(dM 102 a es A b c)
zkN a:=pC (xf8 T) hr T.B_qh.g T.B_qh.F.kp T.B_qh.b a
zbm a b c d e:=(eT a b c d e z.n1 z.n2 z.n3 z.n4)
zaK:=(dA,a,XO a C od)
zeF a b:=by ext CU a a2 a3 a4 a5 b
zIG:=[("height",V.int h),zaD,IE]
zak a:=LRun lens a own rent so ho
zkK a:=pC (ok_aj T) hr T.aj.g T.aj.F.kp T.aj.b (gP a)
zQu:=xav (xaa w ps srt)
znX a:=(jo a z (dC p H3 ad U s3))
Xf a:=by show(ie,O3 xs.length zdv,LI xs.length);show(zlC,a,a,xs.length)
zjU:=(zII "_law_points_here" "_law_seats_here" "_law_keep" "_law_pairs")
zaq a:=PI w h cols rows lts ps a
Xe a:=by obtain⟨⟨k,x⟩,q⟩:(∃ y,((kvs[i])=y)):=iE;have a:rE:=(fS mf q)
zbu:=[p0,p1,p2,p3,p4]
Xh a b c:=by rintro i Z a _ (⟨_,_,_,_,⟨_,_,rfl,b,_⟩⟩:121);ext qS c
Xa a c d f g h:=by show(gT,s7,K6 a c,n7,d≠p7,f);show(eW,pZ g,(js (Ga,rs.length<h)),hN _ _ (zsr,rs++[p7],zX))
zkj:=pC (ok_ac T) hr T.ac.g T.ac.F.kp T.ac.b (f8 0 (gP xp))
V8 a:=(eA,((((a).length)+(([]:zts).length))+(if (([]:zts).isEmpty) then 0 else 1))<30)
zCC a:=(FK (CY,pC (ok_z T) hr T.z.g T.z.F.kp T.z.b a) TQ)
zbl a:=xhc D G C asked none a
V9:=by show(fK,(show ((its.toArray.any (eqU x))=(its.any (eqU x))) by simp),xgq r fs,q)
zaE a b c:=IsItemIter a it d b c ep ok ov
zPc a b c:=.of (owner:=a) (n:=b) D4 c9 c9 c9 c zqb
zaJ:=MH K C m q st f fd
zbX a:=MB K C m q st a f fd
zkf a:=by refine (xc8 (λ i=>a) Z cm (λ i H R _ k=>(Hq k)) (dC H4 qs1 s4 hu4 cu4))
Xc a:=by refine (xc8 (λ i=>a) Y cm (λ i H R _ k=>(Hq k)) (dC H5 qs2 s5 hu5 cu5))
Xd:=(ns.map (λ n=>((.inr n:Key),V.int (G n))))++[(zJ,.int 0)]
zab:=[p0,p1,p2,p3,p4,p5,p6]
V6:=(iT l1 l2 _ _ (FO,nD hu4,hu5,by rw[Za,Za];exact (Yz (Ga,(qs1.length+qs2.length)<100)),p6,G))
Xr:=Gap lens crowd asked own rent g a s
zGd a b:=⟨p,J,_,rfl,D,Vt,_,rfl,pt.x,_,a,rfl,PN,b⟩
Xb:=(ip,u5,tSeq t5 u6,u4,tSeq t4 u5,(ip,u3,tSeq t3 u4,u2,SN,Ka))
zjW b:=by refine⟨tX,rfl,hp,fb,a,dp,S,z,ph,ps,nm,pt,b,r,rfl,O,hn,hf,r1,r2,(cG H1 M)⟩
zjH:=by have x:=(O.same s8);show(vM,dx,ag,x.pic,⟨tX,rfl,ag,fb,a,dp,M,_,_,ps,ss.reverse,rfl,x.pic,x.sts,j,x.ok,λ H9 a' ah ai ss' s9 _ _ _ pm _ D I=>?_⟩)
zwS:=by ext om
zpV:=by simpa using C
zmq:=by unfold Kp.upd1;rw[fH]
zsn:=by simp;omega
ztA:=by rw[list_sort_plain]
zrJ:=by injection e with e1 _
zyz a b:=if a then b else i
zqV a:=∃(its:dw) (n:Nat),a
zvW a:=by show a;ext mH
zwR:=(rH).isSome
znw a:={ s with heap:=a,toks:=t' }
zoo:={ s with toks:=tk }
zqL a b:={ s with heap:=(zoI a b) }
zyy:=(fW).toNat
zoG a b:=RelO.some_of (v:=v) (o:=a) b
zpU:=by simpa using M
zrw:=(Zz n).toArray
zuL a b c:=by rw[<- a,<- b];exact c
zpT:=by simpa using J
zpS:=by simpa using j
znP:={ s' with heap:=h2 }
zwQ:=∃ es,rA
zon:={ G with heap:=zCD }
zyx a b:=∀ p∈ps,(a∉b)
znO:=∀ p∈ps,(qG p.nm)
zsm:=∀ p∈ps,zVU
zqK:=∀ w∈ws,w.Ok
znW:=by split<;>split<;>split<;>lia
zko a:=∀(kV doc pm:Value) (an:jW) (cdv ct:Value) (a0:Value),a
zkk a:=∀(kV doc pm:Value) (an:jW) (cdv ct:Value) (a0 a1:Value),a
zkh a:=∀(kV doc pm:Value) (an:jW) (cdv ct:Value) (a0 a1 a2:Value),a
zkc a:=∀(kV doc pm:Value) (an:jW) (cdv ct:Value) (a0 a1 a2 a3:Value),a
zxw:=by unfold isNm at h
zmL:=by simpa using PtsL.nil
zRU:=∀ nm∈names,znR
zrI:=by simpa using this.symm
zqj a:=∀ s∈srt,(a∈srt')
zxv:=by exact (nomatch hs)
zrv:=List DictEntry
zuo:=xs.length+1
zyw:=(dk w.a)
zpj:=Nat.not_lt_zero _
zJs:=beq_eq_false_iff_ne.mpr h
ztz:=by refine (fq ?_);intros
zun:=(lF "dict")
zpi a b:=by refine (YI.length_le_of_subset a b)
zwP:=some .non
zyv:=(jX Nat)
zwO:=Str->Seat
zyu:=Jx.mpr c
zwN:=inj _ _ e
zqJ:=(fA items.size)
zru:=(fA ys.length)
zwM:=(vT leS1)
zvV a:=(kvs.any a)=true
zqU a:=by refine a;refine (fo ?_);intros
zyt:=ZW.inj e
zom:=of_decide_eq_true e
zol:=.lst (rs.map V.ref)
zys:=firsts R
zvt:=Runs.Inc R
zum:=Runs.runs R
zul:=j<xs.length
zuk:=j<ns.length
zty a:=assignEach a X.env
zrH a:=O.keep (Same.tups a)
zqT a:=sl.keep (Same.tups a)
zqS a:=pr.keep (Same.tups a)
zrG a:=Y.keep (Same.tups a)
zqR a:=ae.keep (Same.tups a)
zyr:=numT p.x
zyq:=numT p.y
zoF:=decide_eq_true rfl
zrt:=Zz h.objs.size
zwL:=al.take j
zvs b c:=(dN a _ b _ _ rfl c)
zuj a b:=(dA,a,.tup (prV b))
zsl:=(hW Str Addr)
zsk:=(cu,H5 c,u)
zsj:=(cu,H7 c,u)
zuK a:=((gO a "left"),r)
zvr:=qs.drop dc
zvq:=(h+1)-p.lo
zvU a:=hl a s Z H _ I h
zui:=(zfV "pair")
zvp:=(zfV "out")
zsi:=ls.eraseIdx k
zsh:=A.units<cLine
zxu a:=(cN,s5 _ _ a)
zuh:=o.dict=none
zTG:=.int vs.length 0
zph:=(dk items.size)-1
zVR:=(dk z.length)-1
zmW:=.lst (crowd.map V.str)
zpR:=crowd.length<=12
zvT:=by refine (Zb (Jc ?_))
zqQ a:=(dA,q,.tup (ptV a))
ztk:=rs.map V.ref
znN:=d.params.defaults=[]
zyp:=(NK ".")
zyo:=(jv y p)
zmi:=by refine (gx ?_);refine (iq ?_);intros
zyn:=J.go i H
zym a b c d:=(oQ a b (wb (cN c) Eu d))
ztj:=Gl X "range"
zqI:=Gl X "reversed"
zrs:=λ y=>(nomatch y)
zsg:=kvs.length<=n
zpg:=(cm:vs.length<=i)
zpf a b:=(iy a H { s with heap:=b })
znn:=by rw[Za];exact (aw cm)
zug:=blk0 Z fr 1
zvo:=newList []
zpQ:=ss'.Pairwise xb2
zyl:=.bl true
zwK:=PE X o ta
zyk:=mem s hs
zTF a:=(mo,Q,td Z H (λ x H1=>a))
zti:=(Cg "range")
zqH:=(Cg "reversed")
zpe:=∃ t,(u=(Zab x t))
zuf:=(Zw kh)::us
zyj:=(gs S e)
zth:=OutL H cs qs
zrF a:=(ziN,Q (.str a) H')
zwJ:=(T0 Bool)
zpP:=(Ot H' own rent)
zwI:=pure true
zvn:=0<x.length
zqi a:=(cu,s.heap.get? l,a)
zyi:=(cG s v)
zwH:=a∈crowd
zyh:=j _ _ ab
zyg:=j _ _ aa
zok:=.lst (ns.map V.int)
ztg:=(xeq x)=true
zue:=asked y.1
zwG:=.cons r _
zwF:=K.In base
zud:=zs.length+k
zwE:=(true,iu)
ztf:=(hW iO Addr)
zyf:=(iK x o)
zwD:=srtO h ss
zsf:=Itkt d ob kvs
zse:=Itit d ob kvs
zye:=pO 0 X U
zyd:=pO 1 X U
zpO a b:=by rw[<- a];exact (Ze.mpr b)
znf a:=(dA,a,.lst (us.map V.ref))
zsd:=(Yq K C)=true
zuJ a:=(A.units+a)<cLine
znM:=(t.slot j)=(.live i)
zvS a:=by show(wE,qs.map V.ref,a)
zvR a:=by show(wE,us.map V.ref,a)
zqG:=λ kv=>(gO oM k)
zwC:=s3 _ _ g2
zvm:=p.getD k 0
zoL:=by ext kQ;cases b;exact .str
zuc a b:=by show(dG,its,a,p,hz,I.list b)
zub:=(LQ x qual)
zmK:=sets (set1 m cQ eP) L c
zua:=te σ' H3 N
zTE:=xbq xcg dU C8 C8
zte:=lsS pt.x r c
ztd:=ps.length<12
zpN:=c∉p.cps.toList
zsc:=(l.map r).sum
zqF:=(fF World Heap)
ztc:=(fF gF Heap)
ztZ:=α->(gc β)
zyc:=(lq 5 2)
zwB:=a.lt k hk
zwA:=(gO sR k)
zvl:=xbe (pv 3)
ztY:=MayA ss prs
zoj:=qs.length=cs.length
zlr:=["_law_script", "_law_height"]
zyb:=s' _ _ D
zwz:=(cG x hx)
zwy:=Q none kR
zrr:=.int wn s.toks
zlX:=by refine (gn ?_);refine (sq2 ?_);intros
zya:=(-iu)<=i
zsb:=SqL K H l1 xs
zvk:=(ir Zf mf)
ztX:=I.hok b u e
ztb a b:=Lay mask hs.toList a b
zpd:=ss'.map (turS h')
zxZ:=k b ob q
zpM:=Rd H a (.dT kvs)
zxY:=m (fc,r)
zrq:=.ask zjC im 0 0
zta:=(Yn.inj h).1
zpc:=(I.ok.bs b o e).1
ztW:=s6.trans s7
znL:=scope.kind=.function
zpL:=(Rp d).objs.size
zpK:=(Rp 1).objs.size
ztV:=.lst (GV G)
zpb:=(xs.all xeq)=true
zwx:=(gC C7 s)
zww:=k b o j e
zxX:=(kI G D)
zqE:=List (Option V)
zoE:=List (Option Expr)
zVQ:=(sO zbW (GP jk))
zvj:=v=(.str x)
zwv:=(wD l ys)
zsa:=(cC a b true)
zwu a b:=xc7 X (lF a) (VF b)
zxt a:=xc7 X zuE (VF a)
zlb a:=R (.ok (.ret (.ref s.heap.objs.size))) a
zxW:=QI s x t
zoi:=srt.filter (xbw pt)
znK:=srt'.filter (xbw pt)
zsZ:=lcg mask m i
ztU:=(zMA "rows")
zrp:=(zMA "columns")
zow a:=s.heap.FunFrames X.base a
zsY a b:=by refine (congrArg a (funext b))
zvi:=(false,iu)
zxV a b:=(oP,.inr a,b)::kvs
zkn:=∀ n∈FG,(cu,X.env.scope.names.lookup n,.cell)
ztT:=(zuN (dk G))
zro:=(GN prs).head?
zsC a:=(cans y ss a).head?
zmh a:=V.int.inj (of_decide_eq_true a)
zrZ:=vs=(qe dH ln)
zrY:=(cu,so a,s)
zsX:=(ZN.mp hs).1
zxU:=pwOf h p
zvh:=dEqs xs ys
zqD:=prs.map (xrd w)
zwt:=(sH H1 l)
zws:=(xH ks a)
zwr:=(zsF true)
zwq a b c d:=(Dx∈a)↔(((u=b)/\c)\/d)
zxT:=gv cO dX
zqC:=(zxy "__init__")
zxs a:=h 0 y a rfl rfl
zrn:=p.getD (k-1) 0
zpq a:=prs.Pairwise (λ p q=>a)
zKc a b c:=(cC (wz,a/\(i<kvs.length)) (He v b) (wz c))
zsW:=xbx ky ad dc
zuI a:=(RP "len" (VF a))
zqB:=xat (ps.map fp)
zvg:=Mk X.K C f
zrm:=Room q0 fC X.A
zxr a:=Wa zvD (arrOf a)
zrE:=by simp only[kstep,e,e2]
zoh:=(gH oM k (oM,y) kv)
zqA:=xbb P w H h a o
zsV:=(Yn.inj h).2
zwp:=xik ac.ok
zwo:=G.trans U
znm a b:=Builtin.Slice.slicePlaces a b 1
ztS:=eP == .free
zlJ:=by rw[rangeSize_one];ext om
zVP:=∃ xs x,(qr/\xY)
zqz:=20-crowd.length
ztR:=(v-1).toNat
zrD a:=c (decide_eq_true a)
zxq a:=ps.map (mirP a)
zrX:=(cu l.most n)
zsU:=CXo l.prog w
zsB a:=(dz (fD,¬ (xW<a)))
zxS:=(dS L e)
zrW:=PE X value tv
zrV:=congrArg YD e
zne a:=PySem.W.methodObj (.ref f) a
zpJ:=λ n h=>(nomatch h)
zqy:=ss.map (turS h)
zqx:=ps.map (turP h)
zoD:=gvL lens names prs
zsA a:=td Z H1 (λ x H2=>a)
znJ:=srt.filter (λ s=>zxg)
zpa:=assignEach es env
zrU:=PtsL H' ps qs
zrl:=(yd d.name fa)
zvf:=y=(.int j)
zmJ a b:=by refine (xco a (λ i ys H2=>b) ?_ ?_ ?_ ?_)
zqw:=xcc w ps srt zeB
zqP a:=Kp.Crowd room so a hs
ztQ:=.ref (ad i)
zoZ:=(Jk a:Key)=(Jk b)
zwn a b c:=by show(F4,zeU a b,gU a,c,_);ext zca a a
zve:=λ z:Pt=>zXO
zxR:=ne b _ z
zvd:=(zeR H' h')
zrC a:=Zt.mp (I.stkSub b a)
zwm:=v i cm cm
zmR a:=by ext rY a;ext T7 st;ext dy o e zmO
ztx a:=codeAny lM A a R s
zuH a:=xe1 d H (vg a) H2
znl:=ObjM s.heap x dx C mA
zoC a b:=by generalize eu:a=H6;ext n8 s6 b g6
zwl:=xfs K C f
zwk a b c d:=(j4,a,_,xeg w b c false d)
zrk:=xex room ss ns
zrT:=cs++[(nm,hs)]
znd:=by ext zC H8 s8;ext zku H7 none
zpI:=(tR H2 s2 e2 fy)
zrS:=xaa w' ps srt
zmp:=xdk c9 (xdk c9 (xkv c9))
zNF:=xiv (SsOk.perm J aa)
zmd:=(XH Vo (vE k) zib (d0 wm))
zog:=xkl (ss:=ss) nx g k
zoB:=(zVS (cu,H' a,u))
zpH:=(zIa (Hn,G7::us))
zoY:=xgb H dl da names
zkC:=(cu,PySem.W.specialIn K zlL "__get__",zFN)
zkb:=(cu,PySem.W.takesIn K (.builtin "object.__class__"),true)
zwj a b:=(zPc "reversed" a b)
zof:=entryFor_of_tree Cc
ztP:=c.mono more
zsT:=apply_ite zvB
zoX:=names'.Perm names
zxQ:=kv0++kvs
zmI:=(canF w ss p r)++(GN r)
zxP:=Tr × jE
ztO a:=if neg then (! a) else a
zrj:=h.objs.size<=a
zlk:={ cls:=.none,data:=.fields ps }
zQt:=dX∈(xav lens eS)
zwi:=(p.x,p.y)
zri:=X.env::X.outer
zoA:=∀ b∈ch,(zXL zQw)
zwh:=!(m == k)
ztN:=(k-1)-(i-1)
zxO:=-(dk AF)
zkB a:=∀(i j:Int) (t u:Tok) (s:Shared) (Q:dE) (E:dE),a
znc a:=∀ w' s',(zie->(a->(Q w' s')))
zKb:=∃ q,(cu,h'.get? a,q)
zld a:=∀(s:Shared) (u:Value),(zgW (m7 [u]) a)
zoe:=∀ y∈ys,(y∈FG)
zjZ:={ E with heap:=E.heap.push (iz,"dict_items",.fields (#[uf])) }
ztM:=∀ s,(ND<=0)
zod:=["point", "height"]
zmH:=["_law_cell", "_law_k"]
zkI:=["_law_picture_here", "_law_point_here"]
ztw:=by cases ac<;>cases dn
zkW:=∀ n∈names,(∃ p∈ps,(p.nm=n))
zrB a:=∀ t,((jT,ho t)->a)
zpp a:=xet (ns:=nms) (i:=a) cm
zlB a:=by let Pv (i:Nat) (Z:L2.St) (H5:Hp):Prop:=a
zqh a:=by generalize v:(lR H3 p3 a)=H4
zxp a:=a=(strValues l)
zoW b c:=T.Nodup->((∀ a∈T,b)->c)
ztL a b:=by refine (xib (c _ _ a b _ ?_))
zwg:=(cG t ht)
zxo a:=by exact (wpAny_Name a hd)
znI:=.lst (D.eraseIdx jx)
znH:=.lst (C.eraseIdx jy)
znG:=.lst (N.eraseIdx jn)
zxN:=(dS G r)
zwf:=PE X l tl
zxM:=(lq 3 4)
zla a b c:=(jv a s.heap.objs.size)/\(b={ s with heap:=c })
zwe:=ZM (Wv _)
zxL:=Zo (h _)
zxK:=(iX x c)
zxJ:=(i8 a b)
zxI:=(i8 x r)
zvc:=tSeq t6 u7
zsS:=SqT K H p xs
zwd:=lo+(fc*d)
ztK a b:=by show(lZ,pure (a,b));ext Ai
ztJ:=adv mask NJ
zrR:=(vd H w h ps)
zoc:=(M4 "name" "rooms")
zlI:=(M4 "asked_by" "free_seat")
ztI:=b∈([]:cM)
zqv:=ps.map (mirP w)
zNE:=prs.flatMap (ledS w)
zsR:=putK kvs k y
zvQ b:=argsOk b (m7 nK)
zpG a b:=by ext lO t a;cases q;ext Ex b JF
ztH:=(Ep xf4 pG)
zsz a b c:=(mr,a,b,jZ,sp1 (.int c))
zxn a:=(xcs o a)=false
zsQ a b:=(ff rfl (cN u) a b ?_)
zrh a b:=(iT 45 a T.c_e T.n_bw b)
zwc:=λ x y=>zVW
zpF:=(wb rfl rfl rfl)
zxH:=(Bx b c)
zpo b:=(yD,.Name b p,nK,pos)
zsP:=.str name tk
zFM:=(dA,ln,.lst (names.map V.str))
zpE a b:=PE X (.Constant a j pos) b
zsO a b:=(HC,λ p=>a,λ s=>b)
znV a:=by subst z;ext ef a mu mu
zpD:=(wR,xn<xf,xf<xn)
znF a b:=by rw[a] at q;show(gX,?_,b);rotate_right
zoV:=Option (Option V)
ztv:=by ext gm e this
zrA a:=by exact (absurd (Ze.mpr a) AY)
zoU:=o.getD j (some 0)
zxG:=(Lx y y)
zpC:=(eD cE cE cm cm)
zlH:=h1.push (iz,"list",.seq zvG)
zvb:=(zfR fp φ)
zlq:=["picture", "number", "words"]
zwb:=Mut (H x)
zpB:=(cu,clsV c,cv)
zpA:=xk (xt (xbp xg))
zrQ:=SqL K H l2 ys
zrg:=setI G pt.nm 0
zrP:=q B.1 B.2
ztu a b c:=(VI,a,ZJ b s.heap h',c)
zrf:=(V0 x.toNat x)
zre:=(V0 y.toNat y)
zlU:=["self", "name", "x", "y"]
zJr a:=by ext wW i a e;rw[ZO] at a;injection e with e1 e2
zKE:=λ f vs=>(PySem.call f vs)
zlT:=ys=(L.map (λ x=>(V.ref cQ)))
zva a b:=(K7 a T.n_bz lkZo b)
zmz a:=by show(Ce,_,a>>=_,dW h₁ g d N os)
zsN:=IsPart vl lo
zsM:=IsPart vu hi
zrd:=ss++(xr8 b ws)
znu:=by exact (q p (by rw[e];simp[k]))
zlS:=(VY dr.pm.length_eq dr.ok)
zxF:=(UE q b)
zlG:=(zeg,st.at (re,k it cy o e))
zuZ:=.rng lo hi
zqu:=GOk zs.length g
ztG:=uD≠((rp).x)
zpz:=(jo rfl rfl rfl)
ztF b c:=(mJ _ b T.n_bb lkH c)
zmG:=k b o (λ z=>(f (gK z))) e
zsy a:=(oB (BD gM (gP a)))
zrc:=(d9 v H I r h)
zoT:=(zkS CX scope cdv)
zRT a:=(DY pF (mw H p a x) pQ pQ)
znk:=I.base.free b o e n y
znU a:=ItemsOf (xkp x) a x.length
zxE a b:=λ v a h1=>(thn h1 b)
zpy:=∀ a,(Nv->(VB a))
zpx:=(cu,asked t,n)
zsL:=(hashAt i)=h
zqt:=Pw.words o s hs
zrb:=(vd H' w h ps)
zra:=putK kvs cO dX
zkV:=(qF,v,0,(v+iu).toNat,min v.toNat n)
zlN a:=∀ j,((j<n)->(wT,a,ky j,ad j))
zmo:=sliceBounds lo hi none n
zxD:=(zos d)
zKa:=.go own rent asked crowd
zRS:=(zxx,.seq acc' c')
zvP a:=λ c u n1 n2 e=>a
zmy a:=(zny,(H' l')=(some (.lst a)))
zkH:=(32∉p.cps.toList)/\(p.cps.toList≠[])
zmn:=∃ u,(cu,h'.get? e,u)
zmc:=by show (fA 0);exact (ZP _)
zuG a b c:=(dM p.nm p.x a p.sd b c)
zxm a:=by show(cD,od,J,a,I.look)
zpn a:=R.filter (λ r=>(!(eA a)))
zqs:=(e=x)\/(Ew e x)
zmb:=.frz ob (.dT (LnT (D b)))
zpw:=AkD H d al asked
ztE:=Itrs lo d n
zuY:=(qR 1 2 3)
ztD:=xs++[(k,a)]
zob:=prs.map (exP p1 p2)
znb a:=(VI (zNG,xcn xs more) Rm a)
zly a b c:=⟨126,p,_,y,_,rfl,a,T.c_a,b,(NF c),?_⟩
zlW a b f:=by show(T7,id a);show(wc,u,xga (s:=kR) e c b cE f)
znE a b:=a->(nZ->(∀(N:ud),(zRW zyK b)))
zrO:=KB H H' d1 d2
zoS:=(oO i6 (fR c hc))
zjY a c d f:=by refine(lY a [a] (qC c d f zE CJ q));ext pk b a Ee;exact (m.fpOk (Zj _) (m.hok.fresh (Zj _)))
zoR a b:=by obtain⟨d,rfl⟩:(∃ d,a):=(Oc b)
zpm a:=by refine (xfi a (dC i y b hy hb))
zov a:=xgw (xbz (BW 2 (BW 3 a)))
zlc:=Kl/\(Nt/\(ziI,h.DictOf xV a vs))
zsx a:=xbf eR h (ps.map a)
zrN:=(tR H2 s e f)
zlF b c:=by obtain ⟨a,dp,b,c,h',ps,ss,srt,rfl,h⟩:=h
zkY:=∀ H',(LL->(((p i)=false)->(M H')))
zLw a:=by ext hJ d kvs e1 e q a;subst e1;cases r1
zuX:=xsr xot xp
zqg a:=Drw.marks hsS Drw.no a
zlE:=(xdi true h)++(xdi false h)
zuW:=λ p:Pr=>eS
zrz b:=∃ a xs,(yy/\(L3/\b))
zuV a b c d:=I.lset (its':=a) b e c d ?_
zuU:=[vc,nm,r8]
zou a:=by simp only[shp,Zs,Yo.injEq] at a
zlV:=by wp_walk using (Qc m),(YE v);ext qg h
zmm:=∃ ks' b,(TM/\(xH ks' b))
znD a b:=∃ tk,(cu,mg a,.int b tk)
zlp a:=by unfold picF;show(F4,zeU a "width",gU a,zIG,_)
zwa a b:=xg2 (v:=a) rfl b iE
znt:=by obtain ⟨_,k,A⟩:=(v s' q e)
zmg a:=∃ x:Int,((v=(.int x))/\(DQ/\a))
zkR a:=∀(j:Nat) (q:Addr) (w:Wd),(Mz rs q ws w a)
zsK:=P0/\(P1/\P2)
zoz:=s _ _ (ne_f x e) x
zmV:=ts.map (λ t=>(Zw t.2))
zuT:=Jl _ h rfl
zxC:=Rd H a u
zvZ:=PtW H l p
zvN a b c:=(dN 84 _ a b rfl c rfl)
zsJ:=(dL N ps st)
zqr:=.Tuple es k pos
zoy:=s4 _ _ (s3 _ _ g2)
zqf a b c:=(oa,a,D,b,D,.ins t.C_c I c)
zsI:=xa6 ps srt n
znC:=putK kl zJ (.ref dq)
zmQ a:=by have e:=(congrArg znp h);change a at e
zkP:=["self", "askers", "asked_by", "gap"]
zqZ:=(mw j p qz Gs)
zoQ:=zgB++((j,h,x)::zgA)
zmP a b c:=(W5 K mainGlobals a)=(pi,.int b c)
zBO:=λ a h=>(cK,xi (λ z=>(by rw[z,e] at h;cases h)),h)
zxl a:=mir w (mir w a)
zry a:=(zxi,a,1,xdb 0,xd4)
znT a b:=((hv=.non)/\(a=b))\/(hv=(.int a))
zVO a b c d:=(cC,λ i _=>a,(He,b,(H'=H)/\c),λ i _=>d)
zsH:=(du 0 0 0 0)
zoK a:=(lv (rM 2) rfl _ (P9 a))
zXK:=(DY x H pQ pQ)
zmU a b:=(NQ,CW p1,CW p2,.ref qc,a,b)
zkQ a:=xap (iD,dU,T.c_a,T.i.m,ok_i T,eG,T.i.b,a)
znB a b:=(zcb,λ a' x'=>((P a' x')\/a),b)
zuS a b c d:=(eT 105 a _ _ rfl b c cm d)
zqq:=(oK xn yn b rn)
zqp:=(oK xf yf b rf)
zxk a b c:=LRun o7 a own rent b c
zmT:=∀ s,(Lk->((rent s)=0))
zmF:=kvs++[(xad dY,.int kH)]
zma a b:=by refine (.tup (SqT.of h) rfl (dC j x d a b))
zns a:=∀ h',((WP it s.heap h')->a)
zlz:=∀ C ex s H pn,(PE K5 elt te)
zlu:=∀ C ex s H pn,(PIf K5 ifs tc)
zpv:=d b _ q (λ z=>z)
zlx a:=xaj xjp rfl T.n_abs boot_abs (gP a)
zmE:=(yw Nx (zuC,C6,Hw+ND))
zlD:=(XI "str" T.n_str boot_str)
zHZ a:=∀ k,((a<=k)->((k<xs.size)->(j<=zuD)))
zuR a b:=by show(dG,a,rfl,b,q,h);ext zlg
zND a b:=(dh,a,pY p,vO,H'=(mw H p b x))
zMy c d:=(sW,zdw,λ v c=>(zj,K4,λ u s₂=>d,c))
zsw a:=Hand room a so ho s
znj b c:=∀ H',(b->((vd H' pw ph c)->tw))
zQs:=(II d_o d_r Cn RC)
zkL:=items.toList.drop (sIx items.size 0 lo)
zkF:=by show(kq,σ',H',I,q,h);exact(fG σ' H' I.unwish q)
zuF a:=.cons rfl iE iE a
zsG:=λ c u _ e=>e
zmx:=by have z:=(xif n h);unfold xm4 at z
zkO:=(mO,jt,T.c_a,T.f.m,ok_f T,eG,T.f.b)
zEi a b c d:=xbo rfl a b (pM 0) NL (RE c) (λ_ _ _ _ _=>dU) (j:=d) rfl Hb
zmZ a:=by show(ut,2,nH l5 (cN I) (cG p6 a))
zIF:=Drw.sets Drw.no (xcr w ss)
zvM a:=λ b u b1 b2 e=>a
zoJ a b c d e:=Jf (PU a b c d e) (fS hs hs2) (fY hs2)
zjQ a:=xbh (xfe rfl) rfl T.n_list boot_list (gP,xbh xgj rfl T.n_range boot_range a)
zlf a:=(zDG,(zkS,a,xm st,cdv).nox,xa2 st)
zml:=λ f=>(gZ,yA,H,I.tok f,q)
znA:=seqObj "list" (#[]) i0
zjV:={ s3 with heap:=s3.heap.push (iz,"slice",.fields (#[B,vu,.none])) }
zkE a:=I.laid (t':=s.toks) (o:=a) (λ b ob q=>NC) dF ?_
zsv:=by intro so2 ho2 cs2 r2
zkp:=∀ y∈scope.names,((y.2=.local)->(zlO .local))
zmw a:=∀ H2,(nZ->((cu,H2 l,a)->L9))
zmk:=∀ x∈C6,((Hw+zik)<=eP)
zES:=["words", "spans", "rows", "span"]
zlZ:=xk4 (st:=s_b) l_b c_b k_b
zmY a:=x0 (r:=(xm2 K)) xk0 (xag pG) a
zot a:=by rintro Z _ (⟨a,rfl,rfl⟩:62)
zQr a b:=∃ so2 ho2,((Kp.Mt a so2 ho2)/\b)
zQq a:=by generalize v:a=H7;ext jS X M v g7 v
zEy a:=∃ z q,(a/\(zY/\(sN,(.str z.nm)::(ptV z))))
zlQ:=(zeS,X.N[i]?)=(ys.map some)
zni:=xcb (decide (i=0)) yT
zlw:=by show(cB,r1,xfl true L,r2,xfl false R)
zmS:=a.set! 1 (rawInt (-1))
zpu:=(dh P0 P1 P2 P3)
zpt:=(dh ju mh qZ A4)
zTD:=(dh j0 mN rP zZ)
zTC:=(dh jU mG rJ zK)
zvL a:=xde _ a hi p' ab
zrM:=RimW H l b ws
zkU a c:=by have b:(V4 g a):=(beq_iff_eq.mpr h);simp only[Jw,b,c]
zVN:=AkD H' da tO zbj
zMx:=A++(p1::(B++(p2::C)))
znh a b c:=by ext hJ l xs e a q b;ext eQ;ext FJ c r1 l c
zPb:=by refine (Yi (xiw I hg hm ?_ hdb))
zoa:=Kp.upd1 asked s b z
zmv b:=i5/\(cR xU EF (zaI pw ph) Ev b)
zkw:=xap (iD,dU,T.c_a,T.h.m,ok_h T,eG,T.h.b,mT)
znZ:=xaa I ps srt' pt.nm
zlo:=by ext dG kvs e l r s;ext kP kvs e cm r
zMw:=λ a u na h=>(gs na h)
zkx a:=by rw[hw] at D q;show(dZ,D,rD l a,D,Fl l D Cb (cG q1 J))
zkv:=["pairs", "name", "other", "seats", "giver"]
zps:=(zuA,y,r,r<v)
zpl a b c d e:=Drw.ledP (Zg "+") (Zg a) Vn w b c d e
zrx a:=by obtain⟨z,its,n,r,e⟩:=a
zqo:=f zgz (.int j u)
zRR:=PIE X pins Z tg R
zlj a b:=(jo p3 a (eD g4 b cy (dC H5 l5 s5 aa I)))
zlA:=by ext qw p w c;show(cD,z,b,y,h.get u)
zpr a b:=⟨123,_,_,_,_,rfl,a,b⟩
zRQ a:=(zQv a own rent own' rent')
zmu a b c d e:=(jB,uY a,S,_,b,.int c,rfl,rfl,cN d,e,?_)
zkl a b c:=⟨a,I.os,I.bare,I.base,b,I.cell,I.free,I.freeC,I.pin,I.hok,c⟩
zli:=s.heap.IsSliceOf sl vl vu .none
zoP:=xm1 X.w X.K D kvs
zox a b d e:=(xcc w a b d e)=(xcc w ps ss prs c)
zkt:=∀ x,(sP,foldedSetIterable iter X.env x,x)
zls:=by simp only[QO,List.all_nil,Z8,YG] at e
znS:=by rintro i ys H2 lt ⟨s,_⟩
zjO a b:=by unfold argsOk;rw[(signature?_of (id:=a) (n:=b) (o:=['d','e','s','r','e','v','e','r']) Cc xnz)];ext Hz
zkm a:=∃ j e,(((t.slot a)=(.live j))/\((gC L e)/\((Nz=oZ)->zKF)))
zjT:=["_law_numbers_here", "_law_name", "_law_x", "_law_y", "_law_height"]
zTB a b c:=[mV,(d0 h'),(Af y),zig,(cX C),a,b,c]
zka:=∀ nm∈names,(∀ q,((∃ kvs,((IT dl)/\(Gr=Nw)))->(q≠da)))
zkg a:=∃ q qs s l,(dh zY (sN [.ref qs,.int l]) (Bx qs s) (dS a Hx))
zln a b c:=by rintro i Z a _ (⟨_,_,_,rfl,b,_⟩:103);ext qS c
zjJ a:=by generalize v:(iP H q1 zLx)=H1;ext iG s1 J v g1 a;have C:=(s1 _ _ D);show(dQ,oQ l K3 (UY (cN C) rfl (GP c9)),lv 2 rfl 4 (sO (cN C) (cG p1 S)))
znY:=(cR P0 P1 P2 P3 P4)
zmD:=(cR,ju,mh,qZ,A4,P4 a)
zPa:=(cR jH lT qV yh NG)
zOZ:=(cR j0 mN rP zZ Mv)
zOY:=(cR jU mG rJ zK LK)
zlP:=.dK (putK kl zJ (.ref dq))
zkd a b c:=by exact (pS a sc_ar.nd (xck ZV WK WJ xjv b (gP,x0 xbi (E9,pv 9) (Ep xay c))))
zjS:=by rw[(yx,putF f v ((k,x)::r),(gH,k,f,zyE,(k,x)::(putF f v r)))];by_cases hk:(k=f)
zxj a:=by ext CU e n ne a d zeC
zkz:=[(.inr (jO C),(CW v)),(.inr (jO v),(CW C))]
zkq a c:=pS 4 a (xfm T.k_a (ok_ao T) eG rfl T.g_a T.ao.b .nil xq c)
zlv a b c:=(iT p1 p2 _ _ (FO,Y _ _ g2,g3,VE a,b,c))
zky:=Grow KI ns pt.nm so ho crowd al asked o1 r1
zoO:=a.free c ob q n i
zke:=pC (ok_ay T) hr T.ay.g T.ay.F.kp T.ay.b (f8 0 (qR 3 4 5))
zjM a:=by rw[(yx,cutV a (some 2) (some 4),Ar)];generalize v:(lR H1 p1 Ar)=H2;ext jS Z S v g2 v;show(ut,5,(sO (cN,Z _ _ C) (cG p2 R)))
zki:=["picture", "width", "height", "lines", "rim", "rows"]
zlt:=λ y H' s' f=>(h1 y H' s' rfl f)
zER:=[zXN,zqd,(oP "own" G),(oP "rent" M)]
zkJ:=by refine (Z1 (?_:G9) cE);simp only[xbs,xc3,X,Y];lia
zqe a:=FunD K x qual st T f a
zoN a b c d e f:=binT ha hb I h (λ v u a x y b c d e q=>f)
zmj:=below.go xs j fuel lo hi
zjP:=([(lA,Jk "left","right"),(lA,Jk "right","left"),(lA,Jk "both","both")]:dR)
zCp:=#[.none,(.bool false),oY,(rawInt 1),.none,.none]
zqO a:=[a,pd,Aa,z6,zQ,L6,L5]
zmC:=P0/\(cR P1 P2 P3 P4 P5)
zlh:=ju/\(cR,mh,qZ,A4,P4 a,P5 a)
zHc:=jH/\(cR,lT,qV,yh,NG,P5 a b)
zKD:=j0/\(cR mN rP zZ Mv zyH)
zKC:=jU/\(cR mG rJ zK LK zvH)
zjI a:=by rw[(yx,cutV (Wb L4 a) none (some 2),Lw p.x p.y)];generalize v:(lR H5 p6 (Lw p.x p.y))=H6;show(iG,U,N,v,g6,zvE p6 g6);have z:=(U _ _ (G _ _ D))
zMv:=look G C asked b f0 y
zks a:=[(cX p),(tD name),(cX rm),(cX G),(cX N),(d0 fc),a,v7]
zkZ a:=(zCC,xv jt (SM a h8 gM pV xcd xcd) rfl)
zCR a:=λ i y H H' tp ⟨a,q,e1,e2,e3⟩=>(d9 a q e1 e2 (sM e3))
zkD:=by refine(iZ l 1 pd (FO (cN,X _ _ z) rfl zfB p8 L))
zjL:=["_law_picture_here", "_law_other", "_law_points_here", "_law_seats_here", "_law_most", "_law_across", "_law_down"]
zlY:=(uE P0 P1 P2 P3 P4 P5 P6)
zjR:=by refine (.lst (cN e) (nG Za Za h.len) (dC j x d i c));rw[Zf] at i c;ext qw q u i
zHb b c d:=Pz t b pz a J C M p d1 d2 n BV srt' KI so ho c d
zzx:=["picture", "name", "side", "row", "x", "y", "toward", "down", "upright", "level"]
zjK b:=codeAny b callerA (zgX fa (m7 mj)) (λ r s'=>(dh,r=(.ok (.ret (.bool true))),OldK s₁.heap s'.heap,s'.os=s₁.os,zbV)) s₁
zjF:=["_law_picture_here", "_law_other", "_law_points_here", "_law_seats_here", "_law_most", "_law_across", "_law_down", "_law_keep", "_law_gone", "_law_pairs", "_law_steps", "_law_back_here"]
zjG:=by obtain⟨D,od,G,B,⟨C,J,cdv,I,u,rfl,v,m⟩⟩:121:=F.ex;refine (xsm v m S len (λ A outer s H vs Q E y c=>?_));show(qL,t,h,q,hbody cdv A outer s H vs Q E y c,t,h.nox,q)
zCb a b:=ICr t H p d1 d2 rm G N n room so X name i a crowd al asked b
zNC a b:=Int.mul_le_mul_of_nonneg_right a b
zTA:=∃(a:A0),(ju/\mh)
zOX:=∃(a:A0) (b:A1),jH
zHa:=∃(a:A0) (b:A1),(jH/\(lT/\qV))
zKB:=∃(a:A0) (b:A1),(jH/\lT)
zOW:=∃(a:A0) (b:A1),zPa
zOV:=∃(a:A0) (b:A1),zHc
zIE:=∃(a:A0) (b:A1) (c:A2),j0
zGz:=∃(a:A0) (b:A1) (c:A2),(j0/\mN)
zEh:=∃(a:A0) (b:A1) (c:A2),(j0/\(mN/\rP))
zID:=∃(a:A0) (b:A1) (c:A2),zTD
zIC:=∃(a:A0) (b:A1) (c:A2),zOZ
zIB:=∃(a:A0) (b:A1) (c:A2),zKD
zFp:=∃(a:A0) (b:A1) (c:A2) (d:A3),jU
zDW:=∃(a:A0) (b:A1) (c:A2) (d:A3),(jU/\mG)
zCB:=∃(a:A0) (b:A1) (c:A2) (d:A3),(jU/\(mG/\rJ))
zFo:=∃(a:A0) (b:A1) (c:A2) (d:A3),zTC
zFn:=∃(a:A0) (b:A1) (c:A2) (d:A3),zOY
zFm:=∃(a:A0) (b:A1) (c:A2) (d:A3),zKC
zTz:=by simpa using B
zTy:=by simpa using A
zXJ:=by rw[List.cons_lt_cons_iff]
zXI:=∃ o',(ztC o')
zVM:=["_law_script"]
zNB:=by simpa using I.len
zDV a:=∀(pins:dJ) (s:Shared) (Z:St) (H:Hp) (Q:VK),a
zNA a:=∃(o:Obj) (its:ii) (n:Nat),a
zRP:=by simpa using hs
zRO:={ D with nx:=Pv }
zTx:=by simpa using w
zXH a c d:=∃ i σ' H',(dh,a,tn i c,zcH,d)
zQp:=∀ x∈P,(zll\/XA)
zRN:=by simpa using hv
zTw:=by simpa using S
zRM:=by simpa using e1
zTv:=by simpa using R
zRL:=by simpa using hp
zOU:={ c with heap:=h' }
zTu:=by simpa using a
zHY a:=∀(j:Nat) (x y:DV),(Mz xs x ys y a)
zTt:=by simpa using N
zQo:=(xab b).cps.toList
zIA a:=by unfold Builtin.List.listExtendWith;ext ziH a
zOT:={ x with heap:=zme }
zOS:=(vP).cps.toList.head?
zVL:=∀ v∈rest,zmN
zVK:=by unfold lasts;rw[Jq];ext iJ
zJq:=∀ a∈T,((so a).isSome)
zAw a:=∀(kV doc pm:Value) (an:jW) (cdv ct:Value) (a0 a1 a2 a3 a4:Value),a
zAk a:=∀(kV doc pm:Value) (an:jW) (cdv ct:Value) (a0 a1 a2 a3 a4 a5 a6:Value),a
zXG b:=xj (H:=H) (a:=d) (o:=b)
zTs a:=∃ v5 Y X U R J I G:eV,a
zXF:=∀ p∈prs,MY
zXE:=∀ p∈prs,zbU
zNz:=∀ p∈prs,(MY/\zbU)
zOR:=∀ p∈prs,(qG eS)
zXD:=∀ p∈prs,zQt
zKA a:=∀(j:Nat) (s:Seat),((gC al s)->a)
zVJ b:=∀(k:Nat) (a:Str),(Vk->b)
zVI:=∀ kv∈kvs,zgw
zXC:=by unfold rngL;rw[Za,Z9];lia
zXB a b:=by generalize G:a=H6;ext jS s6 b G g6 G
zNy:=(vP).cps.toList.length
zOQ:=∀ s∈srt,(Sk j6)
zXA:=by unfold ptsS Drw.go;ext zio
zHX:=bif ac then (G.map YV) else G
zQn:=xhl (w:=C) (h:=h')
zRK:=.ref h1.objs.size
zHW:=PySem.F.args_dict_items_1 _
zOP:=of_decide_eq_true a
zRJ:=decide_eq_false h
zJp:=Nat.exists_eq_add_of_le h
zNx:=(lF "BaseException")
zRI:=List.of_mem_zip b
zXz:=(jX PySem.Fin)
zXy:=Array GenState
zQm:=(cu,h1.get? b,o)
zHV:=(cu,X.s₀.heap.get? b,o)
zRH:=ss.reverse.take i
zOO:=(je sc.isCoroutine)
zON:=(je sc.isGenerator)
zXx:=CXo X.prog X.w
zXw:=(fA ns.length)
zHw:=PySem.F.args_tuple_add_2 _ _
zHU:=List.length_eraseIdx_le _ _
zQl:=.lst (D.map V.ref)
zQk:=.lst (C.map V.ref)
zQj:=.lst (z.map V.ref)
zNw:=.lst (qs'.map V.ref)
zTr a:=(fS a Array.append_assoc)
zTq a b:=by rw[a];exact (T.srt.sublist b)
zRG:=(hW Str NameKind)
zXv:=(jA ns.length)
zQi:=decide_eq_false cm
zQh:=Y.hok.fresh (Zj _)
zQg:=M.hok.fresh (Zj _)
zLv:=x.cps.toList.length<=i
zVG:=I.ok.funs.mem d
zNv:=scope.names.lookup y
zVF:=by refine (Zb (wpAny_mkInt ?_))
zVE:=(X.H₀ b)=none
zXu:=fs.length<1000
zMu:=by refine (gx ?_);refine (wq ?_);intros
zXt:=(sv as.length)
zTp:=Gl X "enumerate"
zMt:=by rw[Za];exact (an cm)
zVC a b:=by refine (xjt (xs:=a) (Pv:=Pv) b ?_ ?_ ?_)
zJo a:=(Builtin.List.listTooLong a)=false
zVB a:=(mo,Q,t Z H (λ x H1=>a))
zTo a:=(mo,Q,to Z H (λ x H1=>a))
zVA:=I.ok.noex b o e
zTn:=(Cg "enumerate")
zQf a:=upd a d (.frz ob (.dK kvs))
zQe a:=upd a d (.frz ob (.dT kvs))
zFK:=(Fp (ou x (gU "__classdict__")))
zVz:=names.map V.str
zTm:=(hW Value Value)
zVy a:=scope.names.all (λ y=>a)
zRF:=Room q0 k callerA
zXs:=!(eA,z∈FB)
zMs:=by refine (nx ?_);refine (fo ?_);intros
zXr:=AllBare s.gens
zOM:=(dS x.cps.toList c)
zQd:=Vals xs its.toList
zMr:=λ b u nb e=>(gs nb e)
zVx:=(zbt kvs.length)
zXq:=(ss.map r).sum
zLu:=(cu,s.heap.get? a,o)
zOL:=(cu,K.lookup a,o)
zTl:=(Hr zI names cs)
zOK:=qs.length=ps.length
zQc:=(fs.lookup m)=none
zNu:=Obj.data_mapDict b _
zIz a b:=(cu,h'.get? s.heap.objs.size,Bq a b)
zQb:=λ j hj=>(hD,QT cm)
zXp:=cA->(fF Hp VK)
zRE:=(zmB,(zux).toArray)
zRD:=(zeg,k it cy _ st)
zNt:=MY/\(cu,so' eS,dX)
zVw:=Nat.succ.inj hl
zRC:=sc.kind=.function
zTk:=(ziJ more.length)
zMq:=s.heap.objs.size≠it
zTj:=(oO i6 (fR p Y))
zCa:=(AL (cu,s.heap.get? b,u) (cu,h'.get? b,u))
zVv:=xlo w ps ss prs
zFJ:=(Kv,wpAny_pyIter_rangeiter st h)
zTi:=lcg mask (a+b) i
zJn:=c.heap.push (revObj l Iy)
zTh:=by ext O6;obtain⟨_,rfl⟩:=M
zMp a:=X.s₀.heap.FunFrames X.base a
zEx:=Qg "BaseException.__getattribute__"
zHv:=Qg "object.__getattribute__"
zOJ:=xs.length=ys.length
zOI:=xs.length=ds.length
zNs:=kvs.length=ps.length
zIy:=(of_decide_eq_true e).symm
zMo:=∀ n∈FG,(∃ c,OD)
zLt a:=V.str.inj (of_decide_eq_true a)
zOH a:=(dA,a,.lst (ns.map V.int))
zKz:=(cu,bootBuiltins x,u)
zVu:=(cu,X.mg x,u)
zXo:=(cu,so a,s1)
zMn:=YA C s.heap.objs.size
zLs:=its.flatMap (Itm.ps h)
zXn:=(o[j]?)=(pi i)
zXm:=.done (.ret v)
zRB:=(mE,e (Jk.inj z))
zQa:=(mE,e (b.trans z))
zRA a b:=(D2 a "__length_hint__" (va b))
zXl:=(VZ o.data vs)
zVt:=(VZ ox.data vs)
zLr a:=λ x y H Q=>(((scal x y)=true)/\a)
zVs:=xat (ps.map zcF)
zTg a b:=PS X (.Assign [a] value pos) b
zPZ:=C.update a (JO zyF)
zPY:=c.update a (JO zyF)
zVr:=xbb P w H h a u
zMm:=(rnd mask h (13+m)).1
zOG:=standAt apos.atName
zNr:=by subst h1;rw[fH];by_cases h2:(x=s)
zTf:=by subst h2;rw[fH];constructor
zPX:=i.natAbs.log2<1920
zVq:=(prs.map f).sum
zPW a:=(l.contains (.type a))=true
zRz:=(xs.all scV)=true
zTe:=.tup (ks.map kV)
zPV:=a9.trans (J.map _)
zRy:=(iA (OJ "items"))
zXk:=Same.seqL s h1
zXj:=Same.seqL s h2
zJm:=∃ t,(u=(Value.bytes b t))
zJl:=∃ t,(u=(Value.float b t))
zKy:=if_pos (b.symm.trans e)
zLq:=Z1 I.ok.bsz I.ok.above
zTd:=Z1 I.ok.bsz I.sz
zJZ a:=cL->(MT->(zql,isTrue e X.env a))
zXi:=(ZE.mp c.nd).2
zJk:=es[((dk es.size).toNat)]?
zCA:=(fQ,Builtin.List.listLengthHint (.ref I))
zJY a:=by refine (Zo ⟨Qu F.plain_extend_loop _,a⟩)
zHu a:=by refine (Zo ⟨Qu F.plain_set_update_loop _,a⟩)
zVp:=Int->(Int->Int)
zXh:=GvF o7 names f
zRx:=λ h' j hs=>(h _ ?_)
zRw:=λ h' f hs=>(h _ ?_)
zVo:=DPut H a y v H'
zVn:=DPut H d y v H'
zJj a:=s.heap.IsKeyIter it d a es.size ep
zMl:=by ext XX o;unfold xbm lenI;ext zcL
zXg:=RelV dX (fX q)
zRv:=by simp only [h,if_false]<;>lia
zTc:=by simp only [h,if_true]<;>lia
zTb a b:=(sP,checkBuiltinCall a b,())
zKx:=(I le)=(some (.lst OI))
zJX:=I.base.slot b o e n P hx
zJW:=ZS (sw 45) (es.map numT)
zIx:=ZS (sw 45) (w.es.map numT)
zEw a b:=by refine (Q5 Y6 q.typeIs QA (PySem.F.args_dict_get_2 _ _) a b)
zDU a b:=by refine (Q5 Y6 q.typeIs QA (PySem.F.args_dict_get_3 _ _ _) a b)
zMk:=by refine (h 0 r1 UD zuB)<;>simp<;>lia
zJi:=by refine (h (w+1) r1 UD zuB)<;>simp<;>lia
zOF:=keyKind' vs.toArray
zJh:=a.cps.toList=b.cps.toList
zVm:=h'.objs.size=kh
zNq:=acc.length+xs.length
zXf:=((mask+1)-a)+c
zKw:=λ_ s'=>(zaY,Q σ' H')
zXe:=#[xJ,(rawInt i)]
zOE:=Nat.mod_lt _ (W6 _)
zVl:=(asked cQ)=none
zMj:=(fA (VC more.length))
zXd:=(gO sd "both")
zTa:=(d6 Nu R.length)
zXc:=(cu,H1 a,Te)
zPU:=(jA (ziJ L.length))
zIw:=by refine (call_reversed_list p.isList ?_)
zVk:=(cN,z _ _ hl)
zXb:=.cons rfl .nil
zRu:=s.heap.IsCell c v
zVj:=.inr (.inr rfl)
zVi:=prs.map (xrs h)
zRt:=(pJ G3 ps.length)
zJV:=s.heap.Ns X.env.locals m
zXa:=TyOf K H dH zuE
zSZ:=by show(yL,?_);refine (ifP c9 ?_)
zOD:=s.heap.IsList t its
zRs:=xaa w ps srt p.nm
zRr:=AnsD w ps srt prs
zPT:=(Yh K C name)=true
zWZ:=(Fk dH "dict")
zOC:=(HI,hL y (Zl _ hy))
zGy a:=(cu,D.get? s.heap.objs.size,Bq a u)
zRq a b:=OpR X (binaryOp a) (rI0 (FL b))
zRp:=(Q4 a:Key)=(Q4 b)
zWY:=SqL X.K H a xs
zWX:=SqT X.K H a xs
zKv:=.lst (ps.map (λ p=>zhZ))
zMi:=xd1 xb6 (Av zkj) xp nA
zLp:=(cC H kY (cK,xkh r,q))
zVh:=way t.mask oZ n
zWW:=by have b:((g == k)=false):=zJs
zPS:=(Iu q1 g1 (qd jk))
zSY:=GPr ps eR j6 prs
zOB a b:=by generalize eu:(iK l1 a)=H1;ext n8 s1 b g1
zPR a:=(iY,2,iS,.lst (ps.map a))
zRo:=xs.foldl oneK acc
zSX:=xjn s.heap I.big
zMh:=by cases rr;ext hF r;ext kT t' r'
zGx a:=(ou,YS "list_reverseiterator",YS a)
zOA:=.UnaryOp .Not a pos
zSW:=.hand so ho zXM s
zOz:=.Subscript o i pos'
zWV:=ZJ a s.heap h'
zGc:=Builtin.Range.rangeSize lo hi d
zIv a:=(yY,ai _ _ (s9 _ _ (s8 _ _ a)),M)
zFl:=(ki L (cu,H1 c,u) (cu,J c,u))
zCz:=(o4 e (cu,h.get? b,u) (cu,h'.get? b,u))
zGZ:=by rw[JD,JW,decide_eq_true_iff];constructor
zWU:=Meth X.K C m f
zKu:=InstAt s.heap x ox C od
zLo a:=(cu,mroIn K C (.type a),true)
zGY:=occurrences x y 0 x.length zvF
zSV:=mark1 hs m cQ eP
zSU:=[RB,pd,Aa,z6,zQ]
zFk:=qs.map (λ q=>(V.ref q,V.bl true))
zBC:=PySem.W.WalkO q loose XP YP l.row.toRowW d [] zKE
zWT a b:=⟨⟨old,k e cy _ a⟩,b⟩
zRn:=(I.ok.bs b o e).2
zMg:=λ c0=>(kL (rM 2) rfl)
zMf:=List.zip_append o.len
zNp:=Kp.subs keep.reverse
zMe:=s.cps.toList.headD 32
zVg:=∀(a:A0),(ju->C)
zLn:=∀(a:A0) (b:A1),(jH->C)
zGX:=∀(a:A0) (b:A1) (c:A2),(j0->C)
zEg:=∀(a:A0) (b:A1) (c:A2) (d:A3),(jU->C)
zVf:=X.env.scope=sc0
zWS:=(f y) == (f x)
zLm:=by rw[C];simpa using D
zGb:=its.toArray.size+c.toArray.size
zPQ a:=∀{xs:cA}{us:dw} (n:Nat),a
zLl:=sysModules<h.objs.size
zVe:=by refine (Yp.append_left _ ?_)
zFI:=∃ sl,(ztC { o with slots:=sl })
zWR:=v1::(v2::rest)
zWQ:=λ_ _ _ _ n=>n
zDu a:={ s with heap:=s.heap.push (iz,"tuple",.seq a) }
zLk:=m.kept (t':=d.toks) mQ
zPP:=c.kept (t':=tk) mQ
zNo a:=∀{H':Hp},(zcH->(∀ b∈fp,a))
zDt b c d e:=I.laid (a:=s.heap.objs.size) (o:=b) (h':=c) (t':=s.toks) d dF e
zPO:=∀ p,(((wh).nm)=p.nm)
zFH:=∀ y∈sc.names,(y.2≠.free)
zST:=(vs++ws).toArray
zPN:=Nx↔(cu,ho s,n)
zVd:=by rw[ZB]<;>lia
zWP:=∀ a,((r a)<=0)
zJU a:=∀(w:World) (h:Heap),((YP w h)->a)
zCo a:=∀(kV doc pm:Value) (an:jW) (cdv ct:Value) (us:dw),a
zPM a:=∀ j,((n<=j)->((σ'[j]?)=a))
zWO:=I.type (M:=lM)
zRm:=by unfold clsIn at b;split at b
zSS:=by unfold KatGo;by_cases e:(a=c)
zJT:=∀ w∈ws,(w.length<=k)
zNn:=∀ s,(ue↔(s∈ss'))
zSR:=∀ r∈R,(r<=m)
zVc:=∀ r∈R,(r<x)
zSQ:=by unfold upd1;by_cases h1:(n=a)
zSP:=by unfold upd1 at h;split at h
zNm:=["words", "numbers"]
zMd a b:=[a, b, "_law_width", "_law_height"]
zLj a:=by let Pv (i:Nat) (Z:L2.St) (H2:Hp):Prop:=a
zIu:=∀ p∈prs,(PtOk eR h cO)
zPL a:=∀{k:Nat}{x:Str},((Ti x)->a)
zVb:=by unfold Kp.upd1 at e;ext Oe
zHT a b c:=∀ H' l qs cs so ho,(gg->(si->(oz Td a b c l)))
zMc:=∀{n:Nat},(zjx->(sv n))
zMb a:=by let Pv (i:Nat) (Z:L2.St) (Y:Hp):Prop:=a
zLi:=∃ pt∈ps,(pt.nm=nm)
zMa a:=by let Pv (i:Nat) (Z:L2.St) (U:Hp):Prop:=a
zHt:=C.keep (H':=H6) (j9,Y _ _ e)
zLZ a:=by let Pv (i:Nat) (Z:L2.St) (O:Hp):Prop:=a
zLh:=(eq_of_beq e)
zVa a:=by unfold Pw.ws;cases p.way<;>exact a
zUZ:=(runW (a,b)).tq
zOy:=by unfold Geo.cells;rw[Zu];ext iJ
zGa a:=reduceHash (Builtin.Tuple.tupleHashOf a)
zOx a c:=(cu,s₁.heap.get? b,o)->(a->c)
zRl:=some (.out crowd)
zJS:=(fT,q.mapOf,h _ _ kY ?_)
zWN:=pre++[V.ref a]
zWM a:=(dz (BO,¬ ((dk a)<0)))
zUY:=(df (fD,xW<Ap))
zFZ a:=(df,by rw[a];exact (beq_self_eq_true _))
zWL:=(dS t.place j)
zSO:=(dS names pt.nm)
zWK:=(fX,hch c z)
zLY:=(t.fits es.size)=true
zNl:=J.keep (Same.tups R)
zLg:=λ b ps e=>⟨#[],AD⟩
zWJ:=Pic.same v pic
zGW:=dr.pm.nodup_iff.mpr dr.ok.1
zUX:=λ b c=>(vW b c)
zSN:=(gs,af,R _ _ e7)
zIt:=(cu,s₁.heap.get? a,XR)
zUW:=(jz,x+(fc*1))
zJR:=[(Zg "start",.int 1 tc)]
zLf:=(fQ,pyNext (.ref I))
zFG:=decide_eq_false (λ z=>(nomatch z))
zLX:=es.any (λ z=>(dEq z d))
zNk:=(jl (hV r.length z))
zUV a:=s.heap.IsListIter it a i
zRk a:=(mo,Q,ta Z H (λ vs H1=>a))
zUU:=(vd H eR j6 ps)
zPK:=I.base.tbls b ps e
zGV a:=(nG List.contains_cons a Bool.or_true)
zGU a:=by refine (wpAny_pyIter_range (IsRange.new ..) a ?_)
zDF a:=by ext kW;unfold Builtin.Dict.selfAndRest;show(cY,QD a ?_)
zNj:=by rw[Za];exact (Zj _)
zWI:=by rw[Yn.injEq,Yn.injEq];lia
zPJ:=λ n s=>⟨o6,o6⟩
zWH a:=by rw[z,a] at e;cases e
zPI:=HOk P w H' s'.heap
zHS a:=(iy B H { s with heap:=a,toks:=F1 })
zUT:=valV kvs (ck c)
zGT a:=by show(cY,wpAny_eqIsQuiet_tuple a ?_);ext y9 Wr
zUS:=by ext sQ h1;by_cases h2:(x=s)
zPH:=(NH (hO,(dk a)<b))
zUR:=(xab a)=(xab b)
zUQ:=seG true true h
zRj:=seG false false h
zUP:=by rw[e1,Option.none_or] at e
zPG:=PA X sD (xiu te t)
zWG:=PrsL H' prs qs
zKt:=(tI ["point",nm,r8,r6])
zGS:=Builtin.Dict.addKeywords d []
zOw:=λ k=>(∃ c,(k=(ck c)))
zRi:=λ k=>(es.getD k zxh)
zLW:=I.base.there b o e hx
zRh:=(SQ [El] (pq El))
zCX:=(HN,.int ys.length,kY,⟨F1,(fS ZB d)⟩)
zOv:=.Attribute o f pos'
zSM:=xcw (zuQ (zuQ zyL))
zGR:=by refine (Zo (jl,Qu F.xl_plain_dict_loop _))
zUO a:=congrArg List.sum (ZF a)
zSL a:=congrArg znp (V.str.inj a)
zWF:=Drw.sets m L c
zPF:=(zv e "enumerate")
zHR:=(zv it "dict_itemiterator")
zKs:=(o4 d qK (cu,H2 b,u))
zWE:=(Lw p.lo p.hi)
zNi:=((f a)=(f b))->(a=b)
zLV:=by show(Ex,PySem.W.kitx_list,hX j)
zOu a b c:=by refine (xco a (λ i xs b=>(∃ D:cM,c)) ?_ ?_ ?_ ?_)
zHQ a b c:=by refine(lH a b);let Pv (i:Nat) (Z:L2.St) (H3:Hp):Prop:=c
zWD a:=by rw[<- J0];exact (Zc a)
zSK a:=by rw[<- a,List.getElem_cons_drop,Y7]
zHs:=p.map (λ i=>(vs.getD i .none))
zPE:=λ z=>(e (d.trans z))
zRg:=(gs,ne c _ q,q)
zSJ:=by rw[ZB,ZB];lia
zHr:=∀ a b,(((f a)=(f b))->(a=b))
zGw:=∀ a b,(((φ a)=(φ b))->(a=b))
zWC a:=∀ j,((j<=ns.length)->a)
zBN:=by refine (T.am.F.okn (k:=2) sc_am (c7 Q E h) (cZ vs Q E hr h))
zWB:=Zz ((dX+1)-cO)
zSI:=pS 2 sc_a8.nd zut
zEQ a:=(Bp,xs,zh/\(∀ p,(((H1 p)=none)->(kJ p a))))
zUN:=below t.place j
zNh:=by rw[Zq,Zq];refine (ZF (λ s _=>?_))
zUM:=by cases c;cases l;exact .int
zLe a b d:=by have C:=c.length;obtain⟨o,E,a,⟨n,b⟩⟩:63:=d
zWA:=by rw [ja];by_cases d:(n∈as)
zBM:=(zdF,i<=kvs.length,(dA,d,.frz ob (.dT kvs)))
zRf:=l.find? (λ c=>ztr)
zRe:=λ v hv=>(vW v hv)
zNg:=by rw[(dz z1)] at hm;by_cases d:BJ
zUL:=(F2 2 sc_ba.nd)
zUK:=PrOk ps pw ph p
zWz:=I.trans (ge M)
zPD a:=∀ s',(zie->(Q (.bool a) s'))
zLd:=Zt.mp (H.mem_iff.mp q)
zLc:=JM _ _ (λ z=>(B z.symm))
zOt:=by refine (W1 (codeAny_of_tree ?_))
zPC a:=(nF,xd7 (xgy pH a eZ),qU)
zSH a b c:=(cC (wz a) (He,x,(H'=H)/\b) (wz c))
zUJ:=λ m=>(xs[(i+m)]?)
zHq:=xs[((fc+((dk m)*1)).toNat)]?
zSG:=prs.map (uprI j)
zFF:=decide_eq_false (λ q=>(nomatch q))
zOs:=(TJ "enumerate" zCp)
zWy:=Zz (jc r pt.y)
zLU:=Zz (jc,pt.x,0+(-1))
zWx:=Zz (jc pt.y r)
zIs:=by have e:((j.size-i)=((j.size-dc)+1)):=cm
zOr:=(V.ref cQ,V.int kH)
zUI:=(hU,sIx n n hi)
zNf a b:=ZX (by(ext ya a b):D.length<13) cE
zNe:=.hand so ho asked s0
zEP:=s.heap.DictOfH (tupleKind kk) d xs
zGQ:=.Compare a [op,op'] [b,c] pos
zDT a:=by ext pk b a Ee;exact (c.fpOk (Zj _) (c.hok.fresh (Zj _)))
zPB:=(zag hd (kL 1 rfl))
zOq:=(zXP,x0 xit ew xp)
zSF:=by subst hb;ext ku xj e new
zWw:=by simp[carriedByValue] at h
zJg:=by exact (OZ,ai,by simpa using xao.nil)
zFE:=(zcp S (iz,"list",.seq (#[]) c₀))
zSE:=by exact (Ze.mpr (hX (zgV w cy)))
zGv:=(dA,q,.lst (w.rs.map V.int))
zBL:=by refine (T.ba.F.okn (k:=3) sc_ba (c7 Q E h) (cZ vs Q E hr h))
zHP:=(q0=true)->(A.handled=none)
zFj:=(zbs,seqObj "list" vs.toArray n)
zJQ a b:=(sW,pq iter,λ v a=>(zj,pyIter v,b,a))
zSD:=xcs o ((Cr m).j)
zKr a:=λ r s'=>((r=w)/\(EP X a Z Q r s'))
zUH:=(mw H2 p j5 zjB)
zOp:=(mw,H2,p,f1 x,f2 y)
zNd:=zyD++(c::(l.drop dc))
zUG a:=xl1 rfl T.n_range (HL a)
zWv:=kb _ _ b1 b2 e
zGu:=∀ H',(zQs->((Ot H' Em Bu)->tw))
zFY:=∀ j,((j<n)->(xH,ky j,ad j))
zUF:=(Fn,f,xE+1,r)
zGt:=(Lv (mB b) (cu,h2.get? b,o))
zNc:=.Slice lo hi none p2
zWu:=(zbM,tCB r t)
zNb:=Drw.go κ (xcr w ss)
zLT:=Drw.go κ (xb8 w prs)
zGs:=show (∃ t',(v=(Q0 j t'))) from c
zOo:=[EQ,numT N,numT h']
zHO:=∀ s a,(uT->(zuC,Vm,V2+ND))
zRd a:=(cu (P7,f,toP (B7 n)) a)
zWt:=by exact (.of_refs q both.1)
zKq:=(H b)=(some (.dT more))
zLS:=Q (.int Du s.toks) uL
zJP:=by show(fe,(gY,by show(Ag,b rfl,fW<wm)))
zUE:=λ y b=>(vW y b)
zLR:=(mZ (Dd,hl,R _ _ zyJ))
zBZ:=(Ky C "__setattr__" (va "object.__setattr__"))
zSC:=PE X Lo (tVar i)
zWs:=PE X Lo (tC v)
zGP a:=(iy,m,upd E d (.frz ob (.dT kvs)),a)
zGO a:=(iy,m,upd M d (.frz ob (.dK kvs)),a)
zGN a:=(iy,B,upd P d (.frz ob (.dK kvs)),a)
zGM a:=(iy,B,upd J d (.frz ob (.dT kvs)),a)
zUD a:=by ext gu p b hs;exact (lo.ins _ _ a)
zUC a b c d e:=(uO (sS ["name", a] [] [] b c) d Oq G6 uV e)
zRc:=(zmr,.ref S,res)
zRb:=xa6 ps srt' pt.nm
zFi a:=by show(cY,YM (T:="StopIteration") (b:=true) a WR ?_)
zRa:=ptF true true w h
zOn:=ptF false false w h
zBK:=xgl rfl rfl ⟨λ h=>(DV.str.inj h),λ h=>(hD h)⟩
zDs:=(fA y.length)/\(k=((dk y.length) != 0))
zEv:=(fA y.size)/\(k=((dk y.size) != 0))
zLQ:=(iW yn rn)+(iW yf rf)
zLP:=(iW yn rf)+(iW yf rn)
zLO:=(xbm w p1)+(xbm w p2)
zLN:=(xbm w zdP)+(xbm w zdQ)
zDe a:=by show ((bindL kindOf ((p,w)::(P.zip vs)) m a)=_);unfold bindL
zDd a:=by show ((bindC kindOf ((p,w)::(P.zip vs)) m a)=_);unfold bindC
zLb a:=by show(HJ,hz,zh,(hV,Y1 d,z),x,E7 rG,zTH,a)
zDE a:=by show(HJ,hz,fA vs.length,hV d.length z,x,E7 rG,zTH,a)
zJO:=z.sameBut hs (cne y c e)
zUB:=ixN xs.length i
zSB a:=(unsupported a:Sem PUnit)
zGL a:=by have no:(∀(c:Cl) (s:Str),a):=(λ_ _ e=>(nomatch e))
zJN:=s3.toks+(([]:zg).length)
zLa:=zop+((ss.map rent).sum)
zOm:=by show (je _);simp
zQZ:=by show (FndV J I zMv);unfold look
zUA:=[.inl a,.inl b]
zCQ:=["_law_cell", "_law_digits", "_law_bases"]
zLM:=∀ s∈ss,(zno zdU)
zNa a b:=by unfold Kp.upd1;show(cW,if_neg (λ y=>(ns a)),b)
zFD:=ts.Perm (es'.map (λ x=>(cQ,dY)))
zUz:=xtv (B.cells I)
zOl:=(cu,h'.get? S,zRS)
zMZ:=(cu,fs.lookup f,v)
zWr:=(c8 itv s2 h2)
zPA:=(jX,Value × dw)
zGr a:=by refine (xq6 PySem.F.slot_dict_getitem.lookup hs a)
zUy a:=((-1000000)<=a)/\(a<=1000000)
zCn:=by rw[I.ok.glob];exact (I.mod.glob.keeps I.bk)
zJM a:=(cu,PySem.W.takerIn K C a,none)
zHp:=λ c u O e=>(k c u O (v _ _ e))
zQY a b:=(uW,a,λ x y H Q=>((y=.non)/\b))
zPz:=λ n s z=>(nomatch z)
zLL:=(qN n.b)::(wdsV n.ws)
zJf:=Kp.kstep (xav lens) so ho
zJL:=Wa (λ i=>(vs.getD i JE)) p
zPy a c:=λ h' a=>(d4 (zqa (fM b o m g) c))
zHN:=by show(Ex,PySem.W.kitx_dict,cC o j m.1)
zKZ:=λ u d=>(hall u (Zl _ d))
zCy:=(GK,(g (kas_rev p 0 k) i)=(zxA,i<k,UB,VX))
zSA:=(F8,xad Oa,x,g2)
zFC:=by show(pk,i,kvs.length,gQ);show(eg,zeh (lS q))
zHM a:=xd1 ztp (zkN (AQ a)) (xag (lq 6 7)) nA
zFh:=pS 1 sc_am.nd (zkK,x0 xh0 zTE zbi)
zSz:=storedH xs k a v
zHo:=∀ o,(G4->(cu,h'.get? a,o))
zDD:=(ST,.lst (ts.map (λ t=>(.ref t.2))))
zHn:=(D2 T "__getitem__" (va id))
zSy:=xcc v ps srt prs
zMY a:=(zKc,zmf,a,zmf/\(kvs.length<=i))
zAW:=PS X (.Assign [.Name x pos'] e pos) (tAsg te (xdb i))
zJK a b:=by simp only[a,Yo.injEq,b,and_true] at h;rw[lD,lE]
zGq:=(kB,kB j p [],p,xd9 [] znQ)
zKp:=R.map (λ s=>(s,(dk 0)))
zUx:=k b u (j b n) q
zOk:=(gH,g,f,some u,D g)
zQX:=by ext Rt p;ext zR xp;exact h
zMX:=(dM nm x y sd lo hi)
zOj a b:=((c∈a)/\(c∈b))↔(zdp/\(c=zhU))
zQW:=DPut H d se kE H'
zJJ a c:=by rw [ZD,a,Zu];refine (xao.snoc (xao.keep Ca c) ?_)
zIr:=[pd,Ms,Mr,zQ,.int p.lo,zxe]
zGp:=by rw[<- (ask s),e] at z;cases z
zEf a:=(dh,y=(.int i),a,(cu,atI xs i,v),Q v H)
zFg:=(iA (Xw,e,some (.Name x pos')))
zOi:=okP room ss keep nm
zUw:=(RT r H2 hr s2)
zAO b:=P (.done (.ret .none)) { s with heap:=sortedHeap s.heap a vs b }
zAL:=(D0,xu xcz Lp (xag (xa xp (HL xp))) jk,Dc vp xan,xN)
zIq:=(UR,b≠S,b≠I,i4,sV)
zUv:=GPr L0 eR h prs
zCP:=∀ d,((cu od d)->(∃ fs,(dA,d,XD d fs)))
zHm:=Kp.Rch Bh zpX (.out (nm::hs))
zKY:=(iT nm rfl hn true Gu)
zKo:=(zQr,zQu,∀ z∈qJ,ztm)
zGK:=(wj,pt.y,r,-1,rfl,PN,NH zwY)
zKX b:=by obtain ⟨a,dp,ae,pw,b,ps,ss,rfl,h⟩:=h
zMW a:=(zTB,zvC,some (qN,sdF y b),a)
zBg:=∀ vs Z H Q,((t vs Z H Q)->(t vs Z H (λ σ' H'=>Xi)))
zAa a b:=by rw[filter_all,Z9] at ly;refine (fin ys H2 s e ly (λ i y a=>(f i y i a ?_)));rw[filter_all,(Ye (iF b))]
zMV a:=⟨xj,(gS a (Lq,2<=15) ?_)⟩
zUu b c:=⟨λ g a s e=>b,λ a x p=>c⟩
zHL:=(es'.getD j ([],0,.none)).1
zOh:=r.foldl zRX (ziL kvs)
zLK:=∀(a:A0),(ju->(mh->C))
zHl:=∀(a:A0) (b:A1),(jH->(lT->C))
zEu:=∀(a:A0) (b:A1) (c:A2),(j0->(mN->C))
zCO:=∀(a:A0) (b:A1) (c:A2) (d:A3),(jU->(mG->C))
zJI:=(Cr lK)=(du jD Dt jD Eh)
zHK:=by obtain⟨o',E⟩:=(I.base.there b o e y)
zFX:=by rw[runs_snoc];unfold step;rw[H];dsimp only
zJH:=by rw[S,Y];simpa using c
zGo a b:=by rw[xj,a];congr 3;funext nn;dsimp only;by_cases c:(nn=b)
zGJ a:=show (s.heap.IsTuple b w.toArray) from a
zEt:=∀ b o u,((dA b TL)->(cu,H' b,TL))
zCN a:=by have:=(o.all p a);show(dy,this.1,Z3 _ (dO this),Z3 _ (fX this))
zDS a:=by have:=a;unfold xcs;revert this;cases (RS,jD+d)<;>simp
zOg a:=by unfold frs;ext fK JP c a
zJG:=[("holder_of",V.ref d2)]
zAK a:=∀(pins:dJ) (s:Shared) (Z:St) (H:Hp) (D:Ends),(cL->((t D Z H)->a))
zUt a:=∃ i j,((xs=(i8 i j))/\a)
zSx a:=by simp[hn,<- a,w.length]
zEs:=I.kept (t':=s.toks) (yl,y b o zwW e)
zOf:=λ v _=>(v=(.bl true))
zDR:=[d.heap.objs.size+1,d.heap.objs.size]
zJF:=∀ i x Z H,(xY->(Co->zXK))
zMU:=by simp at h1 h2;subst h1;subst h2
zBY:=show (es=ds) by injection ed with z;exact z.symm
zBp a:=∃ p ys,(eX,xs,[pF],(SqL X.K H p ys)\/(SqT X.K H p ys),a)
zUs a:=∃ ob,(a/\(ob.dict=none))
zIp a b:=by obtain ⟨_,_,⟨a,_,c⟩⟩:43:=b;exact c.typeIs
zUr:=["frame",AE,Nr]
zOe:=[zuw,(UP "left"),zdt]
zCM b c:=I.laid (a:=s.heap.objs.size) (o:=b) (t':=s.toks) zuv dF c
zUq a:=looks_findIn (M:=lM) X a
zFW a c d:=∃ i xs H',(dh,Inv HW [] zaC H' a,tn i c,zcH,d)
zDr:=(prs.map (λ p=>((own eS)+(rent dX)))).sum
zSw a:=∀ n∈ns,(((-a)<=n)/\(n<=a))
zSv:=xs[((n-1)-i)]' cm
zAR:=(ZS (sw 45) ((numT w.a)::((numT w.b)::[]))).cps.toList
zEe a b c:=by wp_delta;rw[(show (cu,splitId a,(b, "__length_hint__")) from c)]
zCx a:=by unfold tooLong;rw[List.foldl_toArray];exact (decide_eq_false a)
zOd a:=by rename_i hm;exact ((hm _ (U _ a)).elim)
zBX:=∃ c u,((FM x.cps x.length c)/\(v=(.str qT u)))
zWq a:=by rename_i h1;rw[h1,<- a];exact ra
zKW a:=∀ H' q,(gg->((Bv q a)->(HP q)))
zAV a b c:=∀{ss:a}{ys:cA},((vC ss.length)->(b->(∃ rs:cM,((ys=(rs.map V.ref))/\c))))
zMT:=∀ x∈L,(Bx cQ dY)
zHk a c d e:=∃(v3':V) (U S R:eV),(j7 a (zaX v3' zjw U S R) c d e)
zKn a:=by let M (Z:L2.St) (H1:Hp):Prop:=a;ext sK M
zJe a:=by let Pm (Z:L2.St) (H5:Hp):Prop:=a;ext sK Pm
zEO a:=∀ H' l,(T8,si,(H' l)=(some (.lst a)),l)
zEN a:=∀(ss:cF) (qs:cM),((ss.length=qs.length)->a)
zHj:=bif ac then (mirP eR p) else p
zPx:=names.map (mkPr f)
zSu:=xm5 (K w.params)
zFf:=(cu,PySem.intText? (numT n),iu)
zSt:=(cu,xr1 cs,cv)
zOc:=(N.take P.length)=P
zJd:=by refine (Yi (xc0 I hg hm hv ?_ hn hdb))
zKV:=(J5 X.K (.ref f))=true
zUp:=by exact (Nat.le_add_left 1 zvF)
zJc a b c d:=(dN I.base.keep I.base.slot a I.base.there b c d)
zKm a:=(iy v (iK s.heap.objs.size e) a)
zSs:=Drw.sets zIF FE c
zQV:=(oH,km x hx,fr)
zLJ:=autoParam (x∈zs) vS
zQU:=s∈(xav o7 p.nm)
zKU:=by show ((((GO,! b),r),_)=((zuy,r),_))
zKT a b:=(gq,xcp (xu xhq a ew jk) b (pv 1))
zQT:=xqc I ha (cG d e)
zPw:=XZ/\(i=kvs.length)
zGn:=ta Z H (λ x H1=>(zsE,R x y H2))
zKS:=by rw[l];exact (d.val k)
zWp:=(iA (pJ zaB n))
zEd:=Builtin.List.listSameRef (.ref S) NB
zIo:=f dc y (by simpa using hy)
zSr:=.frz o (.lst xs)
zGI:=(sN (i8,ug cO,(fX cO).2))
zJE a c:=(iD,a,T.c_a,T.r.m,ok_r T,eG,T.r.b,c)
zOb:=λ i=>((yR).1,(dO yR))
zWo:=by rw [(df,Z3 _ d),(df d)]
zFV:=(x'.2-(own a'))-(rent x'.1)
zGH:=(H2 cO)=(some (.tup [mU,jI]))
zMS:=(O7 "seating" pF zER)
zFB:=(lastMarks [op,op'] [b,c])=false
zDq:=by show(cY,len_str gQ ?_);refine (Zb (m:=(asInt? _)) Dw)
zSq:=.hand Em Bu Ed s
zBu a:=(us.length=ps.length)->((bindArgs a zhX)=(pure (ps.zip us)))
zMR:=by intro z;exact (absurd z (g.no n))
zEr a:=(nO,4,pN 5 sc_m.nd,rO (tV (BY jt) a) qU)
zKR:=some (assign zvz X.env)
zEM:=Z1 (Nat.add_le_add_right len 2) cE
zWn:=(qY (vW p hp))
zFe a:=(iD,dU,T.c_a,T.ag.m,ok_ag T,eG,T.ag.b,a)
zUo a:=PE X (.Dict [] [] pos) a
zQS:=a.inj _ _ cm cm e
zOa:=(iw,hb,hk b o hb e)
zFA a c d:=xbo rfl a Xp c G6 uV (λ_ _ _ _ _=>d) (j:=3) rfl Hb
zJb a b:=by ext hF r;show(Og,j4 T a ty,b,λ_ e=>(nomatch e))
zIn a:=λ b ps q=>⟨#[],by rw[a,q];simp⟩
zMQ:=(uP (BK,id,v::us))
zUn:=ZJ C s'.heap h2
zNZ:=(yN,absurd z (D b))
zBz:=SetT knd h2 s.heap.objs.size (xbx ky ad its.size)
zJa:=λ a xs h=>(cK (tW h e) h)
zMP:=xcn xs (more.take i)
zNY:=totI G (prs.take i)
zUm:=(dI P0 P1 P2 C)
zNX:=Mod X.K X.mg X.base
zSp a:=compEnvC scope Lj a X.env
zMO a:=(eqV (.int a) (.int vL))=true
zQR:=by show(dG,its,D,p,hz,I.tuple B)
zSo:=(tR H5 s5 e5 fy)
zLI:=by rw [Gq,xs3] at c;dsimp only at z
zNW:=.hand ztn ztl asked l
zNV:=by ext MC lo hi;ext dy hs h1 h2
zKl:=(Hm,∃ p,(ziK FC p.nm))
zWm:=Dv X.K H n x d
zEc:=s.heap.DictOfH (tupleKind kk) o more
zWl a:=(Hl,ss,s,∃ q,(zY/\a))
zSn:=(zkS CX scope cd)
zUl:=λ r=>(!(gO oW x))
zDc a b:=(zQy a)\/((zQy b)\/(∃ kvs,((IT p)/\(k=(! kvs.isEmpty)))))
zQQ b:=by rw[b];refine (xib (c _ _ zxc zso _ ?_))
zQP:=by rw[Zs,Zs];refine (.cons ?_ ih)
zPv:=by exact (Z0 (show (wO _) from x))
zMN a:=r.drop (HT.sIx xs.length 0 a)
zEq:=h₃.push (iz,"tuple",.seq (#[zxb,x]))
zEb:=xbx (λ i=>(xs.getD i [])) ad xs.length
zMM:=by show (d6,SK++zdR,2);rw[Zr];lia
zBW a b:=by show (d6,a,0*b);rw[Nat.zero_mul];exact (Nat.le_of_eq rfl)
zPu:=by rw [(xi nb),(oH FZ J)];exact FZ
zJD a b c:=(cC,let ⟨dx,e⟩:=g.ins; a,b,g.ho.keep c)
zML a:=(valV a j)=(gH,j,k,some y,zvy)
zSm:=vs=(Cq dH o1 o2)
zSl:=vs=(Cq CI la da)
zKQ:=l.map (λ n=>(k n,f n))
zCL b c:=(mo,R,tl Z H (λ x H1=>(∃ a,(nW/\((∃ xs,b)/\(R c H1))))))
zBf:=by refine (Zo ⟨Code.quiet_builtin _ c9,Y9 F.entry_type_call ?_⟩)
zQO a b:=(Ra ["name", "self"] [1,0] a b)
zHi a c:=xfm a (ok_a3 T) eG rfl c T.a3.b .nil xq mT
zPt a:=(xf0 t H p false n)/\(rR a)
zIm a:=(a<=xs.size)/\((∀ k,((k<a)->(zuD<j)))/\(zHZ a))
zHJ a c:=(cR a FD (rD b zs) (fA (VC zs.length)) c)
zzt:=by refine (Y9 F.xl_entry_dict_loop ?_);rw[(YH F.xl_plain_dict_loop _)];show (wpAny _ A.in1 (Kc>>=_) _ _ s)
zEa:=(nF,xu (xsv (xb0 hr)) zju ew jk,xN)
zIl a:=PI X uK (yD (Rq "items") [] cpos) a
zMK:=[MW,(qN mU),.int jI]
zGm:=(qF,v,0,max (v+iu) 0,min v iu)
zIk:=(names.take dc)=(K2++[nm])
zCK:=(D0,NS Lp xp,xu xcz vp (xag zdr) jk,xN)
zBV b:=(cC (wz zVP) (He,v,∃ p x,(zND (ziF qr) b)) (wz (zoM qr)))
zEL:=by have:(x≠n):=(by ext Of;exact (h v Zm));simp[this]
zDC a b:=by refine a;show(dQ,zVQ,Hq (cG p7 M));show(zQq,(mw,H6,p7,.int 1,b))
zFU:=∀ c,((m' (Drw.mirC w c))=(m c))
zzZ:=["_law_width", "_law_height", "_law_points_here", "_law_seats_here"]
zAC:=["_law_pairs", "_law_height", "_law_across", "_law_down"]
zUk:=xcw (xah cE zyL)
zDp:=by show(AN,cC o e sR,a,m);cases m;show(dy,o,e,dO b)
zWk:=(h9 l1 J l hl)
zUj:=xdh _ (nv x jb)
zPs:=by ext sQ h2;exact (g.iff n x h2)
zKP:=(vg (dY,rimC v kH,zjy))
zWj b:=(vz,compareOp b u dH)
zGl a b:=sp (vK::Go) (upd a x (.ins C dx [])) b (E Z)
zFz:=by show(zDf,(pt.x+1).toNat,(jc,pt.x,0+(-1)))
zCm a b c:=by refine (We F.slot_str_join a F.entry_str_join (F.args_str_join_2 _ _) b c)
zCl a b:=(totI w A)+((xbm w a)+((totI w B)+((xbm w b)+(totI w C))))
zCw a b:=(upI w A)+((uprI w a)+((upI w B)+((uprI w b)+(upI w C))))
zBe:=(mJ L G T.n_bq lkP (oC M kvs U (zag (iF pl.len) ?_)))
zHh:=by rw [fH,e] at c;exact (hM _ i6 (Jx.mpr c))
zNU:=by rw [fH,e] at c;exact (hN _ i6 c)
zIZ a b:=by ext IJ zs a rs s2;show(KM,qs,(cN,s2 _ _ b),Gp)
zKO:=(zxf,FndV H' v Ig,G5)
zBd:=by show(tG,g,ex,sz,f,xis I e hdat);show(mK,M,f1,f2,f3,f4,f5,S it cy)
zSk:=by show(mK,N,M,T,J,G,D,q it cy)
zNT:=putSet_of es' t' hd
zHI:=cellsFrom kh scope.names []
zWi a:=((meet zpY zpZ)=none)↔a
zSj:=by rintro (⟨h,rfl,rfl⟩:43)
zAn:=["_law_point_here", "_law_seats_here", "_law_side", "_law_row"]
zSi:=(eD ?_ FF PJ FF)
zGk a:=(iD,h8,T.c_a,T.n.m,ok_n T,eG,T.n.b,a)
zPr:=(Pb Ds (zur zdw K4))
zIj b:=(zTF,∃ a,(nW/\((IsD H1 a)/\(zsD b))))
zWh:=(dC j d e f b)
zLH a b:=by ext rS v;show(hJ,p,ys,rfl,a,q,h);ext zgZ b r
zWg a b c e:=by ext uN B J G;obtain⟨n,m,d,es,a,b,c,e,q⟩:=h
zFy:=holding [ov] (getMethod ov m pl)
zWf a c f:=by show(cD,o,e,d,T.obj _ _ a b c);exact (dO f)
zIi:=(Ob,storeName X.env x u)
zCJ:=(SJ,Builtin.«list.sort» { pos:=mj },P)
zBo a b:=by obtain⟨its,_,q,_⟩:63:=a;obtain⟨c,_,o,_⟩:63:=b;exact ((xl7 q o).elim)
zUi:=by ext uN f c a;ext lO hs h
zIY a:=(jo l _ (Tn,wV (nE a),xmn R,?_))
zUh:=(zwZ o SL rV Hc)
zFT a:=callWith pos f first (IG pos a) (zKd pos)
zUg:=(zwU I k4 e4 ?_)
zAt:=∃ d ob u,((cu,H2 d,.frz ob u)/\(A5/\(Q v (upd H2 d u))))
zHg a:=(dh,1<=pt.x,a,1<=pt.y,pt.y<=ph)
zSh:=by ext fV q zor Qj q;ext zrK q
zCg a:=xbb P w H (h.push (iz,"dict",.dict (#[]))) h.objs.size a
zHH:=lenI (dk I) pt.x pt.y i3 fW
zKN:=by ext zJr c;show(dy,e2.symm,cm,cm)
zzR a:=by refine (Y9 F.entry_set_update_loop ?_);rw[(YH F.plain_set_update_loop _)];refine (Zb (m:=Kc) a)
zCW:=(q.nm≠p.nm)/\((q.x≠p.x)/\(q.y≠p.y))
zIX a:=by ext IH qa ap;obtain⟨c,l,hc,hq,_⟩:83:=a
zEK:=(zMy s₁ (zj,f v u,Q,s₂))
zMJ:=by show(kq,σ7,C,B,M,E);exact (z B M)
zKk:=CE outer P w H s Q u s'
zFS b:=(zHb,b,shO o1 crowd g,shR r1 asked g)
zzO c:=by show(Ia,(SO c [iH,(cX b),xX,As,(d0 T'),(Af G),zig,UC,(cX lg),zii,(d0,totI C prs),(cX lb)]))
zBc a:=b.congr (λ a' x'=>⟨.inl,λ h=>(h.elim id (λ z=>(nomatch a)))⟩)
zIW:=∀(a:A0),(dI ju mh qZ C)
zFx:=∀(a:A0) (b:A1),(dI jH lT qV C)
zDo:=∀(a:A0) (b:A1) (c:A2),(dI j0 mN rP C)
zBU:=∀(a:A0) (b:A1) (c:A2) (d:A3),(dI jU mG rJ C)
zKM:=by obtain⟨w,j⟩:=(a.there c ob q i)
zPq:=∃ u,((us=[u])/\vi)
zIh:=by obtain⟨_,_,_,q⟩:82:=hs;exact (Yu q)
zDn a:=by show (((Drw.rim v a)=0)\/((Drw.rim v a)=_));unfold Drw.rim;split
zBn a:=by refine (eE its.toList r a ?_);have e:=r.length;simp only[J4] at e;lia
zzE:=∀ b ps,(((H b)=(some (.tbl ps)))->(∃ more,((H' b)=(some (.tbl (ps++more))))))
zDm:=∀ x:Str,(zXQ->((mb x)=(bootBuiltins x)))
zAJ:=by have:(cu,X.env.scope.names.lookup x,.free):=j;ext gm k this
zLG a:=by obtain⟨a,O,r,_,_,_⟩:65:=(xig I.hok e)
zIg a:=∀ p,(((H2 p)=none)->(R (.ref p) a))
zBT:=[V.str "frame",V.str (numT N),V.str (numT h')]
zNS:=[p.x,p.y,p.lo,p.hi]
zKj a:=[a,(VD p.y),(VD p.lo),(VD p.hi)]
zNR:=by obtain⟨cd,b,_,_⟩:63:=c.mro
zzQ:={ E with heap:=E.heap.push (iz,"dict_itemiterator",.fields (zkM zTG M)) }
zIV a:=∀ i x p Z H,(dI xY vO Co (zRT a))
zEJ a:={ heap:=a,gens:=g,drawn:=d,toks:=J,os:=os }
zCV:=∀(j:Nat) (x:V) (d:DV),(Mz xs x ds d zeA)
zzM a b:=∀(j:Nat) (h1:(j<its.toArray.size)) (G:(j<w.toArray.size)),(Z5 A.in1 s (its.toArray[j]) a b)
zEp a:=xih (v:=e.1) (by rw[T.at_,(Zc cm),<- K,a];rfl)
zUf:=by rw[B,xie,<- zwX];unfold xed
zDQ a:=by rename_i met hm;cases (hm.symm.trans (U _ a));simp only[]
zzP:={ D with heap:=D.heap.push (iz,"dict_itemiterator",.fields (zkM Rk P)) }
zAs:=["_law_rows_here", "_law_across", "_law_down", "_law_found"]
zBJ a:=∃ A p1 B p2 C c,(eX prs zMx (cu,canO w ss p1 p2,c) a)
zIU a b:=∃ so' ho',(dh a zaQ (Pd b) (Bl zRV zQx))
zHG a b:=∀ x∈L,(cR,dY≠l2,cQ≠l2,zmM,a,b)
zDl:=∀ n∈names,((n∉crowd)->(Hw<=1200))
zKL a b:=∀ H' d,(T8,d7 d,SD H' d a b,d)
zDB:=(cu (qF,fc,0,none,es[((fc).toNat)]?) en)
zWe a:=(cu,xe2 lens ho zKa,a)
zQN:=I (c.mono more) C
zMI:=(cC,ro,ht _ _ Vl,zjA)
zJC a b c d:=(dM,a,b,SsOk.perm c aa,d,ak,(qY,(j.ok p hp).nm))
zUe:=y S (J.trans I)
zPp:=Inv X pins uS H s'
zDb:=.inr (zbN,J,D,.inr (zGd 1 (tS (cG l2 Y))))
zSg:=(eD w1 w2 h1 h2)
zIT a b:=by exact (call_range_3 cE (xlq y a b q) (Yt (W9 cE)))
zWd a:=(dN _ _ rfl rfl _ a ?_)
zAj a:=(GvF (UN a) names' (λ n=>zgy))/\((xdq (UN a) names' (λ n=>zgy))=(xdq o7 names f))
zUd:=PG X Lo (xdb i)
zEI:=(p1.1,p2.2)::(B++((p2.1,p1.2)::C))
zSf:=(oU P0 P1 P2 P3)
zIS:=kvs.map (λ kv=>(zfz,kv.2))
zJB:=live.map (λ B=>(B.1,zpW))
zAv a b:=by ext kW;show(jR,forIn c _ _);rw[<- Zan];refine (QK _ (λ rest r s'=>a) _ ?_ ?_ _ _ b)
zEo:=by show(Fo,p,b,List.mem_flatMap.mp b);ext yH c zhY
zUc:=.ask LH zXM i jQ
zDk a c:=pC (ok_al T) hr T.al.g T.al.F.kp T.al.b (f8 a (gP c))
zQM:=(tR H1 s1 el1 f1)
zBa:=(HM { s with heap:=h',gens:=g',drawn:=d',toks:=t' })
zFR:=.FormattedValue e (-1) none pos
zSe a:=(.str (frT w h))::(itV a)
zGG:=xmf lens own rent asked crowd
zHF a:=IsEnum a kh s.heap.objs.size 1 .none
zGF b c:=by have e:b:=x;show (cu,h'.get? a,c);exact (k a _ jF e)
zUb:=(yk H9 U Kk kE)
zUa:=J.yld i H2 v H3
zPo a:=by refine(dW iN (fL p) (fL s) a (jN s))
zBI:=by show(AO,(zbN,J,D,.inl (zbN,J,D,.inl (zGd,-1,NH (cG l2 Y)))))
zGj a:=by exact(dW o.nm a sR b.2 (eD o.x1 o.x2 o.y1 o.y2))
zMH:=(gs,ne c _ q zoH,q)
zJA a:=(By pz aL aB T.c_c T.n_bv lkZs a)
zEH:=(Vq,near KI o1 r1 asked crowd,b)
zAQ:=(GK,(g PK i)=(zxA,i=m,k,(zxA,(m<i)/\(i<=k),i-1,VX)))
zCH:=(DW S U (oE (Ab,pO 0 U S,pO 1 U S)) 2)
zTZ:=.go Em Bu Ed LH
zNQ:=by subst c;rw[(df zhV),fH,(dz nb)]
zFd:=by rw [(Sj,show ((ro,kO)∈ss) from L),Qv] at c
zFQ:=(eJ,ifP (decide_eq_true hd) ?_)
zBS:=pC (xk8 T) hr T.B_qe.g T.B_qe.F.kp T.B_qe.b pG
zEG b c:=by have G:zKb:=b;exact (xfp I zP hs G (xo2 x B (d.put k rv) c))
zBt:=pC (xel T) hr T.B_cm.g T.B_cm.F.kp T.B_cm.b (lC 2)
zSd:=by show(hJ,i,j,rfl,rfl,q,xsn h)
zKi a:=(vv nm (tS R) (vv r8 (Dj x1) a))
zFc:=(eA,(V.int (c0 % 2))=(V.int 1))
zKK c d:=by show(eO,Zq,xk9 (k:=(λ x=>c)) iN (λ a b e=>cm) d)
zBs:=(sO zbW (eJ,ifP jk (iZ l 4 zQ (wb (cN z) rfl ?_))))
zTY:=by show(sJ,R,b,a,U b (nT q))
zMG:=vs=[dH,xT,lu,.int r]
zEF a:=(uX,xF "_law_pair" zjU s_ax,x9 (pv 3),a)
zAN a:=by show(ie,(O3,kvs.length,i<=kvs.length),LI kvs.length);show(zlC,a,a,kvs.length)
zAo:=(zII "_law_width" "_law_points_here" "_law_pairs" "_law_steps")
zPn:=by cases e2;show(dy,ob,g,dO ex)
zBR:=["self", "name", "askers", "asked_by", "seat"]
zGE a b d:=(dN,65,_,rfl,λ c u n1 n2 n3 e=>(gs a b),d,?_,?_)
zSc a:=by exact (no d a (of_decide_eq_true z))
zEn:=valV (l.map (λ n=>(k n,f n))) (k a)
zPm:=x.above y c (Yd h)
zJz:=G.heap.push (xm7 z J zVR)
zFb a c:=(iD,Op a,T.c_e,T.B_w.m,ok_w T,eG,T.B_w.b,c)
zCv:=by intro X hP S hK hc i A s Z H E I hf st Y;subst hP S hK
zBQ:=by intro X hP hw hK hc i Q s Z H E I hf st hg;subst hP hw hK
zCu:=(iD,dU,T.c_c,T.ae.m,ok_ae T,eG,T.ae.b,xK)
zDP a:=xck YZ PySem.F.slot_str_join WI xq5 xan (gP a)
zIR:=(um,dEq (.str a) NA,mx)
zIQ:=by rw [(Zp.mp hs)];show(cU,(hO,G8<=wm),SI)
zFP:=by subst ey eH;show(uZ,z,B,vs,d,C,xj6 I.hok e)
zBm:=by subst ey eH;show(US,u=(Zw b),ry);show(uZ,z,B,xs,d,C,xkz I.hok e)
zFw:=[zij,(cX la),(cX G),(d0 g),v4,v5]
zDO:=[(cX p),(cX d3),(cX q0),some L,v4,v5]
zTX:=by show(zDf,(jc,z+2,pt.x),zmX)
zCG:=(zdT+(iW y1 r1))+((acr w x2 b2)+(iW y2 r2))
zCF:=((acr w x1 b2)+(iW y1 r2))+(zdS+(iW y2 r1))
zQL:=by show(mK,S,R,f2,Q,O,N,A it cy)
zBH:=(mJ L G T.n_bq lkP (zbL M none zET (tE zic U) Gu))
zzV:=by show(cD,vs,m,da,xky I e hep);show(mK,R,f1,f2,f3,f4,f5,hf it cy);show(Pj,Q,m.length)
zzN:=by show(zkX,(fG,xs,xs[i],q,gK hlt),b);ext rQ y y;ext eQ;exact (hs i x Z _ (y xs q) p)
zzT:=by obtain⟨fs,y⟩:=(hd d e);obtain⟨_,_,⟨o,_,_,go,_⟩,_⟩:=(xyj I y);ext cU o go
zAp a:=by have r:=(m.rm n s e);exact (ZN.mpr ⟨hr n s r,JW.mpr (cC,n,a,decide_eq_true r)⟩)
zHE a b:=by obtain ⟨kz,Y,_⟩:62:=a;rw[<- b,hl] at Y;cases Y
zLF:=["point",nm,r8,r6,sd]
zSb:=ZX lt (ZK hn cE)
zKJ b:=EE/\(cR zFM zRU names.Nodup Bt b)
zTV:=by show(dG,its,R,p,U,I.list N)
zDA b:=by ext mz;ext zjH;have J:=(a7 _ pm);show(cB,ac,b,G,s8.trans s9)
zTU a:=(eX,r.1,none,s'=s,a)
zKh a b c d e:=(DS,yc "at" a b zzx s_ay,xmq rfl T.n_range c,d,e)
zJy:=Geo.cells C D.x D.y X r2
zQK a b c d:=⟨126,crowd,al,asked,_,C,a,rfl,b,c,d⟩
zzU:=by ext AT A zuu Zr ZI;show(MC,j,al.length);rw[(J8 (Zj _)),Nat.sub_self] at e;cases e
zLE a:=wk.frame _ s2 _ _ D (JV _ _) a
zyS b c d:=by show(zjW,true);show(GC,⟨tX,rfl,zyC,fb,a,dp,S,z,ph,ps,nm,pt,rfl,zyA,hn,hf,λ H2 q2 s2 X=>(fU q2 X)⟩,rF dx zpk (znX true),b,c);ext zkf d;show(zS,J,id U);show(cI,D,(cu,H4 p,znx t.C_q),pX hs,aa,xf0 t H4 p true z,zxa)
zPl a:=(zVO,kf,x,x=(.int a),n<=i)
zDj:=(eT 124 q qs s l z1 (sM z2) (sM z3) z4)
zCf a b c:=(kc,ho f s2 Z H2 x y v u _ I2 r1 r2 q2,d,a,z,b,j,c,Od k e i)
zEm:=⟨VW,(d9,k,xs,K1,q,h _ _ kY ?_)⟩
zHD:=PassesOwn qj X.A X.env X.xe
zHC:=xmc D st p.isList p2.isList
zTT:=at2 dEq ds es j
zIf:=∀(a:A0),(oU ju mh qZ A4)
zFa:=∃(a:A0) (b:A1),(dh jH lT qV yh)
zEZ:=∀(a:A0) (b:A1),(oU jH lT qV yh)
zDa:=∀(a:A0) (b:A1) (c:A2),(oU j0 mN rP zZ)
zBG:=∀(a:A0) (b:A1) (c:A2) (d:A3),(oU jU mG rJ zK)
zQJ:=(L2.upd H p o)=H'
zHf:=by rw[rs];simp only[Zr,ZI] at this ⊢;lia
zDN:=by obtain⟨_,_,⟨_,_,o,_,_,e,_⟩⟩:43:=x;ext vU
zDi a:=by have ol:=((a).2);show(Hd,nl,Ha,ps.length,by unfold xat;rw[Za])
zIP a c:=by refine (xxx (i:=a) (j:=2) (b:=b) (w:=v) rfl rfl c)
zCt:=∀ p∈Nu,((cO<=dX)/\((cO∈R)/\(dX∈R)))
zAZ a b:=∀ whole,(a=(do let v <- whole; (standAt b); (holding [v] (truthy v))))
zGi:=∃ xs,(EZ/\(h.DictOfH zoq a xs))
zSa:=by intro own2 rent2 so2 ho2 r2
zTS:=by unfold mroIn;rw[f,Wu,zus,a]
zGh d:=fun⟨1043,a,b,c⟩=>(cC,a,b,λ j hj=>d)
zTR:=[z,TI,TO,i1,i2]
zGg:=[zij,zvC,(cX U),(cX da),(cX qs)]
zLD a b:=by obtain⟨⟨old,a⟩,⟨o1,b,c1,d1⟩⟩:=st
zCs:=λ_ _ _ _ _ ⟨1042,(hZ st),_⟩ h=>(Wl st h)
zBP b:=∀ H',(dI,UM do_,vd H' pw ph ps,Sts H' do_ b,tw)
zEl:=∀(i:Nat) (a:α),(zxd->((p i)=(q a)))
zBy:=∀ e∈L,(∃ k' b,(eX Nz (ztB k') zst (xH k' b)))
zHB a:=by rintro ⟨r1,r2⟩ s' ⟨a,rfl,_⟩;simp only at a
zzJ a b c:=∃(i:Nat) (crowd:cH) (al:cF) (asked:cP) (v6 v7:eV),(j7,a+i,13,i<=crowd.length,b,zCb 0 c)
zzG a:=∃(crowd:cH) (al:cF) (asked:cP) (o1:eF) (r1:eB) (g:Int) (b:Str) (s:Seat) (qs:Addr),a
zzI a:=∀{L:E0}{m:gG},((∀ c s,(zto->(P s)))->((∀ x∈L,(P eP))->(∀ c s,((cu a s)->(P s)))))
zJx a b c:=by rintro i Z a _ (⟨_,_,_,_,rfl,b,_⟩:123);ext qS c
zMF a b c:=by rintro i Z a _ (⟨_,_,_,rfl,b⟩:102);ext qS c
zEE a b:=a/\((dh,(-kG)<=i,i<kG,(-kG)<=j,j<kG)/\b)
zME:=B.free y (B.ysf y K)
zRZ:=PG K5 Lo (xdb i)
zPk:=λ z=>(h _ No _ cy z)
zTQ:=itV (xft L R i)
zGf:=(dI P0 P1 P2 (oU P3 P4 P5 P6))
zWc a:=(jo a v (dC G S N j I))
zNO a b:=xk (xp3 pH eZ a gM b (by ext ng))
zED a:=by refine (wpAny_Call_method_late hbase hfew hline rfl a)
zEY:=by show(o9,j,a,b,xgg ky ad i x h);ext dy j cm b
zBF:=x9 (pC (ok_a5 T) hr T.a5.g T.a5.F.kp T.a5.b pG)
zJw:=(gE ys H5 s5 el5 ly5 f5)
zJv:=(gE ys H3 s3 el3 ly3 f3)
zKg:=.ins C dx (putF f y fs)
zDZ b c d:=by intro j s Z H v u Q I r q;obtain⟨a,xs,b,c,d,q⟩:=q;subst b;cases r
zAU a:=wpAny qj X.A (pyIter (.ref s.heap.objs.size)) zRR E (yS (Rp a))
zDM b:=(rF,G,C _ _ (y _ _ D),jo b z (dC p R M j I))
zAI a b c:=by ext DD B;refine (wpAny_Call_method0_late hbase hline (GJ (zy B) a b c q1));ext zLw q1
zQI:=Inv zgx pins Z H s
zKI a:=tSeq t2 (pj t3 t4 (pj t5 t6 a))
zQH a b:=by rintro a rest r s' (⟨b,rfl,hall⟩:43)
zKH:=O _ _ a0 (J _ _ aq al)
zEX a b d:=by have e:((inV (.int a) (xff R))=(decide b)):=d;refine (ite2 mX mX)
zQG a b:=by show(w4,k',e',l',id a);ext ku b e' l'
zLC:=G _ _ (k c u nc nd e)
zAr:=xbk (xbq xcg ew xcm C8) (xgr rfl (mC 2 sc_am.nd 3 sc_am.nd))
zMD:=P0->(oU P1 P2 P3 P4)
zBB:=by have I:Aq:=(mZ,k c u (xh e ay) (ao _ _ e));have C:=(kI I D)
zGD:=by exact(d9 so0 ho0 q l (uu,Z3 _ (j z hz)))
zAm d e:=by show(cI,c,ou op CmpOp.In,d,a,ou op CmpOp.NotIn,e);cases b<;>first|rfl|(show (_&&(_||_)&&_)=_;rw[c,a];simp)
zHe:=h x _ m ⟨p,xj⟩ (xye m j)
zzl:=by show(GA,j,List.getElem?_of_mem hz);have lt:(j<es.length):=(hV,hl,(Zk.mp c).1);exact(d9,j,es[j],c,mf,k j z _ c mf)
zHA:=(nh,84,vP,n,xo0 M,cm,q _ X)
zDY a b:=(ET,a,IsRangeIter h it (lo+((i:Nat)*b)) (iu-(i:Nat)) b)
zLB:=(Ef (LP H a) a zsp iR)
zIO a:=by show(NY,a,hG l cm lo (λ j d b=>(hi j cm b)))
zBx:=(CY,pC (ok_bo T) hr T.bo.g T.bo.F.kp T.bo.b mT)
zGC a b c:=(M0 [mV,(Af u),zig,a] J (cu,J b,.lst (GV c)))
zPj a:=(Lr,λ c u nc nd e=>a,?_,?_)
zNN e:=(kM (BN a) v f x d c r1 b e)
zMC a:=y.kept D ak (xeu R.lt) pm O a
zAc:=by rw[(decide_eq_true c)];show(Sn,Bool.and_self);exact (Zo (yes (lv,_,Zn le,b,c▸G)))
zCr:=by intro X hP Y hK hc i B s Z H E I O st hg;subst hP Y hK
zAH:=ItemsOf (λ i v=>(FM items items.size v)) acc' items.size
zWb d:=λ x b c H Q=>(∃ a xs,d)
zLA b c:=(dN 65 _ b (eE _ xj ?_ nY) zMw c zBO)
zBk c:=by ext sC a;refine (wpAny_execs_cons (thn (h1 a s Z H c I h) (c8 f b q)))
zBw a b:=(dL ["self", "askers", "asked_by", "gap", "asker", "seat"] a b)
zAi a:=forIn ifs true (λ c r=>(if (r=true) then do let ok <- a; (GL ok) else (GL r)))
zNM a b:=let ⟨l,h1,h2⟩:=a; (cC l b h2)
zCU:=(v=r)/\(wR,ur u x,(x<=u)/\(u<=(w+1)))
zAh:=by ext T6 X;show(xO,wpAny_eqBool_tuple hu G hk ?_);ext zuM hf;by_cases c:(k'=k)
zJu:=Fit o7 ns so ho own rent
zzY:=xck YZ PySem.F.slot_str_split PySem.F.type_str_split xov dU (gP xan)
zPi:=by show(qL,kvs,e,r,s,kvs,h _ e,r)
zIN b c:=by obtain ⟨a,dp,b,l,c,ph,ps,ss,prs,qs,rfl,h⟩:=h
zAl:=by show(cD,vs,j,U,xky I e hep);show(mK,S,R,f2,O,N,M,C it cy);show(Pj,B,j.length)
zCe a g:=by show(cI,c,rp=k,d.symm.trans e,b,cu a q.2,UA g c);ext fK Hv b f
zAM:=λ i h h' ⟨1081,ok,ov,st⟩ k=>(cC,ok,ov,k it cy _ st)
zBE:=by show(tG,g,R,sz,f,xis I e hdat);show(mK,O,N,f2,M,L,J,p it cy)
zPh:=Five z TI TO i1 i2
zWa a b:=compPost qj X.A X.xe U R a b
zRY a b c d e f:=⟨I.ok,I.os,I.bare,a,b,c,I.free,I.freeC,d,e,f⟩
zFv:=by have e':=FZ;show(fK,tW e' TN,oH e' J,e')
zzi a b:=by refine (zMz (gS,v,.inl ⟨k1,.inl J⟩,kL a b));show(dQ,zMz (oC v H2 ao ?_),By p C aa T.c_p T.n_br lkHo (oC D H3 am ?_))
zGB:=pS 4 sc_am.nd (xcp zVV vp xan)
zCT a:=by show(dZ,kt,Tups H8 (yk,H8,l,v.map V.ref,.ref qa),zrL M,a)
zzk:=by ext dP e b b;rw[d] at d';injection d' with d1 _;have:(its=its'):=(zA (AM Array.toList d1));ext yp;exact (r.inj c)
zIe a c:=by obtain⟨l,b,xs,zs,rfl,rfl,a,c,hz,q⟩:=h;cases B
zPf a:=⟨(fJ oc od kV doc a),k⟩
zQF:=xt9 r r' ta tb tc
zEC:=∀(a:A0),(ju->(oU,mh,qZ,A4,P4 a))
zDL:=∀(a:A0) (b:A1),(jH->(oU lT qV yh NG))
zCk:=∀(a:A0) (b:A1) (c:A2),(j0->(oU mN rP zZ Mv))
zBj:=∀(a:A0) (b:A1) (c:A2) (d:A3),(jU->(oU mG rJ zK LK))
zAy a:=by subst hj;ext dP hi G G;show(dP,List.getElem?_set_self T,e2,e2);ext dy u r a
zAY:={ s with heap:=s.heap.push (xm7 x t ze),toks:=F1+1 }
zzy a:=by rw[<- List.map_reverse];refine (QM cy (c8 j b f));have d:(j<a):=PL;rw[JL,JL,Qy,List.getElem_reverse,Qy]
zzX:=∀ v u s2 x y H2,(eC,rX H2 s2,xM,jY,R x y H2,(zj,f v u,Q,s2))
zEW a b:=xga (s:=a) (n:="range_iterator") j rfl rfl cE b
zCS a:=∃ od,(a/\(∀ name,((WS name od)=(some (mA name)))))
zzW:=by simp only[sliceBounds,HT.sIx,Option.getD_none,(BO,G8>0),if_true];by_cases h:(i<0)
zAP:=by obtain⟨_,_,⟨_,_,o,_,_,e,b,_⟩⟩:43:=(uy p hk);ext dy o e b
zAG:=λ_ _ _ _ _ ⟨1081,ok,ov,st⟩ h=>(PySem.W.kcp_self st h)
zTP a:=by obtain ⟨a1,a2,a3,a4,a5⟩:45:=a
zNL a b c:=λ i h h' ⟨1042,⟨old,a⟩,b⟩ k=>c
zzH a b c:=by unfold Builtin.List.listLengthHint;ext F3 a b;show(rT,specialOf (Zw I) (Zg "__length_hint__"));ext F3 a c
zCZ:=∀ a∈l,(∀ c,((at_ (φ c) (f' a))=zup))
zGe b:=xm6 hi (xm6 hj (jo b w (dC p o d a c)))
zzj:=(cR,(cu,s.heap.get? cO,dX),d7 cO,cO≠X.env.locals,cO∉X.fs,∀ v,(((dX).data)≠(.cell v)))
zEV:=by show(eW,nd_map (iX a b) o.1,js (dO o),FF)
zQE a b:=λ h' m x e=>(D its c hz h' m a b)
zDz:=FnOk q0 P w K mg base zil fC f fd ps sp
zzh a:=by show(dZ,y,(w m.heap.objs.size)=none,v.hok.fresh (Zj _),(gZ,.ref m.heap.objs.size,a,v.laid (t':=m.toks) (iI AG) dF ?_,q _ y))
zNK:=(gE k b hk eb z hz)
zNJ:=(gE j y v' G e2 e3)
zCd:=(ji t (NQ,.str ((cO).1),.str (dO cO),rZ,mU,jI))
zzq:=by refine (wpAny_raiseNew_none hA ?_);show(cY,YM MV WR (Zo (h _ (iw u ?_))));refine zhW;show(mq,JM _ _ (Z2 u))
zAT:=Jb name qual params body scope dV kV doc pm an cdv ct
zAB:=Pz t H pz a dl d_o d_r p d1 d2 n ns srt o7 so ho own rent
zFu:=(met mask mW 0 0)=(0,(2 ^ mW)-1)
zDy a:=by show(ld,o2,g2,c2,d2,id a,(eJ,xga (s:=kR) g2 c2 d2 cE ?_))
zFt:=by have q:=(I.base.frzs d o' u' z);ext gm e q
zQD:=by show(mK,U,S,f2,R,Q,O,C it cy)
zId a b:=by ext wK;obtain⟨⟨a,ne,ok,len⟩,q⟩:=h;refine b
zIc:=P0->(P1->(oU P2 P3 P4 P5))
zzn:=(nO,1,pN 3 sc_ba.nd,(oB,xck ZV PySem.F.slot_list_extend PySem.F.type_list_extend xmb hB Nq))
zDh:=(c'.quiet=true)/\(codeAny lM A c' R s')
zVZ a b:=by obtain⟨p,xs,i,z,rfl,rfl,a,b,q⟩:=h
zHz:=xny wi zs.length g fr tc te
zAS b:=(zqW (RD,X,N,l1,cm,iteF (zqW (eT b X N rfl cm cm true rfl Gu))))
zVY a b:=ho c d Z l x y v u Q j a b q
zAX:=(((hU Bj) == 0)&&(G8 == 1))&&((DU-Bj) == items.size)
zFs a b:=by show(mK,Q,O,f2,N,M,J,y it cy);have e:(a=b):=cm;rw[e] at st
zzK a b:=by refine (xd0 (cN a) qi b (nmEq ps eS) (Dk (zEy (dS ps z))) (zCR z) (RT y H7 hy s7) (tR H7 s7 e7 f7))
zGA:=by ext zuq ag N;show(dG,aa,R,p2,af,I.list M)
zDX a:=by show(GD,i,t,rfl,z);exact (λ A Q E s _ q=>(YU (T:=a) rfl q))
zIb a b c:=by obtain⟨prs,L,rfl,a,ep,eL,hL⟩:85:=(xjr (tgt:=b) c fy)
zzg:=by show(ID,J7 st.typeIs Yw ?_);refine (Jv Yw st.typeIs F.entry_dict_keyiterator_next ?_ (F.args_dict_keyiterator_next_1 _))
zza b c:=by obtain⟨o,j,b,c⟩:=(id hit);show(ID,J7 (name:=zsq) hit.ty xhw (Jv xhw hit.ty xvi ?_ (xt1 _)));unfold Builtin.«reversed.__next__»;show(zee,(Zw I,[]),rfl)
zHd:=by obtain⟨hz,A,⟨a,c,C⟩,Y,U⟩:45:=V1
zzs:=xfr (mO,jL,T.c_q,T.B_as.m,ok_as T,eG,T.B_as.b) (mO,jL,T.c_e,T.ap.m,ok_ap T,eG,T.ap.b)
zAF a b:=(zEi,yc "row" "rows" 0 zlK s_bi,zfA,xu (r:=(rIn K true)) xcz a ew jk,b)
zEj:=⟨f,h c _ Z z _ Q (w.tok _) f p⟩
zTO:=hG m p x cm a u
zIM:=y.to pok pok' ms nin pm g
zCj:=∀(a:A0),(ju->(mh->(oU,qZ,A4,P4 a,P5 a)))
zBv:=∀(a:A0) (b:A1),(jH->(lT->(oU,qV,yh,NG,P5 a b)))
zBr:=∀(a:A0) (b:A1) (c:A2),(j0->(mN->(oU rP zZ Mv zyH)))
zAA:=∀(a:A0) (b:A1) (c:A2) (d:A3),(jU->(mG->(oU rJ zK LK zvH)))
zyX:=["enumerate", "zip", "dict_itemiterator", "dict_reverseitemiterator", "odict_iterator", "itertools.zip_longest", "itertools.pairwise"]
zzm a c:=by obtain⟨_,l,⟨a,_,j⟩⟩:43:=c;show(eW,j.typeIs,qb q,l);cases q;obtain⟨ob,_,_,n,m,_⟩:103:=j;show(dy,ob,n,dO m)
zCc a:=(dW,jM,beq_eq_false_iff_ne.mpr (Z2 (ZM hb)),[],.nil,a)
zFr:=(xni scope sc0 N0 zs ys fr)=true
zBi a b c d:=(dN,let ⟨dx,a⟩:=p.ins; b,let ⟨c,a,q⟩:=p.pl; d,p.w1,p.w2,p.h1,p.h2,p.len)
zQC a b:=xqg (xhh a b (xhh b a xqk)) rfl rfl cy cE
zMB a:=by show(fO,o,g,T.obj 0 _ Y b D);exact (Z0 a)
zBD:=xnp T.k_p (ok_aq T) eG rfl T.g_p T.aq.b .nil xq
zFq a b:=PE X (yD (Rq m) a pos) (xm3 C m sp dvs E ta b)
zAe a:=by ext gz j;refine (wpAny_Call_method m.base m.few m.line YN Y6 PySem.F.type_dict_get a)
zAz:=by rw[(QT (Z2 hj))] at e2;show(cD,u',r',q,hl j y v' G e2 e3);ext ie u' r'
zNI a b:=λ us m ⟨1084,xs,w,v,r,z,a⟩=>b
zEB:=[iH,mV,(cX J),As,some vf,v5,v6,v7]
zzc:=xbk (xcp zVV (xbq xcg ew C8 xcm) (xag (HL xa5))) (xx3 (oE (mC 5 sc_am.nd 6 sc_am.nd)) (xgr rfl (mC 5 sc_am.nd 6 sc_am.nd)))
zNH a b:=λ H' a' a b s5 f1 f2 f3 ag ak=>?_
zzf a b:=by show(o9,z,M,C,xlf r w a);obtain⟨j,e,_,_,D⟩:83:=(get z M);show(fK,xr2 C,xks I D,(xm9 I D b (A:=X.A.in1) (hO,((zuz+m)+n)<cLine) C J).1)
zIL:=λ A i s Q E st h=>(WX st h)
zIK:=λ i H2 lt s N M h1 h2=>?_
zPe a b:=.FunctionDef _ a b _ _ _ _ _ _ _
zHy:=by ext zeQ O C D;show(cD,p,Y,hq,J.get D)
zzD:=(DS,xF "word" zES s_ba,x9 zbi,pC (ok_bn T) hr T.bn.g T.bn.F.kp T.bn.b pG,1)
zyT c d e f:=c\/(∃(qs:Addr) (s:Seat) (a:Str) (so1:dD) (ho1:cP) (n1:Nat),(ma,jv L qs,d,uT,e,Kp.Hand room (λ z=>ztq) so1 ho1 s,∀ b,(((G b)<=(G a))->((so1 b)=(j b))),f,(n1+(G a))<=(n+20),Kp.Rch zRV zQx zdq))
zCE:=by rw [JX];show(eW,L,Wz _ _,fM s hs s' ab);rw[(Zp.mp ab)]
zzb:=by rw [(show ((its.toArray.any (eU zcG))=(its.any (eU zcG))) by simp),(xnn r),(xpc (g:=(λ z=>(dEq z d))) hl (λ j z e g1 g2=>(xks I (k j z e g1 g2))))];exact q
zzo b:=⟨86, "dict", "dict.items",YN,Q2,PySem.F.type_dict_items,b,(cG a e2),Y0 rfl (PySem.evalArgs_none ?_)⟩
zAb:=(gq,pC (ok_t T) hr T.B_t.g T.B_t.F.kp T.B_t.b (xa eZ (xa eZ xK)))
zBh:=by show(kq,σ3,j,C,y,m);show(qL,z,B,u,E σ3 j y,z,B,fG σ3 j C u)
zzF a b:=xm3 a (Zg "rim") b [] zbF (xna (xjz t) [] zbF (xiu (tVar i) (xiu (tVar j) tNil))) tNil Z H Q
zAu a:=[(cX z),(tD nm),(d0 x),(d0 y),(d0 mY),(tD C),(d0 SH),a,(d0,J % 3)]
zzL:=Kp.Rch (xe2 KI ho) (.go (setI G pt.nm 0) X im zia) (.go o1 r1 asked crowd)
zAx:=by show(cI,S,its.toArray.size=ds.length,kS,Y,w.toArray.size=es.length,kS)
zyR:=by show(cY,JI C B ?_);show(cY,Jn C B ?_);ext kW;rw[Std.Legacy.Range.forIn_eq_forIn_range'];simp only[Std.Legacy.Range.size,Nat.sub_zero,Nat.add_sub_cancel,Nat.div_one];exact (T _ (λ h' a b=>(Zo (hQ h' a b))))
zKf a:=λ i x ys H3 a s3 el3 f3 N hN=>?_
zDx:=by intro X J D L hc i m s Z H E I C st G;subst J D L
zDw:=by intro X U O Y hc i m s Z H E I S st R;subst U O Y
zDK:=by intro X D B G T i f s Z H E I y st C;subst D B G
zDJ:=by intro X J D M T i f s Z H E I A st G;subst J D M
zzw:=by show(zkX,(fG,xs,xs[i],q,gK hlt),c);show(nU,r,b,w,rfl,j,rfl,y);exact (hs i b r Z H (w _ q) j p)
zCq:=by ext uN j f z;obtain⟨p,xs,rfl,c,m,fs,q⟩:=h;cases z
zAE a:=by show(kq,i,j,rfl,q,h);obtain⟨u,a,rfl,⟨t,rfl⟩,⟨t',rfl⟩⟩:83:=(xku r)
zzu b:=by ext gz c;show(oJ,zef c,(kU b d y r q f j (kc,ho c d Z r _ q j,u,s2,x,H2,I2,rx,dW a ov ex g q2)))
zzC a:=by rintro i v Z _ S (⟨O,rfl,rfl⟩:62);rw[Zf] at S;ext qw o U S;show(ld,p,m1,m2,m3,L o (Zn U),a)
zVX h:=by obtain⟨a,b,c,d,e,f,g,i,j⟩:=h
zAd:=∀ H' qs,(oz,∀ c u,(zvv d_o d_r zjz RC),zvx,Ot H' Em Bu,zVN,qs)
zBq:=by ext eQ;rw[fH] at q;show(cW,df cy,xn4 xs ys _ _ dc lE r r' q)
zyU:=(gS l (hZ (cN C)) (zbZ,D.map V.ref,λ i Z H3=>(∃ O:eV,((Z=[iH,(tD nm),(d0 x),(d0 y),mV,O])/\(M=H3))),FY,λ_ _ _ _ ⟨_,_,z⟩=>(by rw[<- z];ext qS C)))
zDv:=by intro X D B G hc i j s Z H E I p st C;subst D B G
zzr a:=by ext gz c;ext zPb;refine (Zaj (h₀:=X.base) I.ok.mod.kin a (kM (Ly pos c) us u vs z j r q (jl j.kIn)) he hpl)
zDI:=by intro X B y C O i f s Z H E I q st A;subst B y C
zDH:=by intro X M J N Y i f s Z H E I C st L;subst M J N
zIJ a c:=⟨b,U,Y,C,h',_,ss',srt',rfl,a,ai,c⟩
zzp:=by show(eW,uY C,tz,cG qa ac);generalize D:(tH I qa lu wm)=H8;show(KO,R,ac,D,g8,M,R _ _ C);refine(P8 l M)
zzz:=(dN (TK P hx) (TK P hx) I.base.free (ziG hx) I.base.tups I.base.frzs I.base.tbls)
zyY:=l.map (λ(m,k)=>(if (((k == Zah)&&(env.scope.kind == .function))&&((env.kindOf m) == (some .cell))) then (m,NameKind.cell) else (m,k)))
zKG a:=xkr hc B hi hg gok hif he I h a
zCi:=by intro X hP hw hK Y i B s Z H E I U st hg;subst hP hw hK
zAg:=by intro X A q B y i c s Z H E I l st x;subst A q B;show(mK,L,J,Q,G,D,C,l it cy)
zAf:=by intro X B x C A i c s Z H E I q st y;subst B x C;show(mK,M,L,R,J,G,D,q it cy)
zAD b c d:=by ext zle ad;show(dQ,b,⟨tX,rfl,hp,fb,a,dp,ae,pw,c,ps,rfl,ad,(gE H1 l1 qs s1 d af)⟩)
zCh a b:=by obtain⟨z,y,⟨a,r,ob,es,A,e,c⟩⟩:43:=x;exact(dW z y a b (zwT ob wY))
zyP:=by rw[(decide_eq_false c)];ext y9 Wg;rw[sm];ext KN;ext T6 liv;ext T6 X;refine (Zb (wpAny_isSame_ref_self ?_));ext zp;ext KN;exact (xnj T ho hd hf hu hk keys he hn0 yes no fuel nI (some (toP (way t.mask oZ nI))) cm cm rfl (N c))
zyO:=∀ H' own' rent' so' ho' asked s,((F5 H H' dl d_o d_r d1 d2)->(eC,Pz t H' pz a dl d_o d_r p d1 d2 (n+30) qJ srt o7 so' ho' own' rent',(zRQ,xe2 o7 ho),(Bl,Kp.kstep zQu so ho,zvw),Fit o7 qJ so' ho' own' rent',tw))
zyQ:=by show(tL,x,hx,M,xir r1 h1,y,hy,C,xir r2 G);show(cI,Q,j<ds.length,Ad h1,P,j<es.length,Ad G);show(cW,xkf (Zc Q) (Zc P),(ih j x _ hx (Zc Q) (k j y _ hy (Zc P)) (A:=A.in1) (hO,(((A.units+1)+n)+m)<cLine) M C).1)
zzA:=⟨a,L,_,rfl,G,fb,a,M,R,pw,N,ps,nm,x,y,rfl,I,λ p G _=>((no p G).2),(cG H1 s1)⟩
zzd:=by show(oJ,BP pins,kU v c x H1 l r1 i ?_);show(oJ,hb pins c Z H1 _ l i,kU u s2 y H2 j r2 d ?_);exact (hf v u s2 x y H2 j r1 r2 d)
zAq:=⟨a,L,_,rfl,G,fb,a,M,R,pw,N,ps,x,y,rfl,I,x1,x2,y1,y2,?_⟩
zHx a b:=by rintro a s Z H x y u v Q I b c ⟨i,j,rfl,rfl,q⟩
zBA a b c d:=by rintro i v Z a hv (⟨v5,Y,X,U,⟨R,J,I,G,rfl,b,c,d⟩⟩:121);ext FI hv z hz
zyZ:=by show(cB,J,a7 _ pm,a0,zNF);show(vM,aM,aw,D,⟨a',aM,_,rfl,aw,fb,a',ah,ai,_,_,zqM,zds,rfl,D,I,xev j,a0,λ az a2 al am ae af _ _ _ a9 _ aj an=>?_⟩)
zyW:=⟨ok.mod,ok.kind,ok.glob,ok.blt,ok.above,ok.inj,ok.has,ok.cab,ok.hd,ok.frames,ok.stk,ok.exf,ok.bs,ok.bsz,ok.noex,ok.exfs,ok.funs,ok.frf⟩
def n42  {P0 P1:Prop} (h0:P0) (h1:P1):P0/\P1:=N9 h1
def i42  {P0 P1:Prop}{C:Prop} (k:P0->P1->C):(P0/\P1)->C:=λ h=>k lD lE
def j42  {P0 P1:Prop}{C:Prop} (z:P0/\P1) (k:P0->P1->C):C:=i42 k z
def n43  {P0 P1 P2:Prop} (h0:P0) (h1:P1) (h2:P2):zsK:=(N9,n42 h1 h2)
def i43  {P0 P1 P2:Prop}{C:Prop} (k:zUm):zsK->C:=λ h=>i42 (k lD) lE
def j43  {P0 P1 P2:Prop}{C:Prop} (z:zsK) (k:zUm):C:=i43 k z
def n44  {P0 P1 P2 P3:Prop} (h0:P0) (h1:P1) (h2:P2) (h3:P3):zpu:=(N9,n43 h1 h2 h3)
def i44  {P0 P1 P2 P3:Prop}{C:Prop} (k:zSf):zpu->C:=λ h=>i43 (k lD) lE
def j44  {P0 P1 P2 P3:Prop}{C:Prop} (z:zpu) (k:zSf):C:=i44 k z
def n45  {P0 P1 P2 P3 P4:Prop} (h0:P0) (h1:P1) (h2:P2) (h3:P3) (h4:P4):znY:=(N9,n44 h1 h2 h3 h4)
def i45  {P0 P1 P2 P3 P4:Prop}{C:Prop} (k:zMD):znY->C:=λ h=>i44 (k lD) lE
def j45  {P0 P1 P2 P3 P4:Prop}{C:Prop} (z:znY) (k:zMD):C:=i45 k z
def n46  {P0 P1 P2 P3 P4 P5:Prop} (h0:P0) (h1:P1) (h2:P2) (h3:P3) (h4:P4) (h5:P5):zmC:=(N9,n45 h1 h2 h3 h4 h5)
def i46  {P0 P1 P2 P3 P4 P5:Prop}{C:Prop} (k:zIc):zmC->C:=λ h=>i45 (k lD) lE
def j46  {P0 P1 P2 P3 P4 P5:Prop}{C:Prop} (z:zmC) (k:zIc):C:=i46 k z
def n47  {P0 P1 P2 P3 P4 P5 P6:Prop} (h0:P0) (h1:P1) (h2:P2) (h3:P3) (h4:P4) (h5:P5) (h6:P6):zlY:=(N9,n46 h1 h2 h3 h4 h5 h6)
def i47  {P0 P1 P2 P3 P4 P5 P6:Prop}{C:Prop} (k:zGf):zlY->C:=λ h=>i46 (k lD) lE
def j47  {P0 P1 P2 P3 P4 P5 P6:Prop}{C:Prop} (z:zlY) (k:zGf):C:=i47 k z
def n61 {A0:Type}{P0:lP} (a:A0) (h0:ju):∃(a:A0),ju:=gY h0
def i61 {A0:Type}{P0:lP}{C:Prop} (k:zVg):Lg ju:=(i7,k a h)
def j61 {A0:Type}{P0:lP}{C:Prop} (z:∃(a:A0),ju) (k:zVg):C:=i61 k z
def n62 {A0:Type}{P0 P1:lP} (a:A0) (h0:ju) (h1:mh):zTA:=(gY,n42 h0 h1)
def i62 {A0:Type}{P0 P1:lP}{C:Prop} (k:zLK):(Lg,ju/\mh):=(i7,i42 (k a) h)
def j62 {A0:Type}{P0 P1:lP}{C:Prop} (z:zTA) (k:zLK):C:=i62 k z
def n63 {A0:Type}{P0 P1 P2:lP} (a:A0) (h0:ju) (h1:mh) (h2:qZ):∃(a:A0),ju/\mh/\qZ:=(gY,n43 h0 h1 h2)
def i63 {A0:Type}{P0 P1 P2:lP}{C:Prop} (k:zIW):(Lg,ju/\mh/\qZ):=(i7,i43 (k a) h)
def j63 {A0:Type}{P0 P1 P2:lP}{C:Prop} (z:∃(a:A0),ju/\mh/\qZ) (k:zIW):C:=i63 k z
def n64 {A0:Type}{P0 P1 P2 P3:lP} (a:A0) (h0:ju) (h1:mh) (h2:qZ) (h3:A4):∃(a:A0),zpt:=(gY,n44 h0 h1 h2 h3)
def i64 {A0:Type}{P0 P1 P2 P3:lP}{C:Prop} (k:zIf):Lg zpt:=(i7,i44 (k a) h)
def j64 {A0:Type}{P0 P1 P2 P3:lP}{C:Prop} (z:∃(a:A0),zpt) (k:zIf):C:=i64 k z
def n65 {A0:Type}{P0 P1 P2 P3 P4:lP} (a:A0) (h0:ju) (h1:mh) (h2:qZ) (h3:A4) (h4:P4 a):∃(a:A0),zmD:=(gY,n45 h0 h1 h2 h3 h4)
def i65 {A0:Type}{P0 P1 P2 P3 P4:lP}{C:Prop} (k:zEC):Lg zmD:=(i7,i45 (k a) h)
def j65 {A0:Type}{P0 P1 P2 P3 P4:lP}{C:Prop} (z:∃(a:A0),zmD) (k:zEC):C:=i65 k z
def n66 {A0:Type}{P0 P1 P2 P3 P4 P5:lP} (a:A0) (h0:ju) (h1:mh) (h2:qZ) (h3:A4) (h4:P4 a) (h5:P5 a):∃(a:A0),zlh:=(gY,n46 h0 h1 h2 h3 h4 h5)
def i66 {A0:Type}{P0 P1 P2 P3 P4 P5:lP}{C:Prop} (k:zCj):Lg zlh:=(i7,i46 (k a) h)
def j66 {A0:Type}{P0 P1 P2 P3 P4 P5:lP}{C:Prop} (z:∃(a:A0),zlh) (k:zCj):C:=i66 k z
def n81 {A0 A1:Type}{P0:lN} (a:A0) (b:A1) (h0:jH):zOX:=(gY,n61 b h0)
def i81 {A0 A1:Type}{P0:lN}{C:Prop} (k:zLn):IM jH:=(i7,i61 (k a) h)
def j81 {A0 A1:Type}{P0:lN}{C:Prop} (z:zOX) (k:zLn):C:=i81 k z
def n82 {A0 A1:Type}{P0 P1:lN} (a:A0) (b:A1) (h0:jH) (h1:lT):zKB:=(gY,n62 b h0 h1)
def i82 {A0 A1:Type}{P0 P1:lN}{C:Prop} (k:zHl):(IM,jH/\lT):=(i7,i62 (k a) h)
def j82 {A0 A1:Type}{P0 P1:lN}{C:Prop} (z:zKB) (k:zHl):C:=i82 k z
def n83 {A0 A1:Type}{P0 P1 P2:lN} (a:A0) (b:A1) (h0:jH) (h1:lT) (h2:qV):zHa:=(gY,n63 b h0 h1 h2)
def i83 {A0 A1:Type}{P0 P1 P2:lN}{C:Prop} (k:zFx):(IM,jH/\lT/\qV):=(i7,i63 (k a) h)
def j83 {A0 A1:Type}{P0 P1 P2:lN}{C:Prop} (z:zHa) (k:zFx):C:=i83 k z
def n84 {A0 A1:Type}{P0 P1 P2 P3:lN} (a:A0) (b:A1) (h0:jH) (h1:lT) (h2:qV) (h3:yh):zFa:=(gY,n64 b h0 h1 h2 h3)
def i84 {A0 A1:Type}{P0 P1 P2 P3:lN}{C:Prop} (k:zEZ):(IM,jH/\lT/\qV/\yh):=(i7,i64 (k a) h)
def j84 {A0 A1:Type}{P0 P1 P2 P3:lN}{C:Prop} (z:zFa) (k:zEZ):C:=i84 k z
def n85 {A0 A1:Type}{P0 P1 P2 P3 P4:lN} (a:A0) (b:A1) (h0:jH) (h1:lT) (h2:qV) (h3:yh) (h4:NG):zOW:=(gY,n65 b h0 h1 h2 h3 h4)
def i85 {A0 A1:Type}{P0 P1 P2 P3 P4:lN}{C:Prop} (k:zDL):IM zPa:=(i7,i65 (k a) h)
def j85 {A0 A1:Type}{P0 P1 P2 P3 P4:lN}{C:Prop} (z:zOW) (k:zDL):C:=i85 k z
def n86 {A0 A1:Type}{P0 P1 P2 P3 P4 P5:lN} (a:A0) (b:A1) (h0:jH) (h1:lT) (h2:qV) (h3:yh) (h4:NG) (h5:P5 a b):zOV:=(gY,n66 b h0 h1 h2 h3 h4 h5)
def i86 {A0 A1:Type}{P0 P1 P2 P3 P4 P5:lN}{C:Prop} (k:zBv):IM zHc:=(i7,i66 (k a) h)
def j86 {A0 A1:Type}{P0 P1 P2 P3 P4 P5:lN}{C:Prop} (z:zOV) (k:zBv):C:=i86 k z
def n101 {A0 A1 A2:Type}{P0:lI} (a:A0) (b:A1) (c:A2) (h0:j0):zIE:=(gY,n81 b c h0)
def i101 {A0 A1 A2:Type}{P0:lI}{C:Prop} (k:zGX):Ir j0:=(i7,i81 (k a) h)
def j101 {A0 A1 A2:Type}{P0:lI}{C:Prop} (z:zIE) (k:zGX):C:=i101 k z
def n102 {A0 A1 A2:Type}{P0 P1:lI} (a:A0) (b:A1) (c:A2) (h0:j0) (h1:mN):zGz:=(gY,n82 b c h0 h1)
def i102 {A0 A1 A2:Type}{P0 P1:lI}{C:Prop} (k:zEu):(Ir,j0/\mN):=(i7,i82 (k a) h)
def j102 {A0 A1 A2:Type}{P0 P1:lI}{C:Prop} (z:zGz) (k:zEu):C:=i102 k z
def n103 {A0 A1 A2:Type}{P0 P1 P2:lI} (a:A0) (b:A1) (c:A2) (h0:j0) (h1:mN) (h2:rP):zEh:=(gY,n83 b c h0 h1 h2)
def i103 {A0 A1 A2:Type}{P0 P1 P2:lI}{C:Prop} (k:zDo):(Ir,j0/\mN/\rP):=(i7,i83 (k a) h)
def j103 {A0 A1 A2:Type}{P0 P1 P2:lI}{C:Prop} (z:zEh) (k:zDo):C:=i103 k z
def n104 {A0 A1 A2:Type}{P0 P1 P2 P3:lI} (a:A0) (b:A1) (c:A2) (h0:j0) (h1:mN) (h2:rP) (h3:zZ):zID:=(gY,n84 b c h0 h1 h2 h3)
def i104 {A0 A1 A2:Type}{P0 P1 P2 P3:lI}{C:Prop} (k:zDa):Ir zTD:=(i7,i84 (k a) h)
def j104 {A0 A1 A2:Type}{P0 P1 P2 P3:lI}{C:Prop} (z:zID) (k:zDa):C:=i104 k z
def n105 {A0 A1 A2:Type}{P0 P1 P2 P3 P4:lI} (a:A0) (b:A1) (c:A2) (h0:j0) (h1:mN) (h2:rP) (h3:zZ) (h4:Mv):zIC:=(gY,n85 b c h0 h1 h2 h3 h4)
def i105 {A0 A1 A2:Type}{P0 P1 P2 P3 P4:lI}{C:Prop} (k:zCk):Ir zOZ:=(i7,i85 (k a) h)
def j105 {A0 A1 A2:Type}{P0 P1 P2 P3 P4:lI}{C:Prop} (z:zIC) (k:zCk):C:=i105 k z
def n106 {A0 A1 A2:Type}{P0 P1 P2 P3 P4 P5:lI} (a:A0) (b:A1) (c:A2) (h0:j0) (h1:mN) (h2:rP) (h3:zZ) (h4:Mv) (h5:zyH):zIB:=(gY,n86 b c h0 h1 h2 h3 h4 h5)
def i106 {A0 A1 A2:Type}{P0 P1 P2 P3 P4 P5:lI}{C:Prop} (k:zBr):Ir zKD:=(i7,i86 (k a) h)
def j106 {A0 A1 A2:Type}{P0 P1 P2 P3 P4 P5:lI}{C:Prop} (z:zIB) (k:zBr):C:=i106 k z
def n121 {A0 A1 A2 A3:Type}{P0:lG} (a:A0) (b:A1) (c:A2) (d:A3) (h0:jU):zFp:=(gY,n101 b c d h0)
def i121 {A0 A1 A2 A3:Type}{P0:lG}{C:Prop} (k:zEg):Ic jU:=(i7,i101 (k a) h)
def j121 {A0 A1 A2 A3:Type}{P0:lG}{C:Prop} (z:zFp) (k:zEg):C:=i121 k z
def n122 {A0 A1 A2 A3:Type}{P0 P1:lG} (a:A0) (b:A1) (c:A2) (d:A3) (h0:jU) (h1:mG):zDW:=(gY,n102 b c d h0 h1)
def i122 {A0 A1 A2 A3:Type}{P0 P1:lG}{C:Prop} (k:zCO):(Ic,jU/\mG):=(i7,i102 (k a) h)
def j122 {A0 A1 A2 A3:Type}{P0 P1:lG}{C:Prop} (z:zDW) (k:zCO):C:=i122 k z
def n123 {A0 A1 A2 A3:Type}{P0 P1 P2:lG} (a:A0) (b:A1) (c:A2) (d:A3) (h0:jU) (h1:mG) (h2:rJ):zCB:=(gY,n103 b c d h0 h1 h2)
def i123 {A0 A1 A2 A3:Type}{P0 P1 P2:lG}{C:Prop} (k:zBU):(Ic,jU/\mG/\rJ):=(i7,i103 (k a) h)
def j123 {A0 A1 A2 A3:Type}{P0 P1 P2:lG}{C:Prop} (z:zCB) (k:zBU):C:=i123 k z
def n124 {A0 A1 A2 A3:Type}{P0 P1 P2 P3:lG} (a:A0) (b:A1) (c:A2) (d:A3) (h0:jU) (h1:mG) (h2:rJ) (h3:zK):zFo:=(gY,n104 b c d h0 h1 h2 h3)
def i124 {A0 A1 A2 A3:Type}{P0 P1 P2 P3:lG}{C:Prop} (k:zBG):Ic zTC:=(i7,i104 (k a) h)
def j124 {A0 A1 A2 A3:Type}{P0 P1 P2 P3:lG}{C:Prop} (z:zFo) (k:zBG):C:=i124 k z
def n125 {A0 A1 A2 A3:Type}{P0 P1 P2 P3 P4:lG} (a:A0) (b:A1) (c:A2) (d:A3) (h0:jU) (h1:mG) (h2:rJ) (h3:zK) (h4:LK):zFn:=(gY,n105 b c d h0 h1 h2 h3 h4)
def i125 {A0 A1 A2 A3:Type}{P0 P1 P2 P3 P4:lG}{C:Prop} (k:zBj):Ic zOY:=(i7,i105 (k a) h)
def j125 {A0 A1 A2 A3:Type}{P0 P1 P2 P3 P4:lG}{C:Prop} (z:zFn) (k:zBj):C:=i125 k z
def n126 {A0 A1 A2 A3:Type}{P0 P1 P2 P3 P4 P5:lG} (a:A0) (b:A1) (c:A2) (d:A3) (h0:jU) (h1:mG) (h2:rJ) (h3:zK) (h4:LK) (h5:zvH):zFm:=(gY,n106 b c d h0 h1 h2 h3 h4 h5)
def i126 {A0 A1 A2 A3:Type}{P0 P1 P2 P3 P4 P5:lG}{C:Prop} (k:zAA):Ic zKC:=(i7,i106 (k a) h)
def j126 {A0 A1 A2 A3:Type}{P0 P1 P2 P3 P4 P5:lG}{C:Prop} (z:zFm) (k:zAA):C:=i126 k z
namespace L2
open PySem PySem.Spec PyProof.Rows
variable {q0:Bool}
meta abbrev Key:=Sum Int Str
meta def xhe:Dz Key Value
 | zjj,v=>Value.isInt k v
 | AA,v=>Value.isStrOf x v
meta def keyH (w:World):Key->Int
 | zjj=>hashInt k
 | AA=>hashStr w x
theorem xb9:∀{k:Key}{v:Value},xhe k v=true->(∃ i t,k=Q4 i/\v=Q0 i t)\/(∃ x t,k=Jk x/\v=Zab x t)
 | .inl i,v,h=>by
  show(mL,t,Value.isInt_shape (k:=i) (v:=v) h);show(eg,fG i t rfl e)
 | AA,v,h=>by
  show(mL,t,Value.isStrOf_shape (x:=x) (v:=v) h);show(fe,fG x t rfl e)
def xvb (i:Int) (t:Tok):xhe (.inl i) zgz=true:=yu xhe Value.isInt
def xvj (x:Str) (t:Tok):xhe (.inr x) xJ=true:=yu xhe Value.isStrOf
def x2q (a b:Int):decide zRp=M8:=by
 by_cases e:mx
 .ext eQ; simp
 have h:¬ zRp:=λ q=>e (Q4.inj q);show(cW,zRJ,(beq_eq_false_iff_ne.mpr e).symm)
def x1l (a b:Str):um (eA zoZ) mx:=by
 by_cases e:mx
 .ext eQ; simp
 have h:¬ zoZ:=λ q=>e (Jk.inj q);rw[zRJ,decide_eq_false e]
def x3c (a:Int) (b:Str):BM ((Q4 a:Key)=Jk b):=zFF
def x3n (a:Str) (b:Int):BM ((Jk a:Key)=Q4 b):=zFF
meta def xaq (prog:Program) (w:World):PySem.KeyKind prog w Key where
 is:=xhe
 hash:=keyH w
 inj:=λ v a b p l=>by
  rcases xb9 p with⟨i,t,rfl,rfl⟩|⟨x,t,rfl,rfl⟩
  .rcases xb9 l with⟨j,u,rfl,e⟩|⟨y,u,rfl,e⟩
   .ext zrJ; rw[e1]
   exact nomatch e
  rcases xb9 l with⟨j,u,rfl,e⟩|⟨y,u,rfl,e⟩
  .exact nomatch e
  ext zrJ; rw[e1]
 byValue:=λ k v h=>by
  rcases xb9 h with⟨i,t,rfl,rfl⟩|⟨x,t,rfl,rfl⟩<;>rfl
 pyHash:=λ f h=>by
  rcases xb9 f with⟨i,t,rfl,rfl⟩|⟨x,t,rfl,rfl⟩
  .exact wpAny_pyHash_int h
  exact wpAny_pyHash_str h
 eqBool:=λ m f h=>by
  rcases xb9 m with⟨i,t,rfl,rfl⟩|⟨x,t,rfl,rfl⟩
  .rcases xb9 f with⟨j,u,rfl,rfl⟩|⟨y,u,rfl,rfl⟩
   .ext kN x2q; exact wpAny_eqBool_int h
   ext kN x3c; exact Z5.int_str i t y u _ _ _ _ h
  rcases xb9 f with⟨j,u,rfl,rfl⟩|⟨y,u,rfl,rfl⟩
  .ext kN x3n; exact Z5.str_int x t j u _ _ _ _ h
  ext kN x1l; exact wpAny_eqBool_str h
 «strs»:=λ k x t v h=>by
  rcases xb9 h with⟨i,u,rfl,e⟩|⟨y,u,rfl,e⟩
  .exact nomatch e
  ext zrJ
  subst e1;cases v<;>rfl
def xps (prog:Program) (w:World) (i:Int) (t:Tok):(xaq prog w).is (.inl i) zgz=true:=xvb i t
def xpm (prog:Program) (w:World) (x:Str) (t:Tok):(xaq prog w).is (.inr x) xJ=true:=xvj x t
inductive V where
 | non|bl (b:Bool)|int (i:Int)|str (x:Str)|byt (b:Array UInt8)|flt (b:UInt64)|ref (a:Addr)|ty (n:String)
 deriving DecidableEq
meta def RelV:fF V Value
 | .non,u=>u=JE
 | yA,u=>u=YT b
 | j5,u=>IY
 | kE,u=>zpe
 | .byt b,u=>zJm
 | .flt b,u=>zJl
 | dH,u=>u=Zw a
 | .ty n,u=>u=YS n
meta abbrev Vals:fF cA dw:=Paired RelV
def Vals.length {xs:cA}{us:dw} (r:pD):xs.length=us.length:=Y1 r
theorem Vals.get:∀{xs:cA}{us:dw}{i:Nat}{x:V},pD->xY->∃ u,(dS us u)/\vi
 | _,_,_,_,.nil,e=>FA
 | _,_,0,_,zwG,e=>by ext Ls; ext qg r
 | _,_,dc,x,S1,e=>by
  show(cD,u,b,a,Vals.get (i:=i) (x:=x) t uU);exact⟨u,PL,a⟩
theorem Vals.append:∀{xs ys:cA}{us ws:dw},pD->Vals ys ws->Vals (xs++ys) (us++ws)
 | _,_,_,_,.nil,s=>s
 | _,_,_,_,zN,s=>.cons r (Vals.append t s)
theorem Vals.take:(zPQ,pD->Vals (xs.take n) (us.take n))
 | _,_,0,_=>.nil
 | _,_,_+1,.nil=>.nil
 | _,_,i0,zN=>.cons r (Vals.take n t)
theorem Vals.drop:(zPQ,pD->Vals (xs.drop n) (us.drop n))
 | _,_,0,r=>r
 | _,_,_+1,.nil=>.nil
 | _,_,i0,S1=>Vals.drop n t
meta def RelO:fF eV B4
 | Az,some u=>qH
 | none,none=>True
 | _,_=>False
meta def KV {κ:Type}:fF iB BA:=Paired λ(p:κ × V) (q:κ × Value)=>cO=rp/\RelV dX q.2
meta def kV:Key->V
 | .inl i=>j5
 | AA=>kE
inductive HO where
 /-- a list -/
 | lst (xs:cA)
 /-- a tuple (never changes) -/
 | tup (xs:cA)
 /-- a dict whose keys are ints and texts; one whose keys are tuples of ints and texts (the empty one is both) -/
 | dK (kvs:dR)|dT (kvs:fP)
 /-- a set of ints: its members,its size -/
 | set (S:Int->Bool) (n:Nat)
 /-- an instance of the class at C,its dict at dx,its attributes -/
 | ins (C dx:Addr) (fs:o8)
 /-- the dict of the instance at x -/
 | own (x:Addr)
 /-- the dict of an exception -/
 | xd (fs:o8)
 /-- a bound method,f of x -/
 | met (f x:Addr)
 /-- a range object lo,lo+1,.. below hi -/
 | rng (lo hi:Int)
 /-- a thing that is known to the object (the script; a dict while a loop walks it): read,never written while it is so -/
 | frz (o:Obj) (u:HO)
 /-- a code object's table -/
 | tbl (ps:ii)
 /-- any other thing,by what is true of its one object (a def of one's own: SetO a S n:=HO.ext λh=>..) -/
 | ext (φ:Heap->Prop)
meta abbrev Hp:=Addr->(gc HO)
meta def upd (H:Hp) (a:Addr) (o:HO):Hp:=λ b=>(gH,b,a,some o,H b)
def xj {H:Hp}{a:Addr}{o:HO}:(cu,upd H a o a,o):=by unfold upd; rw[fH]
def xi {H:Hp}{a b:Addr}{o:HO} (h:b≠a):upd H a o b=H b:=by unfold upd; rw[zjp]
def xfk {H:Hp}{a:Addr}{o u:HO}:upd Mo a u=(iK a u):=by
 funext b; unfold upd; split<;>rfl
def xeo {H:Hp}{a b:Addr}{o u:HO} (h:Tu) (h':qK) (d:o≠u):Hs:=by
 intro e; ext eQ; show(ef,h,h',d (ZW.inj h'))
def xh {H:Hp}{a b:Addr}{o:HO} (h:Tu) (h':iR):Hs:=by
 intro e; ext eQ; ext gm h h'
section
variable (P:Program) (w:World)
meta def xbb (H:Hp) (h:Heap) (a:Addr):HO->Prop
  | .lst xs=>zh/\(zqV,EV/\(wO Xz))
  | .tup xs=>zh/\∃ its:dw,EV/\IsTup h a its.toArray
  | Ub=>zlc
  | zho=>Kl/\Nt/\∃ xs:qy,
      Paired (λ(p:iO × V) (q:iO × KJ)=>eX cO rp (dA (dO q) (.tup ((cO).map kV))) zXg) kvs xs /\
      ∃ o es ep,G4/\o.ExactDict/\rA/\es.toList=xs.map (entryOfKey (tupleKind xV))/\(xs.map (·.1)).Nodup
  | .set S n=>h.SetOf (intKind P w) a S n
  | Te=>(Ew dx a)/\zci/\dx≠a/\(wO (YA C dx)) /\
      ∃ mA,zdK/\OB/\W4 mA (fs.map (·.1))
  | .own _=>∃ o,G4
  | .xd fs=>∃ mA,h.Ns1 a mA/\OB
  | zuZ=>∃ t u v,wO (TJ "range" (zLz 1))
  | TL=>G4/\xbb H h a u
  | .tbl ps=>wO zlk
  | .met f x=>wO (zne vK)
  | .ext φ=>φ h/\(∃ o,G4)/\∀ h1 h2:Heap,φ h1->(∀ o,(cu,h1.get? a,o)->(cu,h2.get? a,o))->φ h2
meta def HOk (H:Hp) (h:Heap):Prop:=∀ a o,Tu->zqA
#check _
section
variable {P:Program}{w:World}{H H':Hp}{h h':Heap}{a:Addr}{o:HO}
theorem xbb.lt (x:zqA):a<h.objs.size:=by
 cases o with
 | lst xs=>obtain⟨_,_,_,_,e⟩:=x; ext vU
 | tup xs=>obtain⟨_,_,_,p⟩:=x; exact p.lt
 | dK kvs=>ext zDN
 | dT kvs=>ext zDN
 | set S n=>obtain⟨o,_,_,_,e,_⟩:122:=x; ext vU
 | ins C dx fs=>obtain⟨_,_,_,e,_⟩:45:=x; ext vU
 | own y=>obtain⟨_,e⟩:=x; ext vU
 | xd fs=>obtain⟨_,⟨_,_,_,e,_⟩,_⟩:62:=x; ext vU
 | rng lo hi=>obtain⟨_,_,_,e⟩:101:=x; ext vU
 | frz ob u=>obtain⟨e,_⟩:=x; ext vU
 | tbl ps=>ext zPv
 | met f y=>ext zPv
 | ext φ=>obtain⟨_,⟨_,e⟩,_⟩:43:=x; ext vU
theorem Paired.mapP {α β:Type}{F G:fF α β}:∀{l₁:eI}{l₂:List β},Paired F l₁ l₂->(∀ a b,F a b->G a b)->Paired G l₁ l₂
 | _,_,.nil,_=>.nil
 | _,_,zN,f=>.cons (f _ _ r) (Paired.mapP t f)
theorem xbb.stay (x:zqA) (k:∀ b u,(b=a\/(Ew b a))->(cu,h.get? b,u)->(cu,h'.get? b,u))
    (ho:∀ b,(Ew b a)->H' b=some (.own a)) (ht:OC):xbb P w H' h' a o:=by
  induction o with
  | lst xs=>ext zrx x; show(cU,z,fG its n r wY)
  | tup xs=>obtain⟨z,its,r,ob,e,c⟩:=x; exact dM z its r ob wY c
  | dK kvs=>ext zCh vs r
  | dT kvs =>
    show(zCh,xs,Paired.mapP r λ p q z=>zMI)
  | set S n=>obtain⟨ob,es,A,t,e,c⟩:122:=x; exact dN 122 ob es A t wY c
  | ins C dx fs =>
    obtain⟨d,z,ne,e,⟨B,⟨od,es,A,D,c⟩,r⟩⟩:45:=x;exact(ff,ho _ d,z,ne,wY,cC B (zwT,od,k _ _ (.inr d) D) r)
  | own y=>ext mL ob x; ext cU ob wY
  | xd fs=>obtain⟨B,⟨od,es,A,e,c⟩,r⟩:62:=x; show(dy,B,zwT od wY,r)
  | rng lo hi=>obtain⟨t,u,v,e⟩:101:=x; exact dW 101 t u v wY
  | frz ob u ih=>ext lO e x; show(cU,wY,ih q)
  | tbl ps =>
    show(zGF,wO zlk,zlk)
  | met f y =>
    show(zGF,wO (zne (.ref y)),zne (.ref y))
  | ext φ=>obtain⟨p,⟨o,e⟩,st⟩:43:=x; show(dy,st _ _ p λ o q=>k _ _ jF q,⟨o,wY⟩,st)
def HOk.lt (x:qu) (e:Tu):a<h.objs.size:=(x a o e).lt
theorem HOk.fresh (x:qu) (e:zrj):Nv:=by
 cases q:H a with
 | none=>rfl
 | some u=>show(Cp,ZK (x.lt q) e)
def HOk.kept (x:qu) (k:Xn):HOk P w H h':=λ a o e =>
 (x a o e).stay (λ b u _ q=>zhl) zge LG
def HOk.laid (x:qu) (k:Xn) (hp:zrj) (new:xbb P w Mo h' a o):HOk P w Mo h':=λb u e=>by
 have m:=x.fresh hp;ext zfD
 .ext zSF
 rw [xi hb] at e;exact (x b u e).stay (λ c v _ q=>k c v q) (λ c q=>Dh q m) (GE,Dh q m)
#check _
meta def Rd (H:Hp) (a:Addr) (u:HO):Prop:=zyG\/∃ o,dA a TL
def Rd.of {H:Hp}{a:Addr}{u:HO} (h:zyG):zxC:=.inl h
theorem Rd.ok {P:Program}{w:World}{H:Hp}{h:Heap}{a:Addr}{u:HO} (r:zxC) (x:qu):zVr:=by
 rcases r with r|⟨o,r⟩
 .exact x a u r
 obtain ⟨_,q⟩:=x a _ r;exact q
meta def Mut:(gc HO)->Prop
 | some (.lst _)=>True
 | MX _=>True
 | some (.dT _)=>True
 | some (.set _ _)=>True
 | some (.ins _ _ _)=>True
 | some (.ext _)=>True
 | _=>False
section
variable {P:Program}{w:World}{H:Hp}{h h':Heap}{x e:Addr}{o':HO}
def HOk.write (ok:qu) (mu:zwb) (he:zqs) (k:zCz) (heo:zmn)
    (new:xbb P w (iK x o') h' x o'):HOk P w (iK x o') h':=λ b u q=>by
  show(cI,d,∀ c y,(Ew c y)->c≠x,λ c y r z=>znV r,f,∀ c xs,(ji c xs)->c≠x,λ c xs r z=>znV r)
  by_cases hb:b=x
  . subst hb; ext ku xj q new
  . rw[xi hb] at q
    by_cases hbe:b=e
    . have l:Ew b x:=by
        rcases he with z|z
        . exact absurd (hbe.trans z) hb
        . ext cW hbe z
      ext dP q l l;show(u0,v,m,heo,v,cK hbe m)
    . refine (ok b u q).stay (λ c v j r=>k c v ?_ r) (λ c r=>gs (d c b r) r) λ c xs r=>gs (f c xs r) r
      rcases j with rfl|j
      . exact hbe
      . ext Of
        rcases he with z|z
        . exact d c b j z
        . ext dP j z z; exact hb rfl
#check _
structure Un (fs ex:cM) (H H':Hp) (h h':Heap):Prop where
 keep:∀ b o,(eC,uQ,iR,b∉fs,Ve,sV)
 slot:∀ b o,(eC,uQ,iR,b∈fs,Ve,zFI)
 free:UR uQ iR Ve E2
 there:∀ b o,uQ->Ve->zXI
 tups:OC
 frzs:zEt
 tbls:zzE
section
variable {fs fs' ex ex':List Addr}{H H1 H2:Hp}{h h1 h2 h':Heap}{a x e:Addr}{o:HO}
def Un.any (u:FH H1 h1) {b:Addr}{ob:Obj} (q:(cu,h.get? b,ob)) (n:iR) (hx:Ve):∃ sl,(cu,h1.get? b,{ ob with slots:=sl }):=by
 by_cases hb:b∈fs
 .exact u.slot b ob q n hb hx
 show(yG,ob.slots,u.keep b ob q n hb hx)
def Un.trans (a:FH H1 h1) (b:Un fs ex H1 H2 h1 h2):FH H2 h2 where
 keep:=λ c ob q n m i=>b.keep c ob (a.keep c ob q n m i) zoO m i
 slot:=λ c ob q n m i=>by
  show(hI,B,j,a.slot c ob q n m i,v,x,b.slot c _ j zoO m i);ext cU v x
 free:=λ c ob q n i=>by
  ext zKM;exact b.free c w j zoO i
 there:=λ c ob q i=>by
  ext zKM;exact b.there c w j i
 tups:=(GE,b.tups c xs (a.tups c xs q))
 frzs:=λ c ob xs q=>b.frzs c ob xs (a.frzs c ob xs q)
 tbls:=λ c ps q=>by
  show(hI,A,j,a.tbls c ps q,y,x,b.tbls c _ j);show(cU,A++y,zTr x)
def Un.kept (k:Xn):FH H h' :=
 (dN,zgH ob zxZ,zgH ob ⟨ob.slots,zxZ⟩,λ_ _ _ n _=>n,λ b ob q _=>Hj zxZ,LG,λ_ _ _ q=>q,λ_ ps q=>⟨#[],nT q⟩)
def Un.refl:FH H h:=Un.kept LG
def Un.laid (k:Xn) (hp:zrj) (hn:Nv):FH Mo h' where
 keep:=zgH u zhl
 slot:=zgH u ⟨u.slots,zhl⟩
 free:=λ b u q n _=>(cK,xi (ZM (ZK (Z0 q) hp)),n)
 there:=λ b u q _=>⟨u,zhl⟩
 tups:=λ b xs q=>Dh q hn
 frzs:=λ b u xs q=>Dh q hn
 tbls:=(zIn,oH q hn)
def Un.write (mu:zwb) (he:zqs) (k:zCz) (heo:zmn):FH zyf h':=by
 have f:(GF,b≠x):=λ b n z=>znV n
 have j:(GF,b≠e):=λ b n z=>by
  subst z;rcases he with r|r
  .exact f b n r
  ext AH n r
 have d:∀ b u,qK->¬ Mut (some u)->b≠x:=λ b u q nm z=>by subst z; rw[q] at mu; exact nm mu
 refine⟨λ b u q n _ _=>zUx,λ b u q n _ _=>⟨u.slots,zUx⟩,λ b u q n _=>(cK,xi (f b n),n),λ b u q _=>?_,
  λ b xs q=>gs zpv q,λ b u xs q=>gs zpv q,(zIn,xi zpv)⟩
 by_cases hbe:b=e
 .subst hbe; exact heo
 show(yG,u,k b u hbe q)
#check _
meta def trk (h:Heap) (H:Hp):cM:=(zrt).filter λ a=>(H a).isSome
meta def hidT (h:Heap) (H:Hp):Heap:=PySem.W.hideAll h (trk h H)
def xu4 (h:Heap) (H:Hp):(zgd).objs.size=h.objs.size:=PySem.W.hideAll_size _ _
def xwg {h:Heap}{H:Hp}{b:Addr}{o:Obj} (e:uQ) (n:iR):(cu,(zgd).get? b,o) :=
 PySem.W.hideAll_get _ e λ a=>by
  have q:jT (H b):=(ZN.mp a).2;rw[n] at q; simp at q
theorem xz5 {h:Heap}{H:Hp}{b:Addr}{o:Obj} (e:(cu,(zgd).get? b,o)):uQ/\iR:=by
 have a:uQ:=PySem.W.of_hideAll (trk h H) e;ext pT a;cases q:H b with
 | none=>rfl
 | some x =>
  show(cI,c,b∈trk h H,(zgV,ZO.mpr (Z0 a),gK q),z,(zgd).get? b=none,PySem.W.hideAll_none (trk h H) c);ext HD z
meta def xzj (g h:Heap) (L:Addr):dJ:=(zrt).filterMap λ a=>if a=L\/(jT (g.get? a)) then none else (h.get? a).map λ o=>(a,o)
meta def rest (g h:Heap) (L d:Addr):dJ:=(xzj g h L).filter λ p=>eA (cO≠d)
structure Mod (K:Zd) (mg:gF) (base:Heap):Prop where
 kin:zwF
 glob:zLy
 blt:∃ mb,base.Ns builtinsNs mb/\zDm
 nolimit:base.NoLimit
structure Cx where
 prog:Program
 w:World
 K:Zd
 mg:gF
 base:Heap
 A:Around
 N:cH
 s₀:Shared
 H₀:Hp
 env:Env
 outer:qI
 stack:qI
 ex:cM
 fn:Str->Bool
 calm:Bool
 pn:dJ
 xe:dE
meta def frs (l:qI):cM:=l.filterMap (·.frame)
meta abbrev Cx.fs (X:Cx):cM:=frs X.outer
meta def Vis (sc:Scope) (x:Str):Prop:=zll\/XA\/(cu,sc.names.lookup x,.free)
meta def Loc (sc:Scope) (x:Str):Prop:=zll\/XA
meta def Look (env:Env) (h:Heap) (m:gF) (x:Str) (u:Value):Prop :=
 ((cu,env.kindOf x,.local)/\(cu,m x,u))\/(((cu,env.kindOf x,.cell)\/(cu,env.kindOf x,.free))/\∃ c,(cu,env.cells.lookup x,c)/\h.IsCell c (some u))
structure Cx.Ok (X:Cx):Prop where
 mod:zNX
 kind:X.env.scope.kind=.function
 glob:X.env.globals=mainGlobals
 blt:X.env.builtins=builtinsNs
 above:D3 X.env.locals
 inj:∀ x y c,XF->(cu,X.env.cells.lookup y,c)->x=y
 has:∀ x,((cu,X.env.kindOf x,.cell)\/(cu,X.env.kindOf x,.free))->∃ c,XF
 cab:∀ x c,zsu->XF->(D3 c)
 hd:mD->X.A.handled=none
 frames:cu X.A.frames X.stack
 stk:X.stack=X.outer\/(X.stack=zri/\(cu X.env.frame X.env.locals))
 exf:∀ b∈X.ex,Kb/\(F9 b)
 bs:(X5,zHV/\zVE)
 bsz:X.base.objs.size<=X.s₀.heap.objs.size
 noex:(X5,b∉X.ex)
 exfs:∀ b∈X.ex,zgr
 funs:zMp X.outer
 frf:∀ b∈X.fs,zVE
structure Inv (X:Cx) (pins:dJ) (Z:zqE) (H:Hp) (s:Shared):Prop where
 ok:X.Ok
 os:s.os=X.s₀.os
 bare:zXr
 base:Un X.fs X.ex X.H₀ H X.s₀.heap s.heap
 loc:∃ m,zJV/\∀(i:Nat) (x:Str) (v:V),(dI,xI,Dy=(pi v),zbe,∃ u,qH/\Look X.env s.heap m x u)
 cell:(zha,∃ v,zRu)
 free:d7 X.env.locals
 freeC:zha (d7 c)
 pin:∀ p∈Fi,zzj
 hok:zeR H s.heap
 len:Z.length=X.N.length
section
variable {X:Cx}{pins:List (Addr × Obj)}{Z:List (Option V)}{H H':Hp}{s:Shared}{h':Heap}
def Cx.Ok.nofr (ok:X.Ok) {b:Addr}{o:Obj} (e:(cu,X.base.get? b,o)):zgr:=λ c=>by
 have:=(ok.funs.mem c).1;ext ztv
def Inv.bs (I:cL):(X5,i4/\iR):=λ b o e =>
 ⟨I.base.keep b o zpc zRn (I.ok.nofr e) zVA,I.base.free b o zpc zRn zVA⟩
def Inv.bk (I:cL):X5 i4:=(yl,(I.bs b o e).1)
def Inv.mod (I:cL):zNX:=I.ok.mod
def Inv.kIn (I:cL):X.K.In s.heap:=I.ok.mod.kin.keeps I.bk
def Inv.fr (I:cL):∃ m,Fr X.base X.env.locals s.heap m :=
 let ⟨m,hn,_⟩:=I.loc
 du m hn I.bk zLq
def Inv.lt (I:cL):mB X.env.locals:=let ⟨_,hn,_⟩:=I.loc; hn.lt
def Inv.sz (I:cL):D3 s.heap.objs.size:=Z1 I.ok.above (Yz I.lt)
def Inv.nofs (I:cL) {a:Addr} (h:Ku a):a∉X.fs:=λ d=>by
 obtain⟨_,o,c,_⟩:=zVG;show(Cp,ZK (Z0 c) (Z1 I.sz h))
def Inv.cne (I:cL):F9 X.env.locals:=λ x c e z=>by
 ext kq v o f h zdi;obtain⟨m,⟨i,es,j,b,d,_⟩,_⟩:62:=(I.loc)
 rw[z,b] at f; cases f; ext gm d h
theorem Inv.funs (I:cL):zow X.outer:=by
 have all:∀(l:qI),(∀ b∈frs l,b∈X.fs)->(zMp l)->(zow l):=by
  intro l
  induction l with
  | nil=>intro _ _; trivial
  | cons env r ih =>
   intro hs w;obtain⟨y,⟨L,o,c,v,q,A⟩,j⟩:43:=w;have i:L∈X.fs:=hs L (zOg Zm);show(mL,B,I.base.slot L o q (I.ok.frf L i) i λ z=>I.ok.exfs L z i);show(dy,y,dN 84 L _ c v e A,ih (λ b d=>hs b (zOg,Zl _ d)) j)
 exact all X.outer (λ_ d=>d) I.ok.funs
def Inv.stack (I:cL):zow X.stack:=by
 rcases I.ok.stk with e|⟨e,q⟩
 .show(eO,e,I.funs)
 rw [e];show(fO,m,j,I.loc)
 refine .cons (E8 I.ok.kind) q j ?_ I.funs;exact Heap.get?_none_of_le zLq
def Inv.stkSub (I:cL):∀ b∈Ld,b∈X.env.locals::X.fs:=λ b d=>by
 rcases I.ok.stk with e|⟨e,h⟩
 .rw [e] at d; exact Zl _ d
 rw [e] at d;unfold frs at d;rw[JP,h] at d;exact d
def Inv.stkFree (I:cL):∀ b∈Ld,iR:=λ b d=>by
 rcases zrC d with e|d
 .show(eO,e,I.free)
 obtain ⟨_,o,h,_⟩:=zVG;exact I.base.free b o h (I.ok.frf b d) λ z=>I.ok.exfs b z d
def Inv.step {g':zXy}{t':Nat}{d':Drawn}{ch:cM} (I:cL)
    (hch:zoA)
    (keep:sy Kb (eC zgr GY i4 iR sV))
    (slot:sy Kb (eC,b∈X.fs,GY,i4,iR,zFI)) (free:UR GY i4 iR E2)
    (there:Lv GY zXI)
    (tups:OC) (frzs:zEt) (tbls:zzE)
    (ns:∀ m,zJV->h'.Ns X.env.locals m) (hok:zvd) (hg:AllBare g') :
    zBa:=by
  have K:sy (cu,X.s₀.heap.get? b,o) Kb:=(yl,ZM (Au I.ok.above));have D:∀ b o,zHV->b∉X.ex->GY:=λ b o e y G=>by
    rcases (hch b G).1 with z|z
    . exact y z
    . show(Cp,Au z)
  have B:(zha,∀ v,zRu->h'.IsCell c v):=λ x c e v ⟨1062,o,J,O⟩=>by
    have A:c∉ch:=λ z=>(zWK).1 x c e rfl;by_cases hc:c∈X.fs
    . show(lO,sl,slot c o (I.cne x c e) hc A J zcy)
      exact fT q O
    . show(dy,o,keep c o (I.cne x c e) hc A J zcy,O)
  refine⟨I.ok,I.os,hg,(dN,TK G y,TK G y,dC b o e n y,ziG y,(vw,tups b xs (I.base.tups b xs e)),(iw,xs,frzs b o xs (I.base.frzs b o xs e)),iX b ps),?_,zxK,?_,zxK,Gf,hok,I.len⟩
  . exact keep b o (K b o e) G zfh (I.base.keep b o e n G y) znk
  . show(hI,sl,E,I.base.slot b o e n G y,M,L,slot b _ (K b o e) G zfh E znk);ext cU M L
  . ext zHK
    exact free b o' zfh E znk
  . ext zHK
    exact there b o' zfh E
  . show(hI,R,E,zPK,Q,L,tbls b _ E);show(cU,R++Q,zTr L)
  . show(cD,m,S,T,I.loc)
    show(eW,m,ns m S,gE i x v E L U);show(cD,u,r,l,T i x v E L U);ext ie u r;rcases l with l|⟨k,c,e,z⟩
    . ext eg l
    . show(fe,(du,k,c,e,B x c e _ z))
  . show(u0,v,z,zdi,v,B x c e v z)
  . obtain⟨m,⟨o,_,_,J,_⟩,_⟩:62:=(I.loc)
    exact free _ o (λ z=>(hch _ z).2.1 rfl) J I.free
  . ext kq v o J O zdi
    exact free c o (λ z=>(zWK).1 x c e rfl) J zcy
  . ext zxj P
    have A:cO∉ch:=λ z=>(fX (hch cO z)).2 p hp rfl;exact(ff,keep cO dX ne P A e n,free cO dX A e n,ne,P,d)
def Inv.un {t':Nat} (I:cL) (u:SV X.fs [] h') (hok:zvd):HM Ge:=by
 obtain⟨m,⟨o,es,D,v,r⟩,_⟩:62:=id I.loc;obtain⟨B,A⟩:=u.any v I.free cy;exact I.step (g':=s.gens) (d':=s.drawn) (ch:=[]) jC (λ b o _ hb _ e n=>u.keep b o e n hb cy) (λ b o _ hb _ e n=>u.slot b o e n hb cy) (λ b o _ e n=>u.free b o e n cy) (λ b o _ e=>u.there b o e cy) u.tups u.frzs u.tbls (λ m' hm=>by
  obtain⟨C,j,q,i,x⟩:102:=hm;ext dP v i i;exact dM 102 _ j q A x) hok I.bare
def Inv.call {g':zXy}{t':Nat}{d':Drawn}{ch:cM} (I:cL) (u:SV Ld ch h') (hok:zvd) (hg:AllBare g')
    (hch:zoA) :
    zBa:=by
  obtain⟨m,⟨o,es,L,D,r⟩,_⟩:62:=id I.loc;obtain⟨J,A⟩:=u.any D I.free λ z=>(hch _ z).2.1 rfl
  exact I.step (ch:=ch) hch (λ b o A G d e n=>u.keep b o e n (λ z=>(zrC z).elim A G) d) (λ b o _ _ d e n=>u.any e n d) (λ b o d e n=>u.free b o e n d) (iw,d,u.there b o e d) u.tups u.frzs u.tbls (λ m' hm=>by
    obtain⟨K,B,C,q,E⟩:102:=hm;ext dP D q q;exact dM 102 _ B C A E) hok hg
def Inv.turned {t':Nat}{it:Addr} (I:cL) (k:KK it i4 sV) (hn:d7 it) (hL:it≠X.env.locals)
    (h1:it∈X.ex\/(D3 it)) (h2:F9 it) (h3:zcq it):wA Ge:=by
  have A:(AL,qK,b≠it):=λ b u e z=>zWH hn
  refine I.step (g':=s.gens) (d':=s.drawn) (ch:=[it]) zja (zeG f zmG) (zeG f ⟨o.slots,zmG⟩) zWQ
    (iw f ⟨o,zmG⟩) (λ_ _ e=>e) EK zLg (cG m C) zX I.bare
  . show(rY,by simpa using D);exact eD h1 hL h2 h3
  . obtain⟨o,es,E,B,r⟩:102:=C
    exact⟨102,o,es,E,k _ o (Z2 hL) B,r⟩
  . refine (ztX).stay (λ c v f q=>k c v ?_ q) zge LG
    rcases f with z|z
    . show(cW,z,A b u e)
    . exact A c _ z
def Inv.tok (I:cL) (t:Nat):wA { s with toks:=t }:=I.un (h':=s.heap) (t':=t) Un.refl I.hok
def Inv.kept {t':Nat} (I:cL) (k:zCa):wA Ge:=I.un (Un.kept k) (I.hok.kept k)
def Inv.laid {a:Addr}{o:HO}{t':Nat} (I:cL) (k:zCa) (hp:Ku a) (new:xbb X.prog X.w Mo h' a o) :
    rX Mo Ge:=I.un (Un.laid k hp (I.hok.fresh hp)) (I.hok.laid k hp new)
def Inv.write {x e:Addr}{o:HO}{t':Nat} (I:cL) (mu:zwb) (he:zqs) (k:o4 e (cu,s.heap.get? b,u) (cu,h'.get? b,u)) (heo:zmn)
    (new:Tl zyf h' x o):rX zyf Ge:=I.un (Un.write mu he k heo) (I.hok.write mu he k heo new)
def Inv.weak {σ':zqE} (I:cL) (hl:σ'.length=Z.length) (w:∀(i:Nat) v,σ'[i]?=(pi v)->Dy=GW):Inv X pins σ' H s :=
 (zkl,I.ok,let ⟨m,hn,hl'⟩:=I.loc; (cC,m,hn,λ i x v q j d=>hl' i x v q (w i v j) d),hl.trans I.len)
def Inv.pins_of {pins':dJ} (I:cL) (h:∀ p∈pins',zzj):iy pins' H s :=
 (zRY,I.base,I.loc,I.cell,λ p j=>(Zy.mp j).elim (λ z=>I.pin p (Z3 _ z)) (h p),I.hok,I.len)
def xn0 {N:cH} (hN:N.Nodup) {i j:Nat}{x:Str} (a:uI N) (b:gC N x):i=j:=by
 show(hI,q,f,Zk.mp a,h,c,Zk.mp b);exact (List.getElem_inj hN).mp (f.trans c.symm)
def xmr {M:Model}{A:Around}{E:dE}{i:Nat}{x:Str}{v:V}{u:Value}{Q:vh} (I:cL) (hN:X.N.Nodup) (hi:xI) (hx:Ea) (r:qH)
    (h:∀ s',zPp->(∃ a,ZJ a s.heap s'.heap/\(a=X.env.locals\/(cu,X.env.cells.lookup x,a)))->Q () s') (hf:DR:=by first|ext vG|ext vF|ext gR):zIi:=by
  show(cD,m,hn,hl,id I.loc);show(cI,U,je (X.env.scope.kind == .class||(X.env.scope.kind == .module&&X.env.locals != X.env.globals)),fY I.ok.kind,T,i<Z.length,(cK,I.len,oh hi))
  have cne:=I.cne;have D:∀{a:Addr}{h':Heap},(∃ o,zLu/\Nv)->zWV->(zeR H h'):=λ{a h'} ha hs b ob e=>by
    obtain⟨_,_,K⟩:62:=ha;refine (I.hok b ob e).stay (λ c w' J q=>(hs.2 c ?_).trans q) zge LG;ext Of;rcases J with rfl|J
    . ext HD K
    . ext gm K J
  rcases hx with L|L
  . refine wpAny_storeName_local L hn (ux ab hs) U
    obtain⟨oL,_,_,aa,_⟩:102:=id hn;refine h _ ⟨I.ok,I.os,I.bare,zzz,fT ab zNJ,iX y c,I.free,I.freeC,Gf,D (cC oL aa I.free) hs,zNB⟩ (fT hs jF)
    . exact (hs.2 b (ZM (Au I.ok.above))).trans (I.base.keep b o e n P hx)
    . show(u0,sl,G,zJX,sl,(hs.2 b (ZM (Au I.ok.above))).trans G)
    . show(u0,o',G,zLW,o',(hs.2 b (ZM (Au I.ok.above))).trans G)
    . by_cases hj:j=i
      . show(zAy,.inl ⟨L,cy⟩)
      . ext zAz;rcases q with⟨k,e⟩|⟨k,c,e,z⟩
        . show(AO,jl k)
          have:y≠x:=λ e=>hj (xn0 hN G (e▸hi));simp[this,e]
        . show(fe,du k c e zJO)
    . show(u0,w',z,I.cell y c e,w',zJO)
    . ext zxj nf
      exact(ff,(hs.2 cO ne).trans e,n,ne,nf,d)
  . have O:zsu:=by
      rcases hf with z|z
      . ext gD
      . ext gm z L
    show(hI,c,J,I.ok.has x (.inl L),w',z,I.cell x c J);refine wpAny_storeName_cell I.ok.kind L J z (ux Y hs);show(cD,oc,S,R,id z);refine h kR (zRY,zzz,(cC,m,hn.sameBut hs (Z2 (cne x c J)),zNJ),iX y c',Gf,D (cC,oc,S,I.freeC x c J) hs,zNB) (cC,c,hs,.inr J)
    . exact (hs.2 b (ZM (Au (I.ok.cab x c O J)))).trans (I.base.keep b o e n P hx)
    . show(u0,sl,G,zJX,sl,(hs.2 b (ZM (Au (I.ok.cab x c O J)))).trans G)
    . show(u0,o',G,zLW,o',(hs.2 b (ZM (Au (I.ok.cab x c O J)))).trans G)
    . by_cases hj:j=i
      . show(zAy,.inr (du,.inl L,c,J,Y))
      . ext zAz;rcases q with q|⟨k,c',e,z'⟩
        . ext eg q
        . show(lW,(du,k,c',e,z'.sameBut hs ?_))
          ext Of;exact hj (xn0 hN G (I.ok.inj _ _ _ e J▸hi))
    . by_cases hcc:c'=c
      . subst hcc; exact hZ Y
      . show(u0,w2,z2,I.cell y c' e,w2,z2.sameBut hs hcc)
    . ext zxj nf
      refine(ff,(hs.2 cO ?_).trans e,n,ne,nf,d);intro q;rw[q,S] at e;have q':oc=dX:=zyt;exact d w' (hV q' R)
def xjj {M:Model}{A:Around}{E:dE}{i:Nat}{x:Str}{v:V}{u:Value}{Q:vh} (I:cL) (hN:X.N.Nodup) (hi:xI) (hx:Ea) (r:qH)
    (h:zcn zPp) (hf:DR:=by first|ext vG|ext vF|ext gR):zIi :=
  xmr I hN hi hx r (λ s' b _=>h s' b) hf
def Inv.call' {s':Shared}{ch:cM} (I:cL) (ho:s'.os=s.os) (u:SV Ld ch s'.heap) (hok:zeR H' s'.heap) (hg:zbV)
    (hch:zoA):Cw:=by
  obtain⟨h',g',d',t',d⟩:=s';show(pk,d,s.os,ho);exact I.call (g':=g') (t':=t') (d':=d') u hok hg hch
#check _
meta abbrev XK:=Addr->(oG Addr)
meta abbrev St:=zqE
meta abbrev VK:=ud
meta abbrev TE:=St->(fF Hp VK)
meta abbrev TT:=zgQ zO
meta abbrev TA:=zgQ CB
structure Ends where
 nx:pE
 rt:VK
 bk:pE:=zt
 ct:pE:=zt
meta abbrev TS:=Ends->pE
meta def EP (X:Cx) (pins:dJ) (Z:St) (Q:VK) (u:Value) (s':Shared):Prop:=∃ v H',Cw/\qH/\G5
meta def TP (X:Cx) (pins:dJ) (Z:St) (Q:zO) (b:Bool) (s':Shared):Prop:=∃ H',Cw/\Q b H'
meta def AP (X:Cx) (pins:dJ) (Z:St) (Q:CB) (us:dw) (s':Shared):Prop:=∃ vs H',Cw/\ML/\Q vs H'
meta def SP (X:Cx) (pins:dJ) (D:Ends) (f:Flow) (s':Shared):Prop :=
 match f with
 | .next=>(zaY,D.nx σ' H')
 | .brk=>(zaY,D.bk σ' H')
 | .cont=>(zaY,D.ct σ' H')
 | .ret u=>∃ v σ' H',(zdE pins)/\qH/\D.rt v H'
meta def PE (X:Cx) (e:Expr) (t:TE):Prop :=
 (zDV,cL->MT->(uP zw))
meta def PT (X:Cx) (e:Expr) (t:TT):Prop :=
 (Xq,zO,zJZ zw)
meta def PW (X:Cx) (e:Expr) (t:TT):Prop :=
 ∀(whole:L7) (pins:dJ) (s:Shared) (Z:St) (H:Hp) (Q:zO),zJZ whole
def PW.pt {X:Cx}{e:Expr}{t:TT} (h:PW X e t):PT X e t:=h _
meta def PA (X:Cx) (es:iC) (t:TA):Prop :=
 ∀(pos:Pos) (pins:dJ) (s:Shared) (Z:St) (H:Hp) (Q:CB),cL->MT->(sW (spliced EW) (AP X pins Z Q))
meta def PS (X:Cx) (st:Stmt) (t:TS):Prop :=
 zAK (sW (exec st X.env) (SP X pins D))
meta def PSs (X:Cx) (st:Fz) (t:TS):Prop :=
 zAK (sW (execs st X.env) (SP X pins D))
def thn {α:Type}{t:Sem α}{Q Q':zhH}{M:Model}{A:Around}{E:dE}{s:Shared} (h:Ob t) (hQ:∀ a s,Q a s->Q' a s):wpAny M A t Q' E s:=Ct h hQ x
section
variable {X:Cx}
def bin {a b:Expr}{ta tb:TE} (ha:qD) (hb:zM) {pins:dJ}{s:Shared}{Z:St}{H:Hp}{R:V->ud} (I:cL) (h:zGn)
    {α:Type}{Q:zhH}{f:Value->Value->Sem α}
    (hf:zzX) :
    zEK:=by
  ext zzd
@[reducible] def oV:fF zoV (V->Prop)
 | GW,k=>k v
 | _,_=>False
theorem x36:∀{o:zoV}{k:V->Prop},oV o k->∃ v,o=GW/\k v
 | GW,_,h=>vX v h
@[reducible] def iV:V->(fF V zcY)
 | j5,.int j,k=>k i j
 | _,_,_=>False
theorem xsn {x y:V}{k:zcY} (h:iV x y k):∃ i j,Sz/\zvf/\k i j:=by
 cases x with
 | int i =>
  cases y with
  | int j=>exact lv i j rfl h
  | _=>exact h.elim
 | _=>exact h.elim
@[reducible] def lV:fF cA (fF V cA)
 | uB,k=>k v r
 | [],_=>False
theorem xym:∀{l:cA}{k:fF V cA},lV l k->∃ v r,l=uB/\k v r
 | uB,_,h=>fG v r rfl h
@[reducible] def nV:fF cA Prop
 | [],p=>p
 | fh,_=>False
theorem xyn:∀{l:cA}{p:Prop},nV l p->l=[]/\p
 | [],_,h=>d4 h
@[reducible] def tVar (i:Nat) (Z:St) (H:Hp) (Q:VK):Prop:=oV Dy λ v=>Q v H
@[reducible] def tC (v:V):TE:=(N1,Q v H)
def x2s {i:Nat}{x:Str}{pos:Pos} (hN:xI) (hv:zbe) (hd:qh) (hcd:zFK):zSC:=by
 ext gz j;show(cD,v,e,h,x36 h);show(tL,m,q,w,I.loc,u,r,l,w i x v hN e hv);have f:EP X j Z Q u s:=zrc
 rcases l with⟨b,hm⟩|⟨b,c,hc,hcell⟩
 .show(zxo,wpAny_loadName_local I.ok.kind b q hm f)
 rcases b with b|b
 .show(zxo,wpAny_loadName_cell I.ok.kind b hc hcell f)
 show(zxo,wpAny_loadName_free I.ok.kind b hc hcell f hcd)
def xp {i j pos}:zpE j5 (tC (.int i)):=(KE,wpAny_Constant_int (d9 j5 H kY iE h))
def xcd {b j pos}:zpE (.bool b) (tC (.bl b)):=(KE,Constant_bool (Oj yA h))
def xa5 {j pos}:PE X (.Constant .none j pos) (tC .non):=(KE,Constant_none (Oj .non h))
def xan {x j pos}:zpE kE (tC (.str x)):=(KE,Calls.Constant_str (d9 kE H kY iE h))
meta def Gl (X:Cx) (x:Str):Prop:=(cu,X.env.kindOf x,.globalImplicit)
def xiw {E:dE}{pins:dJ}{s:Shared}{Z:St}{H:Hp}{x:Str}{u:Value}{pos:Pos}{Q:dE} (I:cL) (hg:tY) (hm:zVu) (h:Q u s)
    (hd:qh):Mg (pq Lo) :=
  Calls.Name_function_global I.ok.kind hg (Calls.loadGlobal_global zCn hm h) hd
def xc0 {E:dE}{pins:dJ}{s:Shared}{Z:St}{H:Hp}{x:Str}{u:Value}{pos:Pos}{Q:dE} (I:cL) (hg:tY) (hm:ziV) (hv:zKz) (h:Q u s)
    (hn:zhw) (hd:qh):Mg (pq Lo):=by
  show(cD,y,q,j,I.mod.blt)
  exact Calls.Name_function_global I.ok.kind hg (Calls.loadGlobal_builtin zCn hm (by rw[I.ok.blt]; exact q.keeps I.bk) ((j x hn).trans hv) h) hd
def xg2 {x:Str}{v:V}{u:Value}{pos:Pos} (hg:tY) (hm:zVu) (r:qH) (hd:qh):zWs :=
 (KE,xiw I hg hm zrc hd)
def xey {x:Str}{v:V}{u:Value}{pos:Pos} (hg:tY) (hm:ziV) (hv:zKz) (r:qH) (hn:zhw) (hd:qh):zWs :=
 (KE,xc0 I hg hm hv zrc hn hd)
variable {a b:Expr}{ta tb:TE}{pos:Pos}
meta def PC (X:Cx) (op:CmpOp) (a b:Expr) (t:TE):Prop :=
 ∀(pins:List (Addr × Obj)) (s:Shared) (Z:St) (H:Hp) (Q:VK),cL->MT ->
  (zMy,c,zj (compareOp op v u) (EP X pins Z Q) s₂)
def xnd (b:Expr) {op:CmpOp} (h:op≠.In) (h2:op≠.NotIn):Io:=by
 show(zAm,(by cases op<;>first|rfl|ext lX h),by cases op<;>first|rfl|ext lX h2)
inductive tB_i (x:V) (H1:Hp) (Q:zO):Prop
 | mk (c) (e_:zfa) (r_:Q c H1)
meta def tB (t:TE):TT:=(zVB,tB_i x H1 Q)
def x29 {op:CmpOp}{t:TE} (h:PC X op a b t) (h1:Io:=by first|exact xnd _ cE cE|rfl):PE X X7 t:=λ c s Z H Q I d=>wpAny_Compare1 (h c s Z H Q I d) h1
def xd7 {op:CmpOp}{t:TE} (h:PC X op a b t) (h1:Io:=by first|exact xnd _ cE cE|rfl):PT X X7 (tB t):=by
 ext tT f Q i;refine wpAny_isTrue_Compare1 (thn (Ut f i) (zxE,j,λ u s2 h2=>kc h2 c s3 x H1 I1 r1 q1)) h1;ext PQ d q q1;exact JR (cC H1 I1 q)
def xbe {e:Expr}{t:TE} (h:yO t) (he:(zAZ,isTrue e X.env whole,e.pos):=by ext NP):PT X e (tB t):=by
 ext tT a Q c;refine isTrue_plain (GJ (Ut a c) j i f b) (he _);ext PQ d q b;exact JR (cC i f q)
variable {tA tB':TT}{rest:List Expr}
meta def tAnd (t u:TT):TT:=Bp c (gV,c,u Z H1 Q,Q false H1)
meta def tOr (t u:TT):TT:=Bp c (gV,c,Q true H1,u Z H1 Q)
meta def tNot (t:TT):TT:=(Bp,c,Q (! c) H1)
theorem xfn (ha:S3):Kx .And nK tA:=by
 ext Tk f b;refine isTrue_and (thn (ha b s Z H Q I h) (iX c i));cases c with
 | true=>exact isTrue_and_nil e
 | false=>exact e
theorem xb4 (ha:S3):Kx .Or nK tA:=by
 ext Tk d b;refine isTrue_or (thn (ha b s Z H Q I h) (iX c f));cases c with
 | false=>exact isTrue_or_nil e
 | true=>exact e
theorem xf3 (ha:S3) (hb:Kx .And Cy tB'):Kx .And (a::Cy) (tAnd tA tB'):=by
 ext Tk m e;refine isTrue_and (thn (BP e) (zx c q j i f));cases c with
 | true=>exact hb m e q Z j Q i f
 | false=>ext dy j i f
theorem xch (ha:S3) (hb:Kx .Or Cy tB'):Kx .Or (a::Cy) (tOr tA tB'):=by
 ext Tk j d;refine isTrue_or (thn (BP d) (zx c m i f e));cases c with
 | true=>ext dy i f e
 | false=>exact hb j d m Z i Q f e
def xb3 (ha:S3):PT X zOA (tNot tA):=by
 ext gz b;exact isTrue_not (ha b s Z H (λ c d=>Q (! c) d) I h)
inductive x0m (tb:TE) (Z:St) (x:V) (H1:Hp) (Q:VK):Prop
 | mk (c) (e_:zfa) (r_:(gV,c,tb Z H1 Q,ziy false))
meta def x42 (ta tb:TE):TE:=(yV,x0m tb Z x H1 Q)
inductive x19 (tb:TE) (Z:St) (x:V) (H1:Hp) (Q:VK):Prop
 | mk (c) (e_:zfa) (r_:(gV,c,ziy true,tb Z H1 Q))
meta def tOrV (ta tb:TE):TE:=(yV,x19 tb Z x H1 Q)
inductive x0o (x:V) (H1:Hp) (Q:VK):Prop
 | mk (c) (e_:zfa) (r_:ziy (! c))
meta def x4b (ta:TE):TE:=(yV,x0o x H1 Q)
def xgo {op}{t:TE} (h:PE X a t):Rs op nK t:=λ b s Z H Q I c=>BoolOp_one (h b s Z H Q I c)
theorem xe9 (ha:qD) (hb:Rs .And Cy tb):Rs .And (a::Cy) (x42 ta tb):=by
 ext gz e;refine BoolOp_and (GJ (BP e) m j i f);ext PQ c f f;refine JR ?_;cases c with
 | true=>exact hb e m Z j Q i f
 | false=>exact(gZ,.bl false,j,i,f)
theorem x4c (ha:qD) (hb:Rs .Or Cy tb):Rs .Or (a::Cy) (tOrV ta tb):=by
 ext gz d;refine BoolOp_or (GJ (BP d) j i f e);ext PQ c e e;refine JR ?_;cases c with
 | false=>exact hb d j Z i Q f e
 | true=>exact(gZ,.bl true,i,f,e)
def x2i (ha:qD):PE X zOA (x4b ta):=by
 ext gz d;refine UnaryOp_ (GJ (BP d) j i f e);ext PQ c e e;exact not_of (JR (gZ,.bl (! c),i,f,e))
meta def tIf (t:TT) (ta tb:TE):TE:=Bp c (gV,c,ta Z H1 Q,tb Z H1 Q)
theorem xcp {c:Expr} (hc:PT X c tA) (ha:qD) (hb:zM):PE X (.IfExp c a b pos) (tIf tA ta tb):=by
 ext gz e;refine wpAny_IfExp (thn (hc e s Z H _ I h) (zx d i m l j));cases d with
 | true=>exact ha e i Z m Q l j
 | false=>exact hb e i Z m Q l j
#check _
meta def SqL (K:Zd) (H:Hp) (a:Addr) (xs:cA):Prop :=
 Rd H a (.lst xs) \/
  (zNA,zOL/\(cR,LC "list",zuh,o.data=.seq its n,fA its.size,zQd))
meta def SqT (K:Zd) (H:Hp) (a:Addr) (xs:cA):Prop :=
 Rd H a (.tup xs) \/
  (zNA (cR,zOL,LC "tuple",o.data=.seq its n,fA its.size,zQd))
meta def absV:Value->(gc V)
 | .none=>zwP
 | .bool b=>Af b
 | .int i _=>d0 i
 | .str x _=>tD x
 | .bytes b _=>some (.byt b)
 | .float b _=>some (.flt b)
 | dH=>iH
 | lF n=>some (.ty n)
 | _=>none
theorem RelV.abs {x:V}{u:Value} (r:vi):(cu,absV u,x):=by
 cases x with
 | non=>ext NO
 | bl _=>ext NO
 | int _=>ext Mw
 | str _=>ext Mw
 | byt _=>ext Mw
 | flt _=>ext Mw
 | ref _=>ext NO
 | ty _=>ext NO
def RelV.inj {x y:V}{u:Value} (r:vi) (q:jY):x=y:=ZW.inj (r.abs.symm.trans q.abs)
theorem Vals.inj:∀{xs ys:cA}{us:dw},pD->(DH ys)->xs=ys
 | _,_,_,.nil,.nil=>rfl
 | _,_,_,zN,.cons r' t'=>(fS,r.inj r',Vals.inj t t')
section
variable {X:Cx}{pins:List (Addr × Obj)}{Z:St}{H:Hp}{s:Shared}{a:Addr}{xs ys:List V}
def SqL.of {K:Zd} (h:rD a xs):qr:=.inl (.inl h)
def SqT.of {K:Zd} (h:ji a xs):zr:=.inl (.inl h)
def Inv.list (I:cL) (h:zWY):∃ its:dw,EV/\PlainL s.heap a its.toArray/\zh:=by
 rcases h with h|⟨o,its,n,c,j,d,hs,hz,r⟩
 .obtain ⟨z,its,n,r,e⟩:=h.ok I.hok;show(kP,its,r,zvN n e rfl,z)
 show(zBn,(dN,84,o,n,I.kIn a o c,j,d,zRP))
def Inv.tuple (I:cL) (h:zWX):∃ its:dw,EV/\IsTup s.heap a its.toArray/\zh:=by
 rcases h with h|⟨o,its,n,c,d,hs,hz,r⟩
 .obtain ⟨z,its,r,p⟩:=h.ok I.hok;ext kP its r p z
 show(zBn,(eE,o,I.kIn a o c,d,⟨n,zRP⟩))
def Inv.list_inj (I:cL) (h:zWY) (h':SqL X.K H a ys):xs=ys:=by
 obtain⟨its,r,⟨o,n,e,_,_,d⟩,_⟩:63:=I.list h;obtain⟨its',c,⟨f,m,b,_,_,d'⟩,_⟩:63:=I.list h';ext zzk
def Inv.tuple_inj (I:cL) (h:zWX) (h':SqT X.K H a ys):xs=ys:=by
 obtain⟨its,r,⟨o,e,_,n,d⟩,_⟩:63:=I.tuple h;obtain⟨its',c,⟨f,b,_,m,d'⟩,_⟩:63:=I.tuple h';ext zzk
#check _
meta abbrev Cx.wish (X:Cx) (E:dE):Cx:={ X with xe:=E }
meta abbrev Cx.nox (X:Cx):Cx:=X.wish zt
def Cx.Ok.wish {X:Cx} (ok:X.Ok) (E:dE):(zgx).Ok :=
 zyW
def Cx.Ok.unwish {X:Cx}{E:dE} (ok:(zgx).Ok):X.Ok :=
 zyW
section
variable {X:Cx}{pins:List (Addr × Obj)}{Z:St}{H:Hp}{s:Shared}{E:Value->Shared->Prop}
def Inv.wish (I:cL) (E:dE):zQI:=(zkl,I.ok.wish E,I.loc,I.len)
def Inv.unwish (I:zQI):cL:=zkl I.ok.unwish I.loc I.len
theorem SP.unwish {D:Ends}{f:Flow}{s':Shared} (h:SP zgx pins D f s'):SP X pins D f s':=by
 cases f with
 | next=>ext zkF
 | brk=>ext zkF
 | cont=>ext zkF
 | ret u=>show(NX,v,σ',H',I,r,q,h); exact wj v σ' H' I.unwish r q
def PSs.nox {st:Fz}{t:TS} (h:PSs X.nox st t):PSs X st t:=λ a s Z H D I b =>
 Jr (h a s Z H D (I.wish _) b) (λ_ _ q=>q.unwish) (Dl,Yu z)
#check _
section
variable {X:Cx}{st:Stmt}{rest:List Stmt}{t u:TS}{e:Expr}{te:TE}{pos:Pos}
meta def x34:TS:=qW tF
meta def tSeq (t u:TS):TS:=(qW,t Pg Z H)
def xz:PSs X [] x34:=λ_ _ Z H _ I h=>WC (fG Z H I h)
theorem xb (h1:zfd) (h2:PSs X rest u):PSs X (st::rest) (tSeq t u):=by
 ext zBk Pg;cases f with
 | next =>
  show(kq,σ',H',c,q,q);exact h2 a b σ' H' D c q
 | ret v=>exact q
 | brk=>exact q
 | cont=>exact q
theorem xk (h1:zfd):PSs X [st] t:=by
 ext zBk D;cases f with
 | next=>exact WC q
 | ret v=>exact q
 | brk=>exact q
 | cont=>exact q
def Inv.quiet {pins:dJ}{Z:St}{H:Hp}{s:Shared} (I:cL):interactive X.env=false:=yu interactive I.ok.kind
meta def x5j (te:TE):TS:=(qW,te Z H λ_ H1=>D.nx Z H1)
def xap (he:vo) (hs:iA (Xw e none)):PS X (.Expr e pos) (x5j te):=by
 ext sC a;exact wpAny_Expr_any (zNN,fG Z d c b) I.quiet hs
meta def tRet (te:TE):TS:=(qW,te Z H D.rt)
def xt (he:vo):PS X (.Return (some e) pos) (tRet te):=by
 ext sC a;exact wpAny_Return_some (zNN,wj x Z d c r1 b)
meta def tIfS (c:TT) (t u:TS):TS:=(qW,c Z H λ b H1=>(gV,b,t D Z H1,u D Z H1))
theorem xaf {c:Expr}{a b:Fz}{tc:TT} (hc:PT X c tc) (ha:PSs X a t) (hb:PSs X b u):PS X (.If c a b pos) (tIfS tc t u):=by
 ext sC e;refine wpAny_If (thn (hc e s Z H _ I h) (zx d i m l j));cases d with
 | true=>exact ha e i Z m D l j
 | false=>exact hb e i Z m D l j
meta def x1z:TS:=Kt
def xbu:PS X st x1z:=λ_ _ _ _ _ _ h=>h.elim
#check _
meta abbrev TG:=AS V St Hp pE
meta abbrev TGs:=AS cA St Hp pE
meta def PG (X:Cx) (target:Expr) (t:TG):Prop :=
 ∀(pins:dJ) (s:Shared) (Z:St) (H:Hp) (v:V) (u:Value) (Q:pE),cL->qH->t v Z H Q ->
  (sW (assign target X.env u) zKw)
meta def PGs (X:Cx) (ts:iC) (t:TGs):Prop :=
 ∀(pins:dJ) (s:Shared) (Z:St) (H:Hp) (vs:cA) (us:dw) (Q:pE),cL->ML->t vs Z H Q ->
  wpAny qj X.A (assignInOrder ((zty ts).map (·.2)) us) zKw X.xe s
meta abbrev TIp:=Rf
meta def PIp (X:Cx) (op:Operator) (t:TIp):Prop :=
 ∀(pins:List (Addr × Obj)) (s:Shared) (Z:St) (H:Hp) (x y:V) (v u:Value) (Q:VK),Inv X pins Z H s->RelV x v->RelV y u->t x y H Q ->
  (uP (inplaceOp op v u))
section
variable {X:Cx}{pos:Pos}
@[reducible] def xdb (i:Nat):TG:=λ v Z H Q=>Q uS H
def xfj {i:Nat}{x:Str} (hN:X.N.Nodup) (hi:xI) (hx:Ea) (hf:DR:=by first|ext vG|ext vF|ext gR):zUd:=by
 ext Lu b v u;exact wpAny_assign_Name (xjj I hN hi hx r (λ s' j=>fG _ H j h) hf)
@[reducible] def gNil:TGs:=λ vs Z H Q=>nV vs (Q Z H)
@[reducible] def xr7 (t:TG) (u:TGs) (vs:cA) (Z:St) (H:Hp) (Q:pE):Prop:=lV vs λ v r=>t v Z H λ σ' H'=>u r σ' H' Q
def xac:PGs X [] gNil:=by
 ext Lu a vs us;show(rQ,h,xyn h);ext eQ;cases r;exact assignInOrder_nil (fG Z H I h)
theorem xo {e:Expr}{es:iC}{t:TG}{u:TGs} (h1:PG X e t) (h2:PGs X es u)
    (hs:autoParam ((zty sD).map (·.2)=assign e X.env::(zaB).map (·.2)) vR):PGs X sD (xr7 t u):=by
  ext Lu b vs us;show(kq,v,vr,f,h,xym h);subst f;cases r with
  | cons r rr =>
    rw[hs];refine assignInOrder_cons (thn (h1 b s Z H _ _ _ I r h) λ_ c ⟨1082,σ1,j,i,d⟩=>?_);exact h2 b c σ1 j _ _ Q i rr d
inductive gTup (K:Zd) (n:Nat) (t:TGs) (v:V) (Z:St) (H:Hp) (Q:pE):Prop
 | mk (a xs) (e_:pY a) (r_:zr/\xs.length=n/\t xs Z H Q)
def xai {es:iC}{k:Nat}{t:TGs}{n:Nat} (hc:mD) (h:PGs X es t)
    (hn:zWp) (hst:autoParam ((zaB).findIdx? (·.1)=none) vR):PG X zqr (gTup X.K n t):=by
  ext zDZ C A B;show(dG,its,w,z,hz,I.tuple A);refine assign_Tuple_tuple mF z (zSx B) hst (cG h' y);show(uz,D,CS j,zEs,h j _ Z H xs _ Q D zTx q)
meta def tAsg (te:TE) (g:TG):TS:=(qW,te Z H λ x H1=>g x Z H1 D.nx)
def xbk {tg e:Expr}{te:TE}{g:TG} (he:vo) (hg:PG X tg g) (hs:iA (sP,swapsWithSole [tg] e pos.line X.env,false)) (hw:iA (sP,swappedStores [tg] e X.env,none))
    (h1:autoParam ((zty [tg]).map (·.2)=[assign tg X.env]) vR):PS X (.Assign [tg] e pos) (tAsg te g):=by
  ext sC b;refine wpAny_Assign_stores (GJ (BN b) c j f d) hs hw;show(cW,h1,thn (hg b c Z j x v _ f r1 d) λ_ o q=>q)
def xdr {i:Nat}{x:Str}{e:Expr}{te:TE}{pos':Pos} (hN:X.N.Nodup) (hi:xI) (hx:Ea) (he:vo) (hs:zFg) (hf:DR:=by first|ext vG|ext vF|ext gR) :
    zAW:=by
  ext sC b;refine wpAny_Assign_Name (kc (BN b) v C y z w r1 j) hs;exact xjj w hN hi hx r1 (λ B q=>fG _ z q j) hf
meta def tAug (i:Nat) (te:TE) (ti:TIp):TS:=(qW,∃ x,Dy=(pi x)/\te Z H λ y H1=>ti x y H1 λ z H2=>D.nx (Z.set i (some z)) H2)
def x1k {i:Nat}{x:Str}{e:Expr}{te:TE}{op:Operator}{ti:TIp}{pos':Pos} (hN:X.N.Nodup) (hi:xI) (hx:Ea) (he:vo) (ho:PIp X op ti) (hf:DR:=by first|ext vG|ext vF|ext gR) :
    PS X (.AugAssign (.Name x pos') op e pos) (tAug i te ti):=by
  ext sC b;show(tL,v,K,h,h,m,G,J,I.loc)
  have q:zbe:=by rcases hx with k|k; exact zjj; exact .inr (.inl k)
  show(cD,u,r,l,J i x v hi K q);refine wpAny_AugAssign_Name ?_;have go:sW zw (λ w s₂=>zj (inplaceOp op u w) (λ r s₃=>zj (storeName X.env x r) (λ_=>SP X b D .next) s₃) s₂):=by
    show(oJ,BN b,kU w B y Q O r1 E ?_);show(oJ,ho b B Z Q v y u w _ O r r1 E,kU z T R P M r2 C ?_);exact xjj M hN hi hx r2 (λ S L=>fG _ P L C) hf
  rcases l with⟨j,hm⟩|⟨j,c,hc,hcell⟩
  . exact wpAny_loadName_local I.ok.kind j G hm go
  . rcases j with j|j
    . exact wpAny_loadName_cell I.ok.kind j hc hcell go
    . rcases hx with k|k
      . ext zAJ
      . ext zAJ
#check _
section
variable {X:Cx}{pos:Pos}
meta def xh2 (c:TT) (tb:TS):TS:=λD Z H=>∃ W:xR,(∃ m,W m Z H)/\∀ m Z H,W m Z H ->
 c Z H λ b a=>(gV,b,(zKe,(TR,m,W m' σ' H'),tb (znr N N) Z a),D.nx Z a)
theorem xhk {c:Expr}{body:Fz}{tc:TT}{tb:TS} (hp:zHD) (hc:PT X c tc) (hb:PSs X body tb):PS X (.While c body [] pos) (xh2 tc tb):=by
 ext sC a;obtain⟨W,⟨Q,M⟩,d⟩:62:=h;refine wpAny_While (codeAny_whileLoop (λ n s'=>∃ σ' H',(zdE a)/\W n σ' H') ?_ Q (fG Z H I M));rintro n P (⟨σ1,K,R,L⟩:82);show(E4,hc a P σ1 K _ R (d n σ1 K L),zx b O J G q);cases b with
 | true =>
  ext cD N E q q;rw[fH];show(E4,hb a O σ1 J _ G q,c8 f S m);cases f with
  | next =>
   ext zBh
  | cont =>
   ext zBh
  | brk=>exact m
  | ret v=>exact m
 | false =>
  rw[dz Zv];exact WC (fG σ1 J G q)
#check _
structure It where
 go:oG Nat
 yld:Nat->Hp->ud
 stop:oG Nat
meta def FpOk (X:Cx) (pins:dJ) (H:Hp) (b:Addr):Prop :=
 iR/\(cR Kb zgr zQw (F9 b) (zcq b))
def Inv.fpOk {X:Cx}{pins:dJ}{Z:St}{H H':Hp}{s:Shared}{b:Addr} (I:cL) (hb:Ku b) (hn:E2):zxB H':=by
 refine(iU,hn,JK (ZK I.lt hb),I.nofs hb,.inr (Z1 I.sz hb),fM x c e z,wB p hp)
 .obtain ⟨v,q⟩:=zdi;show(Cp,ZK q.lt (cK z hb))
 show(Cp,ZK (Z0 (zeC).1) (cK z hb))
structure Turn (P:Program) (w:World) (K:Zd) (tg:Expr) (J:It) (fp:cM) (it:Addr) (tn:fF Nat Heap):Prop where
 mem:it∈fp
 obj:∀ i h,tn i h->∀ b∈fp,(XB uQ)
 keep:∀ i h h',tn i h->(∀ b∈fp,∀ o,uQ->sV)->tn i h'
 item:∀(X:Cx),X.prog=P->X.w=w->X.K=K->X.calm=true->∀(i:Nat) (pins:List (Addr × Obj)) (s:Shared) (Z:St) (H:Hp) (E:Value->Shared->Prop),Inv X pins Z H s->(∀ b∈fp,FpOk X pins H b)->tn i s.heap->zyn ->
  wpAny B9 X.A Kc (λ r s1=>∃ u,(cu r u) /\
   wpAny B9 X.A (letOwnedTupleGo tg Ao u) (λ_ s2=>∃ x H',(cR,HM s2,vi,J.yld i H x H',tn dc s2.heap,zcH)) E s1) E s
 done:∀(X:Cx),X.prog=P->X.w=w->X.K=K->X.calm=true->∀(i:Nat) (pins:List (Addr × Obj)) (s:Shared) (Z:St) (H:Hp) (E:Value->Shared->Prop),Inv X pins Z H s->(∀ b∈fp,FpOk X pins H b)->tn i s.heap->J.stop i H ->
  wpAny B9 X.A Kc (λ r s1=>r=none/\(wA s1)) E s
 self:∀(A:Around) (i:Nat) (s:Shared) (Q:dE) (E:dE),tn i s.heap->(kJ it s)->(Ac B9 A (pyIter (.ref it)))
meta abbrev TI:=zgQ Uu
meta def PIE (X:Cx) (pins:dJ) (Z:St) (tg:Expr) (R:Uu) (itv:Value) (s2:Shared):Prop :=
 ∃(it:Addr) (fp:cM) (tn:fF Nat Heap) (J:It) (H':Hp),(jv itv it)/\(cR,HM s2,Turn X.prog X.w X.K tg J fp it tn,tn 0 s2.heap,zuO H',R J H')
meta def PI (X:Cx) (tg iter:Expr) (wi:TI):Prop :=
 ∀(pins:dJ) (s:Shared) (Z:St) (H:Hp) (R:Uu),cL->wi Z H R ->
  (zJQ a zRR)
def xga {M:Model}{A:Around}{E:dE}{s:Shared}{tg:Expr}{it:Addr}{u:Value}{o:Obj}{n:String}{vs:ii}{Q:vh} (ho:(cu,s.heap.get? it,o)) (hc:LC n) (hd:zXl)
    (hn:(zyX).contains n=false) (hQ:Q () s):Ob (letOwnedTupleGo tg Ao u):=by
  unfold letOwnedTupleGo;cases tg<;>first
    | ext jg hQ
    | (cases u<;>first
        | ext jg hQ
        | (show(cY,wpAny_load ho ?_)
           rw[hc,hd];show Ob (Hf ((zyX).contains n&&vs[0]? == some (rawInt _)));show(zgM,(by intro h; rw[hn,Q8] at h; cases h),hQ)))
meta def Itl (K:Zd) (a:Addr):It :=
 (zSH,zVP,ziF qr,zoM qr)
meta def Itt (K:Zd) (a:Addr):It :=
 (zSH,∃ xs x,zr/\xY,ziF zr,zoM zr)
meta def Itr (lo:Int) (n:Nat):It:=zPl (lo+i)
def xvf {P:Program}{w:World}{K:Zd}{tg:Expr} (a it:Addr):(ET,Al,h.IsListIter it a i) where
 mem:=cy
 obj:=λi h st b m=>by
  ext rY I0;ext T7 st;exact⟨o,e,zmO⟩
 keep:=zlG
 item:=by
  ext zDJ;ext kq xs x y C G;ext zuc B y;show(cD,u,hu,Y,B.get C);ext zQL;refine W8 st p.isList (x:=u) IS (ux q U);have I1:CS f:=rC (iw,m,(U.2 b m).trans e) S R Q O N;show(zlW,q,d,(m8,x,H,I1,Y,(d4,λ ys hy=>(cK,I.list_inj hy y,C)),q,λ b m=>(A b m).1))
 done:=by
  ext zDJ;ext cD xs y C G;ext zuc B y;ext zQL;have hl:=B.length;exact WH (I.ok.hd T) st p.isList kS (DX m S R Q O N)
 self:=(Kv,wpAny_pyIter_listiter st h)
def xsb {P:Program}{w:World}{K:Zd}{tg:Expr} (a it:Addr):(ET,Ui,h.IsTupleIter it a i) where
 mem:=cy
 obj:=λi h st b m=>by
  ext zmR I0
 keep:=zlG
 item:=by
  ext zDH;ext kq xs x B G L;ext zQR;show(cD,u,hu,ru,D.get G);ext zQD;refine wpAny_pyNext_tuple_item st (Xt p) (x:=u) IS (ux q sb);have I1:CS f:=rC (iw,m,(sb.2 b m).trans e) U S R Q O;show(zlW,q,d,(m8,x,H,I1,ru,(d4,λ ys hy=>(cK,I.tuple_inj hy B,G)),q,λ b m=>(C b m).1))
 done:=by
  ext zDH;ext cD xs B G L;ext zQR;ext zQD;have hl:=D.length;exact wpAny_pyNext_tuple_end (I.ok.hd Y) st (Xt p) kS (DX m U S R Q O)
 self:=(Kv,wpAny_pyIter_tupleiter st h)
def xra {P:Program}{w:World}{K:Zd}{tg:Expr} (it:Addr) (lo:Int) (n:Nat):zDY zfX 1 where
 mem:=cy
 obj:=λi h st b f=>by
  ext rY PH;exact⟨_,st,λv z=>by
   ext zaS O⟩
 keep:=zRD
 item:=by
  ext zAf;have W:=Walks.range (prog:=X.prog) (w:=X.w) (I.ok.hd A) it lo 1 n;refine W.item i s _ _ y st (gE v h' N Q j kk);ext hF Q;show(dZ,T,iy c H (Bb N),I.turned (iw,f,kk b o PH e) M L J G D,eJ (zEW,Bb N,(m8,Li,H,T,jl t,lQ,j,λ b f=>(q b f).1)));rw[Int.mul_one]
 done:=by
  ext zAf;exact wpAny_pyNext_range_end (I.ok.hd A) st (by have:n<=i:=y; lia) λ h' S=>(d4,rC (iw,f,S b o f e) M L J G D)
 self:=zFJ
section
variable {X:Cx}{tg:Expr}
meta def x5q (K:Zd) (tl:TE):TI:=zCL L3 Al
meta def iTup (K:Zd) (tl:TE):TI:=(zCL,SqT K H1 a xs,Ui)
def x9 {l:Expr}{tl:TE} (hl:zwf):yI l (x5q X.K tl):=by
 ext DD c;show(oJ,zvU c,kU v d x w m r1 n ?_);obtain⟨a,e,⟨xs,u⟩,q⟩:63:=n;ext eQ;cases r1;show(dG,its,y,p,hz,m.list u);refine YE p.isList ?_;show(zjY,d.heap.objs.size,w,zLk,xvf a _)
def x25 {l:Expr}{tl:TE} (hl:zwf):yI l (iTup X.K tl):=by
 ext DD d;show(oJ,zvU d,kU v c x B m r1 n ?_);obtain⟨a,e,⟨xs,w⟩,q⟩:63:=n;ext eQ;cases r1;show(dG,its,C,p,hz,m.tuple w);refine wpAny_pyIter_tuple (show c.heap.IsTuple a its.toArray from p) ?_;show(zjY,c.heap.objs.size,B,m.kept (t':=c.toks) mQ,xsb a _)
def xnb {pins:dJ}{Z:St}{H:Hp}{s:Shared}{R:Uu}{E:dE}{lo hi:Int}{t u v:Tok}{tk:Nat} (I:cL) (h1:-kG<=lo) (h2:lo<kG) (h3:-kG<=hi) (h4:hi<kG)
    (q:R (Itr lo B1) H):zAU 1:=by
  show(zGU,small_one h1 h2 h3 h4);have c:wA (yS,Rp 1):=I.kept mQ;refine⟨121,zpK,[zpK],_,_,⟨66,H,rfl,
    zPP,xra _ lo B1,?_,CJ,q⟩⟩
  . show(cI,x,lo+vI*1=lo,cy,m,(hU B1)-vI=Builtin.Range.rangeSize lo hi 1,zlJ)
    show IsRangeIter _ _ (lo+vI*1) ((hU B1)-vI) 1;ext fK x m jj
  . ext zDT zpK
meta def x4t (ta:TA):TI:=(D1,∃ j:Int,(j7,vs,[.int j],-kG<=j,j<kG,R (Itr 0 j.toNat) H1))
meta def x47 (ta:TA):TI:=(D1,∃ i j:Int,(zEE,vs=(i8 i j),R (Itr i (j-i).toNat) H1))
theorem xsu {a:Expr}{ta:TA}{p pos:Pos} (hg:ztj) (hm:zti) (ha:Ff) (hs:Fb):yI (zpo "range") (x4t ta):=by
 show(Iq,b,boot_range,M6 (PU b i o f c));ext At j e c d q c;ext eQ;cases r1 with
 | cons r rr =>
  cases rr;ext hF r;exact call_range_1 (xnb f cm cm c d PD)
theorem xl1 {a b:Expr}{ta:TA}{p pos:Pos} (hg:ztj) (hm:zti) (ha:PA X Ds ta) (hs:zPr) (hs2:SQ [b] K4) :
    yI (Rc "range" Ds) (x47 ta):=by
  show(Iq,c,boot_range,zoJ c x y w d);obtain⟨i,j,e,⟨d,u,o,f⟩,q⟩:83:=d;ext eQ;cases r1 with
  | cons r rr =>
    cases rr with
    | cons r' rr =>
      ext zMh;exact call_range_2 (xnb w d u o f q)
meta def tFor (wi:TI) (g:TG) (tb:TS):TS:=λD Z H=>wi Z H λ J H1=>∃ W:Nat->Nat->St->Hp->Prop,(∃ m,W 0 m Z H1)/\∀ i m Z H,xB ->
 (J.stop i H/\tF)\/(J.go i H/\(wN,∀ x H',J.yld i H x H'->g x Z H' λ σ2 a=>tb (znr N N) σ2 a))
meta def xh8 (fp:cM) (h:Heap):dJ:=fp.filterMap λ b=>(h.get? b).map λ o=>(b,o)
def xer {fp:cM}{h:Heap}{b:Addr}{o:Obj} (hb:b∈fp) (e:uQ):N4∈xh8 fp h:=Yj.mpr (cC b hb ua)
theorem xvk {fp:cM}{h:Heap}{p:Addr × Obj} (hp:p∈xh8 fp h):cO∈fp/\(cu,h.get? cO,dX):=by
 show(cD,b,a,e,Yj.mp hp);cases q:h.get? b with
 | none=>ext HD q
 | some o =>
  rw[q] at e;ext sJ c N4 p zyt;ext cU a q
def Inv.pinned {pins:dJ}{Z:St}{H:Hp}{s:Shared}{fp:cM} (I:cL) (hf:zjv) (ho:∀ b∈fp,(XB i4)):iy (pins++xh8 fp s.heap) H s :=
 I.pins_of λ p r=>(Zy.mp r).elim (λ z=>I.pin p (Z7 _ z)) λ z=>by
  show(mL,j,xvk z);obtain⟨x,w,u,_⟩:44:=hf cO j;show(cD,o,q,d,ho cO j);ext dP e q q;exact ff e x w u d
def Inv.unpinned {pins pl:dJ}{Z:St}{H:Hp}{s:Shared} (I:iy (pins++pl) H s):cL:=I.pins_of λ p a=>I.pin p (Z7 _ (Z3 _ a))
def xaz {iter:Expr}{body:Fz}{wi:TI}{g:TG}{tb:TS}{pos:Pos} (hp:zHD) (hc:mD) (hi:zcU) (hg:PG X tg g) (hb:PSs X body tb)
    (hs:zkt:=by ext NP):PS X (.For tg iter body [] pos) (tFor wi g tb):=by
  ext sC q;refine wpAny_For (thn (zef q) (zxE s1 zWr)) hs;obtain⟨it,fp,tn,J,⟨H2,e,I2,T,Q,f2,W,⟨m0,w0⟩,K⟩⟩:121:=h2;ext eQ
  -- what stays true of the iterator's objects through the loop
  have y:(zNo,FpOk X q H' b):=λ hn b hb=>(AX,hn b hb,f2 b hb)
  refine codeAny_forLoop_any (λ n s'=>(zXH,zdE q,s'.heap,W i n σ' H')) ?_ m0 (mR,0,Z,H2,I2,Q,λ b hb=>(f2 b hb).1,w0);rintro n s3 (⟨i,σ3,P,I3,L,O,w3⟩:104);rcases K i n σ3 P w3 with⟨stop,qn⟩|⟨go,N,hN,step⟩
  . show(E4,T.done X rfl rfl rfl hc i q s3 σ3 P X.xe I3 (y O) L stop,λ r s4 ⟨1042,S,I4⟩=>?_)
    subst S;exact WC (fG σ3 P I4 qn)
  . show(E4,T.item X rfl rfl rfl hc i q s3 σ3 P X.xe I3 (y O) L go,zx r s4 u S h4)
    subst S;show(E4,h4,λ_ s5 ⟨1085,x,H5,I5,r5,y5,G,U⟩=>?_);have Y:=I5.pinned (y U) (T.obj _ _ G);show(E4,hg _ s5 σ3 H5 x u _ Y r5 (step x H5 y5),λ_ s6 ⟨1082,σ6,H6,I6,q6⟩=>?_);show(E4,hb _ s6 σ6 H6 _ I6 q6,c8 f R E);have z:∀{σ7:St}{C:Hp},Inv X (q++xh8 fp s5.heap) σ7 C R->N σ7 C->(zfF (zXH,Inv X q σ' H' R,R.heap,W i m σ' H')):=λ{σ7 C} B M=>by
      show(cD,m',hm,w7,hN σ7 C M);show(eW,m',hm,mR dc σ7 C B.unpinned (zgR,G,λ b hb o e=>(B.pin N4 (Z7 _ (Z7 _ (xer hb e)))).1) CJ w7);show(zWf,G,hb,B.pin N4 (Z7 _ (Z7 _ (xer hb e))))
    cases f with
    | next=>ext zMJ
    | cont=>ext zMJ
    | brk=>show(kq,σ7,C,B,E,E); exact fG σ7 C B.unpinned E
    | ret v=>show(NX,x7,σ7,C,B,r7,E,E); exact wj x7 σ7 C B.unpinned r7 E
#check _
def xbc {K:Zd}{a:Addr}{xs:cA}{g:TG}{tb:TS}{D:Ends}{Z:St}{H:Hp} (Pv:xR) (h0:zU) (hl:zel)
    (hs:zJF) (hd:Re) :
    ∃ W:Nat->Nat->St->Hp->Prop,(∃ m,W 0 m Z H)/\∀ i m Z H,xB ->
      ((Al).stop i H/\tF)\/((Al).go i H/\(wN,∀ x H',(Al).yld i H x H'->(C9 N))):=by
  ext Xf c
  . ext zzN
  . ext Xl
def x04 {K:Zd}{a:Addr}{xs:cA}{g:TG}{tb:TS}{D:Ends}{Z:St}{H:Hp} (Pv:xR) (h0:zU) (hl:zdF zdv zr)
    (hs:zJF) (hd:Re) :
    ∃ W:Nat->Nat->St->Hp->Prop,(∃ m,W 0 m Z H)/\∀ i m Z H,xB ->
      ((Ui).stop i H/\tF)\/((Ui).go i H/\(wN,∀ x H',(Ui).yld i H x H'->(C9 N))):=by
  refine(V5,O3 xs.length zdv,LI xs.length);show(zlC,c,c,xs.length)
  . ext zzN
  . ext Xl
def xud {lo:Int}{n:Nat}{g:TG}{tb:TS}{D:Ends}{Z:St}{H:Hp} (Pv:xR) (h0:zU)
    (hs:zdF kf (DY Li H pQ pQ)) (hd:zbt n) :
    ∃ W:dI Nat Nat St zgC,(∃ m,W 0 m Z H)/\∀ i m Z H,xB ->
      ((zfX).stop i H/\tF)\/((zfX).go i H/\(wN,∀ x H',(zfX).yld i H x H'->(C9 N))):=by
  refine(V5,(O3,n,i<=n),LI n);ext znz b;by_cases hlt:kf
  . show(lW,(du,hlt,pQ,NT a (AR,n-dc,cm,hlt,a),zdV))
    ext rQ y y;subst e y;exact hs i Z _ hlt p
  . ext pk i n cm;show(eg,zeh dF)
meta abbrev R2:=Rf
meta def OpR (X:Cx) (f:Ph) (r:R2):Prop :=
 ∀(pins:List (Addr × Obj)) (s:Shared) (Z:St) (H:Hp) (x y:V) (v u:Value) (Q:VK),Inv X pins Z H s->RelV x v->RelV y u->r x y H Q ->
  (uP (f v u))
meta def UnR (X:Cx) (f:Value->L7) (r:zcx):Prop :=
 ∀(pins:dJ) (s:Shared) (Z:St) (H:Hp) (x:V) (v:Value) (Q:VK),cL->xM->r x H Q ->
  (uP (f v))
meta def xc7 (X:Cx) (f:Value) (r:zXp):Prop :=
 ∀(pins:dJ) (s:Shared) (Z:St) (H:Hp) (xs:cA) (us:dw) (Q:VK),cL->pD->r xs H Q ->
  (uP (call f us))
meta def TruR (X:Cx) (r:V->(fF Hp zO)):Prop :=
 ∀(pins:dJ) (s:Shared) (Z:St) (H:Hp) (x:V) (v:Value) (Q:zO),cL->xM->r x H Q ->
  (zql (truthy v))
meta def tOp (r:R2) (ta tb:TE):TE:=yV (zsE,r x y H2 Q)
meta def tUn (r:zcx) (ta:TE):TE:=(yV,r x H1 Q)
@[reducible] def rI (C:zcY) (g:Int->Int->V) (x:V) (y:V) (H:Hp) (Q:VK):Prop:=iV x y λ i j=>C i j/\Q Du H
@[reducible] def rI0 (g:Int->Int->V) (x:V) (y:V) (H:Hp) (Q:VK):Prop:=iV x y λ i j=>Q Du H
meta def rU (g:Int->V):zcx:=λ x H Q=>∃ i,Sz/\Q (g i) H
section
variable {X:Cx}{a b c:Expr}{ta tb tc:TE}{pos:Pos}
def binT (ha:qD) (hb:zM) {pins:dJ}{s:Shared}{Z:St}{H:Hp}{R:V->ud} (I:cL)
    (h:zGn) {Q:dE}{f:Ph}
    (hf:zzX) :
    zEK:=by
  ext zzd
def x0 {op:Operator}{r:R2} (ho:RM op r) (ha:qD) (hb:zM):PE X (.BinOp a op b pos) zdI:=by
 ext gz c;exact wpAny_BinOp (zoN,d,l,j,f,e,zVY f e)
def xsr {op:UnaryOp}{r:zcx} (ho:UnR X (unaryOp op) r) (ha:qD):PE X (.UnaryOp op a pos) (tUn r ta):=by
 ext gz b;exact UnaryOp_ (S4,b,c,f,e,d,ho b c Z f x v Q e r1 d)
def opI {f:Ph}{C:zcY}{g:zVp}
    (rule:(zkB,C i j->zLS->(Mg zqo))) :
    OpR X f (rI C (FL Du)):=by
  ext uN a c b;show(nU,i,j,rfl,rfl,d,q,xsn h);ext zB c b;exact rule i j t t' s _ _ d (Vw Du)
def opI0 {f:Ph}{g:zVp}
    (rule:(zkB,zLS->(Mg zqo))) :
    OpR X f (rI0 (FL Du)):=by
  ext uN a c b;ext zSd;ext zB c b;exact rule i j t t' s _ _ ⟨83,.int Du,H,kY,iE,q⟩
def opB0 {f:Ph}{g:Dz Int Int}
    (rule:(zkB,Q (.bool Du) s->(Mg zqo))) :
    OpR X f (rI0 λ i j=>.bl (g i j)):=by
  ext uN a d c;ext zSd;ext zB d c;exact rule i j t t' s _ _ (Oj,.bl (g i j),q)
meta def CDiv (i j:Int):Prop:=0<j/\j<1073741824
meta def CMul (i j:Int):Prop:=(-uc<i/\i<uc)\/(-uc<j/\j<uc)
def CMul.ok {i j:Int} (h:CMul i j):IntMulOk i j:=by
 rcases h with⟨h1,h2⟩|⟨h1,h2⟩
 .exact .of_left (intBits_le_64 h1 h2)
 exact .of_right (intBits_le_64 h1 h2)
def xa0:zRq .Add (i+j):=opI0 λ_ _ _ _ _ _ _ q=>add_int q
def xcy:zRq .Sub (i-j):=opI0 λ_ _ _ _ _ _ _ q=>sub_int q
def xgp:RM .Mult (rI CMul (FL (i*j))):=opI λ_ _ _ _ _ _ _ a q=>mul_int q a.ok
def xit:RM .FloorDiv (rI CDiv (FL (i / j))):=opI λi j _ _ _ _ _ a q=>by
 show(cI,c,(dk 0)<j,a.1,b,j<1073741824,a.2);exact floordiv_int cm (cK,Int.fdiv_eq_ediv_of_nonneg i cm,q) (.inl (W9 cm))
def xbi:RM .Mod (rI (λ_ j=>0<j) (FL (i % j))):=opI λi j _ _ _ _ _ a q=>by
 have b:(dk 0)<j:=a;exact mod_int' cm (cK,Int.fmod_eq_emod_of_nonneg i cm,q)
def x06:OpR X (inplaceOp .Add) (rI0 (FL (i+j))):=opI0 λ_ _ _ _ _ _ _ q=>iadd_int q
def unI {f:Value->L7}{g:Int->Int}
    (rule:∀(i:Int) (t:Tok) (s:Shared) (Q:dE) (E:dE),Q (.int (g i) s.toks) uL->(Mg (f (.int i t)))) :
    UnR X f (rU λ i=>.int (g i)):=by
  intro a s Z H x v Q I b h;show(cD,i,rfl,q,h);ext hF b;exact rule i t s _ _ (MZ,.int (g i))
def xot:UnR X (unaryOp .USub) (rU λ i=>.int (-i)):=unI λ_ _ _ _ _ q=>neg_int q
#check _
meta def scal:Dz V V
 | .non,.non=>true|.non,vJ=>true|vJ,.non=>true|.non,yB=>true|yB,.non=>true|.non,jG=>true|jG,.non=>true
 | vJ,vJ=>true|yB,yB=>true|jG,jG=>true|.byt _,.byt _=>true
 | vJ,jG=>true|jG,vJ=>true|yB,jG=>true|jG,yB=>true
 | _,_=>false
meta def rEq:R2:=(zLr,Q (.bl (decide (x=y))) H)
meta def rNe:R2:=zLr (rW (!(gO x y)))
def xq3 {i j:Int}:decide (V.int i=V.int j)=(i == j):=by
 rw[JD];simp
def xtu {i j:Bool}:decide (V.bl i=V.bl j)=(i == j):=by
 rw[JD];simp
def xpy {i j:Str}:decide (V.str i=V.str j)=(i == j):=by
 rw[JD];simp
def xpz {i j:Array UInt8}:decide (V.byt i=V.byt j)=(i.toList == j.toList):=by
 rw[JD];cases i;cases j;simp
section
variable {X:Cx}{a b c:Expr}{ta tb tc:TE}{pos:Pos}
def xa1 {pins:dJ}{Z:St}{H:Hp}{s:Shared}{Q:VK}{k k':Bool} (I:cL) (q:rW k) (e:k=k'):S8 (.bool k') s:=by
 ext eQ;exact(Oj,.bl k,q)
theorem xb6:uW .Eq rEq:=by
 ext zUi;cases x with
 | non =>
  cases c;cases y with
  | non=>ext kQ; exact PySem.EqNone.eq_none_none (gL cy)
  | bl j=>ext kQ; exact PySem.EqNone.eq_none_bool (gL cy)
  | int j=>ext nX; exact PySem.EqNone.eq_none_int (gL cy)
  | str j=>ext nX; exact PySem.EqNone.eq_none_str (gL cy)
  | _=>ext ym
 | bl i =>
  cases c;cases y with
  | non=>ext kQ; exact PySem.EqNone.eq_bool_none (gL cy)
  | bl j=>ext kQ; exact eq_bool (gL xtu)
  | str j=>ext nX; exact PySem.EqMixed.eq_bool_str (gL cy)
  | _=>ext ym
 | int i =>
  ext hF c;cases y with
  | non=>ext kQ; exact PySem.EqNone.eq_int_none (gL cy)
  | int j=>ext nX; exact eq_int (gL xq3)
  | str j=>ext nX; exact PySem.EqMixed.eq_int_str (gL cy)
  | _=>ext ym
 | str i =>
  ext hF c;cases y with
  | non=>ext kQ; exact PySem.EqNone.eq_str_none (gL cy)
  | bl j=>ext kQ; exact PySem.EqMixed.eq_str_bool (gL cy)
  | int j=>ext nX; exact PySem.EqMixed.eq_str_int (gL cy)
  | str j=>ext nX; exact eq_str (gL xpy)
  | _=>ext ym
 | byt i =>
  ext hF c;cases y with
  | byt j=>ext nX; exact PySem.W.eq_bytes (gL xpz)
  | _=>ext ym
 | _=>cases y<;>exact wC (zF false hs) Zv
theorem xfh:uW .NotEq rNe:=by
 ext zUi;cases x with
 | non =>
  cases c;cases y with
  | non=>ext kQ; exact PySem.EqNone.ne_none_none (gL cy)
  | bl j=>ext kQ; exact PySem.EqNone.ne_none_bool (gL cy)
  | int j=>ext nX; exact PySem.EqNone.ne_none_int (gL cy)
  | str j=>ext nX; exact PySem.EqNone.ne_none_str (gL cy)
  | _=>ext ym
 | bl i =>
  cases c;cases y with
  | non=>ext kQ; exact PySem.EqNone.ne_bool_none (gL cy)
  | bl j=>ext kQ; exact ne_bool (gL (AM not xtu))
  | str j=>ext nX; exact PySem.EqMixed.ne_bool_str (gL cy)
  | _=>ext ym
 | int i =>
  ext hF c;cases y with
  | non=>ext kQ; exact PySem.EqNone.ne_int_none (gL cy)
  | int j=>ext nX; exact ne_int (gL (AM not xq3))
  | str j=>ext nX; exact PySem.EqMixed.ne_int_str (gL cy)
  | _=>ext ym
 | str i =>
  ext hF c;cases y with
  | non=>ext kQ; exact PySem.EqNone.ne_str_none (gL cy)
  | bl j=>ext kQ; exact PySem.EqMixed.ne_str_bool (gL cy)
  | int j=>ext nX; exact PySem.EqMixed.ne_str_int (gL cy)
  | str j=>ext nX; exact ne_str (gL (AM not xpy))
  | _=>ext ym
 | byt i =>
  ext hF c;cases y with
  | byt j=>ext nX; exact PySem.W.ne_bytes (gL (AM not xpz))
  | _=>ext ym
 | _=>cases y<;>exact wC (zF false hs) Zv
def xhb:Xo .Lt (i<j):=opB0 λ_ _ _ _ _ _ _ q=>lt_int q
def xim:Xo .LtE (i<=j):=opB0 λ_ _ _ _ _ _ _ q=>le_int q
def xkw:Xo .Gt (j<i):=opB0 λ_ _ _ _ _ _ _ q=>gt_int q
def x43:Xo .GtE (j<=i):=opB0 λ_ _ _ _ _ _ _ q=>ge_int q
theorem xgt:(zQY,.Is,Q (.bl (decide (x=.non))) H):=by
 ext uN c a d;show(lO,rfl,h);cases d;refine is_none_gen (gL ?_);cases x<;>first
  | (ext kQ; rfl)
  | (ext hF a; rfl)
theorem xe0:zQY .IsNot (rW (!(gO x .non))):=by
 ext uN f a j;show(lO,rfl,h);cases j;refine isnot_none_gen (gL ?_);cases x<;>first
  | (ext kQ; rfl)
  | (ext hF a; rfl)
meta def isObj:HO->Bool
 | .lst _=>true
 | .ins _ _ _=>true
 | _=>false
def x8 (b:Expr) {op:CmpOp} (h:Fp (op≠.In)) (h2:Fp (op≠.NotIn)):Io:=by
 show(zAm,(by cases op<;>first|rfl|ext lX h),by cases op<;>first|rfl|ext lX h2)
def xd1 {op:CmpOp}{r:R2} (ho:zeZ) (ha:qD) (hb:zM) (hm:Io):PE X X7 zdI:=by
 ext gz c;exact wpAny_Compare1 (zoN,d,l,j,i,f,zVY i f) hm
inductive xy6 (x:V) (H':Hp) (Q:zO):Prop
 | mk (k) (e_:x=.bl k) (r_:Q k H')
meta def xyb (t:TE):TT:=(mo,Q,t Z H λ x H'=>xy6 x H' Q)
def xu {op:CmpOp}{r:R2} (ho:zeZ) (ha:qD) (hb:zM) (hm:Io):PT X X7 (xyb zdI):=by
 ext gz d;refine wpAny_isTrue_Compare1 (thn (ha d s Z H _ I h) λv f ⟨1083,x,A,q,r1,l⟩=>thn (hb d f Z A _ q l) λ u s2 ⟨1083,y,H2,I2,r2,q2⟩ =>
  kc (ho d s2 Z H2 x y v u _ I2 r1 r2 q2) c B z w n i ⟨k,e,j⟩) hm
 ext eQ;cases i;exact JR (cC w n j)
meta def xt9 (r r':R2) (ta tb tc:TE):TE:=λZ H Q=>ta Z H λx H1=>tb Z H1 λy H2=>r x y H2 λ z H3=>∃ k,z=.bl k /\
 (gV,k,tc Z H3 λ a c=>r' y a c Q,Q (.bl false) H3)
theorem xjk {op op':CmpOp}{r r':R2} (ho:zeZ) (ho':uW op' r') (ha:qD) (hb:zM) (hc:PE X c tc)
    (hm:zFB:=by with_unfolding_all rfl):PE X zGQ zQF:=by
  ext gz f;refine Compare_chain (thn (ha f s Z H _ I h) λv D ⟨1083,x,O,M,r1,K⟩=>chain_link (thn (hb f D Z O _ M K) λ u s2 ⟨1083,y,H2,I2,r2,q2⟩ =>
    zCf B n G)) hm
  ext eQ;cases G;refine JR ?_;cases k with
  | false=>exact ite_ff (gZ,.bl false,n,j,i)
  | true=>exact ite_tt (chain_last (kM,hc f B Z n _ j i,w,A,q,N,L,E,J,ho' f A Z N y q u w Q L r2 E J))
theorem xno {op op':CmpOp}{r r':R2} (ho:zeZ) (ho':uW op' r') (ha:qD) (hb:zM) (hc:PE X c tc)
    (hm:zFB:=by with_unfolding_all rfl):PT X zGQ (xyb zQF):=by
  ext gz f;refine isTrue_chain (thn (ha f s Z H _ I h) λv B ⟨1083,x,P,N,r1,J⟩=>test_link (thn (hb f B Z P _ N J) λ u s2 ⟨1083,y,H2,I2,r2,q2⟩ =>
    zCf A l E)) hm
  ext eQ;cases E;refine JR ?_;cases k with
  | false =>
    obtain⟨R,L,K⟩:=i;cases L;exact ite_ff (cC l j K)
  | true =>
    refine ite_tt (test_last (kM (hc f A Z l _ j i) q w n O M D G (kc,ho' f w Z O y n u q _ M r2 D G,d',s5,z2,H5,I5,r5,cC k2 e2 q5)));subst e2;cases r5;exact JR (cC H5 I5 q5)
meta def TruV (K:Zd) (x:V) (H:Hp) (k:Bool):Prop :=
 match x with
 | .non=>je k
 | yA=>k=b
 | j5=>k=(i != 0)
 | .str y=>zDs
 | .byt y=>zEv
 | pF=>zDc zdf zsS
 | _=>False
def xsh {κ:Type}{kvs:iB}{vs:BA} (r:tu):(! vs.isEmpty)=! kvs.isEmpty:=by
 cases r<;>rfl
def xkh {xs:cA}{its:dw} (r:EV):(! its.toArray.isEmpty)=! xs.isEmpty:=by
 cases r<;>simp
def xg5:(sizeLine:Nat)<AF:=E8 WN
theorem x2u:TruR X (λ x H Q=>∃ k,TruV X.K x H k/\Q k H):=by
 intro C s Z H x v Q I B h;ext cD k e q h;have M:=xg5;have hs:sizeLine=16777216:=WN;cases x with
 | non =>
  cases B;show(sJ,j,k,false,e);exact truthy_none (cC H I q)
 | bl b =>
  cases B;ext sJ j k b e;exact JR (cC H I q)
 | int i =>
  ext hF B;show(sJ,j,k,i != 0,e);exact PySem.P.truthy_int (cC H I q)
 | str y =>
  ext hF B;obtain⟨G,j⟩:zDs:=e;subst j;exact PySem.P.truthy_str cm (cC H kY q)
 | byt y =>
  ext hF B;obtain⟨G,j⟩:zEv:=e;subst j;exact PySem.W.truthy_bytes cm (cC H kY q)
 | ref p =>
  cases B;have j:(zDc,SqL X.K H p xs,SqT X.K H p xs):=e;rcases j with⟨xs,hx,j⟩|⟨xs,hx,j⟩|⟨kvs,hx,j⟩
  .subst j;ext zqk hx;have A:=r.length;exact wpAny_truthy_list pl.isList (Kw ZB) zLp
  .subst j;show(dG,its,r,pl,hz,I.tuple hx);have A:=r.length;exact truthy_tuple pl (Kw ZB) zLp
  subst j;obtain⟨hz,J,vs,r,m⟩:Kl/\(zo p)/\(ziI,s.heap.DictOf sZ p vs):=uy p hx;show(Pj,A,Y1 r);exact wpAny_truthy_dict J m cm (cC H kY (cK,xsh r,q))
 | _=>exact (show False from e).elim
def xjy (ha:qD) (he:(zAZ,isTrue a X.env whole,a.pos)) :
    PT X a (mo,Q,ta Z H λ x H'=>∃ k,TruV X.K x H' k/\Q k H'):=by
  ext gz b;exact isTrue_plain (S4,b,c,i,f,d,x2u b c Z i x v Q f r1 d) (he _)
theorem xcl {x:V}{us:dw} (r:DH [x]):zPq:=by
 cases r with
 | cons r1 r2=>cases r2; ext qg r1
theorem xku {x y:V}{us:dw} (r:DH [x,y]):∃ u w',(eX,us,[u,w'],vi,RelV y w'):=by
 cases r with
 | cons r1 r2 =>
  cases r2 with
  | cons r3 r4=>cases r4; exact⟨83,_,_,rfl,r1,r3⟩
def xjp:RP "abs" (VF,∃ i,xs=[j5]/\(rR (zyz,i<0,-i))):=by
 ext rS a;show(cD,i,rfl,q,h);ext zlg;exact call_abs_int λ u c=>Vw (zyz,i<0,-i)
def xt5 (hc:mD):RP "min" (VF,zUt (rR (zyz,j<i,j))):=by
 ext rS f;ext zAE v;refine min_two_ints (I.ok.hd hc) λ h' x k=>(HN,_,I.kept k,?_)
 by_cases hj:j<i
 .rw [df hj,df hj]; exact iE
 rw [dz hj,dz hj]; exact iE
def xox:(zwu,"str",∃ i,(eX,xs,[j5],zPX,Q (.str (toString i)) H)):=by
 ext rS c;ext zuR i hz;exact PySem.P.str_of_int hz (MZ jG)
#check _
structure ObjM (h:Heap) (x dx C:Addr) (mA:gF):Prop where
 obj:(cu,h.get? x,YA C dx)
 ns:zdK
 ne:dx≠x
def xtk {h:Heap}{dx:Addr}{mA:gF} (n:zdK):zCS (zfQ dx od):=by
 obtain⟨o,es,x,j,v,u,_,l⟩:105:=n;show(eW,o,j,fL name);have e:=l name;unfold nsFind findBy at e;rw[<- Array.find?_toList] at e;unfold WS;rw[v]
 dsimp only
 split
 .rename_i y q
  rw[q] at e;ext CH some e
 rename_i q
 rw[q] at e;have a:es.toList.any (·.refKey)=false:=by
  rw[Wn];intro y c;show(GD,z,t,b,u y (Array.mem_toList_iff.mp c));simp[DictEntry.refKey,b]
 have w:¬ es.toList.any (·.refKey)=true:=cK a Zv
 show(sr,w,congrArg some e)
def ObjM.look {h:Heap}{x dx C:Addr}{mA:gF} (I:ObjM h x dx C mA):(zCS,PySem.W.InstAt h x (YA C dx) C (some od)) :=
 let ⟨od,ho,hl⟩:=xtk I.ns
 (cC,od,jo I.obj rfl ho,hl)
section
variable {prog:Program}{w:World}{A:Around}{E:Value->Shared->Prop}{s:Shared}{K:Zd}{x dx C f:Addr}{mA:Str->Option Value}{name:Str}{v:Value}
def x0n {expr:Bool}{Q:dE} (X:BS) (I:znl) (hg:zPT) (hh:zsd)
    (ha:ye C name) (hv:(cu,mA name,v)) (hv':PySem.W.handedIn v=true) (h:Q v uL) :
    fQ (getAttr vK name expr):=by
  ext zxm c
  exact PySem.W.get_value X J (Zac hg).1 (PySem.W.findObj_own hh ha rfl (fS c hv)) hv' h
def xwf {pl:zgk}{Q:zPA} (X:BS) (I:znl) (hg:zPT)
    (hf:zxy name) (ht:O2) (hv:mA name=none) (h:Q (.ref f,[vK]) s) :
    fQ (getMethod vK name pl):=by
  ext zxm b
  exact PySem.W.method_fn X J (Zac hg).1 (Zac hg).2 hf (beq_iff_eq.mp ht) (by show (WS name od).map (·.isSome)=some false; rw[b,hv]; rfl) h
def xz0 {ns:cH}{Q:vh} (X:BS) (I:znl)
    (hs:zBZ) (hp:YF K C=true) (ht:zJM name) (hh:zsd)
    (hw:W4 mA ns) (hsz:zXw)
    (h:(ztu,ObjM h' x dx C (λ y=>(gH,y,name,Az,mA y)),dx,Q () (Bb,s.toks+2))) :
    fQ (setAttr vK name v):=by
  ext zxm R
  refine PySem.W.set_plain X J hs (PySem.W.osa_open (s:=uL) (r:=none) X J hp ht (fL b));show(cD,cd,M,D,PySem.W.any_some hh);have H:(cu,s.heap.get? x,(du,G7,some dx,.plain,#[])):=I.obj;refine Zb (Zo (Zb (Zb (wpAny_loadPart H (Zb (PySem.W.Looks.here (s:=uL) (PySem.W.looks_clsIn X M) ?_))))));rw[D];refine Zo (a:=some dx) (Zb (Zo (Zb ?_)));refine wpAny_nsSet1 (s:=uL) I.ns (ux q d);show(NX,P,N,O,z,B,G,q.count (W4.cons name v hw));show(cY,wpAny_lookBehind z (by rw[B]; exact pastItsLine_dict (Z1 G (pA Z6))) ?_);show(jg,(h _ (cC,(d.2 _ (Z2 I.ne)).trans I.obj,q,I.ne) d))
def xv8 {R:Lh}{vs:dw}{kw:zg} (X:BS) (hm:Qe K C=true)
    (hi:zqC) (hf:PySem.W.typeIn K (.ref f)=some (.type "function"))
    (h:codeAny lM (zIa (Hn,G7::vs)) (zgX f (Hn,.ref kh::vs)) (PySem.W.InitBack kh R)
      { s with heap:=(Es).push (YA C s.heap.objs.size) }) :
    ztx (zgX C (Hn vs)):=by
  ext rK x d t v;exact PySem.W.make_core (PySem.W.makes_of X hm) (PySem.W.looks_findIn X hi) (λ q=>PySem.W.bind_fn X q hf) jF h
#check _
meta def putF (f:Str) (v:V):o8->o8
 | []=>[(f,v)]
 | (g,x)::r=>(gH,g,f,(g,v)::r,(g,x)::putF f v r)
theorem xi6 (f g:Str) (v:V):∀ fs:o8,(zdN).lookup g=(gH,g,f,Az,fs.lookup g)
 | []=>by
  show Jw g [(f,v)]=_;by_cases h:g=f
  .ext zkU f Mq
  have b:(g == f)=false:=zJs;simp only[Jw,b,zjp]
 | (k,x)::r=>by
  have c:=xi6 f g v r;ext zjS
  .rw [df hk];by_cases h:g=k
   .show(zkU,k,if_pos (h.trans hk))
   ext zWW;simp only[Jw,b,dz (λ e:g=f=>h (e.trans hk.symm))]
  ext sQ hk;by_cases h:g=k
  .show(zkU,k,dz (λ e:g=f=>hk (h.symm.trans e)))
  ext zWW;simp only[Jw,b];exact c
theorem xhs (f:Str) (v:V):∀ fs:o8,f∈(zdN).map (·.1)/\∀ g,g∈fs.map (·.1)->g∈(zdN).map (·.1)
 | []=>⟨gK putF,λ g h=>BE⟩
 | (k,x)::r=>by
  obtain⟨d,b⟩:=xhs f v r;ext zjS
  .rw [df hk];subst hk;show(cU,cy,λ g h=>wJ)
  ext sQ hk;show(AN,?_,g,h)
  .show(eO,Zs,Zl _ d)
  rw [Zs] at h ⊢;rcases Gk with e|e
  .exact Zt.mpr (.inl e)
  exact Zl _ (b g e)
theorem xi7 (f:Str) (v:V):∀ fs:o8,(d6,zdN,fs.length+1)
 | []=>gK putF
 | (k,x)::r=>by
  have a:=xi7 f v r;ext zjS
  .rw [df hk,Z6,Z6]; lia
  rw [dz hk,Z6,Z6]; lia
theorem RelO.some_of {v:V}{o:B4} (r:RelO (some v) o):∃ u,(cu o u)/\qH:=by
 cases o with
 | none=>ext Ke
 | some u=>ext wc u r
theorem RelO.none_of {o:B4} (r:RelO none o):o=none:=by
 cases o with
 | none=>rfl
 | some u=>ext Ke
theorem xtw {v:V}{u:Value} (r:qH):PySem.W.handedIn u=true:=by
 cases v with
 | non=>cases (j4 u JE r); rfl
 | bl b=>cases (FP,u=YT b); rfl
 | int i=>ext zaU IY
 | str x=>ext zaU zpe
 | byt b=>ext zaU zJm
 | flt b=>ext zaU zJl
 | ref a=>cases (FP,u=Zw a); rfl
 | ty n=>cases (FP,u=YS n); rfl
section
variable {P:Program}{w:World}{H H':Hp}{h h':Heap}{a C dx:Addr}{fs fs':List (Str × V)}
def xig (hok:qu) (e:Ta):∃ mA,ObjM h a dx C mA/\OB/\W4 mA (fs.map (·.1))/\zci/\(Ew dx a):=by
 obtain⟨d,z,ne,ob,⟨mA,n,r,q⟩⟩:45:=(zaF,Te,hok a _ e)
 exact(dN,65,mA,cC ob n ne,r,q,z,d)
#check _
structure Cls (K:Zd) (C:Addr):Prop where
 pg:Lc C
 hd:zsd
 po:YF K C=true
 sa:zBZ
def Cls.get {K:Zd}{C:Addr} (c:Uf) (f:Str):Yh K C f=true:=c.pg
meta def xfs (K:Zd) (C:Addr) (f:Str):Prop:=ye C f
def xfs.taker {K:Zd}{C:Addr}{f:Str} (n:zwl):zJM f:=by
 unfold PySem.W.takerIn;rw[show ye C f from n];rfl
structure Meth (K:Zd) (C:Addr) (m:Str) (f:Addr):Prop where
 at_:zxy m
 fn:O2
 kp:U4
section
variable {X:Cx}{pins:List (Addr × Obj)}{Z:St}{H:Hp}{s:Shared}{a C dx:Addr}{fs:List (Str × V)}{f:Str}{v:V}{A:Around}{E:Value->Shared->Prop}
def xsf {b:Bool}{Q:dE} (I:cL) (e:Ta) (c:S0) (n:xfs X.K C f) (l:zMZ)
    (h:∀ u s',zie->qH->Q u s'):vz (getAttr dH f b):=by
  ext zLG q;show(cD,u,x,j,(zoG,q f,(by rw[<- l]; exact r f)));exact x0n I.kIn O (c.get f) c.hd n x (xtw j) (h u _ kY j)
def xkx {m:Str}{g:Addr}{pl:zgk}{Q:zPA} (I:cL) (e:Ta) (c:S0) (k:Meth X.K C m g) (l:zQc)
    (h:Q (.ref g,mj) s):vz (getMethod dH m pl):=by
  ext zLG b;have d:b m=none:=RelO.none_of (by rw[<- l]; exact r m);exact xwf I.kIn O (c.get m) k.at_ k.fn d h
def xru {y:V}{u:Value}{Q:vh} (I:cL) (e:Ta) (c:S0) (n:xfs X.K C f) (hl:zXu) (ry:jY)
    (h:zcn (rX (iK a zKg) s')):vz (setAttr dH f u):=by
  obtain⟨D,O,r,B,_,G⟩:65:=xig I.hok e;have hz:(fs.map (·.1)).length<=sizeLine:=by rw[Za,WN]; lia
  refine xz0 I.kIn O c.sa c.po n.taker c.hd B hz λ h' v J=>h _ ?_;show(sx,L,∃ o,(cu,h'.get? dx,o),let ⟨o,_,_,e',_⟩:=v.ns; ⟨o,e'⟩,I.write (x:=a) (e:=dx) zP (.inr G) (λ b q M z=>(J.2 b M).trans z) L ?_);refine(ff,gs O.ne G,?_,O.ne,v.obj,(eE,_,v.ns,fL g,cG g hg))
  . show(fj,xi7 f y fs)
  . show RelO ((putF f y fs).lookup g) zOk
    rw[xi6];by_cases q:g=f
    . ext fK zjo zjo ry
    . rw[dz q,dz q]; exact r g
  . by_cases q:g=f
    . show(cW,q,(xhs f y fs).1)
    . refine (xhs f y fs).2 g (B g λ z=>hg ?_)
      show zOk=none;ext sr q z
def Inv.made (I:cL):Inv X pins Z (upd (upd H s.heap.objs.size (.own kh)) kh (.ins C s.heap.objs.size []))
    { s with heap:=(Es).push (YA C s.heap.objs.size) }:=by
  have c:(cu,(Es).get? s.heap.objs.size,Yb):=Zx s.heap rfl;have v:(cu,((Es).push (YA C s.heap.objs.size)).get? kh,zMn):=by
    show(Sl,Zx Es (o:=zMn) rfl,Yl)
  have r:(Es).Ns s.heap.objs.size im:=(mR,Yb,#[],_,c,rfl,λ e he=>Vy he,iN)
  have x:=(zDt,.own kh,Es,λ b u q=>NC,hZ c);show(Hh,x.laid (a:=kh) (o:=.ins C s.heap.objs.size []) (t':=s.toks) (λ b u q=>NC) (Nat.le_of_eq (Yl _ _)) ?_,ne,s.heap.objs.size≠kh,zwe,ff (fS,xi ne,xj) jM ne v (eE,im,(Heap.Ns1.of_empty r).at λ o q=>NC,λ_=>JF,(HI,absurd rfl hy)))
def xzw {prog:Program}{w:World}{env:Env}{e:Expr}{f:Str}{pos:Pos}{s:Shared}{Q:dE} (hb:attributeBase e f env SE=SE)
    (h:SJ SE (λ o s₁=>tQ (getAttr o f true) Q E s₁)):fQ (eval (.Attribute e f pos) env) :=
  Attribute_any_ h (fS arm_eval_Attribute hb)
#check _
inductive x3f (K:Zd) (f:Str) (x:V) (H1:Hp) (Q:VK):Prop
 | mk (a C dx fs v) (e_:nW) (r_:(cR,zXc,Uf,zwl,zMZ,Q v H1))
meta def tFld (K:Zd) (ta:TE) (f:Str):TE:=(yV,x3f K f x H1 Q)
meta def sFld (K:Zd) (ta tv:TE) (f:Str):TS:=λD Z H=>tv Z H λ y H1=>ta Z H1 λ x H2=>∃ a C dx fs,nW/\(cu,H2 a,Te)/\Uf/\zwl/\zXu /\
 D.nx Z (upd H2 a zKg)
meta def InOp (X:Cx) (op:Operator) (rd:Rf):Prop :=
 ∀(pins:dJ) (s:Shared) (Z:St) (H:Hp) (x y:V) (u v:Value) (Q:VK),(eC,cL,vi,RelV y v,rd x y H Q,uP (inplaceOp op u v))
section
variable {X:Cx}{o e value:Expr}{f:Str}{pos pos' tpos:Pos}{ta tv:TE}
def xae (he:yO ta) (hb:attributeBase e f X.env zw=zw):PE X (.Attribute e f pos) (tFld X.K ta f):=by
 ext gz d;refine xzw hb (thn (BN d) (kU u E x z y j ⟨a,C,G,fs,v,o,p,c,n,l,q⟩ ?_));ext wU o j;exact xsf y p c n l λ B D w m=>d9 v z w m q
def xdn (ha:zwK) (hv:zrW) (hs:Xw value (some zOv)):zTg zOv (sFld X.K ta tv f):=by
 ext sC d;refine plainObj_wpAny_Assign_Attribute (kM,hv d s Z H _ I h,u,j,y,z,w,m,q,kc (ha d j Z z _ w q) ov s2 x H2 I2 rx ⟨1126,a,C,dx,fs,ex,ea,c,n,l,q2⟩) hs;subst ex;ext oA ov a rx;exact xru I2 ea c n l m λ B p=>fG Z _ p q2
inductive rAdd (x:V) (y:V) (H:Hp) (Q:VK):Prop
 | mk (i j) (e_:Sz) (r_:zvf/\(rR (i+j)))
inductive rSub (x:V) (y:V) (H:Hp) (Q:VK):Prop
 | mk (i j) (e_:Sz) (r_:zvf/\(rR (i-j)))
def x21:InOp X .Add rAdd:=by
 ext zHx b e;show(zB,show IY from e,zGs)
 exact PyProof.Rows.iadd_int (Vw (i+j))
def x2k:InOp X .Sub rSub:=by
 ext zHx a d;show(zB,show IY from d,zGs)
 exact PyProof.Rows.isub_int ⟨83,.int (i-j),H,kY,iE,q⟩
#check _
section
variable {X:Cx}{pins:List (Addr × Obj)}{Z:St}{H:Hp}{s:Shared}{A:Around}{E:Value->Shared->Prop}{Q:Value->Shared->Prop}{c:Value}{b:Bool}
inductive TyOf (K:Zd) (H:Hp):fF V Value where
  | non:Fk .non "NoneType"
  | bl (x:Bool):Fk (.bl x) "bool"
  | int (i:Int):Fk j5 "int"
  | str (x:Str):Fk kE "str"
  | flt (x:UInt64):Fk (.flt x) "float"
  | lst {a:Addr}{xs:cA} (e:rD a xs):zXa
  | frz {a:Addr}{o:Obj}{xs:cA} (e:dA a zSr):zXa
  | tup {a:Addr}{xs:cA} (e:ji a xs):Fk dH "tuple"
  | dK {a:Addr}{kvs:dR} (e:Nc):zWZ
  | dT {a:Addr}{kvs:fP} (e:GS):zWZ
  | ins {a C dx:Addr}{fs:o8} (e:Ta) (cl:Uf) (ha:Ky C "__class__" (va "object.__class__"))
      (hn:zkC) (htk:zkb)
      (hm:(cu,PySem.W.mroIn K C (.type "object"),true)):TyOf K H dH G7
theorem xth {x:V}{u t:Value} (I:cL) (rx:vi) (ty:TyOf X.K H x t) (e:(cu,WT X.K t c,b)) (h:∀ tk,Q (.bool b) zoo) :
    vz (BK "isinstance" [u,c]):=by
  cases ty with
  | non=>cases (j4 u JE rx); show(Ex,PySem.W.kitx_none,JF)
  | bl y=>show(US,u=YT y,rx); show(Ex,PySem.W.kitx_bool,JF)
  | int i=>show(zpG,show IY from rx,PySem.W.kitx_int)
  | str y=>show(zpG,(show ∃ t,u=Zab y t from rx),PySem.W.kitx_str)
  | flt y=>show(zpG,(show ∃ t,u=Value.float y t from rx),PySem.W.kitx_float)
  | @lst a xs ea =>
    ext KC;obtain⟨_,_,n,_,j⟩:=(Ov (.lst xs))
    ext zLV
  | @frz a ob xs ea =>
    ext KC;obtain⟨_,_,⟨_,n,_,j⟩⟩:43:=(Ov (.frz ob (.lst xs)))
    ext zLV
  | @tup a xs ea =>
    ext KC;obtain⟨_,_,_,p⟩:=(Ov (.tup xs))
    ext w4 o j m p;show(Ex,PySem.W.kitx_tuple,cC o j m)
  | @dK a kvs ea =>
    ext KC;obtain⟨_,_,⟨vs,_,p⟩⟩:43:=(Ov Ub)
    obtain⟨o,es,v,j,m,_⟩:103:=p;ext zHN
  | @dT a kvs ea =>
    ext KC;obtain⟨_,_,⟨xs,_,o,es,v,j,m,_⟩⟩:43:=(Ov zho)
    ext zHN
  | @ins a C dx fs ea cl ha hn htk hm =>
    ext KC;show(fO,B,O,xig I.hok ea);show(fO,od,J,O.look)
    show(Ex,PySem.W.kitx_own (cl.get _) cl.hd ha hn htk hm,J)
#check _
structure Room (q0:Bool) (k:Nat) (A:Around):Prop where
 hd:zHP
 dp:A.depth+3*k+5<recursionLimit
 un:A.units+16*k+200<cLine
 gd:cu A.guards []
def Room.mono {j k:Nat}{A:Around} (r:EX) (h:j<=k):Room q0 j A:=(du,r.hd,iF r.dp,iF r.un,r.gd)
def Room.deeper {k:Nat}{A:Around} (r:Room q0 fC A) (env:Env):zqm env :=
 (du,r.hd,by show(Ag,r.dp,A.depth+1+3*k+5<_),by show(Ag,r.un,A.units+3+16*k+200<_),r.gd)
def xri {A:Around}{C:Addr}{us:dw}{kw:zg}:(zpH).depth=A.depth+1:=by
 first|rfl|simp[Around.under,Code.weight,Code.isCreation,Code.isGuard,Code.isCaller,Code.frames,Code.isFrame,guardIds]
def xrh {A:Around}{C:Addr}{us:dw}{kw:zg}:(zpH).units=A.units+1:=by
 first|rfl|simp[Around.under,Code.cUnits,Code.frames,Code.isFrame]
def Room.make {k:Nat}{A:Around} (r:Room q0 fC A) (C:Addr) (us:dw) (kw:zg):Room q0 k (A.under (.builtin "type.__call__" (Hn,G7::us))) :=
 (du,r.hd,by have:=r.dp; rw[xri]; lia,by have:=r.un; rw[xrh]; lia,by first|exact r.gd|(simpa [Around.under,Code.guards,Code.isGuard,guardIds,pushGuards] using r.gd))
def Room.depth {k:Nat}{A:Around} (r:EX):A.depth<recursionLimit:=iF r.dp
def Room.units {k:Nat}{A:Around} (r:EX):zuJ 64:=iF r.un
meta def tNil:TA:=(N1,Q [] H)
@[reducible] def xiu (ta:TE) (tr:TA):TA:=(yV,tr Z H1 λ xs H2=>Q vZ H2)
section
variable {X:Cx}{e:Expr}{es:List Expr}{te:TE}{t:TA}{pos:Pos}
def xg:PA X [] tNil:=λ_ _ _ _ H Q I h=>Qm (d9 [] H I .nil h)
def xa (ha:vo) (hr:zfj) (hs:A8):zPG:=by
 ext Tk b a;rw[hs];show(jR,spliced (Ol zw (IG b es)));refine Y4 (kc (BP a) u d x p l r1 i);exact thn (hr b a d Z p _ l i) (kU us q xs m j r2 f (d9,vZ,m,j,.cons r1 r2,f))
meta def tTup (t:TA):TE:=zEQ (iP H1 p xs)
meta def tLst (t:TA):TE:=zEQ (lR H1 p xs)
def xag {x1} (h:zfj):PE X (.Tuple es x1 pos) (tTup t):=by
 ext tT c Q x;refine wpAny_Tuple_spliced (thn (h pos c s Z H _ I x) (zNI q zNk));show(zzh,iP w m.heap.objs.size xs);exact(du,z,us,r,vk jj iE)
def xbp (h:zfj):PE X (.List es pos) (tLst t):=by
 ext tT c Q x;refine wpAny_List_spliced (thn (h pos c s Z H _ I x) (zNI q zNk));show(zzh,lR w m.heap.objs.size xs);show(cU,z,fG us 0 r jj)
#check _
meta abbrev Sp:=AS cA Hp VK XK
meta abbrev CXT:=eC qI Hp Shared XK dE
structure Env0 (P:Program) (w:World) (K:Zd) (mg:gF) (base:Heap) (A:Around) (outer:qI) (s:Shared) (H:Hp):Prop where
 frames:cu A.frames outer
 mod:Mod K mg base
 bs:(sy,(cu,base.get? b,o),i4/\iR)
 bsz:base.objs.size<=s.heap.objs.size
 funs:s.heap.FunFrames base outer
 frf:∀ b∈frs outer,iR
 hok:HOk P w H s.heap
 bare:zXr
meta def CE (outer:qI) (P:Program) (w:World) (H:Hp) (s:Shared) (Q:VK) (u:Value) (s':Shared):Prop :=
 ∃ v H',s'.os=s.os/\(cR zbV (SV (frs outer) [] s'.heap) zPI qH G5)
meta def CR (CX:CXT) (outer:qI) (P:Program) (w:World) (H:Hp) (s:Shared) (Q:VK) (E:XK) (r:Result) (s':Shared):Prop :=
 match r with
 | UO u=>zKk
 | .ok _=>False
 | .error e=>CX outer H s E e s'
structure FnOk (q0:Bool) (P:Program) (w:World) (K:Zd) (mg:gF) (base:Heap) (CX:CXT) (k:Nat) (f:Addr) (fd:FuncData) (ps:cH) (sp:Sp):Prop where
 len:Ox
 run:∀(A:Around) (outer:qI) (s:Shared) (H:Hp) (args:Args) (us:dw) (vs:cA) (Q:VK) (E:XK),EX->(X0 A)->(zgW args zfe)->ML->Lm ->
  codeAny B9 A (zgX f args) (CR CX outer P w H s Q E) s
def Env0.make {P:Program}{w:World}{K:Zd}{mg:gF}{base:Heap}{A:Around}{outer:qI}{s:Shared}{H:Hp} (e:X0 A) (C:Addr) (us:dw) (kw:zg) :
    X0 zpH:=⟨by first|exact e.frames|(simpa [Around.under,Code.envs,Code.isFrame,pushEnvs] using e.frames),e.mod,e.bs,e.bsz,e.funs,e.frf,e.hok,e.bare⟩
section
variable {X:Cx}{pins:List (Addr × Obj)}{Z:St}{H:Hp}{s s':Shared}
def Inv.env0 (I:cL):Env0 X.prog X.w X.K X.mg X.base X.A X.stack s H :=
 ⟨I.ok.frames,I.ok.mod,I.bs,zTd,I.stack,I.stkFree,I.hok,I.bare⟩
def Inv.after {Q:VK}{u:Value} (I:cL) (h:CE X.stack X.prog X.w H s Q u s'):S8 u s':=by
 obtain⟨v,H',n,i,un,m,r,q⟩:86:=h;obtain⟨x,g,d,t,j⟩:=s';show(jp,j=s.os,n);exact(d9,v,H',I.call (h':=x) (g':=g) (d':=d) (t':=t) (ch:=[]) un m i (yN,Vy z),r,q)
#check _
meta def xna (sp:Sp) (dvs:cA) (E:U0) (t:TA):TE:=(Bp,vs,sp Go H1 Q (E Z))
inductive x1c (C:Addr) (m:Str) (sp:Sp) (dvs:cA) (E:U0) (t:TA) (Z:St) (x:V) (H1:Hp) (Q:VK):Prop
 | mk (a dx fs) (e_:nW) (r_:zXc/\zQc/\t Z H1 λ vs H2=>sp (x::Go) H2 Q (E Z))
meta def xm3 (C:Addr) (m:Str) (sp:Sp) (dvs:cA) (E:U0) (ta:TE) (t:TA):TE:=(yV,x1c C m sp dvs E t Z x H1 Q)
meta def xx1 (C:Addr) (sp:Sp) (dvs:cA) (E:U0) (t:TA):TE:=λZ H Q=>t Z H λ vs H1=>∀ x dx,H1 x=none->H1 dx=none->dx≠x ->
 (zGl (LP H1 x) (λ v a=>v=.non/\(kJ x a)))
meta def xce (K:Zd) (fd:FuncData) (ps:cH) (ds:dw):Prop :=
 ∀(s:Shared) (us:dw),BS->zRt->(zgW zhX (ps.zip G3))
def xce.all {K:Zd}{fd:FuncData}{ps:cH} (h:∀ us:dw,zBu fd):zhn:=λ s us _ b=>by
 rw[Ju] at b ⊢;exact .of_eq (h us b)
meta def xfc (CX:CXT) (X:Cx) (E:U0):Prop:=∀(pins:dJ) (Z:St) (H:Hp) (s:Shared) (e:Value) (s':Shared),cL->CX X.stack H s (E Z) e s'->X.xe e s'
section
variable {X:Cx}{CX:CXT}{k:Nat}{f C:Addr}{fd:FuncData}{ps:List Str}{sp:Sp}{dvs:List V}{ds:List Value}{E:St->XK}{x m:Str}{p pos apos:Pos}{e o:Expr}{es:List Expr}{ta:TE}{t:TA}
theorem xoi {pins:dJ}{Z:St}{H:Hp}{s:Shared}{Q:VK}{us:dw}{vs:cA} (F:Gb) (hr:zcA) (hb:Eg) (hd:EU) (hx:Fa)
    (I:cL) (r:ML) (h:sp Go H Q (E Z)):uP (call (.ref f) us):=by
  show(cI,r2,Vals Go G3,r.append hd,j,zRt,(hV,r2.length,F.len _ _ _ _ h))
  refine W1 (Qo (F.run X.A X.stack s H zhX G3 Go Q (E Z) hr I.env0 (hb s us I.kIn j) r2 h) (c8 r s' i));cases r with
  | error e=>exact hx pins Z H s e s' I i
  | ok fl =>
    cases fl with
    | ret u=>exact I.after i
    | next=>exact Yu i
    | brk=>exact Yu i
    | cont=>exact Yu i
def xk1 (F:Gb) (hr:zcA) (hg:tY) (hm:LA f) (hk:zKV) (hb:Eg) (hd:EU) (hx:Fa)
    (ha:Ft) (hdb:qh) (he:A8) (hpl:autoParam ((EW).any (·.1)=false) vR) :
    zbM (xna sp dvs E t):=by
  ext zzr hk;exact xoi F hr hb hd hx j r q
def xam {pl:zgk} (he:zwK) (c:S0) (hm:zWU) (F:Gb) (hr:zcA) (hb:Eg) (hd:EU) (hx:Fa) (ha:Ft)
    (hst:A8) (hpl:autoParam ((EW).any (·.1)=false) vR)
    (ht:autoParam (eval (yD (Rq m) sD pos) X.env=(do
      let ov <- zjE
      zOG
      let (f,first) <- zFy
      zFT sD)) vR) :
    zFq sD t:=by
  ext gz j;refine PySem.W.methodCall_KW (pl:=pl) (kc,BN j,u,D,x,O,B,G,dN a R fs L M l q) ht;ext wU L G;refine xkx B M c hm l ?_;refine Zaj (first:=mj) (h₀:=X.base) I.ok.mod.kin hm.kp (kM,ha pos j D Z O _ B q,us,P,vs,S,z,r,J,jl z.kIn) hst hpl;exact xoi (us:=dH::us) (vs:=dH::vs) F hr hb hd hx z (.cons rfl r) J
def xar {pl:zgk} (he:zwK) (c:S0) (hm:zWU) (F:Gb) (hr:zcA) (hb:Eg) (hd:EU) (hx:Fa)
    (ht:autoParam (eval (yD (Rq m) [] pos) X.env=(do
      let ov <- zjE
      zOG
      let (f,first) <- zFy
      zFT [])) vR) :
    zFq [] tNil:=by
  ext gz j;refine PySem.W.methodCall_KW (pl:=pl) (kc,BN j,u,G,x,L,y,z,dN a J fs B D l q) ht;ext wU B z;refine xkx y D c hm l ?_;exact PySem.W.callWith_K0 (first:=mj) y.kIn hm.kp (xoi (us:=mj) (vs:=mj) F hr hb hd hx y zXb q)
structure Mk (K:Zd) (C f:Addr):Prop where
 makes:Qe K C=true
 init:zqC
 fn:O2
 kp:zd C
theorem xn8 {pins:dJ}{Z:St}{H:Hp}{s:Shared}{Q:VK}{us:dw}{vs:cA} (M:zvg) (F:Gb) (hr:zrm) (hb:Eg) (hd:EU)
    (hx:Fa) (I:cL) (r:ML)
    (h:∀ x dx,(dI,d7 x,d7 dx,dx≠x,zGl (LP H x) (λ v H2=>v=.non/\(kJ x H2)))) :
    uP (call (.ref C) us):=by
  show(cB,D,h kh s.heap.objs.size (I.hok.fresh (WO _)) D9 zwe,B,Inv.made (C:=C) I);have r2:Vals (V.ref kh::Go) (Zw kh::G3):=.cons rfl (r.append hd);have L:pJ (zuf++ds) ps.length:=by
    have e:=r2.length;show(ef,F.len _ _ _ _ D,e,e.symm)
  refine W1 (xv8 (f:=f) I.kIn M.makes M.init (beq_iff_eq.mp M.fn) (Qo (F.run _ X.stack _ _ (m7 zuf) (Zw kh::G3) _ _ (E Z) (hr.make C us [])
    (B.env0.make C us []) (hb _ zuf B.kIn L) r2 D) (c8 r s' q)))
  cases r with
  | error e=>exact hx pins Z _ _ e s' B q
  | ok fl =>
    cases fl with
    | ret u =>
      show(nU,v,H',O,G,N,J,B.after q);subst N;show(cU,G,(gZ,V.ref kh,H',O,J))
    | next=>exact Yu q
    | brk=>exact Yu q
    | cont=>exact Yu q
def xfm (M:zvg) (F:Gb) (hr:zrm) (hg:tY) (hm:LA C) (hb:Eg) (hd:EU) (hx:Fa)
    (ha:Ft) (hdb:qh) (he:A8) (hpl:autoParam ((EW).any (·.1)=false) vR) :
    zbM (xx1 C sp dvs E t):=by
  show(zzr,M.kp);exact xn8 M F hr hb hd hx j r q
def xnp (M:zvg) (F:Gb) (hr:zrm) (hg:tY) (hm:LA C) (hb:Eg) (hd:EU) (hx:Fa)
    (hdb:qh):PE X (yD zfC [] pos) (xx1 C sp dvs E tNil):=by
  ext gz d;ext zPb;exact PySem.W.callWith_K0 I.kIn M.kp (xn8 (us:=[]) M F hr hb hd hx I .nil h)
#check _
structure xr (N P:cH) (sc:Scope):Prop where
 kind:zRC
 co:zOO
 gen:zON
 nd:N.Nodup
 pre:zOc
 par:zQp
 nofree:zFH
theorem xl4 {kindOf:zaP}{x:Str}:∀{binds:zg}{m:gF},(∀ v,(x,v)∉binds)->bindL kindOf binds m x=m x
 | [],_,_=>rfl
 | (n,v)::r,m,h=>by
  unfold bindL;rw[xl4 λ w b=>vW w b];split
  .ext zEL
  .rfl
theorem xml {kindOf:zaP}{x:Str}:∀{binds:zg}{m:gF},(∀ v,(x,v)∉binds)->bindC kindOf binds m x=m x
 | [],_,_=>rfl
 | (n,v)::r,m,h=>by
  unfold bindC;rw[xml λ w b=>vW w b];split
  .rfl
  .ext zEL
theorem xms {kindOf:zaP}{x:Str}{v:Value}:∀{P:List Str}{vs:List Value}{i:Nat}{m:Str->Option Value},P.Nodup->P[i]?=some x->vs[i]?=some v->(cu,kindOf x,.local) ->
    (cu,bindL kindOf (P.zip vs) m x,v)
  | [],_,_,_,_,h,_,_=>BE
  | fh,[],_,_,_,_,h,_=>BE
  | p::P,w::vs,0,m,nd,h1,h2,hk=>by
    ext zMU;ext zDe p;rw[xl4 λ v b=>(ZE.mp nd).1 (zRI).1,df hk];simp
  | p::P,w::vs,dc,m,nd,h1,h2,hk=>by
    ext zDe x;exact xms (i:=i) (ZE.mp nd).2 zbh zbg hk
theorem xme {kindOf:zaP}{x:Str}{v:Value}:∀{P:List Str}{vs:List Value}{i:Nat}{m:Str->Option Value},P.Nodup->P[i]?=some x->vs[i]?=some v->kindOf x≠some .local ->
    (cu,bindC kindOf (P.zip vs) m x,v)
  | [],_,_,_,_,h,_,_=>BE
  | fh,[],_,_,_,_,h,_=>BE
  | p::P,w::vs,0,m,nd,h1,h2,hk=>by
    ext zMU;ext zDd p;rw[xml λ v b=>(ZE.mp nd).1 (zRI).1,dz hk];simp
  | p::P,w::vs,dc,m,nd,h1,h2,hk=>by
    ext zDd x;exact xme (i:=i) (ZE.mp nd).2 zbh zbg hk
meta def start (N:cH) (vs:cA):St:=vs.map some++List.replicate (N.length-vs.length) none
meta def cxOf (q0:Bool) (CX:CXT) (P:Program) (w:World) (K:Zd) (mg:gF) (base:Heap) (N:cH) (qual:Str) (scope:Scope) (f:Addr) (cd:Value) (A:Around) (outer:qI) (s:Shared) (H:Hp) (E:XK):Cx where
 prog:=P
 w:=w
 K:=K
 mg:=mg
 base:=base
 A:=A.deeper EC
 N:=N
 s₀:=s
 H₀:=H
 env:=EC
 outer:=outer
 stack:=EC::outer
 ex:=[]
 calm:=q0
 fn:=Tc
 pn:=[]
 xe:=λ e s'=>wpAny B9 (A.deeper EC) (leaving EC e) (λ_ s''=>CX outer H s E e s'') (λ e' s''=>CX outer H s E e' s'') s'
def xou {sc:Scope}{n:Nat}{x:Str} (h:XA):∃ c,(cu,(cellsFrom n sc.names []).lookup x,c):=by
 have q:=PySem.W.cellsFrom_some sc.names n [] (.inl h);exact Ws.mp q
def xsx {CX:CXT}{P:Program}{w:World}{K:Zd}{mg:gF}{base:Heap}{N ps:cH}{qual:Str}{scope:Scope}{f:Addr}{cd:Value}{A:Around}{outer:qI}{s s1:Shared}{H:Hp}{E:XK}{us:dw}{vs:cA}
    (S:xr N ps scope) (hd:zHP) (e0:X0 A) (hl:vs.length=ps.length) (r:ML)
    (x:InCallC s s.heap.objs.size (bindL (EC).kindOf zfe im) zHI (bindC (EC).kindOf zfe im) s1) :
    Inv zSn [] zeD H s1:=by
  have X:ps.length<=N.length:=by show(nQ,DF S.pre,Jm); lia
  show(kq,Q,Z,rfl,T,x.done)
  have D:∀ b:Addr,b∉(zSn).ex:=(yN,Vy (TY ztI));refine⟨⟨e0.mod,S.kind,rfl,rfl,dF,dC y z c Q B,cG y G,λ y c _ h=>?_,hd,Around.frames_deeper e0.frames,.inr lQ,zNZ,e0.bs,e0.bsz,λ b _ _=>D b,zNZ,e0.funs,e0.frf⟩,
    rfl,e0.bare,Un.kept T,(fT,x.toInCall.ns,gE i y v Q B h3),λ y c h=>(hZ,x.cell y c h),e0.hok.fresh (Zj _),c8 y c h,λ p L=>Vy (show p∈([]:dJ) from L),e0.hok.kept T,?_⟩
  . exact name_of_addr x.apart (Yd Q) (Yd B)
  . have G:(cu,scope.names.lookup y,.cell)\/(cu,scope.names.lookup y,.free):=G
    rcases G with G|G
    . exact xou G
    . exact absurd rfl (S.nofree _ (Yd G))
  . exact Yz zPm
  . have M:i<vs.length:=by
      unfold start at B;by_cases M:i<vs.length
      . exact M
      . rw[J8 zpU] at B
        rw[W0] at B;ext T4 B
    have Y:dS vs v:=by
      unfold start at B;rw[Jd zpU,Zf] at B;cases e:vs[i]? with
      | none=>ext gm e B
      | some a=>ext dP e B B; rfl
    show(cD,u,R,U,r.get Y);have L:dS ps y:=by
      rw[<- S.pre,List.getElem?_take_of_lt cm]; exact Q
    have J:ps.Nodup:=by rw[<- S.pre]; exact S.nd.sublist zjf
    ext ie u U;rcases S.par y (Zn L) with k|k
    . show(eg,⟨k,xms J L R k⟩)
    . show(mL,c,xou (n:=kh) k)
      show(lW,du zjj c e ?_);have q:=x.cell y c e;show(ef,xme J L R (by show zNv≠_; rw[k]; decide),q,q)
  . exact e0.hok.fresh (Yz zPm)
  . unfold start
    show _=N.length;rw[Zr,Za,WL];lia
theorem xsm {CX:CXT}{P:Program}{w:World}{K:Zd}{mg:gF}{base:Heap}{k:Nat}{f:Addr}{name qual:Str}{params:Arguments}{body:Fz}{scope:Scope}{dV kV doc pm cdv ct oc:Value}{an od:jW}
    {osl:yW}{N ps:cH}{sp:Sp} (lk:Pc zAT) (hcd:O0) (S:xr N ps scope)
    (len:Ox)
    (hbody:∀(A:Around) (outer:qI) (s:Shared) (H:Hp) (vs:cA) (Q:VK) (E:XK),(zqm (zmt scope cdv))->Lm ->
      (zDG zoT body)) :
    FnOk q0 P w K mg base CX fC f zAT ps sp:=by
  show(gX,len,λ A outer s H Y us vs Q E U M hb r D=>?_);have hl:=len _ _ _ _ D;have Z:BS:=M.mod.kin.keeps (yl,(M.bs b o e).1);have T:s.heap.NoLimit:=M.mod.nolimit.keeps (yl,(M.bs b o e).1);have B:∀ y∈zfe,(zlO .local)\/((zlO .cell)/\(jT ((zHI).lookup y.1))):=fun⟨n,v⟩ hy=>by
    rcases S.par n (List.of_mem_zip hy).1 with q|q
    . ext eg q
    . show(fe,(sE,PySem.W.cellsFrom_some _ _ _ (.inl q)))
  refine codeAny_call_function U.depth (Z _ _ lk) rfl S.co S.gen rfl (PySem.W.codeRec_of Z hcd) (hb _ _ _ _ ?_);refine wpAny_newFunctionEnv_cells S.kind B (fM env he X x);subst he;show(gX,T.keeps x.toInCall.keep,codeAny_func ?_);show(cD,t,ht,hq,hbody A outer s H vs Q E (U.deeper _) D);have I:Inv zoT [] zeD H X:=xsx S U.hd M hl r x;refine Jr (ht [] X zeD H _ I hq) (c8 fl s' hs) λ e s' hs=>hs;have G:∀{σ':St}{H':Hp}{v:V}{u:Value},(dI,Inv zoT [] σ' H' s',qH,G5,zKk) :=
    λ{σ' H' v u} J O q=>eT 86 v H' J.os J.bare J.base J.hok O q
  cases fl with
  | ret u =>
    show(NX,v,σ',H',J,O,q,hs);exact G J O q
  | next =>
    show(kq,σ',H',J,q,hs);exact G (v:=V.non) (u:=JE) J rfl q
  | brk =>
    ext zIh
  | cont =>
    ext zIh
section
variable {X:Cx}{x:Str}{p pos:Pos}{e:Expr}{es:List Expr}{t:TA}{id T:String}{r:List V->Hp->VK->Prop}
meta def tCB (r:zXp) (t:TA):TE:=(Bp,vs,r vs H1 Q)
def xaj (hc:RP id r) (hg:tY) (hm:ziV) (hv:bootBuiltins x=some (.builtin id)) (ha:Ft) (hn:zhw) (hdb:qh)
    (he:A8) (hpl:autoParam ((EW).any (·.1)=false) vR):zWu:=by
  ext gz d;ext zJd;exact PyProof.Rows.callWith_builtin1 (kM,Ly pos d,us,f,vs,z,q,r1,j,hc d f Z z vs us Q q r1 j) he hpl
def xbh (hc:xc7 X An r) (hg:tY) (hm:ziV) (hv:bootBuiltins x=some (.type T)) (ha:Ft) (hn:zhw) (hdb:qh)
    (he:A8) (hpl:autoParam ((EW).any (·.1)=false) vR):zWu:=by
  ext gz b;ext zJd;exact Jf (kM,Ly pos b,us,c,vs,i,f,r1,d,hc b c Z i vs us Q f r1 d) he hpl
#check _
#check L2
namespace HT
open PySem PyProof.Rows
section
variable {prog:Program}{w:World}{A:Around}{E:Value->Shared->Prop}{s:Shared}
theorem cat_tup {t b:Addr}{vs ws:dw}{Q:dE} (ht:IsTup s.heap t vs.toArray) (hb:IsTup s.heap b ws.toArray) (hv:vs≠[])
    (h1:ws=[]->(kJ t s)) (h2:MM->(kJ s.heap.objs.size (zDu zST)))
    (hsz:(fA,vs.length+ws.length)):fQ (binaryOp .Add zjs se):=by
  obtain⟨⟨cls,K,data,G⟩,C,J,⟨n,I⟩⟩:63:=id ht;obtain⟨⟨L,B,D,m⟩,c,x,⟨H,v⟩⟩:63:=id hb;simp only at J I x v;subst J I x v;have e:vs.toArray++ws.toArray=zST:=cy
  by_cases hw:ws=[]
  . exact concat_meets ⟨_,C,rfl⟩ (hX c) noFill_tuple_add seq_tuple_add PySem.F.slot_tuple_add PySem.F.entry_tuple_add zHw
      (tuple_addW1 t b vs.toArray ws.toArray n H K B G m zRN (gK hw)) (cC,C,c,h1 hw)
  . refine concat_meets (hX C) (hX c) noFill_tuple_add seq_tuple_add PySem.F.slot_tuple_add PySem.F.entry_tuple_add zHw
      (tuple_addW2 t b vs.toArray ws.toArray n H K B G m zRN (by simpa using hw) (tP ZB ZB hsz)) (kL C c)
    rw[e];exact h2 hw
meta def sIx (n d:Nat):mM->Nat
 | none=>d
 | Az=>zkV
def sIx_none (n d:Nat):sIx n d none=d:=rfl
def sIx_nat (n d k:Nat):sIx n d (some vL)=min k n:=by
 show (zco,k,(vL+iu).toNat,min (vL).toNat n)=min k n;rw[CG,JT]
theorem x2r (n d:Nat) (hd:d<=n) (o:mM):sIx n d o<=n:=by
 cases o with
 | none=>exact hd
 | some v =>
  show zkV<=n;by_cases hv:v<0
  .rw [df hv]; lia
  show(eO,dz hv,Nat.min_le_right _ _)
def xql (v:Int) (n d:Nat):zGm=(hU,sIx n d (some v)):=by
 show zGm=(hU zkV)
 by_cases hv:v<0
 .simp only [df hv]; lia
 simp only [dz hv]; lia
theorem xrn (lo hi:mM) (n:Nat):Builtin.Slice.sliceAdjust lo hi 1 iu=(zbO,zUI):=by
 have b:¬ ((dk 1)<0):=cm
 unfold Builtin.Slice.sliceAdjust;simp only[b,if_false];refine Yg ?_ ?_
 .cases lo with
  | none=>rfl
  | some v=>exact xql v n 0
 cases hi with
 | none=>rfl
 | some v=>exact xql v n n
def xre (i j:Nat):(znm fc mY)=j-i:=by
 unfold Builtin.Slice.slicePlaces;have b:G8>0:=cm
 simp only[b,if_true,Int.ediv_one];ext om
theorem xkj {v:Value}{o:mM}{Q:jX mM} (p:IsPart v o) (h:Q o s):fQ (Builtin.Slice.slicePartIndex v):=by
 cases p with
 | none=>exact slicePart_none h
 | int i t=>exact slicePart_int h
def xjq {sl:Addr}{vl vu:Value}{lo hi:mM}{n:Nat}{Q:(jX,Int × Int × Nat)} (hs:zli) (pl:zsN) (pu:zsM)
    (h:Q (zbO,1,sIx n n hi-sIx n 0 lo) s):fQ (Builtin.Slice.sliceApplied (.ref sl) (pure iu)):=by
  show(dG,v,b,q,m,id hs);unfold Builtin.Slice.sliceApplied Builtin.Slice.sliceFields;refine Zb (Zb (JB b m (x:=vl) rfl (Zb (JB b m (x:=vu) rfl (Zb (JB b m (x:=.none) rfl Dw))))));refine Zb (slicePart_none ?_);show(jR,Hf (G8 == 0));ext Hy;show(cY,xkj pl (Zb (xkj pu (Zb (Zo ?_)))));show(jR,(match Builtin.Slice.sliceAdjust lo hi 1 iu with|(lo,hi)=>pure (lo,G8,znm lo hi)));rw[xrn lo hi n];show(jR,(pure (zbO,G8,znm zbO zUI)));rw[xre];exact Zo h
def xxd (xs:ii) (i k:Nat):((Zz k).filterMap (fE m zHq)).toArray=((xs.toList.drop i).take k).toArray:=by
 have e:(fE m zHq)=zUJ:=by
  funext m;have:(fc+(dk m)*1).toNat=i+m:=cm
  rw[this]
 rw[e];show(nQ,pick_run xs i k,Wj);have b:((λ x=>xs[x]?)∘λ x=>i+x)=zUJ:=rfl;rw[b] at this;rw[this]
def getItem_tuple_cut {t sl:Addr}{items:ii}{vl vu:Value}{lo hi:mM}{Q:dE} (ht:IsTup s.heap t items) (hs:zli) (pl:zsN) (pu:zsM)
    (hw:¬ (Bj=0/\DU=items.size))
    (h:D7 (zDu,((zkL).take (DU-Bj)).toArray))
    (hsz:zqJ):fQ (getItem (.ref t) (.ref sl)):=by
  have v:sizeOk (.seq ((zkL).take (DU-Bj)).toArray):=by
    show (fA,((zkL).take (DU-Bj)).toArray.size);rw[ZB,Jm,List.length_drop,J4];lia
  have N:DU<=items.size:=x2r _ _ dF hi;show(dG,H,B,D,J,id hs);have G:zv sl "slice":=cC H B D
  unfold getItem
  try with_reducible refine Jc ?_
  first|ext zp|skip
  show(cY,wpAny_sequenceKey ht.typeIs cE ?_);refine Zb (J7 (name:=Zg "__getitem__") ht.typeIs QC
    (Jv QC ht.typeIs entry_tuple_getitem ?_ (args_tuple_getitem _ _)))
  show(jR,Builtin.Tuple.tupleItemsOf (.ref t)>>=_);show(cY,tupleItemsOf_ ht ?_);ext ziH G;ext VH;show(cY,xjq hs pl pu ?_);have C:¬ (zAX=true):=by
    intro q;rw[Z8,Z8] at q;show(cI,M,(hU Bj)=0,Qz (rp).1,K,DU-Bj=items.size,Qz q.2);exact hw (Oc cm)
  show(jR,Hf zAX);rw[dz C,xxd]
  first
    | exact Xy (JS (Zo zfv) v)
    | exact Xy (JS (Zb (Zo (Zo zfv))) v)
    | exact Zb (Xy (JS (Zo (Zo zfv)) v))
    | exact Zb (Xy (JS (Zo zfv) v))
#check _
#check HT
namespace L2
open PySem PySem.Spec PyProof.Rows
variable {q0:Bool}
meta abbrev TO:=zgQ (oG mM)
meta def PO (X:Cx) (e:gc Expr) (t:TO):Prop :=
 ∀(pins:List (Addr × Obj)) (s:Shared) (Z:St) (H:Hp) (Q:oG mM),cL->MT ->
  (sW (evalPart e X.env) (λ u s'=>∃ o H',Cw/\IsPart u o/\Q o H'))
meta def x0x:TO:=(N1,Q none H)
meta def x31 (t:TE):TO:=(zVB,∃ i,Sz/\Q (some i) H1)
theorem xrt {ns:gW}:∀{us:dw},Vals (ns.map V.int) us->IntsAre us ns:=by
 induction ns with
 | nil=>intro us r; show(ku,YW,r,.nil)
 | cons n ns ih =>
  intro us r;rw[Zs] at r;cases r with
  | cons r1 r2 =>
   ext mL t r1;ext eQ;exact .cons n t (ih r2)
section
variable {X:Cx}{e:Expr}{te:TE}{lo hi:Option Expr}{tl th:TO}{pos p2:Pos}
def xcm:PO X none x0x:=by
 ext gz a;rw[evalPart_none];exact Zo (d9 none H I .none h)
def xbn (h:vo):PO X (some e) (x31 te):=by
 ext tT a Q c;rw[evalPart_some];show(oJ,Ut a c,kU u j x f d r1 b ?_);show(cD,i,rfl,q,b);ext hF r1;exact(d9,some i,f,d,zgz,q)
meta def SlR (X:Cx) (r:OR):Prop :=
 ∀(pins:dJ) (s:Shared) (Z:St) (H:Hp) (x:V) (v vl vu:Value) (lo hi:mM) (sl:Addr) (Q:VK),cL->xM->zli->zsN->zsM->r x lo hi H Q ->
  ∃ T id,zHn/\s.TypeIs v T/\(uP (getItem v (.ref sl)))
meta def tSl (r:OR) (te:TE) (tl th:TO):TE:=(mo,Q,te Z H λ x H1=>tl Z H1 λ l H2=>th Z H2 λ u H3=>r x l u H3 Q)
def xbq {r:OR} (hr:SlR X r) (he:vo) (hl:PO X lo tl) (hu:PO X hi th):zbJ e zNc (tSl r te tl th):=by
 ext gz m;refine Subscript_ (GJ (BN m) D U P G);refine wpAny_Slice (kM,hl m D Z U _ P G,B,C,l,R,N,pl,E,kc (hu m C Z R _ N E) vu s3 u H3 I3 pu q3);rw[evalPart_none];ext Ai;have M:iy m H3 zjV:=I3.kept (t':=s3.toks) λ b ob q=>NC;show(hJ,T,id,L,J,K,hr m zjV Z H3 x v B vu l u s3.heap.objs.size Q M r1 (Heap.IsSliceOf.new ..) pl pu q3);show wpAny qj X.A (subscriptTail e zNc v (.ref s3.heap.objs.size)) (EP X m Z Q) X.xe zjV;exact tail_any (ops:=[.ref s3.heap.objs.size,v]) J L K (by with_unfolding_all rfl)
meta def cutV (xs:cA) (lo hi:mM):cA:=(xs.drop (HT.sIx xs.length 0 lo)).take ((EI xs.length hi)-(EI 0 lo))
def xi9 (xs:cA) (lo hi:mM):d6 (cutV xs lo hi) xs.length:=by
 unfold cutV;rw[Jm,List.length_drop];lia
meta def rSlT (K:Zd):OR:=λx b c H Q=>∃ a xs,nW/\zr /\
 ¬ ((EI 0 b)=0/\HT.sIx xs.length xs.length c=xs.length)/\(Ey (iP H p (cutV xs b c)))
def xs1:SlR X (rSlT X.K):=by
 intro E s Z H x v P O C D R Q I J hs pl L h;show(nU,a,xs,rfl,M,N,q,h);cases J;show(dG,its,r,G,hz,I.tuple M);show(wv,B,its.toArray.size,xs.length,cK ZB r.length.symm,⟨83, "tuple",_,QC.lookup,G.typeIs,?_⟩);refine HT.getItem_tuple_cut G hs pl L (cK B N) ?_ (cK B hz);rw[B];refine EA (zkE,.tup (cutV xs C D));exact(du,Z1 (xi9 xs C D) hz,_,(zMN C).take ((EI xs.length D)-(EI 0 C)),IsTup.new _ _)
inductive xm2 (K:Zd) (x:V) (y:V) (H:Hp) (Q:VK):Prop
 | mk (a b xs ys) (e_:nW) (r_:(uE,TM,zr,SqT K H b ys,xs≠[],fA (VC ys.length),ys=[]->(kJ a H),ys≠[]->(Ey (iP H p (xs++ys)))))
theorem Vals.nil_iff {xs:cA}{us:dw} (r:pD):us=[]↔xs=[]:=by
 cases r with
 | nil=>simp
 | cons _ _=>simp
def xk0:OpR X (binaryOp .Add) (xm2 X.K):=by
 ext uN B E D;obtain⟨a,b,xs,ys,rfl,rfl,P,O,N,hz,J,G⟩:=h;cases E;cases D;show(w4,its,r1,M,I.tuple P);show(w4,C,r2,L,I.tuple O);refine HT.cat_tup M L (λ z=>N (r1.nil_iff.mp z)) (λ z=>(Oj,dH,J (r2.nil_iff.mp z))) nY (zuL r1.length r2.length hz);refine(gZ,oY,_,(zkE,.tup (xs++ys)),G (λ w=>z (r2.nil_iff.mpr w)) _ D9);exact(du,cK Zr hz,_,r1.append r2,IsTup.new _ _)
#check _
meta def ixN (n:Nat) (i:Int):gc Nat:=if 0<=i then (Da kf i.toNat) else (Da,zya,(i+n).toNat)
meta def atI {α:Type} (xs:eI) (i:Int):gc α:=(zUB).bind λ j=>xs[j]?
def x0v {n:Nat}{i:Int}{j:Nat} (h:(cu,ixN n i,j)):(dh,(cu,seqIndex? i n,j),j<n,zya,kf):=by
 unfold ixN at h;by_cases h0:0<=i
 .show(kN,df h0);by_cases h1:kf
  .show(kN,df h1);have e:i.toNat=j:=zgt;exact eD (fS,seqIndex_of h0 h1,e) cm cm h1
  show(ziB,dz h1)
 show(kN,dz h0);by_cases h1:zya
 .show(kN,df h1);have e:(i+n).toNat=j:=zgt;exact eD (fS,seqIndex_neg cm h1,e) cm h1 cm
 show(ziB,dz h1)
theorem xla {α:Type}{xs:eI}{i:Int}{v:α} (h:(cu,atI xs i,v)):∃ j,(cR,(cu,seqIndex? i xs.length,j),gC xs v,zul,-Ks<=i,i<xs.length):=by
 unfold atI at h;cases e:zUB with
 | none=>ext gm e h
 | some j =>
  rw[e] at h;show(tG,d,c,b,a,x0v e);exact dN 65 j d h c b a
def xcv {α:Type}{xs:eI}{j:Nat}{v:α} (h:gC xs v):(cu,atI xs mY,v):=by
 have a:j<xs.length:=(Zk.mp h).1;have e:(cu,ixN xs.length mY,j):=by
  unfold ixN;rw[Uw,Uw]; simp
 unfold atI; ext rh h
meta def x0u (b:Expr):Prop:=∀ o i,subscripted b false o i=operate [o,i] (getItem o i)
meta def IxR (X:Cx) (r:R2):Prop :=
 ∀(value slice:Expr) (pins:dJ) (s:Shared) (Z:St) (H:Hp) (x y:V) (v u:Value) (Q:VK),cL->xM->jY->r x y H Q ->
  subscripted slice false v u=operate [v,u] (getItem v u)->(uP (subscriptTail value slice v u))
meta def MtR (X:Cx) (id:String) (r:zbS):Prop :=
 ∀(pins:List (Addr × Obj)) (s:Shared) (Z:St) (H:Hp) (x:V) (xs:List V) (v:Value) (us:List Value) (Q:VK),Inv X pins Z H s->RelV x v->Vals xs us->r x xs H Q ->
  zMQ
section
variable {X:Cx}{a b:Expr}{ta tb:TE}{pos:Pos}
def xas {r:R2} (hr:IxR X r) (ha:qD) (hb:zM) (hs:x0u b):zbJ a b zdI:=by
 ext gz d;exact Subscript_ (zoN,e,m,l,j,f,hr a b d e Z m x y v u Q l j f q (hs _ _))
inductive rIxL (K:Zd) (x:V) (y:V) (H:Hp) (Q:VK):Prop
 | mk (p xs i v) (e_:jv x p) (r_:zEf zdf)
inductive rIxT (K:Zd) (x:V) (y:V) (H:Hp) (Q:VK):Prop
 | mk (p xs i v) (e_:jv x p) (r_:zEf zsS)
inductive rIxS (x:V) (y:V) (H:Hp) (Q:VK):Prop
 | mk (z i c) (e_:x=.str z) (r_:(dh,y=.int i,fA z.length,(cu,atI z.cps.toList i,c),Q (.str qT) H))
def xa7:IxR X (rIxL X.K):=by
 intro f m b s Z H x y v u Q I G E h hs;ext zVZ J O;cases G;ext hF E;ext zqk J;show(tJ,j,d,S,U,R,P,xla O);show(cD,w,D,B,r.get S);show(cB,M,r.length,T,xg5);have c:EP X b Z Q w s:=HN z I B
 by_cases h0:0<=i
 .have C:i.toNat=j:=by
   rw[seqIndex_of h0 P] at d;exact ZW.inj d
  exact item_listR pl.isList h0 cm zLm c hs
 have C:(i+(dk its.toArray.size)).toNat=j:=by
  rw[seqIndex_neg cm R] at d;rw[ZB,<- M];exact ZW.inj d
 exact subscriptTail_builtinR (x:=w) pl.isList.typeIs slot_list_getitem.lookup
  (wpAny_getItem_list_neg (Q:=zKr b) pl.isList cm zVd cm zLm (d4 c)) hs
def xby:IxR X (rIxT X.K):=by
 intro b c a s Z H x y v u Q I A m h hs;ext zVZ B D;cases A;ext hF m;show(dG,its,r,pl,hz,I.tuple B);show(tJ,j,G,E,O,N,M,xla D);show(cD,w,J,d,r.get E);show(cB,C,r.length,L,xg5);have f:EP X a Z Q w s:=HN z I d
 exact subscriptTail_builtinR (x:=w) pl.typeIs slot_tuple_getitem.lookup
  (getItem_tuple (j:=j) (Q:=zKr a) pl cm cm (by rw[ZB,<- C]; exact G) zpT (d4 f)) hs
def x3x:IxR X rIxS:=by
 intro a b d s Z H x y v u Q I w m h hs;obtain⟨z,i,c,rfl,rfl,hz,B,q⟩:=h;ext zB w m;show(tJ,j,f,E,M,D,C,xla B);have A:z.cps.toList.length=z.length:=Ur
 rw[A] at f D C;have K:=xg5;exact tail_any (QI s z t) slot_str_getitem.lookup (getItem_str (c:=c) (by
  show(cI,J,BM (i < zxO),zQi,G,BM (i>=AF),zQi);rw[J,G,Wq]) (by rw[f]; simpa using E) (MZ,.str qT)) hs
def Inv.lst {pins:dJ}{Z:St}{H:Hp}{s:Shared}{p:Addr}{xs:cA} (I:cL) (h:rD p xs) :
    (zqV,EV/\(zcp p Xz)/\zh):=by
  show(zrx,uy p h);exact d9 its n r e z
theorem xog (lo hi:mM) (n:Nat):(eX,(zmo).1,(hU,HT.sIx n 0 lo),(dO zmo)=(hU,HT.sIx n n hi),(fX zmo)=1):=by
 show(eW,?_,?_,rfl)
 .cases lo with
  | none=>simp[sliceBounds,HT.sIx]
  | some i =>
   ext zzW
   .ext zTc
   ext zRv
 cases hi with
 | none=>simp[sliceBounds,HT.sIx]
 | some i =>
  ext zzW
  .ext zTc
  ext zRv
def xmw (its:dw) (lo hi:mM):slicePick its.toArray lo hi none=((its.drop (HT.sIx its.length 0 lo)).take (HT.sIx its.length its.length hi-HT.sIx its.length 0 lo)).toArray:=by
 show(kn,f,c,b,xog lo hi its.toArray.size);unfold slicePick;rw[f,c,b];simp only[sliceRange_one,pick_run,ZB]<;>rfl
meta def rSlL (K:Zd):OR:=(zWb,nW/\qr/\(Ey (wD p (cutV xs b c))))
theorem xcg:SlR X (rSlL X.K):=by
 intro A s Z H x v J G m w M Q I C hs pl D h;show(hJ,a,xs,rfl,E,q,h);cases C;show(dG,its,r,B,hz,I.list E);show(eK,c,r.length,⟨83, "list",_,slot_list_getitem.lookup,B.isList.typeIs,?_⟩);refine wpAny_getItem_list_slice B.isList hs pl D .none cy ?_ zVd;rw[xmw,<- c];refine EA (zkE,.lst (cutV xs m w));show(cU,Z1 (xi9 xs m w) hz,(fG,_,0,(zMN m).take ((EI xs.length w)-(EI 0 m)),jj))
meta def xeq:Uc
 | .non=>true
 | yB=>true
 | vJ=>true
 | jG=>true
 | _=>false
meta def eqV:Dz V V
 | .non,.non=>true
 | .bl a,yA=>M8
 | .bl a,zjr=>(if a then 1 else 0) == b
 | .int a,yA=>a == (wR 1 0)
 | .int a,zjr=>M8
 | Vj,NA=>M8
 | _,_=>false
theorem x3o {A:Around}{s:Shared}{y x:V}{u v:Value} (ry:jY) (rx:xM) (fy:xeq y=true) (fx:ztg):Z5 A s u v zhk:=by
 cases y with
 | non =>
  cases ry;cases x with
  | non=>cases rx; exact Z5.same _
  | bl b=>cases rx; exact Z5.none_bool b
  | int b=>ext Do; exact Z5.none_int b t
  | str b=>ext Do; exact Z5.none_str b t
  | _=>ext Er fx
 | bl a =>
  cases ry;cases x with
  | non=>cases rx; exact Z5.bool_none a
  | bl b=>cases rx; exact Z5.bool_bool a b
  | int b=>ext Do; exact Z5.bool_int a b t
  | str b=>ext Do; exact Z5.bool_str a b t
  | _=>ext Er fx
 | int a =>
  ext kT t' ry;cases x with
  | non=>cases rx; exact Z5.int_none a t'
  | bl b=>cases rx; exact Z5.int_bool a t' b
  | int b=>ext Do; exact Z5.int_int a t' b t
  | str b=>ext Do; exact Z5.int_str a t' b t
  | _=>ext Er fx
 | str a =>
  ext kT t' ry;cases x with
  | non=>cases rx; exact Z5.str_none a t'
  | bl b=>cases rx; exact Z5.str_bool a t' b
  | int b=>ext Do; exact Z5.str_int a t' b t
  | str b=>ext Do; exact Z5.str_str a t' b t
  | _=>ext Er fx
 | _=>ext Er fy
meta def eqU (x:V) (u:Value):Bool:=match u with
 | .none=>eqV .non x
 | .bool b=>eqV (.bl b) x
 | .int i _=>eqV (.int i) x
 | .str z _=>eqV (.str z) x
 | _=>false
theorem xur {x y:V}{u:Value} (r:jY) (f:xeq y=true):eqU x u=zhk:=by
 cases y with
 | non=>ext NO
 | bl b=>ext NO
 | int i=>ext Mw
 | str z=>ext Mw
 | _=>ext Er f
theorem xgq {x:V}:(zcm,pD->zpb->us.any (eqU x)=xs.any λ y=>zhk)
 | _,_,.nil,_=>rfl
 | y::xs,VO,zN,f=>by
  rw[QO,Z8] at f;rw[YK,YK,xur r f.1,xgq t f.2]
theorem xfy {A:Around}{s:Shared}{x:V}{v:Value} (rx:xM) (fx:ztg):(zcm,pD->zpb->∀ u∈us,Z5 A s u v (eqU x u))
 | _,_,.nil,_=>λ u b=>by cases b
 | y::xs,VO,zN,f=>λ d b=>by
  rw[QO,Z8] at f;rcases qP with rfl|b
  .show(eO,xur r f.1,x3o r rx f.1 fx)
  exact xfy rx fx t f.2 d b
meta def inV (x:V) (xs:cA):Bool:=xs.any λ y=>zhk
inductive rIn (K:Zd) (neg:Bool) (x:V) (y:V) (H:Hp) (Q:VK):Prop
 | mk (p xs) (e_:zyo) (r_:dh (zdf\/zsS) ztg zpb (rW (ztO,inV x xs)))
def xhq:uW .In (rIn X.K false):=by
 ext zCq;rcases c with c|c
 .show(IL,r,I.list c);refine SeqAt.in_listAt (eqU x) pl.isList (λ w d=>xfy f m r fs w IZ) (DE ?_);ext V9
 show(IL,r,I.tuple c);refine SeqAt.in_tupleAt (eqU x) pl (λ w d=>xfy f m r fs w IZ) (DE ?_);ext V9
def xcz:uW .NotIn (rIn X.K true):=by
 ext zCq;rcases c with c|c
 .show(IL,r,I.list c);refine SeqAt.notIn_listAt (eqU x) pl.isList (λ w d=>xfy f m r fs w IZ) (DE ?_);ext V9
 show(IL,r,I.tuple c);refine SeqAt.notIn_tupleAt (eqU x) pl (λ w d=>xfy f m r fs w IZ) (DE ?_);ext V9
def xay:(zuI,zBp (rR ys.length)):=by
 ext zLH j w;cases w;have x:=xg5;rcases j with j|j
 .show(IL,m,I.list j);have d:=m.length;exact Calls.call_len_list pl.isList zac zCX
 show(IL,m,I.tuple j);have d:=m.length;exact len_tuple pl zac zCX
def xf4:(zuI,∃ z,eX xs [.str z] (fA z.length) (rR z.length)):=by
 ext rS a;ext zuR z hz;have c:=xg5;exact len_str cm (Vw z.length)
theorem xh6:(zxt,zBp (Vv (kJ l zwv))):=by
  ext zLH B M;cases M;have D:∀(its:dw),Vals ys its->zru->∀(h':Heap) (m:Nat),(∀ b o',(cu,s.heap.get? b,o')->(ztC o')) ->
      (XN (zxx,.seq its.toArray m))->EP X v Z Q oY kR:=λ its c hz h' m x e =>
    (EA,I.laid (t':=s.toks) x dF (zbq,.lst ys,Hi hz its m c e))
  rcases B with B|B
  . show(dG,its,c,pl,hz,I.list B)
    show(zLe,J,G,pl.isList)
    exact call_list_seq p jF E J G (zQE x e) zac
  . show(dG,its,c,pl,hz,I.tuple B)
    ext zLe J G pl;exact call_list_seq p zW E J G (zQE x e) zac
meta def tyV (K:Zd) (T:String) (x:V) (H:Hp):Prop:=match x with
  | jG=>T="str"
  | vJ=>T="int"
  | pF=>(T="list"/\∃ xs,zdf)\/(T="tuple"/\∃ o,(cu,K.lookup p,o)/\(LC "tuple")/\zuh) \/
      (T="dict"/\((∃ kvs,IT p)\/∃ kvs,Pq p))\/(T="set"/\∃ S n,dA p (.set S n))
  | _=>False
theorem x17 {pins:dJ}{Z:St}{H:Hp}{s:Shared}{T:String}{x:V}{v:Value} (I:cL) (r:xM) (ty:tyV X.K T x H) :
    s.TypeIs v T/\∀ a,(pY a)->(zUs (zbs ob)):=by
  cases x with
  | str z =>
    show(zJb,"str",QI s z t)
  | int i =>
    show(zJb,"int",typeIs_int s i t)
  | ref p =>
    cases r;rcases ty with⟨rfl,xs,hq⟩|⟨rfl,o,hk,hc,j⟩|⟨rfl,hk⟩|⟨rfl,S,n,hk⟩
    . obtain⟨its,_,pl,_⟩:63:=I.list hq
      show(AN,pl.isList.typeIs,a,e);cases e;obtain⟨o,n,e,c,j,_⟩:84:=pl;ext dy o e j
    . show(AN,(cC,o,I.kIn p o hk,hc),a,e)
      cases e;show(dy,o,I.kIn _ o hk,j)
    . have z:∃ o,(cu,s.heap.get? p,o)/\o.ExactDict:=by
        rcases hk with⟨kvs,hk⟩|⟨kvs,hk⟩
        . ext zAP
        . ext zAP
      ext cD o e b z;ext zDp
    . obtain⟨o,_,_,_,e,b,_⟩:123:=uy p hk
      ext zDp
  | _=>exact Yu ty
meta def tBM (K:Zd) (T:String) (r:zbS) (to:TE) (t:TA):TE:=(zTo,tyV K T x H1/\t Z H1 λ xs H2=>r x xs H2 Q)
variable {o e:Expr}{es:List Expr}{to:TE}{t:TA}{name:Str}{apos cpos:Pos}{T id:String}{r:V->List V->Hp->VK->Prop}
def xck (pa:PlainAttrs T) (slot:Slot T name id) (hty:typeOf (.builtin id)=pure (.type "method_descriptor")) (hm:MtR X id r) (ho:LV) (ha:Ft)
    (hbase:iA (OJ name))
    (hfew:autoParam (((Nb sD).all (λ x=>! cQ)&&(zff).all (λ x=>zfy)
      && (V8 sD))=true) vR)
    (hline:zhB) (hs:A8) (hplain:autoParam ((IG cpos es).any (·.1)=false) vR) :
    zcl name sD (tBM X.K T r to t):=by
  ext gz c;show(zED,(thn (zy c) λ v w ⟨1084,x,N,j,r1,ty,B⟩=>?_));show(TD,G,D,x17 j r1 ty,eT 86 T id pa slot hty G D ?_);have f:=ha cpos c w Z N _ j B;rw[hs] at f ⊢;refine Y0 (by show (false||(IG cpos es).any (·.1))=false; rw[hplain]<;>rfl) (QU ?_);exact thn f (kU,us,q,vs,M,J,r2,z,hm c q Z M x vs v us Q J r1 r2 z)
#check _
meta def MtM (X:Cx) (id:String) (r:zbS):Prop :=
 ∀(pins:List (Addr × Obj)) (s:Shared) (Z:St) (H:Hp) (x:V) (xs:List V) (v:Value) (us:List Value) (Q:VK),Inv X pins Z H s->RelV x v->Vals xs us->r x xs H Q ->
  zMQ
theorem Vals.one {x:V}{us:dw} (h:DH [x]):zPq:=by
 cases h with
 | cons r q =>
  cases q;ext qg r
theorem Vals.eraseIdx:∀{xs:cA}{us:dw} (i:Nat),pD->Vals (xs.eraseIdx i) (us.eraseIdx i)
 | _,_,_,.nil=>.nil
 | _,_,0,S1=>t
 | _,_,dc,zN=>.cons r (Vals.eraseIdx i t)
theorem xl5 {α:Type}:∀(l:eI) (i:Nat),d6 (l.eraseIdx i) l.length
 | [],_=>dF
 | fh,0=>WO _
 | _::r,dc=>Nat.succ_le_succ (xl5 r i)
section
variable {X:Cx}{pins:List (Addr × Obj)}{Z:St}{H:Hp}{s:Shared}{l b:Addr}{xs ys zs:List V}
def Inv.lset {its its':dw}{n:Nat}{f:ii->ii}{t':Nat} (I:cL) (hH:FD)
    (e:zqi Xz) (hf:f its.toArray=its'.toArray) (hv:Vals ys its') (hz:zru) :
    rX zwv (znw,s.heap.update l (JO f)):=by
  show(fV,q,PySem.IsL.update e f,hf,q);refine I.write (x:=l) (e:=l) (cK hH trivial) jF (λ j u c b=>(JM s.heap (JO f) (Z2 c)).trans b) (hZ q) ?_;show(cU,hz,fG its' _ hv q)
def Inv.lnew {its:dw}{t':Nat} (I:cL) (hv:Vals ys its) (hz:zru) :
    rX (wD s.heap.objs.size ys) (znw,zmB its.toArray) :=
  I.laid zuv dF (Hi hz its 0 hv jj)
def Inv.fresh (I:cL):d7 s.heap.objs.size:=D9
def Inv.lstM (I:cL) (hH:FD):zh/\(zqV,EV/\xs.length=its.length/\(zqi Xz)):=by
 show(zrx,uy l hH);show(cU,z,d9 its n r r.length e)
def xwy {n:Nat} (h:fA n):zJo n:=by
 unfold Builtin.List.listTooLong;exact decide_eq_false cm
#check _
section
variable {X:Cx}
inductive xy3 (x:V) (vs:cA) (H:Hp) (Q:VK):Prop
 | mk (l xs y) (e_:zgs) (r_:(j7,vs,[y],FD,Kr,Q .non (wD l (xs++[y]))))
def xci:MtM X "list.append" xy3:=by
 ext zbr b j m;obtain⟨l,xs,y,rfl,rfl,f,hz,q⟩:=h;cases j;show(cD,u,rfl,w,m.one)
 show(IV,B,I.lstM f);refine We F.slot_list_append (hX e) F.entry_list_append (F.args_list_append_2 _ _) (PySem.list_append l its.toArray n u zhx) (jl e);refine gZ .non _ (zuV,its++[u],f,cy,r.append (.cons w .nil)) q;rw[Zr,ZI];lia
inductive xzx (x:V) (vs:cA) (H:Hp) (Q:VK):Prop
 | mk (l b xs zs) (e_:zgs) (r_:(zHJ,vs=[se],Q .non (wD l (xs++zs))))
def xmb:MtM X "list.extend" xzx:=by
 ext zbr j B C;ext zIe w K;show(cD,u,rfl,D,C.one)
 cases D;show(IV,P,I.lstM w);obtain⟨O,c,G,r2,J,N⟩:=I.lstM K;have hsz:fA zGb:=zSJ
 have f:¬ (! its.toArray.isEmpty&&Builtin.List.listTooLong zGb)=true:=by
  show(fK,xwy hsz,Wg,Zv)
 refine We F.slot_list_extend (hX e) F.entry_list_extend (F.args_list_extend_2 _ _)
  (AutoSeq1.list_extend_list_list_0 l its.toArray n b c.toArray G f zhx cm) (kL e N)
 refine gZ .non _ (zuV,its++c,w,cy,r.append r2) q;rw[Zr];lia
meta def x3m:zbS:=λ x vs H Q=>∃ l xs i k y,(dh,zgs,vs=[j5],FD,(cR,-AF<=i,i<AF,(cu,seqIndex? i xs.length,k),ix xs k y,Q y (iK l (.lst (xs.eraseIdx k)))))
def xjv:MtM X "list.pop" x3m:=by
 ext zbr c m C;obtain⟨l,xs,i,k,⟨y,rfl,rfl,j,N,L,K,E,q⟩⟩:121:=h;cases m;show(cD,u,rfl,D,C.one)
 ext hF D;show(IV,J,I.lstM j);show(cD,w,G,b,r.get E);refine We F.slot_list_pop (hX e) F.entry_list_pop (F.args_list_pop_2 _ _)
  (MeetsSeq.list_pop_at l its.toArray n i t k w (fitsIndex_both N L) (by rw[ZB,<- J]; exact K) (hV J0 G) zhx) (jl e)
 refine d9 y _ (zuV,its.eraseIdx k,j,?_,r.eraseIdx k) b q
 .show its.toArray.eraseIdxIfInBounds k=(its.eraseIdx k).toArray;rw[List.eraseIdxIfInBounds_toArray]
 .show(fj,xl5 xs k)
inductive rCat (x:V) (y:V) (H:Hp) (Q:VK):Prop
 | mk (l b xs zs) (e_:zgs) (r_:zHJ TM (Ey (wD p (xs++zs))))
def xh0:RM .Add rCat:=by
 ext uN j B m;ext zIe D E;cases m;show(IV,N,I.lstM D);obtain⟨K,c,L,r2,C,J⟩:=I.lstM E;refine PySem.P.add_list e J ?_ zSJ;have G:its.toArray++c.toArray=(its++c).toArray:=cy
 rw[G];exact(gZ,.ref _,_,I.lnew (t':=s.toks) (r.append r2) Uo,q _ I.fresh)
#check _
section
variable {κ:Type} [DecidableEq κ]
meta def valV (kvs:iB) (k:κ):eV:=(kvs.find? λ b=>zwA).map (·.2)
meta def putK (kvs:iB) (k:κ) (v:V):iB :=
 if (zvV,λ b=>zwA) then kvs.map (λ b=>gH sR k (sR,v) b) else kvs++[(k,v)]
def xbt {p:κ × V}{r:iB}{k:κ} (e:cO=k):(cu,valV wf k,dX):=UA valV e
def xbg {p:κ × V}{r:iB}{k:κ} (e:¬ cO=k):valV wf k=valV r k:=UA valV e
theorem xee (k:κ):∀ kvs:iB,(kvs.any zqG)=zwR
 | []=>rfl
 | wf=>by
  rw[YK];ext LO
  .simp only [Hv,decide_eq_true e,Bool.true_or,Option.isSome_some]
  rw [AK,decide_eq_false e,Bool.false_or]; exact xee k r
theorem xoy (k j:κ) (y:V):∀ kvs:iB,valV (kvs.map λ kv=>zoh) j=(zvy).map λ x=>gH j k y x
 | []=>rfl
 | wf=>by
  have b:=xoy k j y r;rw[Zs];by_cases h:cO=k
  .rw [Mq];by_cases e:cO=j
   .rw [xbt (p:=(cO,y)) e,Hv,QV,if_pos (e.symm.trans h)]
   rw [xbg (p:=(cO,y)) e,AK,b]
  ext sQ h;by_cases e:cO=j
  .rw [xbt (p:=p) e,Hv,QV,(mE,h (e.trans z))]
  rw [xbg (p:=p) e,AK,b]
theorem xlp (k j:κ) (y:V):∀ kvs:iB,Pk->(zML (kvs++[(k,y)]))
 | [],_=>by
  by_cases e:k=j
  .show(eO,df e.symm,xbt (p:=(k,y)) e)
  show(eO,(mE,e z.symm),xbg (p:=(k,y)) e)
 | wf,hn=>by
  rw[List.cons_append];have b:¬ cO=k:=λ z=>by show(gm,xbt z,hn)
  rw[xbg b] at hn;have f:=xlp k j y r hn;by_cases e:cO=j
  .rw [Hv,Hv,(mE,b (e.trans z))]
  rw [AK,AK,f]
theorem xcx (kvs:iB) (k j:κ) (y:V):zML zsR:=by
 unfold putK;by_cases a:(zvV,λ c=>gO jw k)
 .rw [if_pos a,xoy];rw[xee] at a;by_cases e:j=k
  .obtain ⟨x,d⟩:=Ws.mp a;rw[AB,e,d,QV,fH]
  ext sQ e;cases zvy with
  | none=>rfl
  | some x=>rw[QV,Nk]
 rw [if_neg a];refine xlp k j y kvs ?_;rw[xee] at a;cases q:rH with
 | none=>rfl
 | some x=>show(ef,q,a,(a rfl).elim)
def xbv (kvs:iB) (k:κ) (v:V):(d6,rG,kvs.length+1):=by
 unfold putK;split
 .rw [Za]; lia
 rw [Zr,Z6,WE]; lia
def xdh {kvs:iB}{k:κ} (v:V) (h:Pk):rG=kvs++[(k,v)]:=by
 unfold putK;rw[xee,h];exact if_neg cE
theorem RelO.isSome_eq {o:eV}{u:B4} (r:RelO o u):o.isSome=u.isSome:=by
 cases o with
 | none=>cases u with
  | none=>rfl
  | some _=>ext Ke
 | some _=>cases u with
  | none=>ext Ke
  | some _=>rfl
theorem RelO.getD {o:eV}{u:B4}{d:V}{d':Value} (r:RelO o u) (rd:RelV d d'):RelV (o.getD d) (u.getD d'):=by
 cases o with
 | none=>cases u with
  | none=>exact rd
  | some _=>ext Ke
 | some _=>cases u with
  | none=>ext Ke
  | some _=>exact r
theorem KV.val {kvs:iB}{vs:BA} (r:tu) (k:κ):RelO rH (valueAt vs k):=by
 ext zgG
 induction r with
 | nil=>exact JF
 | @cons p q ps qs h t ih =>
  obtain⟨d,f⟩:=h;ext LO
  .show(zCe,valueAt vY k,valueAt)
  show(cI,c,¬ rp=k,zPE,b,valueAt vY k=valueAt qs k,UA valueAt c)
  ext fK AK b ih
theorem KV.any {kvs:iB}{vs:BA} (r:tu) (k:κ):(kvs.any λ kv=>gO oM k)=vs.any zqG:=by
 ext zgG
 induction r with
 | nil=>rfl
 | cons h t ih=>rw[YK,YK,ih,lD]
theorem KV.repl {kvs:iB}{vs:BA} (r:tu) (k:κ) {y:V}{u:Value} (ry:jY) :
    KV (kvs.map λ kv=>zoh) (vs.map λ kv=>gH oM k (oM,u) kv):=by
  unfold KV at r ⊢
  induction r with
  | nil=>ext uj
  | @cons p q ps qs h t ih =>
    ext zQP;ext Gz d h;ext LO
    . rw[AB,zKy]; ext cU b ry
    . rw[Nk,zQa]; ext cU b d
def KV.put {kvs:iB}{vs:BA} (r:tu) (k:κ) {y:V}{u:Value} (ry:jY):KV zsR (stored vs k u):=by
 unfold putK stored;rw[r.any k];by_cases e:(vs.any λ b=>zwA)=true
 .rw [AB,AB]; exact r.repl k ry
 rw [Nk,Nk]; exact Paired.snoc r (d4 ry)
theorem KV.keys {kvs:iB}{vs:BA} (r:tu):kvs.map (·.1)=vs.map (·.1):=by
 ext zgG
 induction r with
 | nil=>rfl
 | cons h t ih=>rw[Zs,Zs,ih,lD]
def KV.length {kvs:iB}{vs:BA} (r:tu):kvs.length=vs.length:=Y1 r
#check _
theorem xd2 {P:Program}{w:World}{k:Key}{u:Value} (r:RelV (kV k) u):(xV).is k u=true:=by
 cases k with
 | inl i=>show(mL,t,FP IY); ext eQ; exact xps P w i t
 | inr x=>show(mL,t,FP zpe); ext eQ; exact xpm P w x t
theorem xlt {P:Program}{w:World}:∀{ks:iO}{us:dw},Vals (ks.map kV) us->ItemsAre xV ks us
 | [],_,r=>by show(ku,YW,r,.nil)
 | k::ks,_,r=>by
  rw[Zs] at r;cases r with
  | cons h t=>exact .cons (xd2 h) (xlt t)
meta abbrev KT (H:Hp):fF fP qy:=Paired λ p q=>eX cO rp (dA (dO q) (.tup ((cO).map kV))) zXg
theorem KT.val {H:Hp}{kvs:fP}{xs:qy} (r:EZ) (k:iO):RelO rH ((zeq).map (·.2)):=by
 induction r with
 | nil=>exact JF
 | @cons p q ps qs h t ih =>
  obtain⟨d,_,f⟩:43:=h;ext LO
  .show(zCe,atKey vY k,atKey)
  show(cI,c,¬ rp=k,zPE,b,atKey vY k=atKey qs k,UA atKey c)
  ext fK AK b ih
theorem KT.repl {H:Hp}{kvs:fP}{xs:qy} (r:EZ) (k:iO) {y:V}{u:Value} (ry:jY) :
    KT H (kvs.map λ kv=>zoh) (xs.map (putAt k u)):=by
  induction r with
  | nil=>ext uj
  | @cons p q ps qs h t ih =>
    ext zQP;ext kn b d f h;unfold putAt;ext LO
    . rw[AB,zKy]; ext dy b d ry
    . rw[Nk,zQa]; ext dy b d f
def KT.put {H:Hp}{kvs:fP}{xs:qy} (r:EZ) (k:iO) {b:Addr}{y:V}{u:Value} (hb:ON) (ry:jY) :
    KT H zsR (storedH xs k b u):=by
  have e:(kvs.any zqG)=(zeq).isSome:=by
    rw[xee,(r.val k).isSome_eq,Qj]
  unfold putK storedH;rw[e];by_cases q:jT zeq
  . rw[zjo,zjo]; exact r.repl k ry
  . rw[dz q,dz q]; exact Paired.snoc r (DA hb ry)
def KT.keeps {H H':Hp}{kvs:fP}{xs:qy} (r:EZ) (ht:∀ b ys,(ji b ys)->(Bv b ys)):KT H' kvs xs :=
 Paired.mapP r (Dl zMI)
section
variable {P:Program}{w:World}{H:Hp}{h:Heap}{a:Addr}
def xx2 {u:HO} (ok:qu) (e:zxC):zVr:=e.ok ok
def xfg {kvs:dR} (ok:qu) (e:zby):zlc :=
 (zaF,Ub,xx2 ok e)
def xj6 {kvs:dR} (ok:qu) (e:Nc):zlc:=xfg ok (.inl e)
def xek {ks:iO} (ok:qu) (e:dA a (.tup (ks.map kV))):(zoq).is h ks a:=by
 obtain⟨_,its,r,o,d,c,n,b⟩:=(zaF,zTe,ok a _ e)
 exact⟨104,o,its.toArray,n,d,c,b,(zA,xlt r)⟩
def xgc {kvs:fP} (ok:qu) (e:zpM):Kl/\Nt /\
    zGi:=by
  obtain⟨z,y,⟨xs,r,o,es,C,B,A,v,u,j⟩⟩:43:=(zaF,zho,xx2 ok e)
  refine dW z y xs r ⟨106,o,es,C,B,A,v,u,cG x b,j⟩;have all:∀{l:fP}{m:qy},KT H l m->∀ x∈m,(zoq).is h cQ dY:=by
    intro l m q
    induction q with
    | nil=>intro x b; exact nomatch b
    | @cons p q ps qs hq t ih =>
      intro x b;rcases qP with e|b
      . ext eQ
        exact xek ok (hV,hq.1,dO hq)
      . exact ih x b
  exact all r x b
def xkz {kvs:fP} (ok:qu) (e:GS):Kl/\Nt /\
    zGi:=xgc ok (.inl e)
#check _
meta def DGet (H:Hp) (a:Addr) (y:V) (r:eV):Prop :=
 (∃ kvs k,zby/\zfW/\r=rH)\/∃ kvs k b,(dh,zpM,TM,ON,r=rH)
meta def DPut (H:Hp) (a:Addr) (y v:V) (H':Hp):Prop :=
 (∃ kvs k,(dh,Nc,zfW,PZ,H'=(kB H a rG))) \/
 ∃ kvs k b,(cR,GS,TM,ON,PZ,H'=(j3 H a rG))
def DGet.k {H:Hp}{a:Addr}{kvs:dR}{k:Key} (e:Nc):DGet H a (kV k) rH:=.inl (gZ kvs k zji rfl)
def DGet.t {H:Hp}{a b:Addr}{kvs:fP}{k:iO} (e:GS) (eb:ON):DGet H a se rH:=.inr (mR kvs k b zji rfl eb rfl)
def DPut.k {H:Hp}{a:Addr}{kvs:dR}{k:Key}{v:V} (e:Nc) (hl:PZ):DPut H a (kV k) v (kB H a rG):=.inl (dN 84 kvs k e rfl hl rfl)
def DPut.t {H:Hp}{a b:Addr}{kvs:fP}{k:iO}{v:V} (e:GS) (eb:ON) (hl:PZ) :
    DPut H a se v (j3 H a rG):=.inr (eT 105 kvs k b e rfl eb hl rfl)
section
variable {X:Cx}{pins:List (Addr × Obj)}{Z:St}{H:Hp}{s:Shared}{a:Addr}{y v:V}{u r:Value}{o:Option V}{A:Around}{E:Value->Shared->Prop}
def Inv.big (I:cL):mB sysModules:=by
 have h:mB mainGlobals:=(I.mod.glob.keeps I.bk).lt;exact ZX cE h
def xmj {Q:dE} (hu:Eb) (I:cL) (g:DGet H a y Az) (ry:jY) (h:(znc,RelV v w')) :
    vz (getItem (.ref a) u):=by
  rcases g with⟨kvs,k,e,ey,l⟩|⟨kvs,k,b,e,ey,eb,l⟩
  . subst ey
    ext Kd C d x;show(cD,w',j,c,(zoG,valueAt vs k,zKS));exact wpAny_getItem_of GR x.mapOf j (h w' _ kY c)
  . ext Ou C d x;obtain⟨w',j,c⟩:62:=RelO.some_of (v:=v) (o:=(zeq).map (·.2)) zKS;show(cD,p,B,q,Zh.mp j);refine wpAny_getItem_heap VW K1 x B ?_;show(cW,q,h w' _ kY c)
def d_in {Q:dE} (hu:Eb) (I:cL) (g:RL) (ry:jY) (h:zPD o.isSome) :
    zWj .In:=by
  rcases g with⟨kvs,k,e,ey,l⟩|⟨kvs,k,b,e,ey,eb,l⟩
  . subst ey
    ext Kd d c j;refine wpAny_in_of GR d j.mapOf ?_;ext zrK zor
  . ext Ou d c j;refine wpAny_in_heap VW K1 d j ?_;ext zSh
def x0c {Q:dE} (hu:Eb) (I:cL) (g:RL) (ry:jY) (h:zPD (! o.isSome)) :
    zWj .NotIn:=by
  rcases g with⟨kvs,k,e,ey,l⟩|⟨kvs,k,b,e,ey,eb,l⟩
  . subst ey
    ext Kd d c j;refine wpAny_notIn_of GR d j.mapOf ?_;ext zrK zor
  . ext Ou d c j;refine wpAny_notIn_heap VW K1 d j ?_;ext zSh
def xfp {h':Heap}{t':Nat}{ob:HO} (I:cL) (mu:Mut (H a)) (hs:zWV) (he:zKb) (new:xbb X.prog X.w (iK a ob) h' a ob) :
    rX (iK a ob) Ge :=
  I.write (x:=a) (e:=a) mu jF (λ b q c z=>(hs.2 b c).trans z) he new
def xo2 {P:Program}{w:World}{H':Hp}{h':Heap}{kvs:dR}{vs:zcf} (z:Kl) (hd:Nt) (rel:tu) (dd:h'.DictOf xV a vs) :
    xbb P w H' h' a Ub:=dW z hd vs rel dd
def xl2 {H':Hp}{Q:vh} (hu:Eb) (I:cL) (g:zVo) (ry:jY) (rv:RelV v r) (h:zcn Cw) :
    vz (setItem dH u r):=by
  rcases g with⟨kvs,k,e,ey,l,eH⟩|⟨kvs,k,b,e,ey,eb,l,eH⟩
  . ext zFP;show(zDE,wpAny_setItem_pairs (hsz:=hz) GR C zRx);show(zEG,let ⟨q,_,_,m,_⟩:=j; sE m,j)
  . ext zBm;show(zLb,wpAny_setItem_heap (hsz:=hz) VW K1 C zRx);obtain⟨q,es,N,m,M,L,K,_,J⟩:106:=j;refine xfp I zP hs (sE m) (dW,x,B,_,(d.put k eb rv).keeps (c8 c ys D),eT 105 q es N m M L K J);show(oI,xeo D e o6,D)
#check _
section
variable {X:Cx}{pins:List (Addr × Obj)}{Z:St}{H:Hp}{s:Shared}{a:Addr}{kvs:List (Key × V)}{k:Key}{u:Value}{A:Around}{E:Value->Shared->Prop}
def x5p {Q:dE} (I:cL) (e:zby) (h:∀ t s',zie->Q (.int kvs.length t) s'):vz (BK "len" mj):=by
 ext Kd j c m;refine call_len_dict j m (by rw[<- c.length]; rw[WN] at z; lia) ?_;show(kC,c.length,h _ _ kY)
#check _
meta def NoSl (i:Expr):Prop:=∀ ov iv,subscripted i false ov iv=operate [ov,iv] (getItem ov iv)
def xq6 {prog:Program}{w:World}{A:Around}{E:dE}{s:Shared}{env:Env}{value slice:Expr}{pos:Pos}{T id:String}{Q:dE}
    (hl:zHn) (hs:NoSl slice)
    (h:SJ (eval value env) (λ o s₁=>tQ (eval slice env) (λ i s₂=>s₂.TypeIs o T/\(tQ (getItem o i) Q E s₂)) E s₁)) :
    fQ (eval (.Subscript value slice pos) env):=by
  refine Subscript_ (Ct h (λ o s₁ z=>Ct z (c8 i s₂ f) x) x);obtain⟨q,f⟩:=f;unfold subscriptTail;ext kW;rw[getitemInPython_of_ne q.not_modules];ext F3 q hl;have a:tQ (subscripted slice false o i) (λ r j=>tQ (letTemporaryGo value o r>>=λ_=>pure r) Q E j) E s₂:=by
    rw[hs o i];exact wpAny_operating (Ct f (λ r j v=>Zb (wpAny_letTemporaryGo (Zo v))) x)
  first
    | exact Zo (Zb a)
    | exact Zb (Zo (Zb a))
    | exact Zb a
def xpp {X:Cx}{pins:dJ}{Z:St}{H:Hp}{s:Shared}{a:Addr}{y:V}{o:eV} (I:cL) (g:RL):zv a "dict":=by
 rcases g with⟨kvs,k,e,_,_⟩|⟨kvs,k,b,e,_,_,_⟩
 .show(zIp,vs,xfg I.hok e)
 show(zIp,xs,xgc I.hok e)
inductive x0l (x y:V) (H2:Hp) (Q:VK):Prop
 | mk (a v) (e_:nW) (r_:(TU Az)/\Q v H2)
meta def x4i (td ty:TE):TE:=zTF (zsD,x0l x y H2 Q)
inductive x3v (x y:V) (H2:Hp) (Q:VK):Prop
 | mk (a o) (e_:nW) (r_:(TU o)/\Q (.bl o.isSome) H2)
meta def tDIn (ty td:TE):TE:=zat (zsA,x3v x y H2 Q)
inductive xs4 (x y:V) (H2:Hp) (Q:VK):Prop
 | mk (a o) (e_:nW) (r_:(TU o)/\Q (.bl (! o.isSome)) H2)
meta def xz6 (ty td:TE):TE:=zat (zsA,xs4 x y H2 Q)
meta def x4s (td ty tv:TE):TS:=(qW,tv Z H λ v H1=>(zsA,ty Z H2 λ y H3=>∃ a H4,nW/\DPut H3 a y v H4/\D.nx Z H4))
meta def x39 (td ty tv:TE) (rd:Rf):TS:=λD Z H=>td Z H λ x H1=>ty Z H1 λy H2=>∃ a v,nW/\(TU Az) /\
 tv Z H2 λ y2 b=>rd v y2 b λ z H4=>∃ H5,DPut H4 a y z H5/\D.nx Z H5
section
variable {X:Cx}{o i e value:Expr}{pos pos' tpos:Pos}{td ty tv:TE}
def xc4 (hu:Bg) (ho:Fv) (hi:Fq) (hs:NoSl i):zbJ o i (x4i td ty):=by
 ext gz f;show(zGr,(kM (zy f) u q x D C w z (kc,hi f q Z D _ C z,iv,s2,y,H2,I2,ry,dW a v ex g q2)));ext wU ex w;show(cU,xpp I2 g,xmj hu I2 g ry λ E G B j=>d9 v H2 B j q2)
def xgy (hu:Bg) (hi:Fq) (ho:Fv):PC X .In i o (tDIn ty td):=by
 ext zzu w;ext wU ex rx;exact d_in hu I2 g f λ v p=>(gZ,.bl ov.isSome,H2,p,q2)
def xge (hu:Bg) (hi:Fq) (ho:Fv):PC X .NotIn i o (xz6 ty td):=by
 ext zzu z;ext wU ex rx;exact x0c hu I2 g f λ w p=>(gZ,.bl (! ov.isSome),H2,p,q2)
def xdc (hu:Bg) (ho:Fv) (hi:Fq) (hv:zrW) (hs:Xw value (some zOz)) :
    zTg zOz (x4s td ty tv):=by
  ext sC d;refine wpAny_Assign_Subscript (kM,hv d s Z H _ I h,r,f,v,z,w,j,m,kM (ho d f Z z _ w m) u s2 x H2 I2 rx q2 (kc,hi d s2 Z H2 _ I2 q2,iv,s3,y,H3,I3,ry,dM 1083 a H4 ex g q3)) hs;ext wU ex rx;exact xl2 hu I3 g ry j λ B q=>fG Z H4 q q3
def xp3 {op:Operator}{rd:Rf} (hu:Bg) (ho:Fv) (hi:Fq) (hv:zrW) (hop:InOp X op rd)
    (ha:∀ ov iv new,augStore i ov iv new=(do holding [new,ov,iv] (setItem ov iv new); release [new,ov,iv] []; pure .next)):PS X (.AugAssign (.Subscript o i tpos) op value pos) (x39 td ty tv rd):=by
  ext sC d;refine wpAny_AugAssign_SubscriptAny (kM (zy d) u m x G E q w (kc,hi d m Z G _ E w,iv,s2,y,H2,I2,ry,dM 1083 a v ex g q2)) ha;ext wU ex q;refine xmj hu I2 g ry λ j l C f=>kM (hv d l Z H2 _ C q2) w2 s4 y2 H3 I4 ry2 q3 (kc,hop d s4 Z H3 v y2 j w2 _ I4 f ry2 q3,w3,s5,z,H4,I5,rz,Od H5 g5 q4);exact xl2 hu I5 g5 ry rz λ J B=>fG Z H5 B q4
#check _
def xjn {P:Program}{w:World}{H:Hp} (h:Heap) (hb:zLl):zCg U8 :=
 (zCc,Heap.DictOf.new h)
def xok {P:Program}{w:World}{H:Hp} (h:Heap) (hb:zLl):zCg Nd :=
 zCc (eT,105,_,#[],0,jj,zde,rfl,rfl,Y3)
meta def x1v:TE:=(N1,Ey (kB H p []))
meta def x24:TE:=(N1,Ey (j3 H p []))
section
variable {X:Cx}{pos:Pos}
def xg9:zUo x1v:=λ m s Z H Q I h =>
 wpAny_Dict_empty ⟨83,oY,_,zCM U8 zSX,rfl,h _ D9⟩
def xf5:zUo x24:=λ m s Z H Q I h =>
 wpAny_Dict_empty (gZ,oY,_,zCM Nd (xok s.heap I.big),h _ D9)
#check _
meta def xoz:AS Su St Hp (oG TB)
 | [],_,H,Q=>Q [] H
 | (tk,tv)::r,Z,H,Q=>tk Z H λ x a=>tv Z a λ y H2=>xoz r Z H2 λ ps H3=>Q ((x,y)::ps) H3
meta abbrev VV:fF TB zTm:=Paired λ p q=>RelV cO rp/\RelV dX q.2
meta def PPs (X:Cx) (pos:Pos) (keys:zoE) (values:iC) (trs:Su):Prop :=
 ∀(pins:List (Addr × Obj)) (s:Shared) (Z:St) (H:Hp) (Q:oG TB),cL->xoz trs Z H Q ->
  (sW (evalPairs (pairTrees keys values X.env pos)) (λ vs s'=>∃ ps H',Cw/\VV ps vs/\Q ps H'))
def xqk {X:Cx}{pos:Pos}:PPs X pos [] [] []:=(zcN,pairTrees_nil_walk (d9 [] H I .nil h))
def xhh {X:Cx}{pos:Pos}{k v:Expr}{ks:zoE}{vs:iC}{tk tv:TE}{trs:Su} (hk:PE X k tk) (hv:PE X v tv) (hr:PPs X pos ks vs trs) :
    PPs X pos (some k::ks) (v::vs) ((tk,tv)::trs):=λ a s Z H Q I h =>
  pairTrees_cons_walk (thn (hk a s Z H _ I h) λ u d ⟨1083,x,p,l,e,i⟩=>thn (hv a d Z p _ l i) λ w2 s2 ⟨1083,y,H2,I2,ry,q2⟩ =>
    kM (hr a s2 Z H2 _ I2 q2) ws q ps m j b f (d9,(x,y)::ps,m,j,.cons ⟨e,ry⟩ b,f))
meta def xd9 (kvs more:dR):dR:=zvX (λ a b=>putK a sR b.2)
theorem KV.merge:∀{more:dR}{rs:zcf}{kvs:dR}{vs:zcf},KV more rs->tu->KV (xd9 kvs more) (merged vs rs):=by
 intro more rs kvs vs r;ext zgG
 induction r generalizing kvs vs with
 | nil=>intro q; exact q
 | @cons p q ps qs h t ih =>
  intro a;have e:KV zra (stored vs rp q.2):=by
   have:=a.put cO lE;ext kC lD this
  exact ih e
theorem xhn:∀(more kvs:dR),d6 (xd9 kvs more) zTk
 | [],kvs=>(hO,kvs.length<=(ziJ 0))
 | wf,kvs=>by
  show(cB,b,xhn r zra,a,xbv kvs cO dX);show d6 (xd9 zra r) _;rw[Z6]; lia
theorem xke {P:Program}{w:World}:∀{kvs:dR}{ws:zTm},VV (kvs.map λ kv=>(zfz,kv.2)) ws->∃ rs,Carries xV ws rs/\KV kvs rs
 | [],_,r=>by ext dP YW r r; show(dy,[],JF,.nil)
 | p::kvs,_,r=>by
  rw[Zs] at r;cases r with
  | @cons a b as bs h t =>
   show(cD,rs,c,q,xke (P:=P) (w:=w) t);ext rQ d b;show(dy,(cO,d)::rs,(vX,xd2 h.1,c),.cons (d4 lE) q)
meta def x5d (trs:Su):TE:=(mo,Q,∀ p,vO->xoz trs Z (kB H p []) λ ps H2=>H2 p=some (.dK [])/\∃ kvs:dR,ps=kvs.map (λ kv=>(zfz,kv.2))/\kvs.length<=15/\(kJ p (kB H2 p (xd9 [] kvs))))
def xqg {X:Cx}{pos:Pos}{keys:zoE}{values:iC}{trs:Su} (h:PPs X pos keys values trs) (hall:keys.all (·.isSome)=true) (hl:keys.length=values.length) (h0:keys≠[])
    (h15:keys.length<=15):PE X (.Dict keys values pos) (x5d trs):=by
  ext tT v Q q;show(cB,L,I.hok.fresh (Zj s.heap.objs.size),U,zDt U8 Xv zuv zSX);refine wpAny_Dict_walk (knd:=sZ) hall hl h0 h15 (thn (h v _ Z _ _ U (q _ L)) λ ws Y ⟨1084,ps,H2,B,A,e,dW 1063 kvs R lk J⟩=>?_);subst R;show(cD,rs,c,E,xke (P:=X.prog) (w:=X.w) A);show(uZ,z,N,C,G,T,xj6 B.hok e);cases G;refine(eE,rs,c,T,λ h' x hs=>gZ oY _ ?_ J);have hz:E7 (xd9 [] kvs):=by
    show(fV,O,xhn kvs [],WE,O);rw[WN]; lia
  have M:∃ q,XN q:=let ⟨q,_,_,hq,_⟩:=x; sE hq;exact xfp B zP hs M (xo2 hz N (E.merge .nil) x)
structure M1 (X:Cx) (o:Expr) (m:Str) (apos:Pos) (e:Expr) (cpos:Pos):Prop where
 base:OJ m
 few:((Nb [e]).all (λ x=>! cQ)&&(zff).all (λ x=>zfy)
  && (V8 ([e]:iC)))=true
 line:zlM
 trees:(Nb [e])=[(false,zw)]
structure M2 (X:Cx) (o:Expr) (m:Str) (apos:Pos) (e f:Expr) (cpos:Pos):Prop where
 base:OJ m
 few:((Nb [e,f]).all (λ x=>! cQ)&&(zff).all (λ x=>zfy)
  && (V8 ([e,f]:iC)))=true
 line:zlM
 trees:(Nb [e,f])=(zur,zw,pq f)
meta def IsD (H:Hp) (a:Addr):Prop:=(∃ kvs,zby)\/∃ kvs,zpM
def xuy {X:Cx}{pins:dJ}{Z:St}{H:Hp}{s:Shared}{a:Addr} (I:cL) (d:IsD H a) :
    (zv a "dict")/\(∀ b,(jv,Zw a,b)->(zUs (cu,s.heap.get? b,ob)))/\Nt:=by
  rcases d with⟨kvs,e⟩|⟨kvs,e⟩
  . show(zzm,vs,xfg I.hok e)
  . show(zzm,xs,xgc I.hok e)
section
variable {X:Cx}{pins:List (Addr × Obj)}{Z:St}{H:Hp}{s:Shared}{a:Addr}{y d:V}{u r:Value}{o:Option V}{A:Around}{E:Value->Shared->Prop}
def x3u {Q:dE} (hu:Eb) (I:cL) (g:RL) (ry:jY) (h:(znc,RelV (o.getD .non) w')) :
    vz (BK "dict.get" [dH,u]):=by
  rcases g with⟨kvs,k,e,ey,l⟩|⟨kvs,k,b,e,ey,eb,l⟩
  . subst ey
    ext Kd x j q;show(zEw,meets_dict_get sZ a GR x,zJS);rw[l];exact (zhA).getD rfl
  . ext Ou x j q;show(zEw,meetsH_dict_get Ip a b x,zEm);rw[l];exact (zhA).getD rfl
def x2g {Q:dE} (hu:Eb) (I:cL) (g:RL) (ry:jY) (rd:RelV d r) (h:(znc,RelV (o.getD d) w')) :
    vz (BK "dict.get" [dH,u,r]):=by
  rcases g with⟨kvs,k,e,ey,l⟩|⟨kvs,k,b,e,ey,eb,l⟩
  . subst ey
    ext Kd x j q;show(zDU,meets_dict_get_default sZ a GR x r,zJS);rw[l];exact (zhA).getD rd
  . ext Ou x j q;show(zDU,meetsH_dict_get_default Ip a b x r,zEm);rw[l];exact (zhA).getD rd
#check _
meta def x2b (td ty:TE):TE:=(zIj,∃ o,(TU o)/\Q (o.getD .non) H2)
meta def x1n (td ty tx:TE):TE:=(zIj,tx Z H2 λ z H3=>∃ o,DGet H3 a y o/\Q (o.getD z) H3)
section
variable {X:Cx}{o e f:Expr}{apos cpos:Pos}{td ty tx:TE}
def xxn (hu:Bg) (ho:Fv) (he:yO ty) (m:M1 X o "get" apos e cpos):zcl "get" [e] (x2b td ty):=by
 show(zAe,(kc,zy j,u,D,x,P,v,G,dW 1063 a L d K));ext wU L G;show(Fm,B,z,xuy v d);ext ie B z;rw[m.trees];refine Y0 rfl (QU (Y4 (kM,he j D Z P _ v K,Y,T,y,O,N,E,Od U g J,Qm ?_)));exact x3u hu N g E λ R S M q=>d9 _ O M q J
def xne (hu:Bg) (ho:Fv) (he:yO ty) (hf:PE X f tx) (m:M2 X o "get" apos e f cpos):zcl "get" [e,f] (x1n td ty tx):=by
 show(zAe,(kc,zy j,u,G,x,H1,v,L,dW 1063 a P d O));ext wU P L;show(Fm,D,B,xuy v d);refine V5 D B;rw[m.trees];refine Y0 rfl (QU (Y4 (thn (he j G Z H1 _ v O) λ iv E ⟨1083,y,Y,T,K,N⟩ =>
  Y4 (thn (hf j E Z Y _ T N) (kU,fv,s3,z,U,S,J,Od ov g M,Qm ?_)))))
 exact x2g hu S g K J λ w' s4 R q=>d9 _ U R q M
#check _
#check L2
namespace Att
open PySem PySem.W PySem.Calls PyProof.Rows
theorem xj3 {P:Params}{h:Heap}:∀(ns:gW) (vs:dw),WellAll P h vs (ns.map WData.int)->Rw:=by
 intro ns
 induction ns with
 | nil =>
  intro vs w;show(ku,YW,w,.nil)
 | cons n ns ih =>
  intro vs w;rw[Zs] at w;cases w with
  | cons a b =>
   ext kQ;exact .cons _ _ (ih _ b)
theorem xuo {l:OpenLaw}{n:Nat} (hn:zrX) {P:Params}{h:Heap}{args:List WData}{vals:dw}
    (hpre:l.row.toRowW.claim.pre args=true) (hwl:WellAll P h vals args) :
    ∃ a vs ns,(cR,vals=[Zw a],args=[WData.list (ns.map WData.int)],wO XR,Rw,zdk):=by
  show(cI,u,WShape.hasAll [] args [.list .int]=true,(pre_splitW hpre).1,v,l.pre.holds [] { args:=args }=true,(pre_splitW hpre).2);show(hJ,d,r,rfl,C,B,hasAllW_cons u);show(uq,hasAllW_nil B);show(cD,xs,rfl,z,hasW_list C);show(kT,ns,items_int z);have b:zdk:=by
    unfold OpenLaw.pre at v;have j:(WTm.not (.lt (.lit (.int iu)) (.len (.arg 0)))).holds [] { args:=[.list (ns.map .int)] }=true:=by
      have j:=(holds_andW v).1;ext ef hn j j
    show(fV,f,condW_of j (w_not (w_lt w_lit (w_len_list (w_arg rfl)))),Za,f);refine Ww (fL q);have x:iu<(hU ns.length):=cm
    first
      | (rw[decide_eq_true x] at f; ext gk f cE)
      | (ext yC f)
  cases hwl with
  | cons w1 w2 =>
    cases w2;cases w1 with
    | list ho hall=>exact(eT,105,_,_,ns,rfl,rfl,ho,xj3 ns _ hall,b)
def xvh (l:OpenLaw) (args:List WData):l.row.toRowW.claim.post args SC args=true :=
 postW_of (r:=l.row.toRowW) (X:=(true == true))
  (show WShape.has [] SC .bool=true by first|rfl|decide|simp[WShape.has,WShape.arms,WShape.armsAll])
  (show (WTm.eq .res (.lit (.bool true))).value [] { args:=args,res:=some (.bool true),after:=args }=some (.bool (true == true)) from w_eq_bool (w_res rfl) w_lit) rfl
def attach_call {l:OpenLaw}{n:Nat}{q:Program}{loose:cH}{XP:ztc}{YP:zqF}{d:DefRec}
    (hn:zrX) (hdf:znN)
    (call:∀(w:World) (s₀ s₁:Shared) (mg mb:gF) (fa:Addr) (o:Obj) (pm cd doc:Value) (a:Addr) (vs:dw) (ns:gW),
      Ground q loose [] XP w s₀ mg mb s₁.heap->YP w s₁.heap ->
      (cu,s₁.heap.get? fa,o)->o.data=.func (docDef d.name d.params d.body d.scope pm cd doc)->s₁.heap.CodeRec cd d.name->zrl ->
      zIt->Rw->zdk->s₁.gens=#[] ->
      (zjK (model l.prog w))) :
    WalkO q loose XP YP l.row.toRowW d [] zKE:=by
  intro w s₀ s₁ mg mb G Y fa o pm cd doc dV M P T E J D S L H as v I N B Q;show(jp,dV=.none,Dflts.none J hdf);show(jp,M=.none,Dflts.noKw J);obtain⟨a,vs,ns,rfl,rfl,x,j,z⟩:105:=xuo hn v B;refine enter_call (Qo (call w s₀ s₁ mg mb fa o pm cd doc a vs ns G Y P (fd_plain T) E D x j z S) (c8 r s' O));show(tG,rfl,Z,X,U,O);exact(eD,.inl (eT,105,SC,SC,[],rfl,iN,SC,xvh l _,λ_=>⟨JZ.nil,λ_ hm=>(nomatch hm)⟩),Z,X,U)
section
variable {prog:Program}{w:World}{A:Around}{E:Value->Shared->Prop}{s:Shared}{K:Frag}
#check _
#check Att
namespace L2
open PySem PySem.Spec PyProof.Rows
variable {q0:Bool}
theorem xmg:∀{vs:dw}{ns:gW},Rw->Vals (ns.map V.int) vs
 | _,_,.nil=>.nil
 | _,_,.cons n t h=>.cons Ng (xmg h)
meta def Only (H:Hp):Prop:=∀ b,iR\/∃ o xs,dA b zSr
theorem xxc {P:Program}{w:World}{K:Zd}{mg mb:gF}{CX:CXT}{k:Nat}{fa a:Addr}{fd:FuncData}{x:Str}{sp:Sp}{s₁:Shared}{vs:dw}{ns:gW}
    (KX:K.In s₁.heap) (hns:s₁.heap.Ns mainGlobals mg) (hb:s₁.heap.Ns builtinsNs mb) (hbb:zDm) (hlim:s₁.heap.NoLimit) (hg:s₁.gens=#[])
    (ha:zIt) (hi:Rw) (hl:zXw) (hr:zRF)
    (F:zbI zwF (X4 fa [x] sp)) (hbind:zld [(x,u)])
    (hsp:∀ H:Hp,Only H->KR->sp mj H zOf Kt)
    (hCX:∀ H e s',CX [] H s₁ Kt e s'->False) :
    zjK B9:=by
  show(cB,S,xmg hi,E,hi.length)
  -- from an abstract heap in which nothing but the script may be tracked
  have C:∀ H:Hp,Only H->KR->HOk P w H s₁.heap->(∀ b,(yM,H b)->b=a)->((yM,H a)->K.lookup a=none) ->
      (zjK B9):=by
    intro H T hS J U hK;have j:∀{b:Addr}{o:Obj},zOx iR (cu,(zbB).get? b,o):=λ e n=>xwg e n;have Q:∀{b:Addr}{o:Obj}{es:qm}{ep:Nat},zOx rA iR:=λ{b o es ep} e d=>by
      cases q:H b with
      | none=>rfl
      | some u =>
        ext zTY;ext dP ha e e;have d':Data.seq vs.toArray _=Data.dict es ep:=d;cases d'
    have B:∀{b:Addr}{m:gF},s₁.heap.Ns b m->(zbB).Ns b m:=λ{b m} ⟨o,es,ep,e,d,r⟩=>(wj,o,es,ep,j e (Q e d),d,r)
    have M:K.In (hidT s₁.heap H):=λb o e=>j (KX b o e) (by
      cases q:H b with
      | none=>rfl
      | some u =>
        ext zTY;show(HD,hK (nT q)))
    have hM:Mod K mg zbB:=(du,M,B hns,(cC,mb,B hb,hbb),let ⟨mc,h1,h2⟩:=hlim; (cC,mc,B h1,h2))
    have e0:Env0 P w K mg zbB callerA [] s₁ H:=⟨rfl,hM,(yl,xz5 e),Nat.le_of_eq (xu4 _ _),trivial,λ b hb=>Vy (show ztI from hb),J,.of_eq hg⟩
    refine Qo ((F _ M (B hns)).run callerA [] s₁ H (m7 mj) mj mj _ _ hr e0 (hbind s₁ dH) zXb (hsp H T hS)) (c8 r s' h);cases r with
    | error e=>exact (hCX H e s' h).elim
    | ok fl =>
      cases fl with
      | next=>exact Yu h
      | brk=>exact Yu h
      | cont=>exact Yu h
      | ret u =>
        obtain⟨v,H',os,O,un,G,Z,q⟩:86:=h;have q':v=.bl true:=q;subst q';show(jp,u=YT true,Z);refine(wb,OldK.of_keep (iX b o),os,O);cases q:H b with
        | none=>exact un.keep b o e q (by intro z; show(gk,TY ztI,cy)) cy
        | some u =>
          rcases T b with z|⟨ob,xs,z⟩
          . ext gm q z
          . have Y:=un.frzs b ob _ z
            obtain⟨X,_⟩:=J b _ z;obtain⟨e2,_⟩:=G b _ Y;ext ku e X e2
  cases hk:K.lookup a with
  | some o =>
    -- the script is one of the module's own objects
    have e:=KX a o hk;ext dP ha e e;refine C im (λ_=>jF) (.inr (jB,106,_,vs.toArray,_,hk,rfl,rfl,rfl,tP ZB E hl,zTw)) (λ b u z=>by have D:cu (none:gc HO) u:=z; cases D) (yN,absurd rfl z) λ z=>absurd rfl z
  | none =>
    refine C (λ b=>(gH,b,a,some (.frz XR zok),none)) (fL b) (.inl (.inr ⟨XR,fH⟩)) (wB b u) (qb z) λ_=>hk
    . ext zfD
      . show(fe,(fT,_,df hb))
      . exact .inl (if_neg hb)
    . ext zfD
      . have D:=(df hb).symm.trans z
        cases D;subst hb;show(dy,ha,js hl,fG vs _ S ha)
      . have D:=(dz hb).symm.trans z
        cases D
    . ext zfD
      . exact hb
      . exact absurd (if_neg hb) z
theorem walk_of {l:PySem.W.OpenLaw}{n k:Nat}{q:Program}{loose:cH}{XP:ztc}{YP:zqF}{d:DefRec}{K:Params->Zd}{CX:World->CXT}{sp:World->Sp}{x:Str}
    (hn:zrX) (hn2:fA n) (hdf:znN) (hr:zRF)
    (hY:(zJU,(zH).In h))
    (F:∀(w:World) (mg:Str->Option Value) (fa:Addr) (h:Heap),(zH).In h->yX->zrl ->
      ∃ fd:FuncData,(zld [(x,u)]) /\
        (zbI,(zH).In base,FnOk q0 l.prog w zH mg base (CX w) k fa fd [x] (sp w)))
    (hsp:∀(w:World) (H:Hp) (a:Addr) (ns:gW),(dI,zdk,Only H,SqL zH H a ER,sp w mj H zOf Kt))
    (hCX:∀(w:World) (H:Hp) (s:Shared) (e:Value) (s':Shared),CX w [] H s Kt e s'->False) :
    zBC:=by
  refine Att.attach_call hn hdf λ w U C mg Z fa o X cd S a vs ns G Y ho hd E A z y j D=>?_;have B:=hY w _ Y;show(cD,fd,J,Q,F w mg fa _ B G.T.g A);exact xxc B G.T.g G.T.b G.T.builtins G.T.nolimit D z y (Z1 j hn2) hr Q J (λ H P M=>hsp w H a ns j P M) λ H e s'=>hCX w H C e s'
meta def xax (s:Stmt) (j:Nat):Stmt:=match s with
 | .ClassDef _ _ _ body _ _ _ _ _ _ _=>body.getD j (.Pass zsH)
 | _=>.Pass zsH
meta def xbd (s:Stmt):Arguments:=match s with
 | zPe a _=>a
 | _=>{ posonlyargs:=[],args:=[],vararg:=none,kwonlyargs:=[],kw_defaults:=[],kwarg:=none,defaults:=[] }
meta def xa2 (s:Stmt):Fz:=match s with
 | zPe _ b=>b
 | _=>[]
meta def xm (s:Stmt):Scope:=match s with
 | .FunctionDef _ _ _ _ _ _ sc _ _ _=>sc
 | _=>{ kind:=.function,names:=[],isGenerator:=false,isCoroutine:=false }
meta abbrev CX0:CXT:=λ_ _ _ _ _ _=>False
structure Fun (K:Zd) (x qual:Str) (st:Stmt) (f:Addr) (fd:FuncData):Prop where
 ex:∃(oc:Value) (od:jW) (kV doc pm:Value) (an:jW) (cdv ct:Value) (osl:yW),
  eX fd zaZ (Pc fd) O0
 kp:U4
section
variable {P:Program}{w:World}{K:Zd}{mg:Str->Option Value}{base:Heap}
def Fun.ok {x qual:Str}{st:Stmt}{f:Addr}{fd:FuncData}{N ps:cH}{k:Nat}{sp:Sp} (F:zub) (S:zsJ) (len:Ox)
    (hbody:∀(cdv:Value) (A:Around) (outer:List Env) (s:Shared) (H:Hp) (vs:List V) (Q:VK) (E:XK),Room q0 k (A.deeper (envOfC qual (xm st) s.heap.objs.size f cdv))->Lm ->
      (zlf CX0)):FnOk q0 P w K mg base CX0 fC f fd ps sp:=by
  ext zjG
def Fun.binds {x qual:Str}{st:Stmt}{f:Addr}{fd:FuncData}{ps:cH} (F:zub)
    (h:(zCo,zBu zaZ)):zhn:=by
  obtain⟨m,od,kV,doc,⟨pm,an,cdv,ct,c,rfl,q,j⟩⟩:121:=(F.ex)
  exact .all (h kV doc pm an cdv ct)
def fun_mk {x qual:Str}{st:Stmt}{f:Addr}{oc:Value}{od an:jW}{osl:yW}{kV doc pm cdv ct:Value} (l:Pc zaZ)
    (c:O0) (k:U4):Fun K x qual st f zaZ:=zPf (fJ,pm,an,cdv,ct,gS osl l c)
#check _
def xa3 {A:Around}{k:Nat} (hr:EX):Eb:=Jp (Nat.add_le_add_left (cE:1<=64) _) hr.units
section
variable {X:Cx}
def pv (i:Nat) {x:Str}{pos:Pos} (hN:iA xI) (hv:zbe:=by first|ext UU|exact Qx (Yt rfl)|exact Qx (Qx rfl)) (hd:qh)
    (hcd:zFK):zSC:=x2s hN hv hd hcd
#check _
def iteF {A B:Prop} (h:B):gV false A B:=by
 ext sr Zv h
def iteT {A B:Prop} (h:A):gV true A B:=by
 ext cW fH h
def ite2 {c A B:Prop} [Decidable c] (h1:c->A) (h2:¬ c->B):if c then A else B:=by
 by_cases h:c
 .rw [Mq];exact h1 h
 ext sQ h;exact h2 h
meta def Same (H H':Hp):Prop:=sy (dA b o) (cu,H' b,o)
def Same.refl (H:Hp):gB H:=λ_ _ h=>h
def Same.trans {H H1 H2:Hp} (a:gB H1) (b:nZ):gB H2:=λ c o h=>b c o (a c o h)
theorem Same.free {H H':Hp} (e:gg) {l:Addr} (h:H' l=Option.none):H l=Option.none:=by
 cases q:H l with
 | none=>rfl
 | some o =>
  show(gm,e l o q,h)
def Same.seq {K:Zd}{H H':Hp}{a:Addr}{xs:cA} (e:gg) (h:qr):SqL K H' a xs:=by
 rcases h with (h|⟨o,h⟩)|h
 .show(zfO,e _ _ h)
 .show(zfN,⟨o,e _ _ h⟩)
 ext fe h
#check L2
namespace Srt
open PySem PySem.W PyProof.Rows
meta abbrev CM:=T0 (jX xD)
meta abbrev g (p:gJ) (i:Nat):Nat:=p.getD i 0
structure Ord (n:Nat) (lt:zwJ):Prop where
 irr:(GK,lt i i=false)
 tr:∀ i j k,kf->(eC,j<n,k<n,lt i j=true,lt j k=true,lt i k=true)
 tot:∀ i j,(eC,kf,j<n,i≠j,lt i j=false,lt j i=true)
meta def Cmp (n:Nat) (lt:zwJ) (cmp:CM) (s:Shared):Prop:=∀ i j,kf->j<n->∀ Q:xD,Q (lt i j) s->cmp i j Q s
def xdv {α:Type}{cmp:CM}{a:α}{Q:zhH}{s:Shared} (h:Q a s):zvK (.ret a) Q:=h
def xib {α:Type}{cmp:CM}{i j:Nat}{k:Bool->KasT α}{Q:zhH}{s:Shared} (h:cmp i j (λ c s'=>KasT.kasWp cmp (k c) Q s') s):zvK (.ask i j k) Q:=h
def x4o {p:gJ}{n:Nat}:kas_asc p 0 n=.ret n:=by unfold kas_asc; rfl
def x33 {p:gJ}{f n:Nat}:kas_asc p (f+1) n=.ask (p.getD n 0) (p.getD (n-1) 0) λ c=>(gV,c,.ret n,kas_asc p f i0):=hD kas_asc
def x4d {p:gJ}{k:Nat}:kas_bin 0 p k=.ret p:=by unfold kas_bin; rfl
def x49 {f:Nat}{p:gJ}{k:Nat}:kas_bin (f+1) p k=(Fn k 0 k).bind λ l=>kas_bin f (bubble p k (k-l)) fC:=hD kas_bin
def xyq {p:gJ}{k l r:Nat}:(Fn 0 l r)=.ret l:=by unfold kas_place; rfl
def x0a {p:gJ}{k f l r:Nat}:(Fn (f+1) l r)=if l>=r then .ret l else .ask zvm (p.getD xE 0) λ c=>(gV,c,Fn f l xE,zUF):=hD kas_place
def x3b {p:gJ}{k l:Nat}:kas_desc 0 p k l=.ret (p,k,l):=by unfold kas_desc; rfl
def x1d {f:Nat}{p:gJ}{k l:Nat}:kas_desc (f+1) p k l=.ask zvm zrn λ c=>(gV,c,if l>0 then kas_desc f (kas_rev p (k-(l+1)) k) fC 0 else zgI fC 0,.ask zrn zvm λ d=>(gV,d,.ret (p,k,l),zgI fC (l+1))):=hD kas_desc
section
variable {n:Nat}{lt:Nat->Nat->Bool}{cmp:CM}{s:Shared}
structure Arr (n:Nat) (p:gJ):Prop where
 sz:p.size=n
 lt:(GK,VX<n)
 inj:∀ i j,(dI,kf,j<n,g p i=g p j,i=j)
 pm:p.Perm zrw
def g_at {p:gJ}{i:Nat}{v:Nat} (h:dS p v):g p i=v:=by
 show p.getD i 0=v;rw[QZ,h];rfl
def Arr.at {p:gJ} (a:xQ) {i:Nat} (h:kf):dS p VX:=by
 show(cI,z,i<p.size,cK a.sz h,e,(dS,p,p[i]),JC z);rw[e,g_at e]
meta def Srtd (lt:zwJ) (p:gJ) (m:Nat):Prop:=∀ i j,(NN,i<j,j<m,wS i j)
theorem xqo (o:Mf) {p:gJ} (a:xQ) {m:Nat} (hm:m<=n) (h:∀ i,(NN,1<=i,i<m,wS (i-1) i)):Srtd lt p m:=by
 intro i j c b;show(zoR,j=dc+d,j-dc)
 induction d with
 | zero=>exact h dc cm b
 | succ d ih =>
  show(cB,f,ih cm cm,e,h (dc+(d+1)) cm b);exact o.tr _ _ _ w8 w8 w8 f e
theorem xnw (c:Kn) {p:gJ} (a:xQ) {G:zyv}:∀(f k:Nat),1<=k->k+f<=n ->
    (∀ m,(eC,k<=m,m<=k+f,(∀ i,k<=i->i<m->(je (wS i (i-1)))),m<k+f->(wS m (m-1))=true,G m s))->(rb (kas_asc p f k))
  | 0,k,h1,hf,hG=>by
    show(NY,x4o,hG k dF cm zcR (λ h=>cm))
  | f+1,k,h1,hf,hG=>by
    ext zQQ x33;cases e:wS k (k-1) with
    | true =>
      exact xdv (hG k dF cm zcR (λ_=>e))
    | false =>
      show rb (kas_asc p f fC);refine xnw c a f fC cm cm λ m o b j d=>hG m cm cm (c8 i hi hi2) (λ h=>d cm);by_cases z:i=k
      . ext mq z
      . exact j i cm hi2
theorem xqj (o:Mf) (c:Kn) {p:gJ} (a:xQ) {G:(jX,gJ × B3)}:∀(f k:Nat),1<=k->k+f<=n ->
    (∀ m,(dI,k<=m,m<=k+f,(∀ i,(NN,k<=i,i<m,wS i (i-1))),G (p,m,0) s))->(rb (zgI k 0))
  | 0,k,h1,hf,hG=>by
    show(NY,x3b,hG k dF cm zcR)
  | f+1,k,h1,hf,hG=>by
    ext zQQ x1d;cases e:wS k (k-1) with
    | true =>
      show rb (zgI fC 0);refine xqj o c a f fC cm cm λ m q b d=>hG m cm cm (c8 i hi hi2);by_cases z:i=k
      . ext mq z
      . exact d i cm hi2
    | false =>
      ext ztL zso zxc;have ne:g p k≠g p (k-1):=λ z=>(iF,a.inj _ _ cm cm z)
      show(NY,(zF,lt zrn (p.getD k 0),o.tot _ _ zxc zso ne e),hG k dF cm zcR)
def Arr.rev {p:gJ} (a:xQ) {k:Nat} (hk:k<=n):Arr n (kas_rev p 0 k)/\zCy:=by
 have d:zCy:=λ i b=>by
  have z:=getElem?_mirror_all (xs:=p) (i:=0) (j:=k) (cK a.sz hk) i;by_cases c:i<k
  .rw [kD];rw[df ⟨jM,c⟩,(fD,0+k-1-i=UB),a.at (fD,UB<n)] at z;exact g_at z
  rw [ja];show(zdC,if_neg (λ w=>c w.2),a.at b)
 show(gX,(du,fS kas_rev_size a.sz,cG i b,dC i j b hj e,(mirror_perm _ _ _ _).trans a.pm),d)
 .rw [d i b];split<;>exact w8
 rw [d i b,d j hj] at e;split at e<;>split at e<;>have:=zQS<;>lia
def xvx (o:Mf) (c:Kn) {p:gJ} (a:xQ) (h2:2<=n) {G:(jX,Nat × gJ)}
    (hG:∀ m p',(eC,1<=m,m<=n,Arr n p',Srtd lt p' m,G (m,p') s)):rb (kas_count n p):=by
  unfold kas_count;ext zcK;have up:∀ q,Arr n q->∀ i,(dI,1<=i,kf,(je,lt (g q i) (g q (i-1))),lt (g q (i-1)) (g q i)=true):=λ q b i h1 h e =>
    o.tot _ _ (b.lt i h) (b.lt (i-1) cm) (λ z=>(iF,b.inj _ _ h cm z)) e
  refine xnw c a (n-1) 1 dF cm (dC m x E M L);have u:Srtd lt p m:=xqo o a cm λ i h f=>up p a i h cm (M i h f);show rb (Hf (m == n));by_cases e1:m=n
  . show(NY,df zRM,zTO)
  . ext iL zRM
    by_cases e2:m>1
    . rw[df e2]
      show(ztL,a.lt 0 cm,a.lt (m-1) cm);show(NY,(zF,lt (p.getD 0 0) (p.getD (m-1) 0),u 0 (m-1) cm cm),zTO)
    . ext iL e2
      show(sJ,B,m,1,cm);have O:=L cm;unfold kas_descPart;ext zcK;refine xqj o c a (n-(1+1)) (1+1) cm cm (fM k P I K);show rb (if (0:Nat)>0 then _ else kas_tail3 k n p);rw[if_neg (YJ 0)];unfold kas_tail3;ext zcK;show(Gz,y,a.rev (k:=k) cm);refine xnw c b (n-k) k cm cm λ C H w J _=>?_;refine xdv (hG C _ cm cm b (xqo o b cm (c8 i h f)));by_cases ik:i<k
      . rw[y i cm,y (i-1) cm,df ik,Uw]
        have N:ztN-1=UB:=cm
        by_cases z:ztN=1
        . have A:UB=0:=cm
          ext fK z A O
        . show(Kf,K ztN cm cm,N)
      . exact up _ b i h cm (J i cm f)
theorem xjh (o:Mf) (c:Kn) {p:gJ} (a:xQ) {k:Nat} (hk:k<n) (sk:Srtd lt p k) {G:zyv}:∀(f l r:Nat),l<=r->r<=k->r-l<=f ->
    (∀ j,j<l->(je To))->(∀ j,(NN,r<=j,j<k,To)) ->
    (∀ m,(dI,m<=k,(∀ j,j<m->(je To)),(∀ j,(NN,m<=j,j<k,To)),G m s))->(rb (Fn f l r))
  | 0,l,r,h1,h2,h3,lo,hi,hG=>by
    ext zIO xyq
  | f+1,l,r,h1,h2,h3,lo,hi,hG=>by
    rw[x0a];by_cases e:l>=r
    . ext zIO AB
    . ext iL e
      show(cI,i,xE<r,cm,h,l<=xE,cm)
      ext ztL zwB w8;cases e2:wS k xE with
      | true =>
        show rb (Fn f l xE);refine xjh o c a hk sk f l _ h cm cm lo (c8 j d b) hG;by_cases z:j=xE
        . ext cW z e2
        . exact o.tr _ _ _ zwB w8 w8 e2 (sk _ _ cm b)
      | false =>
        show rb zUF;refine xjh o c a hk sk f _ r cm h2 cm (cG j d) hi hG;by_cases z:j=xE
        . ext cW z e2
        . cases e3:To with
          | false=>rfl
          | true =>
            show(Kg,o.tr _ _ _ zwB w8 w8 e3 (sk j xE cm cm),e2)
def Arr.bub {p:gJ} (a:xQ) {k m:Nat} (hk:k<n) (hm:m<=k):Arr n PK/\zAQ:=by
 have h:zAQ:=λ i f=>by
  show(zL,getElem?_bubble (xs:=p) (src:=k) (cK a.sz hk) (k-m) cm i,(fD,k-(k-m)=m));by_cases c:i=m
  .rw [kD];show(zdC,kD,a.at hk)
  rw [ja];rw[ja] at z;by_cases d:m<i/\i<=k
  .rw [df d];show(zdC,df d,a.at (fD,i-1<n))
  ext sQ d;show(zdC,dz d,a.at f)
 show(gX,(du,fS bubble_size a.sz,cG i f,dC i j f hj e,(bubble_perm _ _ _).trans a.pm),h)
 .rw [h i f];split
  .exact a.lt _ hk
  .split<;>exact w8
 rw [h i f,h j hj] at e;split at e<;>(try ext Oe)<;>(try ext Oe)<;>(try ext Oe)<;>first|lia|(ext fj zQS)
theorem xt7 (o:Mf) (c:Kn) {G:jX gJ}:∀(f k:Nat) (p:gJ),(eC,k+f=n,xQ,Srtd lt p k,(∀ p',Arr n p'->Srtd lt p' n->G p' s),rb (kas_bin f p k))
 | 0,k,p,h,a,sk,hG=>by
  rw[x4d];ext MC k n;exact xdv (hG p a sk)
 | f+1,k,p,h,a,sk,hG=>by
  have q:k<n:=cm
  rw[x49,KasT.kasWp_bind];refine xjh o c a q sk k 0 k jM dF cm (λ j E=>cm) (λ j E hj2=>cm) (fM m hm lo hi);show(Gz,C,a.bub q hm);refine xt7 o c f fC _ cm b (fM i j B E) hG;show(fw,A,∀ i,i<m->(wS i k)=true,λ i hi'=>o.tot _ _ (a.lt k q) (a.lt i cm) (λ z=>(iF,a.inj _ _ q cm z)) (lo i hi'),H,∀ i,kf->i=m->g PK i=g p k,λ i hi z=>(fS,C i hi,df z),D,∀ i,(dI,kf,m<i,i<=k,g PK i=g p (i-1)),λ i hi z z2=>(nG,C i hi,CG,df ⟨z,z2⟩),v,∀ i,kf->i<m->g PK i=VX,λ i hi z=>(nG,C i hi,CG,CG))
  by_cases j1:j=m
  .rw [H j cm j1,zwm];exact A i cm
  by_cases i1:i=m
  .rw [H i cm i1,D j cm cm cm];exact hi (j-1) cm cm
  by_cases j2:m<j
  .rw [D j cm j2 cm];by_cases i2:m<i
   .show(eO,D i cm i2 cm,sk _ _ cm cm)
   rw [zwm];by_cases z:i=j-1
   .lia
   exact sk _ _ cm cm
  rw [v j cm cm,zwm];exact sk _ _ B cm
def xt8:Arr n zrw:=by
 have e:(GK,g zrw i=i):=λ i b=>g_at (fS,List.getElem?_toArray,Ye b);exact(du,cy,λ i b=>(cK,e i b,b),(λ i j b c z=>by show(UQ,e i b,e j c)),Array.Perm.refl _)
def sort_wp (o:Mf) (c:Kn) (h2:2<=n) {G:jX gJ} (hG:∀ p,xQ->Srtd lt p n->G p s):rb (kas_sort n):=by
 unfold kas_sort;ext zcK;refine xvx o c xt8 h2 (gE m p u j a h);show rb (qF m n _ _);by_cases e:m<n
 .rw [AB];show(DC,rb (kas_bin (n-max m 1) p (max m 1)),Nat.max_eq_left u,xt7 o c (n-m) m p cm a h hG)
 ext sQ e;ext MC m n;exact xdv (hG p a h)
#check _
#check Srt
namespace XL
open PySem
meta def Xat (h:Heap) (e:Addr) (cls:Value) (od tb:jW):Prop :=
 ∃ oe vs,(zfQ e oe)/\oe.cls=cls/\oe.dict=od/\(VZ oe.data vs)/\1<vs.size /\
  ((tb=none/\(ix vs 1 JE))\/∃ T oT ts,(cu tb T)/\(cR,vs[1]?=(cX T),T≠e,zfQ T oT,VZ oT.data ts,ix ts 3 JE))
#check XL
namespace XL
open PySem PySem.W PySem.Calls PyProof.Rows Builtin Builtin.ObjectAttr
meta def vErr:dw:=[lF "ValueError",lF "Exception",zNx,lF "object"]
meta def xil:dw->Bool
 | []=>false
 | .ref c::r=>xil r||((.ref c::r:dw) == vErr)
 | uB=>uB == vErr
meta def xzk (K:Frag) (C:Addr):Bool:=(clsIn K C).any λ cd=>xil cd.mro
theorem xjd:∀{l:dw},xil l=true->(zPW "object")/\(zPW "BaseException")/\(je l.isEmpty)
 | [],e=>by cases e
 | uB,e=>by
  have last:(V4 (uB:dw) vErr)->(uB).contains (.type "object")=true/\(uB).contains (.type "BaseException")=true/\(je,(uB).isEmpty):=λ z=>by
   rw[Qz z];ext DM c9 c9
  cases v with
  | ref c =>
   rcases Bool.or_eq_true_iff.mp e with z|z
   .obtain ⟨a,b,_⟩:43:=xjd z;show(DM,zGV a,zGV b)
   exact last z
  | _=>exact last e
structure XC (K:Frag) (C:Addr):Prop where
 over:xzk K C=true
 hd:hasDictIn K C=true
 sa:zav "__setattr__" (va "object.__setattr__")
 ga:zav "__getattribute__" (va "BaseException.__getattribute__")
 gh:zav "__getattr__" none
 ca:zav "__class__" (va "object.__class__")
 cg:(cu,specialIn K zlL "__get__",zFN)
 ct:(cu,takesIn K (.builtin "object.__class__"),true)
section
variable {prog:Program}{w:World}{A:Around}{E:Value->Shared->Prop}{s:Shared}{K:Frag}{x C dx:Addr}{ox:Obj}{od:Option Obj}{name:Str}{v:Value}{R:Result->Shared->Prop}
def XC.mro (c:C1):∃ cd,(cu,clsIn K C,cd)/\xil cd.mro=true/\cd.hasDict=true:=by
 show(cD,cd,f,l,any_some c.over);show(cD,n,b,j,any_some c.hd);ext dP f b b;ext kP cd f l j
def XC.isObj (c:C1):zLo "object":=by
 show(w4,cd,f,d,c.mro)
 obtain⟨a,_,b⟩:43:=xjd d;ext zTS
def XC.isExc (c:C1):zLo "BaseException":=by
 show(w4,cd,f,d,c.mro)
 obtain⟨_,a,b⟩:43:=xjd d;ext zTS
def x01 (v:Value):(sP,bindSpecial (.builtin "BaseException.__getattribute__") v,(.builtin "BaseException.__getattribute__",[v])):=by
 have f:=PySem.F.attr_ValueError.ga.bind v;exact f
def xw8:plainId "BaseException.__getattribute__"=true:=PySem.F.attr_ValueError.ga.plain
def x22 {Q:dE}{expr fill:Bool}{tk:Tok} (X:BS) (c:C1) (I:zKu)
    (h:wpAny lM A.in1 (Builtin.«object.__getattribute__» (m7 [vK,zsP]))
      (Vx,match fin with|zXm=>tQ (handedOut v) Q E s'|_=>False) zt s) :
    fQ (getAttrBy vK zsP fill expr):=by
  ext rK j d t q;show(kZ,G,zWO,D,zUq c.ga,L2,zUq c.gh);have sub:Looks lM j (isInstance (.ref x) zNx) true:=I.type.andThen (looks_mroIn X c.isExc);have B:je (onTheHeap (Zw C)&&zEx == zHv):=by
    rw[(Ma,ou zEx zHv)]; rfl
  have u:je (expr&&onTheHeap (Qg "BaseException.__getattribute__")):=zed expr
  unfold getAttrBy;refine Jc (Zb (G.at (Zb (D.at ?_))))
  dsimp only
  rw[B];ext wH;unfold getAttrByItsOwn hookBefore;show(cY,L2.at (Zb (JY (Jc ?_))));unfold callGetattribute;rw[u];ext wH;unfold boundAndCalled;rw[x01];refine Zb (Zo (W1 (QP xw8 PySem.F.entry_bexc_ga
    (@check_slot lM _ _ (dW j g d t q) "BaseException.__getattribute__" "BaseException" "__getattribute__" vK [zsP] [] _ c9 c9 sub (PySem.F.args_bexc_ga _ _) ?_))))
  refine Jr h (wB fin s') λ e s' z=>z.elim;rcases fin with (_|_|_|_)|_<;>first|ext gD|exact z.elim
def xxb {Q:CD} (X:BS) (c:C1) (I:zKu) (h:Q (cX C) uL) :
    fQ (getAttr? (.ref x) "__class__"):=by
  obtain⟨cd,v,_,D⟩:63:=(c.mro)
  have q:(cu,findObj K C od "__class__",.bind (.builtin "getset_descriptor.__get__") zlL):=by
    unfold findObj;rw[v,Wu,c.ca,Wu];simp[c.cg,c.ct]
  unfold getAttr? getAttrBy?;refine Zb (wpAny_mkText (Zb (JY ?_)));refine x22 (s:=uL) X c I ?_;show(cB,B,zWO,z,looks_find (M:=lM) X I q);show(cY,Zo (Zb (Zo (Zb (B.here (s:=uL) (Zb (z.here (s:=uL) ?_)))))));show(lZ,(holding [_] (call _ [_,vK,.ref C])>>=ret));show(cY,Jc (W1 (class_get (s:=uL) (ox:=ox) (od:=od) X I c.isObj ?_)));ext Ai;show(lZ,handedOut (.ref C));exact Zo (Zo h)
#check _
#check XL
namespace XL
open PySem
#check XL
namespace L2
open PySem PySem.Spec PyProof.Rows XL
variable {q0:Bool}
meta def XO (e C:Addr) (od:jW):HO:=.ext λ h=>∃ ox vs,(dh,zfQ e ox,jv ox.cls C,ox.dict=od,zVt)
meta def XD (dx:Addr) (fs:o8):HO:=.ext λ h=>zci/\∃ mA,zdK/\OB/\W4 mA (fs.map (·.1))
meta def CXo (P:Program) (w:World):CXT:=λ c H s E u s'=>∃ e C od H' T,(jv u e)/\s'.os=s.os/\zbV/\(SV (frs c) [] s'.heap)/\zPI /\
 (cR,Xat s'.heap e G7 od (some T),lm e (XO e C od),Ku T,VB T,E e C H')
section
variable {X:Cx}{pins:List (Addr × Obj)}{Z:St}{H:Hp}{s:Shared}{e C:Addr}{od tb:Option Addr}
def Inv.size_lt (I:cL) {b:Addr} (h:Ku b):zXL iR:=by
 refine(eD,I.hok.fresh h,nY,fM x c hc z,wB p hp)
 .ext kN z;exact absurd I.lt (Zai.mpr h)
 .obtain ⟨v,o,d,_⟩:82:=I.cell x c hc;show(ef,z,d,absurd (Z0 d) (Zai.mpr h))
 have g:=(zeC).1;show(ef,z,g,absurd (Z0 g) (Zai.mpr h))
def xq:xfc zXx X zbF:=λ a Z H s u s' I h=>by
 obtain⟨e,C,od,H',⟨T,_,_,_,_,_,_,_,_,_,q⟩⟩:121:=h;exact q.elim
#check _
#check L2
namespace XL
open PySem PySem.W
#check XL
namespace L2
open PySem PySem.Spec PyProof.Rows XL
variable {q0:Bool}
section
variable {X:Cx}{pins:List (Addr × Obj)}{Z:St}{H:Hp}{s:Shared}{a C dx:Addr}{od:Option Addr}{fs:List (Str × V)}{f:Str}{v y:V}{u:Value}{A:Around}{E:Value->Shared->Prop}
def x5i (I:cL) (e:zaK):∃ ox vs,(zbs ox)/\(jv ox.cls C)/\ox.dict=od/\zVt:=(uy a e).1
def xyj (I:cL) (e:dA dx (XD dx fs)):zci/\∃ mA,s.heap.Ns1 dx mA/\OB/\W4 mA (fs.map (·.1)):=(uy dx e).1
def xph {o:Obj}{vs:ii} (d:zXl):PySem.W.notCls o=true:=by
 unfold PySem.W.notCls;rw[d]
#check _
#check L2
namespace XL
open PySem PySem.W
#check XL
namespace L2
open PySem PySem.Spec PyProof.Rows XL
variable {q0:Bool}
#check L2
namespace XL
open PySem PySem.W
def xs5 {K:Frag}{x C:Addr} (c:C1):KitX K vK G7 (λ h=>∃ ox od,InstAt h x ox C od) where
 ty:=λ_ _ _ ⟨1081,_,_,I⟩=>I.type
 it:=λ_ _ X _=>by
  ext zNR
  ext zRm
  .rename_i c' d' cd' sl' ho
   intro A v w s' k q;unfold isType loadHead;exact Zb (wpAny_loadPart (k _ _ (X _ _ ho)) (Zo q))
  cases b
 ne:=λ h tp u its n l X d=>by
  ext zNR
  refine Jx.mpr (fL q);show(pk,C,tp,Zw.inj (beq_iff_eq.mp q));ext zRm
  .rename_i c' d' cd' sl' ho
   have z:=(X _ _ ho).symm.trans d;cases z
  cases b
 ca:=λ X ⟨ox,od,I⟩ k=>xxb X c I k
#check XL
namespace L2
open PySem PySem.Spec PyProof.Rows XL
variable {q0:Bool}
meta def clsV:V->(gc Value)
 | .ty n=>some (.type n)
 | dH=>iH
 | _=>none
theorem xje {c:V}{u cv:Value} (e:zpB) (r:RelV c u):u=cv:=by
 cases c<;>first|(cases e; exact r)|cases e
meta def xr1:cA->Option (List Value)
 | []=>some []
 | c::r=>(clsV c).bind λ a=>(xr1 r).map (a::·)
theorem xmi:∀{cs:cA}{us cv:dw},zSt->(DH cs)->us=cv
 | [],_,_,e,.nil=>by cases e; rfl
 | c::r,_,_,e,.cons rc rr=>by
  show(cD,a,u,j,Option.bind_eq_some_iff.mp e);ext qw b h j;rw[xje u rc,xmi h rr]
section
variable {X:Cx}{pins:List (Addr × Obj)}{Z:St}{H:Hp}{s:Shared}{A:Around}{E:Value->Shared->Prop}{Q:Value->Shared->Prop}
theorem xqc {a C:Addr}{od:jW} (I:cL) (h:zaK) (hd:∀ d,(cu od d)->∃ o,wF):∃ ox odx,PySem.W.InstAt s.heap a ox C odx:=by
 show(nU,ox,vs,g,f,b,c,x5i I h);cases e:od with
 | none=>exact(dM,ox,none,g,f,xph c,by rw[b,e]; trivial)
 | some d =>
  obtain⟨o,go⟩:=hd d e;exact(dM,ox,some o,g,f,xph c,tP b e go)
#check _
inductive x5r (K:Zd) (xs:cA) (H:Hp) (Q:VK):Prop
 | mk (x c) (e_:xs=[x,c]) (r_:((∃ t cv b,(dh,TyOf K H x t,zpB,(cu,WT K t cv,b),rW b))\/(∃ a C od cv b,uE nW zaK zCP C1 zpB (cu,WT K (.ref C) cv,b) (rW b))\/(∃ a C od p cs cv b,(ma,nW,zaK,zCP,C1,jv c p,SqT K H p cs,zSt,(cu,PySem.W.kitAny K (.ref C) cv,b),rW b))))
section
variable {X:Cx}
def xds:xc7 X (.builtin "isinstance") (x5r X.K):=by
 ext Lu A us xs;obtain⟨x,c,rfl,h⟩:=h;show(hJ,u,v,rfl,w,m,xku r);rcases h with⟨t,cv,b,ty,ec,ek,q⟩|⟨a,C,od,cv,b,rfl,ha,hd,xc,ec,ek,q⟩|⟨a,C,od,p,cs,cv,b,rfl,ha,hd,xc,rfl,hp,ec,ek,q⟩
 .show(uq,xje ec m);exact xth I w ty ek zml
 .show(uq,xje ec m);ext oA u a w;refine JJ (xs5 xc) I.kIn zQT ek o6 zml
  ext zzT
 ext oA u a w;ext oA v p m;show(w4,its,D,it,I.tuple hp);show(uq,xmi ec D);obtain⟨o,g,B,⟨n,j⟩⟩:63:=it;obtain⟨L,J,G,E⟩:=o
 dsimp only at B j
 subst B j;refine PySem.W.kia_tup (xs5 xc) I.kIn zQT g ek o6 zml
 ext zzT
#check _
meta def xc2 (scope:Scope):cH:=(scope.names.filter λ x=>ztS).map (·.1)
meta def Cx.clo (X:Cx) (scope:Scope):zsl:=(FG).reverse.map λ n=>(n,(zap).getD 0)
theorem xkg {env:Env}{f:Str->Addr}:∀(l:zRG) (acc:zsl),(∀ x∈l,eP=.free->env.cells.lookup cQ=some (f cQ)) ->
    (forIn l acc λ x cs=>(if ztS then do let c <- cellOf env cQ; GL ((cQ,c)::cs) else GL cs:Sem (ForInStep (List (Str × Addr))))) =
      pure ((((l.filter λ x=>ztS).map (·.1)).reverse.map λ n=>(n,f n))++acc)
  | [],acc,_=>rfl
  | AU,acc,h=>by
    have d:=λ a=>xkg r a (HI,vW y hy);rw[List.forIn_cons];by_cases q:eP=.free
    . show(gT,e,h x Zm q,b,V4 eP Zah,fY q)
      rw[df b,Qs,df b];have j:cellOf env cQ=pure (f cQ):=by unfold cellOf; rw[e]
      rw[j];simp only[pure_bind];rw[d];simp
    . have b:(eP == Zah)=false:=PD
      rw[zus,Qs,zus];simp only[pure_bind];rw[d]
def xtv {X:Cx}{scope:Scope} (h:zMo):closureFor scope X.env=pure (X.clo scope):=by
 unfold closureFor;have z:=xkg (env:=X.env) (f:=λ n=>(zap).getD 0) scope.names [] λ x hx hf=>by
  show(mL,c,h cQ (Ze.mpr (fR x (zgV,hx,gK hf))));rw[e];rfl
 rw[Ju] at z;refine (bind_pure (m:=Sem) _).trans ?_;ext gD
def x09 {X:Cx}{scope:Scope}{n:Str}{c:Addr} (h:(cu,(Lj).lookup n,c)):GT/\c=(zap).getD 0:=by
 have z:=Yd h;unfold Cx.clo at z;ext Dm y a e z;injection e with e1 e2
 subst e1;show(cU,Qq.mp a,e2.symm)
theorem xgd {f:Str->Addr}{n:Str}:∀{l:cH},n∈l->(l.map λ y=>(y,f y)).lookup n=some (f n)
 | [],h=>BE
 | y::r,h=>by
  rw[Zs,ZA];by_cases q:n=y
  .subst q;simp
  show(eO,show ou n y from PD,xgd ((Gk).resolve_left q))
def xqn {X:Cx}{scope:Scope}{n:Str}{c:Addr} (hn:GT) (h:OD):(cu,(Lj).lookup n,c):=by
 have z:=xgd (f:=λ n=>(zap).getD 0) (Qq.mpr hn);unfold Cx.clo;rw[z,h];rfl
meta def xd4:TT:=(N1,Q true H)
meta def PIf (X:Cx) (ifs:iC) (t:TT):Prop :=
 ∀(pins:List (Addr × Obj)) (s:Shared) (Z:St) (H:Hp) (Q:zO),cL->MT ->
  (zql (zAi,isTrue c X.env (pq c)))
def xau {X:Cx}:PIf X [] xd4:=(zcN,Zo (cC H I h))
def xei {X:Cx}{c:Expr}{t:TT} (hc:PT X c t):PIf X [c] t:=λa s Z H Q I h=>by
 rw[List.forIn_cons];ext kW;rw[fH];show(cY,Jr (hc a s Z H Q I h) (λ b d q=>Dw) (Dl z));ext jg q
def xt3 {env:Env}{scope:Scope} (nc:Xs) (n:Str) (h:(cu,(Pn).names.lookup n,.cell)\/(cu,(Pn).names.lookup n,.free)):GT:=by
 have d:∀ k,(cu,(Pn).names.lookup n,k)->(k=.cell\/k=.free)->GT:=λ k e hk=>by
  show(cD,y,w,v,Ze.mp (Yd e));obtain⟨m,j⟩:=y
  dsimp only at v
  split at v
  .rename_i q
   injection v with e1 e2
   subst e1;have:j=.free:=by
    simp only[Z8,beq_iff_eq] at q;exact (rp).1
   ext yp;ext zSE
  injection v with e1 e2
  subst e1 e2;rcases hk with z|z
  .exact absurd z (nc _ w)
  subst z;ext zSE
 rcases h with h|h
 .exact d _ h (.inl rfl)
 exact d _ h (.inr rfl)
def xrm {env:Env}{scope:Scope}{n:Str} (h:(cu,scope.names.lookup n,.free)):(cu,(Pn).names.lookup n,.cell)\/(cu,(Pn).names.lookup n,.free):=by
  have b:∀(l:zRG),(cu,l.lookup n,.free)->(cu,(zyY).lookup n,.cell) \/
      (cu,(zyY).lookup n,.free):=λ l=>by
    induction l with
    | nil=>intro e; ext sG
    | cons y r ih =>
      intro e;obtain⟨m,k⟩:=y;rw[Zs];rw[ZA] at e;cases q:n == m with
      | true =>
        ext dP q e e
        dsimp only
        split
        . left; rw[ZA,q]
        . right; rw[ZA,q]
      | false =>
        rw[q] at e;have z:=ih e
        dsimp only
        split<;>(ext fK ZA q z)
  exact b _ h
section
variable {P:Program}{w:World}{K:Zd}{mg:Str->Option Value}{base:Heap}
def Fun.okn {x qual:Str}{st:Stmt}{f:Addr}{fd:FuncData}{N ps:cH}{k:Nat}{sp:Sp} (F:zub) (S:zsJ) (len:Ox)
    (hbody:∀(cdv:Value) (A:Around) (outer:List Env) (s:Shared) (H:Hp) (vs:List V) (Q:VK) (E:XK),Room q0 k (A.deeper (envOfC qual (xm st) s.heap.objs.size f cdv))->Lm ->
      (zlf zil)):zDz:=by
  ext zjG
#check _
#check L2
namespace L2
open PySem PySem.Spec PyProof.Rows XL
def ifP {b:Bool}{A B:Prop} (h:G1) (q:A):gV b A B:=by
 ext cW Mq q
def ifN {b:Bool}{A B:Prop} (h:je b) (q:B):gV b A B:=by
 show(sr,E8 h,q)
meta def sgn (c:Nat):V:=.str qT
meta def Its (x:Str):It:=(zVO,i<x.cps.toList.length,v,∃ c,zOM/\v=sgn c,zLv)
def xzg {h h':Heap}{it:Addr}{ty:String}{x:Str}{t:Tok}{i:Nat} (y:h.IsStrIter it ty x t i) (k:∀ o,(cu,h.get? it,o)->(cu,h'.get? it,o)):h'.IsStrIter it ty x t i:=by
 show(qL,o,a,r,y,o,k o a,r)
def xwh {P:Program}{w:World}{K:Zd}{tg:Expr}{x:Str} (t:Tok) (it:Addr):(ET,Its x,h.IsStrIter it "str_ascii_iterator" x t i) where
 mem:=cy
 obj:=λi h st b j=>by
  ext zmR zpS
 keep:=(zeg,xzg st (re,k it cy o e))
 item:=by
  ext zDI;show(cI,lt,i<x.cps.toList.length,A,U,dS x.cps (x.cps.toList[i]),cy)
  ext zSk;refine wpAny_pyNext_ascii_item st U (ux m Q);have I1:iy f H Ul:=I.turned (t':=F1) (iw,j,(Q.2 b j).trans e) N M J G D;show(T7,id m);show(qg,xga (s:=Ul) e c d cE (m8,sgn (x.cps.toList[i]),H,I1,iE,du rfl _ cy rfl,m,λ b j=>(q b j).1))
 done:=by
  ext zDI;have R:zLv:=A;ext zSk;exact wpAny_pyNext_ascii_end (I.ok.hd O) st zTv λ h' Y=>(d4,rC (iw,j,Y b o j e) N M J G D)
 self:=(Kv,wpAny_pyIter_striter_ascii st h)
meta def iStr (tl:TE):TI:=λ Z H R=>tl Z H λ v H1=>∃ x:Str,zvj/\x.cps.all (·<128)=true/\R (Its x) H1
def x3z {X:Cx}{tg l:Expr}{tl:TE} (hl:zwf):yI l (iStr tl):=by
 ext DD c;show(oJ,zvU c,(kU,v,d,y,u,m,r1,dW 1063 x e n q,?_));ext eQ;ext hF r1;refine wpAny_pyIter_ascii n ?_;show(zjY,d.heap.objs.size,u,zLk,xwh t _)
def x0p {x:Str}{g:TG}{tb:TS}{D:Ends}{Z:St}{H:Hp} (Pv:xR) (h0:zU)
    (hs:∀ i c Z H,zOM->Co->(DY (sgn c) H pQ pQ)) (hd:zbt x.cps.toList.length) :
    ∃ W:Nat->Nat->St->Hp->Prop,(∃ m,W 0 m Z H)/\∀ i m Z H,xB ->
      ((Its x).stop i H/\tF)\/((Its x).go i H/\(wN,∀ v H',(Its x).yld i H v H'->(DY v H' N N))):=by
  show(ie,(O3,x.cps.toList.length,i<=x.cps.toList.length),LI x.cps.toList.length);ext znz j;by_cases lt:i<x.cps.toList.length
  . show(lW,(du,lt,pQ,NT a (AR,x.cps.toList.length-dc,gQ,lt,a),c8 v H' y))
    obtain⟨e,c,f,b⟩:=y;subst e b;exact hs i c Z _ f p
  . show(pk,i,x.cps.toList.length,gQ);show(eg,zeh dF)
section
variable {X:Cx}
def xgf:uW .LtE (λ x y H Q=>∃ i j,x=.str i/\y=.str j/\(rW (!(eA (j.cps.toList<i.cps.toList))))):=by
 ext uN a m f;show(hJ,i,j,rfl,rfl,q,h);ext zB m f;exact PySem.P.le_str (xa1 I q rfl)
def xgj:(zwu,"range",zUt (Ey (iK p (.rng i j)))):=by
 ext rS c;ext zAE m;refine call_range_2 (EA,I.laid (t':=F1) mQ dF (show Tl _ _ _ (.rng i j) from dW 101 _ _ _ jj))
#check _
#check L2
namespace L2
open PySem PySem.Spec PyProof.Rows
variable {q0:Bool}
section
variable {X:Cx}
theorem xio:∀{us:dw}{ys:cA},us.length=ys.length->(∀(j:Nat) (y:V) (u:Value),Hl us u jY)->(DH ys)
 | [],[],_,_=>.nil
 | VO,pK,hl,h=>.cons (zxs u) (xio (Nat.succ.inj hl) λ j a b e d=>h jQ a b e d)
meta def rngL (lo hi:Int):cA:=(Zz B1).map (fE,i,V.int (lo+fc))
def xfe (hc:mD):xc7 X (.type "list") (λxs H Q=>∃ p lo hi,xs=[pF]/\(dA p zuZ)/\(dh,-kG<=lo,lo<kG,-kG<=hi,hi<kG)/\(jA B1) /\
    (Vv (kJ l (wD l (rngL lo hi))))):=by
  ext rS B;obtain⟨p,lo,hi,rfl,J,⟨P,O,M,K⟩,C,q⟩:105:=h;ext zgZ E r;cases E;obtain⟨t1,Y,U,g⟩:101:=(show Tl H s.heap p zuZ from uy p J)
  refine call_list_range mF g (small_one P O M K) (n:=B1) zlJ zhs λ h' D v T G e it=>?_;show(wv,len,v.toList.length,(rngL lo hi).length,by rw[rngL,Za,Z9]; exact it.1,(EA,I.laid (t':=D) G dF (zbq (.lst (rngL lo hi)) (Hi,?_,v.toList,T,xio len (dC j y u x R),uU))))
  . rw[rngL,Za,Z9]
    ext wa C
  . have A:gC v u:=zTv
    obtain⟨t,S⟩:=it.2 j u A;have lt:j<B1:=by
      have:=(Zk.mp x).1;simpa [rngL] using this
    rw[rngL,Zf,Ye lt] at x;show(Og,x,t,fS S Int.mul_one)
#check _
structure FunD (K:Zd) (x qual:Str) (st:Stmt) (T f:Addr) (fd:FuncData):Prop where
 ex:∃(oc:Value) (od:jW) (kV doc pm:Value) (an:jW) (cdv ct:Value) (osl:yW),
  eX fd zan (Pc fd) O0
 kp:U4
section
variable {P:Program}{w:World}{K:Zd}{mg:Str->Option Value}{base:Heap}
def FunD.okn {x qual:Str}{st:Stmt}{T f:Addr}{fd:FuncData}{N ps:cH}{k:Nat}{sp:Sp} (F:zqe fd) (S:zsJ) (len:Ox)
    (hbody:∀(cdv:Value) (A:Around) (outer:List Env) (s:Shared) (H:Hp) (vs:List V) (Q:VK) (E:XK),Room q0 k (A.deeper (envOfC qual (xm st) s.heap.objs.size f cdv))->Lm ->
      (zlf zil)):zDz:=by
  ext zjG
def FunD.binds {x qual:Str}{st:Stmt}{T f:Addr}{fd:FuncData}{ps:cH}{o:Obj}{items:ii}{n:Nat}{ds:dw} (F:zqe fd) (ho:(cu,K.lookup T,o)) (hs:o.data=.seq items n) (m:Nat) (hm:m+ds.length=ps.length)
    (h:∀(kV doc pm:Value) (an:Option Addr) (cdv ct:Value) (us:List Value),us.length=m ->
      ∃ k,bindArgs zan zhX=seqItems? (.ref T)>>=k/\k (some items)=pure (ps.zip G3)):xce K fd ps ds:=by
  obtain⟨B,od,kV,doc,⟨pm,an,cdv,ct,c,rfl,C,v⟩⟩:121:=(F.ex)
  intro s us w j;rw[Zr] at j;show(cD,k,A,y,h kV doc pm an cdv ct us cm);exact BindsTo.of_defaults rfl (w _ _ ho) hs A y
def xk4 {x qual:Str}{st:Stmt}{T f:Addr}{oc:Value}{od an:jW}{osl:yW}{kV doc pm cdv ct:Value} (l:Pc zan)
    (c:O0) (k:U4):zqe zan:=zPf ⟨121,pm,an,cdv,ct,gS osl l c⟩
#check _
#check L2
namespace L2
open PySem PySem.Spec PyProof.Rows XL
variable {q0:Bool}
meta abbrev Cx.blkG (X:Cx) (scope:Scope) (zs:cH) (ys:cH) (C:Addr) (ex:cM) (s:Shared) (H:Hp) (pn:dJ):Cx where
 prog:=X.prog
 w:=X.w
 K:=X.K
 mg:=X.mg
 base:=X.base
 A:=X.A
 N:=Vs
 s₀:=s
 H₀:=H
 env:=zSp C
 outer:=X.stack
 stack:=X.stack
 ex:=ex
 fn:=λ_=>false
 calm:=X.calm
 pn:=pn
 xe:=zt
theorem xkm {prog:Program}{w:World}{A:Around}{R:Lh}{s:Shared}{elt target iter:Expr}{ifs:iC}{scope:Scope}{pos:Pos}{it acc:Value}{env:Env} (I:zyv)
    (turn:∀ n s,I n s->wpAny lM A (pyNext it) (λ r s₁=>match r with
      | none=>R (.ok .next) s₁
      | Az=>wpAny (model prog w) A (letOwnedTupleGo target it v) (λ_ s₀=>wpAny (model prog w) A (assign target env v) (λ_ s₂ =>
          wpAny (model prog w) A (zAi,isTrue c env (eval c env)) (λ ok s₃ =>
            if ok=true then wpAny (model prog w) A (eval elt env) (λ x s₄ =>
              tQ (BK "list.append" [acc,x]) (λ_ s₅=>(zfF,I m s₅)) Ih s₄) Ih s₃
            else (zfF,I m s₃)) Ih s₂) Ih s₀) Ih s₁) Ih s)
    (n:Nat) (h:I n s):ztx (.compLoop (zkT target) 0 it acc env):=by
  refine codeAny_loop rfl I (c8 n s j) n h;show wpAny _ A ((compTurn (zkT target) 0 it acc env).onRaise (λ x=>do noteFrame x env; theTreesLotGoes x)) _ _ s;refine wpAny_noted ?_;rw[compTurn_list];show(cY,Zaf (Zb (Ct (turn n s j) (c8 r s₁ d) h')));cases r with
  | none=>ext jg d
  | some v =>
    show(cY,Jr d (λ_ s₀ h₀=>Zb (Jr h₀ (λ_ s₂ h₂=>Zb (Jr h₂ (c8 ok s₃ h₃) zda)) zda)) zda);cases ok with
    | false=>show(jg,d4 h₃)
    | true =>
      exact Zb (Zb (Ct h₃ (λ x s₄ f=>Zb (Jr f (λ_ s₅ h₅=>Zo (Zo (d4 h₅))) zda)) h'))
structure BlkG (X:Cx) (scope:Scope) (zs:cH) (ys:cH) (fr:de):Prop where
 kind:znL
 own:∀ x∈zs,(cu,scope.names.lookup x,.local)
 ncell:Xs
 names:zkp
 free:zkn
 has:∀ n,((cu,(kg).names.lookup n,.cell)\/(cu,(kg).names.lookup n,.free))->GT
 slots:zlQ
 ysf:zoe
 ysc:∀ y∈ys,(cu,(kg).names.lookup y,.cell)\/(cu,(kg).names.lookup y,.free)
 nd:X.N.Nodup
 ndb:FW
meta def blk0 (Z:St) (fr:de) (n:Nat):St:=List.replicate n none++(zeS,(Dy).join)
section
variable {X:Cx}{pins:List (Addr × Obj)}{Z:St}{H:Hp}{s:Shared}{scope:Scope}{zs:List Str}{ys:List Str}{fr:List Nat}{fp:List Addr}
def BlkG.cells (B:Bc) (I:cL):zMo:=λ n b=>I.ok.has n (.inl (B.free n b))
def BlkG.sub (B:Bc) (I:cL) {n:Str}{c:Addr} (h:(cu,(Lj).lookup n,c)):OD:=by
 show(hI,a,b,x09 h,d,e,B.cells I n a);rw[e] at b;rw[b,e];rfl
def Inv.blkG {h1:Heap}{m1:gF}{t':Nat} (B:Bc) (I:cL) (hf:zjv) (hz:∀ b∈fp,(mB b)) (n1:h1.Ns s.heap.objs.size m1) (k1:sy i4 zQm) :
    Inv (zqY s.heap.objs.size fp Fi) [] zaC H (znw h1):=by
  have sub:∀ n c,(cu,(Lj).lookup n,c)->OD:=λ n c h=>B.sub I h;have cz:∀ n c,OD->(mB c):=λ n c e=>by
    obtain⟨v,o,E,_⟩:82:=I.cell n c e;exact Z0 E
  have M:∀ b∈fp,b∉Ld:=λ b D z=>(zrC z).elim (dO U3) (ug U3);have fz:∀ b,b∈Ld->(mB b):=λ b D=>by
    obtain⟨_,o,E,_⟩:=I.stack.mem D;exact Z0 E
  refine⟨⟨I.ok.mod,B.kind,I.ok.glob,I.ok.blt,dF,λ y z c h1 h2=>I.ok.inj y z c (sub y c h1) (sub z c h2),cG y hy,(λ y c hy _=>nomatch hy),I.ok.hd,I.ok.frames,jF,λ b D=>⟨?_,λ y c h=>(Vz U3).1 y c (sub y c h)⟩,
      I.bs,zTd,ziG D,λ b D=>M b D,I.stack,I.stkFree⟩,
    rfl,I.bare,Un.kept k1,(cC,m1,n1,gE i y v e1 R e3),c8 y c h,D9,λ y c h=>I.freeC y c (sub y c h),Gf,I.hok.kept k1,?_⟩
  . show(mL,c,B.cells I y (B.has y hy))
    show(cU,c,xqn (B.has y hy) e)
  . exact ZM (hz b D)
  . rcases GG U3 with z|z
    . exact I.ok.noex b o e z
    . show(Cp,ZK (Z0 zpc) z)
  . show(Hd,O,(List.replicate zs.length (none:eV)),zs.length,WL)
    by_cases lt:i<zs.length
    . have A:zaC[i]?=GW:=R
      unfold blk0 at A;rw[Jd (cK O lt),W0] at A;ext T4 A
    . obtain⟨k,rfl⟩:∃ k,i=zud:=(Oc,i-zs.length)
      have A:(zeS,(Dy).join)[k]?=(pi v):=by
        have z:zaC[zud]?=GW:=R;unfold blk0 at z;rw[J8 (pA O),O] at z;ext My
      have J:ix ys k y:=by
        have z:ix Vs zud y:=e1;rw[J8 cm] at z;ext My
      rw[Zf] at A;show(cD,j,Y,L,Zh.mp A);have ev:Z[j]?=GW:=by
        cases q:Z[j]? with
        | none=>ext gm q L
        | some w=>rw[q] at L; ext CH some L
      have eN:gC X.N y:=by
        have z:=AM (λ l=>l[k]?) B.slots;simp only[Zf,Y,J,QV] at z;exact ZW.inj z
      have K:y∈ys:=Zn J;show(Fo,m,U,I.loc)
      show(cD,u,r,l,U j y v eN ev (zgT zME));show(eW,u,r,.inr (jl,B.ysc y K));rcases l with⟨kk,_⟩|⟨_,c,e,o,E,Q⟩
      . have z:=zME
        show(gm,show (cu,X.env.scope.names.lookup y,.local) from kk,z)
      . exact(dW,c,xqn (B.ysf y K) e,o,k1 c o E,Q)
  . show(kq,v,o,E,Q,I.cell y c (sub y c h))
    exact(fG,v,o,k1 c o E,Q)
  . have P:p∈Fi:=zRL
    show(zeF,T,I.pin p P);exact(ff,k1 _ _ T,a2,ZM (Z0 T),λ z=>(Zt.mp (I.stkSub _ z)).elim a3 a4,a5)
  . have z:=DF B.slots
    simp only[Za] at z;simp[blk0,z]
#check _
section
variable {X:Cx}{pins:List (Addr × Obj)}{Z:St}{H:Hp}{s:Shared}{scope:Scope}{zs:List Str}{ys:List Str}{fr:List Nat}{fp:List Addr}
def Inv.unblkG {C:Addr}{s':Shared}{h2:Heap}{σ':St}{H':Hp}{pl:dJ} (I:cL) (hf:zjv) (hC:Ku C) (J:Inv (zqY C fp Fi) pl σ' H' s') (sb:zUn) :
    HM znP:=by
  have x:KK C (cu,s'.heap.get? b,o) (cu,h2.get? b,o):=(yq,nb,(sb.2 b nb).trans g);have m:(sy,i4,b≠C):=λ b o g=>ZM (ZK (Z0 g) hC);have trk:(AL,(cu,H' b,u),b≠C):=λ b u d z=>by
    have f:VB C:=J.free;rw[z,f] at d;cases d
  refine I.call' (s':=znP) J.os (ch:=fp) (dN,λ b o e n d w=>x b o (m b o e) (J.base.keep b o e n d w),TK d w,λ b o e n w=>J.base.free b o e n w,ziG w,J.base.tups,J.base.frzs,J.base.tbls) (c8 b u d) J.bare (qb d)
  . show(lO,D,J.base.slot b o e n d w)
    show(cU,D,x b _ (m b o e) q)
  . show(lO,B,J.base.there b o e w)
    show(cU,B,x b B (m b o e) q)
  . refine (J.hok b u d).stay (fM c v A q) (λ c q=>q) (GE q)
    rcases A with rfl|A
    . exact x c v (trk c u d) q
    . exact x c v (trk c _ A) q
  . obtain⟨_,M,_,L,K,E⟩:46:=hf b d
    exact eD L M K E
#check _
meta def GOk (n:Nat) (g:TG):Prop:=∀ v Z H Q,g v Z H Q->g v Z H (λ σ' H'=>Xi)
def xaw {i n:Nat} (h:kf):GOk n (xdb i):=λ v Z H Q q=>cC q cy zQb
meta def xdp (J:It) (n:Nat) (g:TG) (Z:St) (fr:de) (tc:TT) (te:TE) (l:Addr) (H1:Hp) (Q:VK):Prop:=∃ W:T0 CB,(∃ m,W 0 m [] zwt)/\∀ i m xs H2,W i m xs H2 ->
 (J.stop i H2/\L9)\/(J.go i H2/\∀ v H3,zUa->g v Sc H3 λ σ' a=>tc σ' a λ b H4=>if G1 then
  (te σ' H4 λ y c=>c l=some (.lst xs)/\Kr/\(zvJ (xs++[y]) (yk c l xs y))) else zvJ xs H4)
meta def xny (wi:TI) (n:Nat) (g:TG) (fr:de) (tc:TT) (te:TE):TE:=(mo,Q,wi Z H λ J H1=>∀ l,qv->(Mn J))
section
variable {X:Cx}{scope:Scope}{zs:List Str}{ys:List Str}{fr:List Nat}{elt iter tg:Expr}{g:TG}{ifs:List Expr}{px pos:Pos}{wi:TI}{tc:TT}{te:TE}
def xkr {pins:dJ}{s:Shared}{Z:St}{H:Hp}{Q:VK}{U:gc (Value->Sem Unit)}{R:dE} (hc:mD) (B:Bc) (hi:zcU) (hg:∀ C ex s H pn,(∀ x∈zs,(cu,(kg).names.lookup x,.local))->FW->PG K5 tg g) (gok:zqu)
    (hif:zlu) (he:zlz) (I:cL) (h:xny wi zs.length g fr tc te Z H Q)
    (fin:∀ C l H' s' m,(dh,D3 C,C≠X.env.locals,F9 C,zcq C)->(eC,VB C,s'.heap.Ns C m,(∀ h2,zUn->(HM znP)),HP l,compPost qj X.A X.xe U R iS C (.ok .next) s')) :
    wpAny (model X.prog X.w) X.A (eval iter X.env) (λv s1=>wpAny (model X.prog X.w) X.A (pyIter v) (λ it s2=>wpAny (model X.prog X.w) X.A zvo (λ acc s3 =>
      wpAny (model X.prog X.w) X.A (newFunctionEnv scope X.env.globals Lj [] X.env.qual none .none (some X.env)) (λ cenv s4 =>
        codeAny qj X.A (.compStart MG 0 it acc { cenv with scope:=kg }) (zWa acc cenv.locals) s4) X.xe s3) X.xe s2) X.xe s1) X.xe s:=by
  show(oJ,zef pins,zxE s1 zWr);obtain⟨it,fp,tn,J,⟨M,rfl,I2,T,Y,f2,ag⟩⟩:121:=h2;have hN:M s2.heap.objs.size=none:=I2.hok.fresh (Zj _);obtain⟨W,⟨m0,w0⟩,aa⟩:62:=ag s2.heap.objs.size hN;refine JS ?_;generalize ae:({ s2 with heap:=s2.heap.push (iz,"list",.seq ([]:dw).toArray) }:Shared)=s3;have k3:sy (cu,s2.heap.get? b,o) (cu,s3.heap.get? b,o):=λ b o g=>hV ae Ni
  have I3:rX zms s3:=by
    show(kC,ae,I2.laid (t':=s2.toks) (iI AG) dF (Hi jM [] 0 .nil jj))
  have z2:∀ b∈fp,b<s2.heap.objs.size:=λ b D=>by
    ext zMB g
  have z3:∀ b∈fp,b<s3.heap.objs.size:=λ b D=>by
    show(zMB,k3 b o g)
  have f3:zuO zms:=λ b D=>AX (cK,xi (ZM (z2 b D)),(f2 b D).1) (f2 b D)
  have aj:tn 0 s3.heap:=(zgR,Y,λ b _ o g=>k3 b o g);refine wpAny_newFunctionEnv B.ncell (by intro y hy; simp at hy) (c8 h1 n1 ak) B.kind;have k4:sy (cu,s3.heap.get? b,o) zQm:=λ b o g=>ak.extBut b o (ZM (Z0 g)) Ni;have I4:=I3.blkG (t':=zJN) B f3 z3 n1 k4;have ac:tn 0 h1:=(zgR,aj,λ b _ o g=>k4 b o g);have ad:∀ x∈zs,(cu,(kg).names.lookup x,.local):=(HE,lookup_relabel_local (B.own x hx))
  -- the iterator's objects,through the K
  have E:(zNo,FpOk HW [] H' b):=λ hn b D=>by
    obtain⟨_,a1,a2,a3,a4,a5⟩:46:=f3 b D;exact(iU,hn b D,ZM (z3 b D),λ z=>(Zt.mp (I3.stkSub b z)).elim a1 a2,.inl D,λ y c h=>a4 y c (B.sub I3 h),(qY,a5 p zRL))
  have K:∀ s4:Shared,s4={ s3 with heap:=h1,toks:=zJN } ->
      codeAny qj X.A (.compLoop MG 0 Ao zae (zSp s3.heap.objs.size))
        (zWa zae s3.heap.objs.size) s4:=by
    rintro s4 rfl;refine xkm (λ n s'=>(zFW,s',s'.heap,W i n xs H')) ?_ m0
      (mR,0,[],_,I4,ac,λ b D=>(f3 b D).1,w0)
    rintro n s5 (⟨i,xs,H5,I5,ab,af,w5⟩:104);rcases aa i n xs H5 w5 with⟨stop,q⟩|⟨go,step⟩
    . refine Jr (T.done HW rfl rfl rfl hc i [] s5 _ H5 zt I5 (E af) ab stop) (λ r s6 ⟨1042,hr,I6⟩=>?_) BU
      subst hr;show(fO,m,hm,I6.loc)
      exact fin _ _ H5 s6 m (AX I3.sz (I3.size_lt (Zj _))) I6.free hm (λ h2 sb=>I3.unblkG f3 dF I6 sb) q
    . refine Jr (T.item HW rfl rfl rfl hc i [] s5 _ H5 zt I5 (E af) ab go) (zx r s6 u hr h6) BU
      subst hr;refine Jr h6 (λ_ s7 ⟨1085,y,H7,I7,r7,y7,P,an⟩=>?_) BU;have ap:=I7.pinned (E an) (T.obj _ _ P);refine Jr (hg _ _ _ _ _ ad B.ndb _ s7 _ H7 y u _ ap r7 (gok _ _ _ _ (step y H7 y7))) (λ_ s8 ⟨1084,σ8,H8,I8,q8,l8,k8⟩=>?_) BU;have back:∀{s9:Shared}{H9:Hp}{O:cA},Inv HW ([]++xh8 fp s7.heap) σ8 H9 s9->(TR,n,W dc m' O H9) ->
          (zfF (zFW,s9,s9.heap,W i m xs H')):=λ{s9 H9 O} I9 ⟨m',lt,w9⟩=>by
        show(eW,m',lt,(mR,dc,O,H9,I9.unpinned.weak l8.symm (iX j v),(zgR,P,λ b D o e=>(I9.pin N4 (Z7 _ (Z7 _ (xer D e)))).1),zja,w9))
        . by_cases lj:j<zs.length
          . unfold blk0 at e
            rw[Jd (cK WL lj),W0] at e;ext T4 e
          . show(mq,k8 j cm)
        show(zWf,P,D,I9.pin N4 (Z7 _ (Z7 _ (xer D e))))
      refine Jr (hif _ _ _ _ _ _ s8 _ H8 _ I8 q8) (zx ok s9 H9 I9 q9) BU;cases ok with
      | false =>
        rw[Gq] at q9 ⊢;exact back I9 q9
      | true =>
        rw[fH] at q9 ⊢;refine Jr (he _ _ _ _ _ _ s9 _ H9 _ I9 q9) (λ ev al ⟨1085,yv,ah,ar,am,hl,len,ai⟩=>?_) BU;refine Jr (xci (X:=HW) _ al _ ah zae [yv] zae [ev] (λ v H'=>H'=(yk ah s2.heap.objs.size xs yv)) ar rfl (.cons am .nil) (lv,_,xs,yv,wb hl len rfl))
          (λ_ as ⟨1083,_,au,aq,_,ao⟩=>?_) BU
        subst ao;exact back aq ai
  exact codeAny_compStart_list (K _ rfl) (T.self _ 0 _ _ _ ac (K _ rfl))
def xa9 (hc:mD) (B:Bc) (hi:zcU) (hg:∀ C ex s H pn,(∀ x∈zs,(cu,(kg).names.lookup x,.local))->FW->PG K5 tg g) (gok:zqu) (hif:zlu) (he:zlz)
    (hs:zkt:=by ext NP):PE X MG zHz:=by
  ext gz j;rw[eval_ListComp];refine wpAny_comprehension_free (use:=none) rfl hs zUz B.kind B.names (zKG,λ C l H' s' m _ _ z y q=>?_);show(dy,m,z,λ A w=>(gZ,iS,H',y A w,q))
def xbo {j:Nat}{y:Str}{py spos:Pos} (hc:mD) (B:Bc) (hi:zcU) (hg:∀ C ex s H pn,(∀ x∈zs,(cu,(kg).names.lookup x,.local))->FW->PG K5 tg g) (gok:zqu) (hif:zlu) (he:zlz)
    (hj:gC X.N y) (hy:Loc X.env.scope y) (hf:X.fn y=true\/(cu,X.env.scope.names.lookup y,.local):=by first|ext vG|ext vF|ext gR)
    (hsw:iA (sP,swapsWith MG (some (.Name y py)) spos.line X.env,true))
    (hs:zkt:=by ext NP):PS X (.Assign [zvz] MG spos) (tAsg zHz (xdb j)):=by
  ext sC w;rw[exec_Assign_Name_used _ _ _ _ hsw];show(cY,Zaf (Zb ?_));show(jR,do let _ <- comprehension MG scope X.env _ zvo false (pq iter) zKR);refine Zb (Jr (wpAny_comprehension_free (use:=zKR) (Q:=λ_ s'=>SP X w D .next s') rfl hs zUz B.kind B.names
    (zKG,λ C l H' s' m E T U S q=>?_)) (λ_ s' z=>Zo (Zo z)) λ_ _ e=>e)
  show(lZ,assign zvz X.env iS);have J:iy w H' s':=S s'.heap (.refl ..);refine wpAny_assign_Name (xmr (v:=V.ref l) J B.nd hj hy rfl (zx O J2 a K Y) hf);have R:a≠C:=by
    rcases Y with z|z
    . rw[z]; exact Z2 (dO E)
    . exact (fX E).1 _ _ z
  show(eW,m,?_,cG h2 M)
  . obtain⟨o,es,ep,g,r⟩:102:=U
    exact(dM,102,o,es,ep,(K.2 C (Z2 R)).trans g,r)
  . exact(fG,_,H',J2.turned (t':=O.toks) (yq,P,(M.2 b P).trans g) T (dO E) (.inr E.1) (ug E) (fX E).2,q)
#check _
meta def xni (scope sc0:Scope) (N0:cH) (zs:cH) (ys:cH) (fr:de):Bool :=
 scope.kind == .function&&zs.all (λ x=>scope.names.lookup x == some .local)&&(zVy,y.2 != .cell)&&(zVy,y.2 != .local||scope.names.lookup y.1 == some .local) &&
 (FG).all (λ n=>sc0.names.lookup n == some .cell)&&(zeS,N0[i]?) == ys.map some&&ys.all (λ y=>zNv == some .free)&&(eA N0.Nodup)&&(eA FW)
def xwv {X:Cx}{scope sc0:Scope}{N0:cH}{zs:cH}{ys:cH}{fr:de} (chk:zFr) (es:zVf) (eN:X.N=N0):Bc:=by
 unfold xni at chk;simp only[Z8,beq_iff_eq,J6,decide_eq_true_eq] at chk;obtain⟨⟨⟨⟨⟨⟨⟨⟨E,D⟩,C⟩,B⟩,A⟩,w⟩,i⟩,u⟩,q⟩:=chk;show(dZ,d,Xs,λ y b=>(zA,C y b),⟨E,D,d,c8 y b j,λ n hn=>(cK,es,A n hn),λ n h=>xt3 d n h,cK eN w,cG y b,λ y b=>xrm (i y b),cK eN u,q⟩)
 .show(zL,B y b,j);ext My
 exact Ze.mpr (fR (y,.free) (zgV,Yd (i y b),cy))
def xak {X:Cx}{scope sc0:Scope}{N0:cH}{zs:cH}{ys:cH}{fr:de} (chk:zFr) (es:zVf) (eN:X.N=N0) (_:X.stack=zri):Bc:=xwv chk es eN
def xcw {K:Zd}{m n:Nat}{t:TGs} (h:zBg):GOk n (gTup K m t):=λ v Z H Q q=>by
 obtain⟨a,xs,e,hs,b,q⟩:=q;exact(dM,a,xs,e,hs,b,h _ _ _ _ q)
def xcf {n:Nat}:∀ vs Z H Q,gNil vs Z H Q->gNil vs Z H (λ σ' H'=>Xi):=λ vs Z H Q q=>by
 show(lO,e,xyn q);ext eQ;ext wc q jV
def xah {i n:Nat} (hi:kf) {t:TGs} (h:zBg) :
    ∀ vs Z H Q,xr7 (xdb i) t vs Z H Q->xr7 (xdb i) t vs Z H (M7 Xi):=λ vs Z H Q q=>by
  show(kq,v,r,rfl,q,xym q);have z:=h _ _ _ _ q;have f:∀(j:Nat),n<=j->uS[j]?=Z[j]?:=zQb
  have o:pJ uS Z.length:=cy
  have d:(M7 (znq,(uS).length,(zPM,uS[j]?)))=(λ σ' (H':Hp)=>znq Z.length (zPM,Z[j]?)):=by
    funext σ' H';rw[o];refine propext ⟨(zGh,(c j hj).trans (f j hj)),(zGh,(c j hj).trans (f j hj).symm)⟩
  ext ef d z z
def xco {J:It}{n:Nat}{g:TG}{Z:St}{fr:de}{tc:TT}{te:TE}{l:Addr}{H1:Hp}{Q:VK} (len:Nat) (Pv:Nat->CB) (h0:Pv 0 [] zwt) (hgo:∀ i xs H,N8->Pv i xs H->zyn)
    (step:∀ i xs H2 v H3,N8->Pv i xs H2->zUa->∀ N:CB,(∀ xs' H',Pv dc xs' H'->N xs' H')->g v Sc H3 λ σ' H3'=>tc σ' H3' λ b H4=>if G1 then
      (te σ' H4 λ y H5=>H5 l=some (.lst xs)/\Kr/\N (xs++[y]) (yk H5 l xs y)) else N xs H4)
    (fin:∀ xs H2,Pv len xs H2->J.stop len H2/\L9):Mn J:=by
  show(ie,λ i m xs H=>(eX,m,len-i,i<=len,Pv i xs H),LI len);rintro i m xs H2 (⟨rfl,a,p⟩:43);by_cases lt:N8
  . show(NV,hgo i xs H2 lt p,λ v H3 y=>step i xs H2 v H3 lt p y (λ xs' H'=>∃ m',(dh,m'<len-i,m'=len-dc,dc<=len,Pv dc xs' H')) λ xs' H' q=>AR _ cm lt q)
  . ext pk i len cm;show(eg,fin xs H2 p)
section
variable {X:Cx}{pins:List (Addr × Obj)}{Z:St}{H:Hp}{s:Shared}
def Inv.adopt {p:Addr}{o:HO} (I:cL) (n:vO) (h0:D3 p) (hL:p≠X.env.locals) (hC:F9 p) (hp:∀ q∈Fi,rp≠p)
    (new:Tl (iK p o) s.heap p o):rX (iK p o) s:=by
  show(dZ,ne,(AL,qK,b≠p),(iI,xh e n),⟨I.ok,I.os,I.bare,(zJc,dC b ob e B A,Ca,λ b ob u e=>?_,iX b ps),I.loc,I.cell,?_,zxK,cG q hq,zX,I.len⟩)
  . show(cW,xi (ZM (Au h0)),I.base.free b ob e B A)
  . have z:=I.base.tups b xs e
    ext oI zxR z
  . have z:=I.base.frzs b ob u e
    ext oI zxR z
  . show(u0,m,z,zPK,m,gs zxR z)
  . show(Dq,hL,I.free)
  . show(oI,hC x c e,zcy)
  . show(kn,G,E,D,I.pin q hq)
    show(dy,G,(cK,xi (hp q hq),E),D)
  . by_cases hb:b=p
    . ext zSF
    . rw[xi hb] at e
      exact (ztX).stay zcS (λ c q=>zRg) (GE zRg)
def Inv.thaw {d:Addr}{o:Obj}{u:HO} (I:cL) (e:dA d TL) (nf:A5):rX (iK d u) s:=by
 have ne:∀ b v,(dA b v)->(∀ o' u',v≠.frz o' u')->b≠d:=λ b v h1 h2 z=>by
  subst z;show(ku,e,h1,h2 _ _ rfl)
 have j:(GF,b≠d):=λ b h1 z=>by
  subst z;ext gm e h1
 refine⟨I.ok,I.os,I.bare,(zJc,dC b ob q E D,c8 b xs q,fM b ob v q,c8 b ps q),I.loc,I.cell,?_,c8 x c q,Gf,c8 b v q,I.len⟩
 .have z:=I.base.free b ob q E D;show(cW,xi (j b z),z)
 .have z:=I.base.tups b xs q;show(oI,ne b _ z zoH,z)
 .have z:=I.base.frzs b ob v q;have A:b≠d:=λ w=>by
   subst w;exact nf _ _ q
  ext oI A z
 .obtain ⟨m,z⟩:=I.base.tbls b ps q;show(cU,m,gs (ne b _ z zoH) z)
 .show(ww,j _ I.free,I.free)
 .rw [xi (j _ (I.freeC x c q))];exact I.freeC x c q
 .obtain ⟨J,B,G⟩:43:=zeC;show(dy,J,gs (j _ B) B,G)
 have st:∀(a:Addr) (v:HO),xbb X.prog X.w H s.heap a v->xbb X.prog X.w (iK d u) s.heap a v:=λ a v k =>
  k.stay zcS (λ c q=>zMH) (GE zMH)
 by_cases A:b=d
 .subst A;ext dP xj q q;obtain⟨g,ok⟩:=uy b e;exact st _ _ ok
 rw [xi A] at q;exact st _ _ (I.hok b v q)
def Inv.nofrz {d:Addr}{kvs:dR} (I:cL) (e:U6):A5:=λ o' u' z=>by
 ext zFt
theorem KV.get:∀{kvs:dR}{vs:zcf}{i:Nat}{k:Key}{x:V},tu->rE->∃ u,(dS vs (k,u))/\vi
 | _,_,_,_,_,.nil,e=>FA
 | _,(_,_)::_,0,_,_,zwG,e=>by
  ext Ls;obtain⟨r1,r2⟩:=r
  dsimp only at r1 r2
  subst r1;ext qg r2
 | _,_,dc,k,x,S1,e=>by
  show(qL,u,b,a,KV.get (i:=i) (k:=k) (x:=x) t uU,u,PL,a)
def xvm {P:Program}{w:World}{k:Key}{u:Value} (h:(xV).is k u=true):RelV (kV k) u:=by
 rcases xb9 (zF,xhe k u,h) with⟨i,t,rfl,rfl⟩|⟨x,t,rfl,rfl⟩
 .exact Ng
 exact Ng
def xky {d:Addr}{o:Obj}{kvs:dR}{ep:Nat} (I:cL) (e:zmf) (hep:zwQ):(ziI,s.heap.DictAt sZ d vs ep):=by
 obtain⟨g,_,_,⟨vs,j,y,v,x,g',u,b,q,m,n⟩⟩:44:=uy d e;ext dP g g' g';obtain⟨es,l⟩:=hep;ext dP l b b;show(dy,vs,j,eT 86 o _ g u l q m n)
#check _
meta def Iti (d:Addr) (o:Obj) (kvs:dR):It :=
 (zMY,∃ p k x,(zND,rE,kV k))
def xso {P:Program}{w:World}{K:Zd}{elts:iC}{x1}{tpos:Pos} (d it:Addr) (o:Obj) (kvs:dR) (ep:Nat) (hep:zwQ) :
    (RF,uK,Iti d o kvs,[it],it,∃ ok ov,zaE h i kvs.length) where
  mem:=cy
  obj:=λi h st b C=>by
    ext rY zpV;ext Kz;exact⟨_,st,λv z=>by
      ext zaS z'⟩
  keep:=zAM
  item:=by
    ext zCv;ext Kz;ext rQ lt Y;ext zzV;ext Xe hx
    show(cD,u,hv,ru,m.get hx);rw[Q] at st;refine wpAny_pyNext_items_item st da hv λ J h' O N ht hz U=>?_;refine(eJ,wpAny_letOwnedTupleGo_items N (c8 D B M));show(cI,kk,KK it i4 (cu,D.get? b,o),(yq,C,(M.2 b C).trans (U b o C g)),I1,zpf A D,rC kk R f1 f3 f4 f5);ext Os;show(eY,L,mB it,Z0 st,G,zMq,JK L,hp,zGy J,(M.2 _ G).trans ht);refine(m8,oY,(O8,kV k,x),(X9,[J,u],.cons (xvm O) (.cons ru .nil)),rfl,mR _ k x hx rfl n0 rfl,?_,qb C)
    . rw[<- Q] at B
      exact fT _ B
    . ext rY zpV;ext Dq G R
  done:=by
    ext zCv;ext Kz;ext rQ le Y;ext zzV;show(ef,Q,st,wpAny_pyNext_items_end mF st da (zA zpg) (DX C R f1 f3 f4 f5))
  self:=zAG
meta def x2t (X:Cx) (to:TE):TI:=(Xm,H1 d=some (.dK kvs),∀ ob,A5->R (Iti d ob kvs) (upd H1 d (.frz ob (.dK kvs))))
section
variable {X:Cx}{o:Expr}{to:TE}{elts:List Expr}{x1:_}{tpos apos cpos:Pos}
def xw1 (ho:LV) (hbase:zRy) (hline:zhB) :
    zIl (x2t X to):=by
  ext zAI G P I1;show(uZ,z,hd,vs,Q,N,xj6 I1.hok e);obtain⟨ob,es,M,g,ex,J,hk,hp,hn⟩:106:=id N;refine zzo N.typeIs
  . ext zPn
  refine Q5 Q2 N.typeIs PySem.F.entry_dict_items zHW (meets_dict_items sZ d hd) (jl ⟨vs,N⟩);show(sx,da,(zCD).DictAt sZ d vs M,eT 86 ob es Ni ex J hk hp hn,wpAny_pyIter_items (s:=zon) zE da ?_);have I2:iy B P zon:=I1.kept (t':=G.toks) mQ;generalize S:(zon:Shared)=E at I2;show(cI,g2,(cu,E.heap.get? d,ob),hV S Ni,Y,zGN E,I2.write (t':=E.toks) (x:=d) (e:=d) zP jF zcT (Hj g2) ⟨g2,I2.hok d _ e⟩);have I4:zGN zzQ :=
    Y.kept (t':=E.toks) mQ
  have U:PIE X B Z uK R (.ref E.heap.objs.size) zzQ:=by
    refine lY E.heap.objs.size [E.heap.objs.size] (qC,zQf P,I4,xso d _ ob kvs M ⟨es,J⟩,kL .none .none,CJ,q ob (I1.nofrz e))
    . show(Pj,hl,Q.length)
      show(DC,IsItemIter _ _ d 0 kvs.length M .none .none,hl,jj)
    . show(sJ,eb,b,E.heap.objs.size,Ee);exact Y.fpOk (Zj _) (Y.hok.fresh (Zj _))
  exact U
def xv9 {pins:dJ}{Z:St}{Q:VK}{u:Value}{s:Shared} (h:EP X pins Z (λ v H2=>zAt) u s):S8 u s:=by
 obtain⟨v,H2,c,r2,⟨d,ob,u',e,b,q⟩⟩:83:=h;exact(d9,v,_,c.thaw e b,r2,q)
def x0k {e:Expr}{t:TE} (h:yO t):yO (mo,Q,t Z H λ v H2=>zAt):=λ a s Z H Q I q =>
 thn (Ut a q) (Dl,xv9 z)
#check _
#check L2
namespace PySem.F
def xl_plain_dict_loop:plainId "dict.update.loop"=true:=c9
def xl_entry_dict_loop:(IP,"dict.update.loop",Builtin.«dict.update.loop»):=zof
def xl_list_nokeys:D2 "list" "keys" none:=D4
#check PySem.F
namespace L2
open PySem PySem.Spec PyProof.Rows XL
variable {q0:Bool}
def xup {prog:Program}{w:World}{A:Around}{E:dE}{s:Shared}{a:Addr}{o:Obj}{xs:ii}{k:Nat}{Q:CD}
    (hx:zLu) (hc:LC "list") (hdat:o.data=.seq xs k) (hd:zuh) (hA:wM)
    (h:∀ h' tk,(sy i4 sV)->Q none Cz):fQ (getAttr? (.ref a) "keys"):=by
  obtain⟨c,G,H,z⟩:=o;simp only at hc hdat hd;subst hc hdat hd;ext rK C d tk B;have v:∀ j,(⟨C,g,d,j,B⟩:Shared).TypeIs (.ref a) "list":=λ_=>hX hx
  show(tK,O,sub_AttributeError,N,Wt.lookup,M,Wt.bind (.ref a),L,am_list_getattr_none);unfold getAttr? getAttrBy? getAttrBy
  repeat (any_goals (first|ext gR|exact v _|((with_reducible show(lZ,call (Qg "list.__getattribute__") _ _)); refine We Wt (v _) am_entry_list_getattribute (F.args_list_getattribute_2 _ _) (meets_getattribute_miss_list a xs k z "keys" _ F.xl_list_nokeys c9 zdo) (cC,hx,hA,fM h' j e m))|ext jf))
  show(GD,t',J,K,m.there)
  have D:=m.of.keeps;show(lZ,getattributeRaised _ _ _ _ _ _ _);unfold getattributeRaised
  repeat (any_goals (first|ext gR|ext jf))
  exact h _ _ D
section
variable {X:Cx}{pins:List (Addr × Obj)}{Z:St}{H:Hp}{s:Shared}{a:Addr}{y v:V}{u r:Value}{A:Around}{E:Value->Shared->Prop}
def xut {H':Hp}{Q:vh} (hu:zsh) (I:cL) (g:zVo) (ry:jY) (rv:RelV v r) (h:zcn Cw) :
    vz (dictSet a u r):=by
  rcases g with⟨kvs,k,e,ey,l,eH⟩|⟨kvs,k,b,e,ey,eb,l,eH⟩
  . ext zFP;show(zDE,wpAny_dictSet_pairs (hsz:=hz) GR C zRw);show(zEG,let ⟨q,_,_,j,_⟩:=f; sE j,f)
  . ext zBm;show(zLb,wpAny_dictSet_heap (hsz:=hz) (show (Ip).room A from hu) K1 C zRw);obtain⟨q,es,N,j,M,L,K,_,J⟩:106:=f;refine xfp I zP hs (sE j) (dW,x,B,_,(d.put k eb rv).keeps (c8 c ys D),eT 105 q es N j M L K J);show(oI,xeo D e o6,D)
def DPut.stay {d b:Addr}{H':Hp}{o:HO} (g:zVn) (e:dA b o) (n1:∀ kvs,o≠Ub) (n2:∀ kvs,o≠zho):(cu,H' b,o):=by
 rcases g with⟨kvs,k,e2,_,_,rfl⟩|⟨kvs,k,b2,e2,_,_,_,rfl⟩
 .show(ww,xeo e e2 (n1 _),e)
 show(ww,xeo e e2 (n2 _),e)
def DPut.free {d b:Addr}{H':Hp} (g:zVn) (e:iR):E2:=by
 rcases g with⟨kvs,k,e2,_,_,rfl⟩|⟨kvs,k,b2,e2,_,_,_,rfl⟩
 .show(eO,oF (xh e2 e),e)
 show(eO,oF (xh e2 e),e)
#check _
inductive xe1 (d:Addr):Hp->(oG TB)
 | nil {H:Hp}:xe1 d H [] H
 | cons {H H1 H2:Hp}{y v:V}{r:TB}:DPut H d y v H1->xe1 d H1 r H2->xe1 d H ((y,v)::r) H2
theorem xi8 {X:Cx}{pins:dJ}{Z:St}{A:Around}{R:Lh} (hh:A.in1.handled=none) (hu:A.in1.units<cLine) {l it d:Addr} :
    ∀(ps:KF) (pre:cA) (j:Int) (H H2:Hp) (s:Shared),cL->(rD l (pre++ps.map λ p=>zhZ))->zsm->xe1 d H (ps.map (·.2)) H2 ->
      s.heap.IsListIter it l pre.length->FpOk X pins H it->(∀ s',(rX H2 s')->(zfK s')) ->
      codeAny qj A (.builtin "dict.update.loop" (m7 [uf,Ao,rawInt j,.none])) R s
  | [],pre,j,H,H2,s,I,hl,hp,dp,st,fo,fin=>by
    cases dp;show(IV,E,I.lstM hl);ext mK P O f2 N J G fo;ext zzt;show(cY,WH hh st (vk e iE) (by simp at E ⊢; lia) (cG h' eb));show(Ce,A.in1,zGS>>=_,_);exact Zb (Zo (Zo (fin _ (rC (iw,B,eb b o B e) P O N J G))))
  | (a,y,v)::ps,pre,j,H,H2,s,I,hl,hp,dp,st,fo,fin=>by
    have aa:=fo;ext mK P O f2 N J G fo;cases dp with
    | @cons _ H1 _ _ _ _ g dp =>
    show(IV,E,I.lstM hl);show(cD,u,S,ru,r.get (i:=pre.length) (x:=dH) cy);ext oA u a ru;ext zzt;show(cY,W8 st (vk e iE) (x:=dH) zTw (ux C sb));have I1:wA kR:=rC (iw,B,(sb.2 b B).trans e) P O N J G;obtain⟨z2,ts,rt,ot,et,ct,nt,dt⟩:=I1.hok a _ (hp _ Zm);show(hJ,uk,uv,rfl,rk,rv,xku rt);show(Ce,A.in1,holding mj _>>=_,_);ext zvT;refine Zb (wpAny_tryCatch ?_);unfold Builtin.Dict.pairItems;show(cY,YU (T:="tuple") (cC ot et ct) ?_);ext VH;show(cY,WQ et dt (Zo ?_));show(Ce,A.in1,(holding [uk,uv] (dictSet d uk uv)),_);have ob:∀ b∈[it],(XB sV):=λ b B=>by
      ext rY zTz;show(T7,id C);ext dy o e zmO
    have ab:=I1.pinned (fp:=[it]) (λ b B=>by
      ext rY zTz;exact aa) ob
    refine Jc (xut hu ab g rk rv (cG s' I2));ext zGR;have Y:FpOk X pins H1 it:=⟨46,g.free P,O,f2,N,J,G⟩
    have Q:s'.heap.IsListIter it l (zWN).length:=by
      rw[Zr];exact C.at (re,(I2.pin (it,o) (Z7 _ (Z7 _ (xer cy e)))).1)
    refine xi8 hh hu ps zWN jQ H1 H2 s' I2.unpinned ?_ (jN U) dp Q Y fin
    . have z:=g.stay hl zbD zbD
      rw[z];simp
    . exact g.stay (hp p (Zl _ U)) zbD zbD
inductive x0q (xs:cA) (H:Hp) (Q:VK):Prop
 | mk (l:Addr) (ps:KF) (e_:xs=[iS]) (r_:(uG zKv)/\zsm/\∀ d,zjl->∃ e H2,(e=.dK []\/e=.dT [])/\xe1 d (iK d e) (ps.map (·.2)) H2/\(kJ d H2))
def xdo {X:Cx} (hc:mD) (hu:X.A.units+3<cLine):xc7 X zun x0q:=by
 ext rS v;obtain⟨l,ps,rfl,J,U,q⟩:=h;ext FJ rx r l rx;refine callType_codes (Q₁:=λ B S=>zla B S Xv) F.kt_called_dict (F.kt_typeCall_dict_1 _) F.entry_dict_init (kt_code_dict_new _ lQ) ?_;rintro B S ⟨rfl,rfl⟩;show(hJ,e,H2,he,L,q2,q s.heap.objs.size I.fresh);have I1:zKm { s with heap:=Xv }:=by
  refine I.laid (t':=s.toks) (iI AG) dF ?_;rcases he with rfl|rfl
  .exact xjn s.heap I.big
  exact xok s.heap I.big
 have hT:(Shared.mk Xv s.gens s.drawn s.toks s.os).TypeIs (.ref s.heap.objs.size) "dict":=MV
 have nl:l≠s.heap.objs.size:=λ z=>by
  rw[z,I.fresh] at J;cases J
 have G:(cu,upd H s.heap.objs.size e l,zKv):=gs nl J
 obtain⟨z,its,n,rr,aa,K⟩:=I1.lstM G;refine(V5,hT,F.args_dict_init_2 _ _);unfold Builtin.«dict.__init__»;ext zDF hT;show(ztK,s.heap.objs.size,[Zw l]);show(lZ,Builtin.Dict.updateFrom "dict.__init__" s.heap.objs.size iS [] .none);unfold Builtin.Dict.updateFrom;show(cY,YU (T:="list") (hX K) ?_);ext VH;show(cY,xup K rfl rfl rfl mF (ux P Y));have N:=I1.kept (h':=h') (t':=P) Y;show(rT,rule _);ext RV;show(cY,(YE (vk,Y _ _ K,iE) ?_));ext zGR;show(sx,I3,zKm _,N.kept (t':=P) (h':=h'.push (iz,"list_iterator",.fields zyI)) mQ,xi8 (A:=X.A.in1) mF (hO,zuz+1<cLine) ps [] 0 _ H2 _ I3 (by simpa using G) (jN E) L ?_ ?_ (cG s' I'))
 .rw [oH (U p E) I.fresh];exact U p E
 .exact zE
 .exact N.fpOk (Zj _) (N.hok.fresh (Zj _))
 exact d4 (gZ,.ref _,H2,I',q2)
def xfr {X:Cx}{e:Expr}{t1 t2:TE} (h1:yO t1) (h2:yO t2):yO (mo,Q,t1 Z H Q\/t2 Z H Q):=(zcN,h.elim (h1 a s Z H Q I) (h2 a s Z H Q I))
meta def Itrs (lo d:Int) (n:Nat):It:=zPl zwd
def xpt {P:Program}{w:World}{K:Zd}{tg:Expr} (it:Addr) (lo d:Int) (n:Nat):zDY ztE d where
 mem:=cy
 obj:=λi h st b f=>by
  ext rY PH;exact⟨_,st,λv z=>by
   ext zaS N⟩
 keep:=zRD
 item:=by
  ext zAg;have W:=Walks.range (prog:=X.prog) (w:=X.w) (I.ok.hd y) it lo d n;refine W.item i s _ _ x st (gE v h' M O j kk);ext hF O;have S:iy c H (Bb M):=I.turned (iw,f,kk b o PH e) L J G D C;show(qg,(zEW,Bb M,(m8,.int zwd,H,S,Ng,lQ,j,λ b f=>(l b f).1)))
 done:=by
  ext zAg;exact wpAny_pyNext_range_end (I.ok.hd y) st (by have:n<=i:=x; lia) λ h' R=>(d4,rC (iw,f,R b o f e) L J G D C)
 self:=zFJ
def xgx (a b:Int):Builtin.Range.rangeSize a b (-1)=(qF,b,a,a-b,0):=by
 unfold Builtin.Range.rangeSize;ext Hy;simp only[Int.neg_neg,Int.ediv_one];ext om
def xsl {a b:Int} (ha:-kG<=a) (ha':a<kG) (hb:-kG<=b) (hb':b<kG):Builtin.Range.small a b (-1)=true:=by
 unfold Builtin.Range.small;rw[xgx];simp only[Builtin.Range.rangeFitsLong,Z8,WG,decide_eq_true_eq,beq_iff_eq,(BO,¬ ((dk,-1)>0)),if_false];ext om
section
variable {X:Cx}{tg:Expr}
def xlq {pins:dJ}{Z:St}{H:Hp}{s:Shared}{R:Uu}{E:dE}{lo hi d:Int}{n:Nat}{t u v:Tok}{tk:Nat} (I:cL) (sm:Builtin.Range.small lo hi d=true) (sz:zGc=n)
    (q:R ztE H):zAU d:=by
  ext zGU sm;have c:wA (yS,Rp d):=I.kept mQ;refine⟨121,zpL,[zpL],_,_,⟨66,H,rfl,
    zPP,xpt _ lo d n,?_,CJ,q⟩⟩
  . show(cI,B,lo+vI*d=lo,cy,x,(hU n)-vI=zGc,nT sz)
    show IsRangeIter _ _ (lo+vI*d) ((hU n)-vI) d;ext fK B x jj
  . ext zDT zpL
meta def x48 (ta:TA):TI:=(D1,∃ i j d:Int,zEE (De,j5,.int j,d) ((d=1/\R (Itrs i 1 (j-i).toNat) H1)\/(d=-1/\R (Itrs i (-1) (jc i j)) H1)))
theorem xmq {a b c:Expr}{ta:TA}{p pos:Pos} (hg:ztj) (hm:zti) (ha:PA X [a,b,c] ta) (hs:Pb [a,b,c] [(false,zdw),(false,K4),(false,pq c)]) (hs2:Pb [b,c] (zur,K4,pq c)) :
    yI (Rc "range" [a,b,c]) (x48 ta):=by
  show(Iq,f,boot_range,zoJ f A B y o);obtain⟨i,j,d,e,⟨o,x,w,u⟩,q⟩:103:=o;ext eQ;cases r1 with
  | cons r rr =>
    cases rr with
    | cons r' rr =>
      cases rr with
      | cons r'' rr =>
        ext zMh;ext kT z r'';rcases q with⟨rfl,q⟩|⟨rfl,q⟩
        . show(zIT,small_one o x w u,zlJ)
        . show(zIT,xsl o x w u,(by rw[xgx]; ext om))
#check _
def xir {xs:cA}{us:dw} (r:pD) {j:Nat} (h:j<us.toArray.size):∃ x,(gC xs x)/\RelV x us.toArray[j]:=by
 show(gT,v,r.length,b,zul,Ad h)
 show(cD,u,f,d,r.get (x:=Ht) (Zc b));show(ie,Ht,Zc b);have:us.toArray[j]=u:=by
  have z:=Zk.mp f;ext GA q z;simpa using c
 ext cW this d
def xgz {A:Around}{k:Nat} (hr:EX):zuJ 3:=iF hr.un
def xb0 {A:Around}{k:Nat} (hr:EX):zuJ 20:=iF hr.un
def xu5 {X:Cx}:(zuI,∃ a kvs,eX xs mj Nc (rR kvs.length)):=by
 ext rS c;show(hJ,a,kvs,rfl,e,q,h);ext zgZ j r;ext oA u a j;exact x5p I zji λ t s' m=>HN vJ m Ng
inductive Ents (w:World):fF zrv dR
 | nil:Ents w [] []
 | cons {k:Key}{x:V}{key val:Value}{h:Int}{es:zrv}{kvs:dR} (hh:h=keyH w k) (hk:RelV (kV k) key) (hv:RelV x val) (r:Ents w es kvs):Ents w ((cC h key val)::es) ((k,x)::kvs)
meta def xm1 (w:World) (K:Zd) (D:Addr) (kvs:dR):Prop:=(zo D)/\∃(es:qm) (ep:Nat),(Ro,D,zun,none,.dict es ep,#[])/\Ents w es.toList kvs/\(kvs.map (·.1)).Nodup
theorem Ents.ok {P:Program}{w:World}{es:zrv}{kvs:dR} (h:Ents w es kvs):∃ vs,tu/\Pairs xV es vs/\∀ e∈es,∃ k,(xV).is k e.key=true/\e.hash=(xV).hash k:=by
 induction h with
 | nil=>show(kP,[],.nil,.nil,λ e z=>nomatch z)
 | @cons k x key val h es kvs hh hk hv _ ih =>
  show(ld,vs,a,b,c,ih,(eE,(k,val)::vs,.cons (d4 hv) a,.cons (xd2 hk) rfl b,cG e d));rcases Gg with rfl|z
  .exact (cC,k,xd2 hk,hh)
  exact c e z
section
variable {X:Cx}{pins:List (Addr × Obj)}{Z:St}{H:Hp}{s:Shared}{D:Addr}{kvs:List (Key × V)}
def xnt (I:cL) (g:zoP):(ziI,s.heap.DictOf sZ D vs):=by
 obtain⟨_,es,m,l,q,d⟩:=g;show(dG,vs,a,b,c,q.ok (P:=X.prog));show(eW,vs,a,(jB,106,_,es,m,I.kIn _ _ l,zde,rfl,λ e j=>c e zpS,b,?_));show(kC,a.keys,d)
meta def tGIn (kvs:dR) (neg:Bool) (ty:TE):TE:=(zat,∃ k:Key,zfW/\(ziy (ztO zwR)))
def xvs {i:Expr}{ty:TE}{x:Str}{p:Pos} (hi:Fq) (hg:tY) (hm:LA D) (g:zoP) (hd:qh):PC X .NotIn i zfC (tGIn kvs true ty):=by
 ext gz c;show(oJ,zef c,(kU,J,z,y,j,G,A,Od k C B,thn (xg2 (v:=.ref D) hg hm rfl hd c z Z j (λ v H2=>(pY D)/\H2=j) G lQ) λ u s2 ⟨1084,x,H2,I2,rx,e1,e2⟩=>?_));subst C e1 e2;ext oA u D rx;show(cD,vs,d,E,xnt I2 g);refine wpAny_notIn_of (xd2 A) g.1 E.mapOf ?_;rw[<- (d.val k).isSome_eq];exact(gZ,yB,_,I2.tok _,B)
#check _
theorem xi5 {ns:gW}{f:Tx} (h:∀ j (l:zuk),f j=ns[j]):(zWC,preSum f j=(zft).sum):=by
 intro j
 induction j with
 | zero=>ext NP
 | succ j ih =>
  intro l;have b:zuk:=l;show preSum f j+f j=_;rw[ih (Yz b),h j b,ZD,Zc b,List.sum_append];simp
theorem x28 {ns:gW} (B:Int) (hb:zSw B) (h0:0<=B):-(ns.length*B)<=ns.sum/\ns.sum<=ns.length*B:=by
 induction ns with
 | nil=>simp
 | cons a r ih =>
  have:=ih λ n hn=>hb n (Zl _ hn);have:=hb a Zm;rw[JA,Z6];have e:(hU zez)*B=r.length*B+B:=by rw[Int.natCast_add,Int.add_mul]; simp
  rw[e];lia
inductive x4u (K:Zd) (xs:cA) (H:Hp) (Q:VK):Prop
 | mk (p:Addr) (ns:gW) (e_:xs=[pF]) (r_:SqL K H p ER/\(zXv/\(zSw 1000000))/\(rR ns.sum))
def xmm {X:Cx} (hc:mD):xc7 X (.builtin "sum") (x4u X.K):=by
 ext rS x;obtain⟨p,ns,rfl,hs,⟨C,G⟩,q⟩:=h;ext FJ N r p N;obtain⟨its,M,⟨o,n,g,c,_,d⟩,_⟩:63:=I.list hs;show(cI,E,IntsAre its ns,xrt M,B,s.heap.IsList p its.toArray,eE o g c ⟨n,d⟩)
 show(mL,zs,E.allInts.items);have J:ns=zs.toList.map (·.1):=by rw[<- E.numsOf,<- nums_intItems,<- e]
 rw[e] at B;have sz:zs.size=ns.length:=nG J Za J4
 have v:∀ j (l:zuk),numAt zs j=ns[j]:=λ j l=>by
  rw[numAt_eq,<- J];simp[List.getD,l]
 have P:(zWC,InLong (zft).sum):=λ j l=>by
  have:=x28 1000000 (ns:=zft) (λ n hn=>G n (QR hn)) cE;have R:d6 zft 1000:=Uq
  unfold InLong;lia
 refine sum_intList mF B (λ j S=>jl ?_) (fM h' tk t' hk)
 .rw [v j cm];have:=G ns[j] (Qr _);unfold InLong;lia
 .show(eO,xi5 v jQ cm,P _ cm)
 refine (d9,vJ,H,I.kept hk,lS t',?_);rw[sz,xi5 v _ dF,ZY];exact q
section
variable {X:Cx}{pins:List (Addr × Obj)}{Z:St}{H:Hp}{s:Shared}{h':Heap}
def Inv.turnedL {t':Nat}{ch:cM} (I:cL) (k:Lv GY sV) (hf:∀ b∈ch,(zxB H)):wA Ge:=by
 have A:AL qK GY:=λ b u e z=>by
  have:=(hf b z).1;ext HD this
 refine I.step (g':=s.gens) (d':=s.drawn) (ch:=ch) zja (zeG j zww) (zeG j ⟨o.slots,zww⟩) zWQ
  (iw j ⟨o,zww⟩) (λ_ _ e=>e) EK zLg (cG m C) zX I.bare
 .obtain ⟨O,K,N,J,G,E⟩:46:=U3;exact eD J K G E
 .obtain ⟨o,es,M,B,r⟩:102:=C;exact(dM,102,o,es,M,k _ o (λ z=>(hf _ z).2.1 rfl) B,r)
 refine (ztX).stay (λ c v j q=>k c v ?_ q) zge LG;rcases j with z|z
 .rw [z]; exact A b u e
 exact A c _ z
#check _
meta def Itv (K:Zd) (a:Addr) (n:Nat):It :=
 (cC,(wz,kf/\∃ xs,qr/\xs.length=n),(He,x,H'=H/\∀ xs,qr->(FM xs n x)),λ i _=>i=n)
def xxe {P:Program}{w:World}{K:Zd}{tg:Expr} (a it:Addr) (n:Nat):(ET,Itv K a n,h.IsRevIter it a (iu-1-fc)) where
 mem:=cy
 obj:=λi h st b q=>by
  ext zmR PD
 keep:=zlG
 item:=by
  ext zDK;obtain⟨lt,xs,S,hn⟩:=C;ext zuc Y S;have A:FM xs n zSv:=Zc cm;generalize zSv=x at A;show(cD,u,hu,ru,Y.get A);show(zFs,iu-1-fc,(hU,n-1-i));refine wpAny_pyNext_rev_item st p.isList (x:=u) IS (ux m U);have e2:(hU,n-1-i)-1=iu-1-(hU dc):=cm
  rw[e2] at m;have I1:CS f:=rC (iw,q,(U.2 b q).trans e) Q O N M J;show(zlW,m,d,(m8,x,H,I1,ru,(d4,λ ys hy=>(cK,I.list_inj hy S,A)),m,λ b q=>(y b q).1))
 done:=by
  ext zDK;show(jp,i=n,C);show(zFs,fc-1-fc,-1);exact wpAny_pyNext_rev_end (I.ok.hd T) st (DX q Q O N M J)
 self:=(Kv,WW st h)
meta def iRev (K:Zd) (ta:TA):TI:=D1 (zrz,R zbb H1)
section
variable {X:Cx}{tg:Expr}
def xpn {a:Expr}{ta:TA}{p pos:Pos} (hg:zqI) (hm:zqH) (ha:Ff) (hs:Fb):yI (zpo "reversed") (iRev X.K ta):=by
 show(Iq,x,PyProof.Rows.Boot.«reversed»,M6 (PU x c P D J));ext znh M J G;show(dG,its,E,p,hz,D.list M);have Q:=E.length;ext zIw;show(sx,d,Heap.IsRevIter zJn c.heap.objs.size l Iy,zE,WW (s:={ c with heap:=zJn }) d ?_);refine lY c.heap.objs.size [c.heap.objs.size] (qC,P,D.kept (t':=c.toks) mQ,xxe l _ xs.length,?_,CJ,q)
 .have e:Iy=(dk xs.length)-1-vI:=zhx
  rw[e] at d ⊢;exact d
 show(pk,b,c.heap.objs.size,Ee);exact D.fpOk (Zj _) (D.hok.fresh (Zj _))
#check _
def xzu {K:Zd}{a:Addr}{xs:cA}{g:TG}{tb:TS}{D:Ends}{Z:St}{H:Hp} (Pv:xR) (h0:zU) (hl:zel)
    (hs:∀ i x Z H,(dI,i<xs.length,FM xs xs.length x,Co,zXK)) (hd:Re) :
    ∃ W:Nat->Nat->St->Hp->Prop,(∃ m,W 0 m Z H)/\∀ i m Z H,xB ->
      ((zbb).stop i H/\tF)\/((zbb).go i H/\(wN,∀ x H',(zbb).yld i H x H'->(C9 N))):=by
  ext Xf c
  . show(zkX,du hlt xs q rfl,b)
    ext rQ y y;ext eQ;exact hs i x Z _ hlt (y xs q) p
  . show(pk,i,xs.length,cm);show(eg,(d4,hd Z H p))
meta def Itz (K:Zd) (l1 l2:Addr):It :=
  ⟨(wz,∃ xs ys x y,dh zsb zrQ xY L8),
   (He,v,∃ p x y,(cR,ziF zsb,(∀ ys,zrQ->L8),pY p,vO,H'=(mw H p x y))),
   (wz,∃ xs ys,zsb/\zrQ/\(xs.length<=i\/ys.length<=i))⟩
structure Five (z TI TO i1 i2:Addr):Prop where
 TIz:TI≠z
 TOz:TO≠z
 i1z:i1≠z
 i2z:i2≠z
 TITO:TI≠TO
 TIi1:TI≠i1
 TIi2:TI≠i2
 TOi1:TO≠i1
 TOi2:TO≠i2
 i12:i1≠i2
def xdm {a b:Nat} (h:Hs):(a:Addr)≠(b:Addr):=h
def xyw (n:Nat):Five (n+4) (n+2) (n+3) n i0 :=
 ⟨tZ,tZ,tZ,tZ,tZ,tZ,tZ,tZ,tZ,tZ⟩
meta def xx4 (z TI TO i1 i2 l1 l2:Addr) (i:Nat) (h:Heap):Prop:=(cR,IsZip h z TI TO .none,IsPair h TI (.ref i1) (.ref i2),(∃ a b,IsPair h TO a b),zeN i1 l1,zeN i2 l2)
def xfb {h:Heap}{a b:Addr}{x y:String} (ha:zqc G4 x) (hb:zqc uQ y) (n:(ou,YS x,YS y)):Hs:=λ e=>by
 ext eQ;ext tL o i j ha u d f hb;ext dP i d d;rw[j] at f;rw[f] at n;simp at n
def xmc {z TI TO i1 i2 l1 l2:Addr}{i:Nat}{h:Heap}{xs ys:ii} (D:zPh) (st:xx4 z TI TO i1 i2 l1 l2 i h) (hl1:h.IsList l1 xs) (hl2:h.IsList l2 ys):ZipApart z TI TO i1 i2 l1 l2:=by
 obtain⟨hz,u,⟨a,b,j⟩,w,v⟩:45:=st;show(cI,m,IU z "zip",hX hz,n,IU TO "tuple",hX j)
 show(fw,r,IU i1 "list_iterator",let ⟨o,e,c,_⟩:=w; zep,q,IU i2 "list_iterator",let ⟨o,e,c,_⟩:=v; zep,f,IU l1 "list",let ⟨o,e,c,_⟩:=hl1; zep,d,IU l2 "list",let ⟨o,e,c,_⟩:=hl2; zep);exact⟨D.TIz,D.TOz,D.i1z,D.i2z,D.TITO,D.TIi1,D.TIi2,D.TOi1,D.TOi2,D.i12,xfb f m cE,xfb f n cE,xfb f r cE,xfb f q cE,xfb d m cE,xfb d n cE,xfb d r cE,xfb d q cE⟩
def xxo {P:Program}{w:World}{K:Zd}{elts:iC}{x1}{tpos:Pos} (z TI TO i1 i2 l1 l2:Addr) (D:zPh) :
    Turn P w K uK (Itz K l1 l2) zTR z (xx4 z TI TO i1 i2 l1 l2) where
  mem:=cy
  obj:=λi h st b m=>by
    obtain⟨hz,A,⟨a,c,C⟩,⟨o1,e1,c1,d1⟩,⟨o2,e2,c2,d2⟩⟩:45:=st;ext yU m;rcases m with rfl|rfl|rfl|rfl|rfl
    . show(A7,hz,Q1 _)
    . ext A7 A zdn
    . ext A7 C zdn
    . ext Ba e1 d1
    . ext Ba e2 d2
  keep:=λ i h h' ⟨1045,hz,A,cC a c C,Y,U⟩ k=>(ff,k z cy _ hz,k TI cy _ A,(cC,a,c,k TO cy _ C),Y.at (re,k i1 cy o e),U.at (re,k i2 cy o e))
  item:=by
    ext zBQ;obtain⟨xs,ys,x,y,N,M,hx,hy⟩:124:=hg;ext zGA;show(cD,u,hu,ru,rv.get hx);show(cD,u2,ai,ad,R.get hy);have J:=zHC;ext zHd;refine wpAny_pyNext_zip_item J hz A C Y U p.isList p2.isList (x:=u) (y:=u2) IS (by simpa using ai) λ h' a1 a2 a3 a4 a5 a6 a7=>?_;refine(eJ,wpAny_letOwnedTupleGo_zip (s:=kR) a1 (c8 S ah G));have ac:mB z:=Z0 hz;have ae:s.heap.objs.size≠z:=JK ac;have kk:(Lv,b∉zTR,(cu,S.get? b,o)):=λb o m g=>by
      ext Ii m;exact (G.2 b m.1).trans (a7 b o m.1 (ug m) (GG m) (Vz m) g)
    have I1:zpf Q S:=zqa kk hf;ext Os;have hp:(cu,S.get? s.heap.objs.size,Bq u u2):=(G.2 _ ae).trans a5;have ab:h'.get? TI=_:=a7 TI _ J.TIz J.TITO J.TIi1 J.TIi2 A;refine⟨85,oY,O8 x y,(X9,[u,u2],zck ru ad),rfl,
      (eT,105,_,x,y,Y2 N hx,Y2 M hy,rfl,n0,rfl),?_,qb m⟩
    . exact(ff,ah,G.extBut _ _ J.TIz ab,(fT,_,G.extBut _ _ J.TOz a2),a3.extBut G.extBut J.i1z,a4.extBut G.extBut J.i2z)
    . obtain⟨o,ho,_⟩:XB i4:=by
        obtain⟨⟨o1,e1,c1,d1⟩,⟨o2,e2,c2,d2⟩⟩:=And.intro Y U;ext yU m;rcases m with rfl|rfl|rfl|rfl|rfl
        . show(A7,hz,Q1 _)
        . ext A7 A zdn
        . ext A7 C zdn
        . ext Ba e1 d1
        . ext Ba e2 d2
      show(oI,ZM (Z0 ho),(hf b m).1)
  done:=by
    ext zBQ;ext hJ xs ys N M hl hg;ext zGA;show(kZ,e1,rv.length,e2,R.length,J,zHC);ext zHd;refine wpAny_pyNext_zip_end mF J hz A C Y U p.isList p2.isList ?_ (zPy a7 hf)
    . rcases hl with l|l
      . left; simp; lia
      . right; simp; lia
    . ext Ii m
      exact a7 b o m.1 (ug m) (GG m) (Vz m) g
  self:=(Kv,wpAny_pyIter_zip st.1 h)
meta def iZip (K:Zd) (ta:TA):TI:=(D1,∃ a b xs ys,(j7,vs,qe dH b,L3,Oi b ys,R (Itz K a b) H1))
section
variable {X:Cx}{elts:List Expr}{x1:_}{tpos:Pos}
def x2y {a b:Expr}{ta:TA}{p pos:Pos} (hg:Gl X "zip") (hm:Cg "zip") (ha:PA X Ds ta) (hs:zPr) (hs2:SQ [b] K4) :
    PI X uK (Rc "zip" Ds) (iZip X.K ta):=by
  show(Iq,d,PyProof.Rows.Boot.«zip»,zoJ d c U y q1);obtain⟨P,M,xs,ys,e,E,D,q⟩:124:=q1;ext eQ;show(hJ,u,Y,rfl,ru,A,xku r1);ext oA u P ru;ext oA Y M A;show(dG,its,rv,p1,ac,y.list E);show(dG,Q,aa,p2,ab,y.list D);refine call_zip_2 p1.isList p2.isList λ h' hz J G h1 h2 hsz hk=>?_;show(Hh,wpAny_pyIter_zip (s:=zOU) hz ?_,I2,iy d U zOU,y.kept (t':=c.toks) hk,lY _ [c.heap.objs.size+4,c.heap.objs.size+2,c.heap.objs.size+3,c.heap.objs.size,c.heap.objs.size+1] (qC,U,I2,xxo _ _ _ _ _ P M (xyw c.heap.objs.size),(ff,hz,J,fT _ G,h1,h2),qb S,q));have x:c.heap.objs.size<=b:=by
    ext yU S;rcases S with rfl|rfl|rfl|rfl|rfl
    . exact JV _ 4
    . exact JV _ 2
    . exact JV _ 3
    . exact Zj _
    . exact JV _ 1
  exact y.fpOk x (y.hok.fresh x)
#check _
meta def Ite (K:Zd) (a:Addr):It :=
 zBV j5
def xvr {P:Program}{w:World}{K:Zd}{elts:iC}{x1}{tpos:Pos} (e it l:Addr) (hei:e≠it) :
    (RF,uK,Ite K l,ziS,e,(∃ old,ES h i)/\(zeN it l)) where
  mem:=cy
  obj:=λi h st b m=>by
    ext zLD A Q;ext yU m;rcases m with rfl|rfl
    . show(A7,A,Q1 _)
    . ext Ba Q d1
  keep:=zNL A G (zWT,A,G.at λ o z=>k it cy o z)
  item:=by
    ext zCr;ext kq xs x N M hg;ext zTV;show(cD,u,hu,ru,R.get M);ext zbH A G;refine wpAny_pyNext_enum_item A G p.isList (x:=u) IS hei (gE h' ho J hT hsz hk);refine(eJ,wpAny_letOwnedTupleGo_enum (s:=Ul) ho (c8 D aa C));have ab:mB e:=Z0 A;have S:s.heap.objs.size≠e:=JK ab;have kk:(Lv,b∉ziS,(cu,D.get? b,o)):=λb o m g=>by
      ext Ii m;exact (C.2 b m.1).trans (hk b o m.1 m.2 g)
    have I1:zHS D:=I.turnedL kk O;ext Os;have hp:(zGy,.int i s.toks):=(C.2 _ S).trans hT;refine⟨85,oY,O8 j5 x,(X9,[.int i s.toks,u],zck iE ru),rfl,
      (zvN,x,Y2 N M,n0),?_,qb m⟩
    . show(cU,(hZ,by simpa using aa),J.at λ o y=>(C.2 it (Z2 hei)).trans y)
    . obtain⟨o,ho⟩:∃ o,i4:=by
        ext dG o1 Q c1 d1 G;ext yU m;rcases m with rfl|rfl
        . exact hZ A
        . exact hZ Q
      show(oI,ZM (Z0 ho),(O b m).1)
  done:=by
    ext zCr;ext cD xs N hl hg;ext zTV;have Q:=R.length;ext zbH A G;refine wpAny_pyNext_enum_end mF A G p.isList kS (zPy M O)
    ext Ii m;exact M b o m.2 g
  self:=zCs
meta def x4a (K:Zd) (ta:TA):TI:=D1 (zrz,R zhv H1)
section
variable {X:Cx}{elts:List Expr}{x1:_}{tpos:Pos}
def xf1 {a:Expr}{ta:TA}{p pos:Pos} (hg:zTp) (hm:zTn) (ha:Ff) (hs:Fb) :
    PI X uK (zpo "enumerate") (x4a X.K ta):=by
  show(Iq,c,PyProof.Rows.Boot.«enumerate»,M6 (PU c d E y J));ext znh Q J G;show(dG,its,rv,M,P,y.list Q);refine call_enumerate_list M.isList (dC h' A U hsz S);show(Hh,Wl (s:=zaA) A ?_,Y,iy c E zaA,y.kept (t':=d.toks) S,lY _ zDR ⟨66,E,rfl,Y,xvr _ _ l tZ,⟨hZ A,U⟩,zja,q⟩);have x:d.heap.objs.size<=b:=by
    ext yU D;rcases D with rfl|rfl
    . exact JV _ 1
    . exact Zj _
  exact y.fpOk x (y.hok.fresh x)
#check _
def xjt {K:Zd}{a:Addr}{xs:cA}{g:TG}{tb:TS}{D:Ends}{Z:St}{H:Hp} (Pv:xR) (h0:zU) (hl:zel)
    (hs:zIV j5) (hd:Re) :
    ∃ W:Nat->Nat->St->Hp->Prop,(∃ m,W 0 m Z H)/\∀ i m Z H,xB ->
      ((zhv).stop i H/\tF)\/((zhv).go i H/\(wN,∀ x H',(zhv).yld i H x H'->(C9 N))):=by
  ext Xf v
  . ext zzw
  . ext Xl
#check L2
namespace L2
open PySem PySem.Spec PyProof.Rows XL
meta def tMid (t:TS):TS:=(qW,∃ Pv:pE,t zRO Z H/\∀ σ' H',Pv σ' H'->D.nx σ' H')
theorem xb1 {X:Cx}{st:Stmt}{t:TS} (h:zfd):PS X st (tMid t):=by
 ext tT a D q;ext cD Pv c b q;show(oJ,h a s Z H zRO I c,wB d f);cases d with
 | next =>
  show(kq,σ',H',e,r,z);exact(fG,σ',H',e,b _ _ r)
 | _=>ext gD
#check L2
namespace XL
open PySem PySem.W
#check XL
namespace L2
open PySem PySem.Spec PyProof.Rows XL
variable {q0:Bool}
#check L2
namespace L2
open PySem PySem.Spec PyProof.Rows XL
#check L2
namespace L2
open PySem PySem.Calls PyProof PyProof.Rows
meta def eU (e:Uc) (u:Value):Bool:=match absV u with|some y=>e y|none=>false
def xr2 {e:Uc}{y:V}{u:Value} (r:jY):eU e u=e y:=by unfold eU; rw[r.abs]
theorem xnn {e:Uc}:(zcm,pD->us.any (eU e)=xs.any e)
 | _,_,.nil=>rfl
 | y::xs,VO,zN=>by rw[YK,YK,xr2 r,xnn t]
theorem xlf:(zcm,pD->∀ u∈us,∃ y∈xs,jY)
 | _,_,.nil=>λ u d=>nomatch d
 | y::xs,VO,zN=>λ f d=>by
  rcases Gg with rfl|d
  .exact cC y Zm r
  show(o9,z,j,h,xlf t f d);show(dy,z,Zl _ j,h)
#check L2
namespace PySem.F
#check PySem.F
namespace L2
open PySem PySem.Spec PyProof.Rows XL
variable {q0:Bool}
def FnOk.or {P:Program}{w:World}{K:Zd}{mg:gF}{base:Heap}{CX:CXT}{k:Nat}{f:Addr}{fd:FuncData}{ps:cH}{s1 s2:Sp} (F:X4 f ps s1) (G:X4 f ps s2) :
    X4 f ps (λ vs H Q E=>s1 vs H Q E\/s2 vs H Q E) :=
  ⟨λ vs H Q E h=>h.elim (F.len vs H Q E) (G.len vs H Q E),λ A outer s H args us vs Q E hr e0 b v h=>h.elim (F.run A outer s H args us vs Q E hr e0 b v) (G.run A outer s H args us vs Q E hr e0 b v)⟩
#check L2
namespace L2
open PySem PySem.Spec PyProof.Rows XL PySem.W
variable {q0:Bool}
def xlk {prog:Program}{w:World}{A:Around}{E:dE}{s:Shared}{a:Addr}{vs:dw}{n:Nat}{P:zXz}
    (h:zFj) (h2:2<=vs.length) (h64:vs.length<64)
    (hk:∀ s':Shared,s'.heap=(((s.heap.update a (JO zyF)).push (seqObj "tuple" vs.toArray 0)).push (seqObj "list" #[] 0))->s'={ s with heap:=s'.heap } ->
      (tQ zOF (λ κ s''=>s''=s'/\KasT.kasWp (kas_ask prog w A κ vs) (kas_sort vs.length) (λ p s3=>s3=s'/\(zAO zHs)) s'') zt s')) :
    zCJ:=by
  ext rK C d J os;ext ztA
  repeat (any_goals (first|ext gR|ext jf))
  have z:¬ vs.toArray.toList.toArray.size>sizeLine:=by
    simp;exact Yz (ZX h64 cE)
  ext iL z;generalize zOF=kk at hk ⊢
  repeat (any_goals (first|ext gR|ext jf))
  have H:=hk (zEJ,((zPZ).push (seqObj "tuple" vs.toArray 0)).push (seqObj "list" #[] 0)) rfl rfl;refine Jr H (wB κ s'') BU;ext lO e z;ext eQ;show(rT,StateT.run (qF,vs.toArray.size,2,pure (),sortRuns') _);ext iL kS;show(cY,(Jr (kat_run (E:=E) (Q:=λ v s'=>∃ p:gJ,(cR,p.size=vs.length,arrOf v=Wa (kas_item (vs.toArray.zip vs.toArray)) p,failedOf v=none,s'=_,P (.done (.ret .none)) (zEJ,sortedHeap C a vs zHs))) rfl h2 h64 (λ p v s' hp' e f B=>dN 65 p hp' e f B.1 B.2) q) (wB r s') (Dl z)));obtain⟨u,st⟩:=r;show(tJ,p,G,e,f,rfl,B,z);have al:a<C.objs.size:=Z0 h;have O:(cu,(((zPZ).push (seqObj "tuple" vs.toArray 0)).push (seqObj "list" #[] 0)).get? a,znA):=by
    refine zhW;rw[zuT];have z:((0:Nat) == vs.length)=false:=by
      cases vs with
      | nil=>simp at h2
      | cons=>rfl
    simp[JO,z]
  have N:(gV (((λ x=>#[]) vs.toArray:ii).size == vs.toArray.size) n i0)=i0:=by
    rw[if_neg];simp;lia
  simp only[N,f];have M:(zxr st)=p.map λ i=>vs.getD i .none:=by
    rw[e,Array.map_map]
    ext iJ
    funext i;show (kas_item (vs.toArray.zip vs.toArray) i).snd=_;unfold kas_item;by_cases c:i<vs.length
    . simp[uC,c]
    . simp[Jg zpg,c]
  simp only[M]
  repeat (any_goals (first|ext gR|ext jf))
  have K:(JO (λ x=>zJL) znA).data.pastItsLine=none:=by
    show (if (zJL).size>sizeLine+1 then _ else none)=none;rw[if_neg];rw[Array.size_map,G];have:sv vs.length:=ZX h64 cE;lia
  rw[K];ext Ai;rw[f];show(lZ,Hf (i0 != i0));ext zgM cy B
def xhy {prog:Program}{w:World}{A:Around}{E:dE}{s:Shared}{it d:Addr}{i ep:Nat}{o:Obj}{es:qm}{en:DictEntry}{Q:CD}
    (st:zJj i) (hd:wF) (hx:o.ExactDict) (hdat:rA) (hi:zen)
    (h:(ztu,h'.IsKeyIter it d dc es.size ep,it,Q (some en.key) kR)):zhz:=by
  ext zzg;have b:=st.typeIs;ext rK J L C H;obtain⟨⟨c,v,B,G⟩,j,m,l⟩:63:=st;simp only at m l;subst m l;unfold Builtin.«dict_keyiterator.__next__»
  repeat (any_goals (first|ext gR|(with_reducible refine YR b ?_)|(with_reducible refine QE b ?_)|(with_reducible ext Eo)|(with_reducible ext En)|ext jf))
  have q:zDB:=by
    ext fK CG JT hi
  rw[q]
  repeat (any_goals (first|ext gR|(with_reducible refine YR b ?_)|(with_reducible refine QE b ?_)|(with_reducible ext Eo)|(with_reducible ext En)|ext jf))
  show(dQ,(eJ,Zo (h _ ?_ (ZJ.update _ _ _))),(vk,Jl _ j rfl,?_));rfl
def xjb {prog:Program}{w:World}{A:Around}{E:dE}{s:Shared}{it d:Addr}{ep:Nat}{o:Obj}{es:qm}{Q:CD}
    (hA:wM) (st:zJj es.size) (hd:wF) (hx:o.ExactDict) (hdat:rA)
    (h:zns zwy):zhz:=by
  ext zzg;have j:=st.typeIs;ext rK M O H L;obtain⟨⟨c,C,G,J⟩,v,q,m⟩:63:=st;simp only at q m;subst q m;unfold Builtin.«dict_keyiterator.__next__»
  repeat (any_goals (first|ext gR|(with_reducible refine YR j ?_)|(with_reducible refine QE j ?_)|(with_reducible ext Eo)|(with_reducible ext En)|ext jf))
  have B:(zco es.size none zJk)=none:=by
    rw[CG,JT];simp
  rw[B]
  repeat (any_goals (first|ext gR|(with_reducible refine YR j ?_)|(with_reducible refine QE j ?_)|(with_reducible ext Eo)|(with_reducible ext En)|ext jf))
  ext zzq
def xnh {prog:Program}{w:World}{A:Around}{E:dE}{s:Shared}{d:Addr}{ep:Nat}{o:Obj}{es:qm}{Q:dE}
    (hs:zo d) (hd:wF) (hx:o.ExactDict) (hdat:rA)
    (h:D7 (zqL "dict_keyiterator" (zdW Rk ep))):fQ (pyIter (.ref d)):=by
  have m:zv d "dict":=cC o hd hx.1
  obtain⟨c,v,B,G⟩:=o;ext kn x1 x2 q hx;simp only at x1 x2 q hdat;subst x1 x2 q hdat;refine wpAny_pyIter_slot m F.slot_dict_iter ?_;refine Jv F.slot_dict_iter m F.entry_dict_iter ?_ (F.args_dict_iter_1 _);ext rK J K C H;unfold Builtin.«dict.__iter__»
  repeat (any_goals (first|ext gR|(with_reducible refine QD m ?_)|(with_reducible refine Jn hd rfl ?_)|(with_reducible refine JI hd rfl ?_)|ext jf))
  show(qg,d9 _ _ MV Yw.lookup h)
theorem xzt {prog:Program}{w:World}{d:Addr}{ep:Nat}{o:Obj}{es:qm} (hs:zo d) (hx:o.ExactDict) (hdat:rA) :
    KdlSrc prog w "dict" d d es.size (λ i v=>∃ en,zen/\v=en.key) (λ h=>Ec) where
  type:=λ s h=>cC o h hx.1
  there:=λ h e=>⟨Z0 e,Z0 e⟩
  keep:=λ h h' e k=>k d jF o e
  notList:=cE
  notTuple:=cE
  hint:=λ A E s Q h q=>kdl_hint_dict (cC o h hx.1) q
  iter:=λ A s G h=>by
    show(eK,J,Z0 h,(dM,TJ "dict_keyiterator" (zdW Rk ep),λ i h=>h.IsKeyIter s.heap.objs.size d i es.size ep/\Ec,λ E Q q=>xnh hs h hx hdat q,?_,jo _ jj rfl,Zi _ h));have dn:d≠s.heap.objs.size:=ZM J;exact {
      sub:=λ b m=>by
        have e:b=s.heap.objs.size:=I0
        rw[e];simp
      frame:=zeg ⟨st.1.at (re,k _ cy o e),k _ cy _ st.2⟩
      item:=λ i s' Q E C st q=>by
        refine xhy st.1 st.2 hx hdat (JC C) λ h' u B=>q _ h' s'.toks (hX,JC C) ⟨u,(B.2 d dn).trans st.2⟩ (iw m ?_);exact (B.2 b I0).trans e
      done:=λ s' Q E st q=>by
        refine xjb G st.1 st.2 hx hdat λ h' H=>q h' s'.toks (iw m ?_);exact H b o I0 e
      self:=λ i s' Q E st q=>WX st.1 q }
meta def xem:Dz Key Key
 | .inl a,.inl b=>eA (a<b)
 | .inr a,.inr b=>eA (a.cps.toList<b.cps.toList)
 | _,_=>false
meta def lexK:Dz iO iO
 | [],[]=>false
 | [],fh=>true
 | fh,[]=>false
 | vZ,pK=>(gH,x,y,lexK xs ys,xem x y)
meta abbrev shp (k:iO):zfx:=k.map Sum.isLeft
def x0j {a b:Str} (h:zJh):mx:=by
 ext kQ;cases b;simp at h;rw[h]
theorem xvp (x:Key):xem x x=false:=by
 cases x with
 | inl a=>simp[xem]
 | inr a=>exact WY.irrefl a.cps.toList
def xxi {x y z:Key} (h1:xem x y=true) (h2:xem y z=true):xem x z=true:=by
 cases x<;>cases y<;>cases z<;>simp only[xem,ZC] at h1 h2
 .show(cB,a,of_decide_eq_true h1,b,of_decide_eq_true h2);show(zdD,Int.lt_trans a b)
 exact WY.trans _ _ _ h1 h2
theorem xsw {x y:Key} (hs:x.isLeft=y.isLeft) (ne:x≠y) (h:xem x y=false):xem y x=true:=by
 cases x with
 | inl a =>
  cases y with
  | inl b =>
   show(cI,h',¬ a<b,of_decide_eq_false h,c,Hs,λ e=>ne Vf);show(zdD,(fD,b<a))
  | inr b=>cases hs
 | inr a =>
  cases y with
  | inl b=>cases hs
  | inr b =>
   cases e:xem (.inr b) (.inr a) with
   | true=>rfl
   | false=>show(gk,(hD,x0j (WY.total _ _ h e)),ne)
theorem xnm:∀ x:iO,lexK x x=false
 | []=>rfl
 | vZ=>by
  unfold lexK;rw[fH];exact xnm xs
theorem xqf:∀{x y z:iO},(eC,shp x=shp y,shp y=shp z,zVW,lexK y z=true,lexK x z=true)
 | [],[],_,_,_,h,_=>ij
 | [],fh,_,h,_,_,_=>ij
 | fh,[],_,h,_,_,_=>ij
 | fh,fh,[],_,h,_,_=>ij
 | vZ,pK,z::zs,h1,h2,h3,h4=>by
  simp only[shp,Zs,Yo.injEq] at h1 h2;unfold lexK at h3 h4 ⊢;by_cases xy:x=y
  .subst xy;rw[fH] at h3;by_cases yz:x=z
   .rw [df yz] at h4 ⊢;exact xqf h1.2 h2.2 h3 h4
   rw [dz yz] at h4 ⊢;exact h4
  rw [dz xy] at h3;by_cases yz:y=z
  .subst yz;ext sr xy h3
  rw [dz yz] at h4;have a:=xxi h3 h4;show(cW,if_neg (λ e=>by rw[e,xvp] at a; cases a),a)
theorem xop:∀{x y:iO},(dI,shp x=shp y,x≠y,lexK x y=false,lexK y x=true)
 | [],[],_,h,_=>RJ
 | [],fh,h,_,_=>ij
 | fh,[],h,_,_=>ij
 | vZ,pK,h1,h2,h3=>by
  ext zou h1;unfold lexK at h3 ⊢;by_cases xy:x=y
  .subst xy;rw[fH] at h3 ⊢;exact xop h1.2 (λ e=>h2 Vf) h3
  rw [dz xy] at h3;show(cW,if_neg (λ e=>xy e.symm),xsw h1.1 xy h3)
theorem xn4 {prog:Program}{w:World}{A:Around}{s:Shared}{b:Bool}{Q:xD}:∀(xs ys:iO) (us vs:dw) (i:Nat),(eC,shp xs=shp ys,Vals (xs.map kV) us,Vals (ys.map kV) vs,Q (lexK xs ys) s,KatLex prog w A b false Q (us.zip vs) i s)
 | [],[],_,_,i,_,.nil,.nil,q=>kat_nil q
 | [],fh,_,_,_,h,_,_,_=>ij
 | fh,[],_,_,_,h,_,_,_=>ij
 | vZ,pK,_,_,i,h,.cons ru r,.cons rv r',q=>by
  ext zou h;unfold lexK at q;cases x with
  | inl a =>
   cases y with
   | inr c=>cases lD
   | inl c =>
    ext zB ru rv;refine kat_cons (wpAny_eqBool_int ?_);ext zSS
    .ext zBq
    rw [(mE,e (Q4.inj z))] at q;ext iL uU;cases (b&&i == 0) with
    | true=>exact oneLt_int q
    | false=>exact kat_one _ _ (lt_int q)
  | inr a =>
   cases y with
   | inl c=>cases lD
   | inr c =>
    ext zB ru rv;refine kat_cons (wpAny_eqBool_str ?_);ext zSS
    .ext zBq
    rw [zRB] at q;ext iL uU;cases (b&&i == 0) with
    | true=>exact oneLt_str q
    | false=>exact kat_one _ _ (lt_str q)
def xm0 {prog:Program}{w:World}{A:Around}{E:dE}{s:Shared}{a:Addr}{vs:dw}{n:Nat}{P:zXz}
    (h:zFj) (h2:vs.length<2) (q':zAO vs.toArray) :
    zCJ:=by
  ext rK c d B C;rcases vs with _|⟨v,_|⟨q,r⟩⟩
  . ext ztA
    repeat (any_goals (first|ext gR|ext jf))
    show(ztK,Wf,(zcP,(Mm).zip #[],#[],7,none));have b:(zxr (zcP,(Mm).zip #[],#[],7,none))=#[]:=by
      show Wa zvD ((Mm).zip #[])=#[];simp
    simp only[b];have j:(cu,(((zPY).push (seqObj "tuple" #[] 0)).push (seqObj "list" #[] 0)).get? a,seqObj "list" #[] (n)):=by
      refine zhW;rw[zuT];rfl
    show(rT,seqEpoch a)
    repeat (any_goals (first|ext gR|ext jf))
  . ext ztA
    repeat (any_goals (first|ext gR|ext jf))
    show(ztK,Wf,(zcP,((AW:ii).zip AW),#[],7,none));have b:(zxr (zcP,((AW:ii).zip AW),#[],7,none))=AW:=by
      show Wa zvD ((AW:ii).zip AW)=AW;simp
    simp only[b];have j:(cu,(((zPY).push (seqObj "tuple" AW 0)).push (seqObj "list" #[] 0)).get? a,znA):=by
      refine zhW;rw[zuT];rfl
    show(rT,seqEpoch a)
    repeat (any_goals (first|ext gR|ext jf))
  . ext yC h2
theorem xhx {α:Type} (f:α->Addr):∀(es:eI),Vals (es.map λ x=>V.ref (f x)) (es.map λ x=>Zw (f x))
 | []=>.nil
 | AU=>.cons rfl (xhx f r)
theorem x1m {H:Hp}{kvs:fP}{es:qy} (h:KT H kvs es):(∀ x∈es,(dA dY (.tup ((cQ).map kV))))/\es.map (·.1)=kvs.map (·.1):=by
 induction h with
 | nil=>show(cU,jC,rfl)
 | @cons p x kvs es hp r ih =>
  ext Fm b f hp;show(gX,cG y d,by rw[Zs,Zs,ih.2,b]);rcases Gg with rfl|z
  .rw [<- b];exact f
  exact ih.1 y z
theorem xvq {P:Program}{w:World}{H:Hp}{h:Heap} (ok:qu) {b:Bool}{sh:zfx}:∀(es:qy),(∀ x∈es,(dA dY (.tup ((cQ).map kV))))->(∀ x∈es,shp cQ=b::sh) ->
    ∃ fs,KatTups h (es.map λ x=>Zw dY) fs/\fs.length=es.length/\∀ v∈fs,(gV,b,∃ i t,v=Q0 i t,∃ i t,v=Zab i t)
  | [],_,_=>eE [] KatTups.nil rfl jC
  | x::es,h1,h2=>by
    show(dG,fs,k,l,m,xvq ok es (HI,h1 y (Zl _ hy)) (λ y hy=>h2 y (Zl _ hy)));obtain⟨I,K,r,L,C,G,M,D⟩:=ok dY _ (h1 x Zm);have d:=h2 x Zm;obtain⟨A,N,J⟩:=x;cases A with
    | nil=>cases d
    | cons k0 kr =>
      ext zou d;simp only[Zs] at r;cases r with
      | @cons _ u _ us ru rr =>
        refine(eE,u::fs,KatTups.cons C G D cy k,gK l,cG v B);rcases Zt.mp B with rfl|f
        . cases k0 with
          | inl i =>
            ext hF ru;rw[df (zF b d.1.symm)];ext DM i t
          | inr i =>
            ext hF ru;show(iL,show ¬ G1 by rw[<- d.1]; simp);ext DM i t
        . exact m v f
def xtz {X:Cx}{pins:dJ}{Z:St}{H:Hp}{s:Shared}{h1:Heap}{tk:Nat}{Q:VK}{sh:zfx} (es':qy) (I1:wA (yS h1))
    (hl:es'.length<64) (km:∀ x∈es',(dA dY (.tup ((cQ).map kV)))) (shE:∀ x∈es',shp cQ=sh) (hpos:0<sh.length) (hnd:(Wb (λ x=>x.fst) es').Nodup)
    (q:∀(l:Addr) (ts:ztf),si->zFD->(ts.map (·.1)).Pairwise zwc->zDD) :
    wpAny qj X.A.in1 (newList (es'.map λ x=>Zw dY)>>=λ l=>holding [l] (call (.builtin "list.sort") [l] [])>>=λ_=>ret l) (Vx,∃ v,fin=Fin.done (Flow.ret v)/\(S8 v s')) X.xe (yS h1):=by
  show(yF,hz,fA es'.length,Yz (ZX hl cE),O,Vals (es'.map λ x=>V.ref dY) Be,xhx (λ x=>dY) es',I2,I1.lnew (t':=tk) O (js hz));show(cY,wpAny_newList ?_ (js hz));show(cI,fr,d7 h1.objs.size,I1.fresh,gl,(cu,(zlH).get? h1.objs.size,seqObj "list" zvG 0),jj);show(xO,Jv slot_list_sort (hX gl) entry_list_sort ?_ (args_list_sort _));show(cB,J1,I2.lset (l:=h1.objs.size) (its:=Be) (its':=[]) (ys:=[]) (f:=zgu) (t':=tk) xj gl rfl .nil jM,J2,J1.kept (t':=tk) (h':=(((zlH).update h1.objs.size (JO zgu)).push (seqObj "tuple" zvG 0)).push (seqObj "list" #[] 0)) (iI,Mu e));obtain⟨z9,S,n9,r9,ac,e9⟩:=J2.lstM xj;have done:∀(ts:ztf),zFD->(ts.map (·.1)).Pairwise zwc ->
      (S8 zRK (yS,sortedHeap zlH h1.objs.size Be (zmV).toArray)):=by
    intro ts pm pw;have tl:ts.length=es'.length:=HG pm.length_eq
    show(AT,J3,J2.lset (l:=h1.objs.size) (its:=S) (its':=zmV) (ys:=ts.map λ t=>V.ref t.2) (f:=λ_=>(zmV).toArray) (t':=tk) xj e9 rfl (xhx (λ t=>t.2) ts) (tP Za tl hz),xfk,xfk);exact(gZ,zRK,_,J3,q _ ts fr pm pw)
  by_cases few:es'.length<2
  . refine xm0 gl (js few) (eJ,Zo CF)
    have:=done (es'.map λ x=>(cQ,dY)) zfw ?_
    . ext ef Zq this this
    . match es',few with
      | [],_=>ext uj
      | [x],_=>exact Wz _ _
      | _::fh,h=>ext gk h cy
  . refine xlk gl CA (js hl) (c8 s' ab Y)
    obtain⟨b,R,rfl⟩:∃ b R,sh=b::R:=by
      cases sh with
      | nil=>simp at hpos
      | cons b r=>ext DM b r
    rw[ab] at Y;subst Y;have K:∀ x∈es',(oa (iK h1.objs.size (.lst (es'.map λ x=>V.ref dY))) h1.objs.size (.lst []) dY (.tup ((cQ).map kV))):=λx hx=>by
      rw[zQV,zQV];exact km x hx
    show(dG,fs,kt,fl,fm,xvq J2.hok es' K shE);show(sx,U,2<=es'.length,cm,kat_kind (T:=(gV,b,lF "int",lF "str")) kt cm (cG v hv) (zed b) CC)
    . have z:=fm v hv
      cases b with
      | true =>
        show(zDX,"int")
      | false =>
        show(zDX,"str")
    rw[Za];have I:∀ i,KZ->(dS es' yR):=λ i B=>by
      rw[List.getD_eq_getElem?_getD,Zc B];rfl
    have eM:∀ i,KZ->yR∈es':=λ i B=>Zn (I i B);have J:∀ i,KZ->(jv,(Be).getD i .none,dO yR):=λ i B=>by
      rw[List.getD_eq_getElem?_getD,Zf,I i B];rfl
    have G:∀ i j,KZ->j<es'.length->shp (yR).1=shp zHL:=λ i j B C=>(fS,shE _ (eM i B),shE _ (eM j C))
    refine Srt.sort_wp (lt:=λ i j=>lexK (yR).1 zHL) (cC,λ i B=>xnm _,λ i j k B C hk=>xqf zeV (G j k C hk),λ i j B C ne=>xop zeV λ e=>ne ?_) (gE i j B C Q' q') U λ p arr srt=>(qM,Zo CF)
    . have e1:(es'.map (·.1))[i]?=(es'.map (·.1))[j]?:=by rw[Zf,Zf,I i B,I j C]; ext CH some e
      exact (List.getElem?_inj (js B) hnd).mp e1
    . show(lZ,keyLt' _ ((Be).getD i .none) ((Be).getD j .none))
      rw[J i B,J j C];obtain⟨_,ti,ri,oi,ei,_,ni,di⟩:=J2.hok _ _ (K _ (eM i B));obtain⟨_,tj,rj,oj,ej,_,nj,dj⟩:=J2.hok _ _ (K _ (eM j C));have l1:=Vals.length ri;show(cB,l2,Vals.length rj,l3,DF zeV);simp only[Za] at l1 l2 l3;refine kat_lt ei di ej dj ?_;show(cW,K0 kS,xn4 _ _ _ _ 0 zeV ri rj q')
    have pl:∀ i∈p.toList,KZ:=λ i B=>by
      show(Dg,(Array.Perm.mem_iff arr.pm).mp (Array.mem_toList_iff.mp B))
    have:=done (p.toList.map λ i=>((yR).1,dO yR)) ?_ ?_
    . rw[Zq] at this
      have e2:(p.map λ i=>(Be).getD i .none)=(p.toList.map ((λ t:iO × Addr=>Zw t.2)∘zOb)).toArray:=by
        rw[<- Array.toList_inj,Array.toList_map];exact ZF λ i B=>J i (pl i B)
      ext cW e2 this
    . have e3:(es'.map λ x=>(cQ,dY))=(Zz es'.length).map zOb:=by
        refine Q9 (fL i);by_cases c:KZ
        . rw[Zf,I i c,Zf,Ye c]
          rfl
        . rw[Jg CA,Jg kS]
      rw[e3];refine Yp.map _ ?_;show(Dg,Array.Perm.toList arr.pm)
    . rw[Zq,Ja,JN]
      intro i j B C aa;have z:=srt i j aa (by rw[<- arr.sz]; simpa using C);show(cI,gi,Srt.g p i=p.toList[i],Srt.g_at (zWD B),gj,Srt.g p j=p.toList[j],Srt.g_at (zWD C));ext UQ gi gj
inductive xw7 (xs:cA) (H:Hp) (Q:VK):Prop
 | mk (d:Addr) (kvs:fP) (sh:zfx) (e_:xs=[uf]) (r_:M9/\kvs.length<64/\(∀ p∈kvs,shp cO=sh)/\0<sh.length/\∀(l:Addr) (ts:ztf),si->(∀ t∈ts,(dA t.2 (.tup (t.1.map kV))))->(ts.map (·.1)).Perm (kvs.map (·.1))->(ts.map (·.1)).Pairwise zwc->zDD)
def xnq {X:Cx} (hc:mD):RP "sorted" xw7:=by
 ext rS G;obtain⟨d,kvs,sh,rfl,hd,hl,S,M,q⟩:=h;ext FJ ru r d ru;show(uZ,z,K,A,E,dd,xkz I.hok hd);obtain⟨o,es,ep,ho,J,P,N,aa,T⟩:106:=dd;have ln:=Y1 E;have D:es.size=A.length:=by rw[<- J4,N,Za]
 refine Calls.call_function_entry kind_sorted plain_sorted entry_sorted (args_sorted1 _) ?_;unfold Builtin.sorted;ext zp;show(rT,collect (.ref d));show(cY,(kdu_collect (xzt K J P) mF ho (by rw[D,<- ln]; ext gD) (dC h1 tk B keep C)));have U:B.toList=A.map λ x=>Zw dY:=by
  refine Q9 (fL j);obtain⟨i1,i2⟩:=C;by_cases c:j<A.length
  .show(cI,c',j<B.size,tP i1 D c,e,(gC,B,B[j]),JC c');show(cD,en,he,hv,i2 j B[j] e);rw[J0,e,hv];have O:gC es.toList en:=cK J0 he
   rw[N,Zf,uC] at O;rw[Zf,uC];have:=ZW.inj O;rw[<- this];rfl
  rw [Jg (by rw[J4,i1,D]; lia),Jg CA]
 rw[U];have I1:iy G H (yS h1):=I.kept keep;obtain⟨km,ke⟩:=x1m E;have R:∀ x∈A,shp cQ=sh:=λ x J=>by
  have m:cQ∈kvs.map (·.1):=zpO ke (fR x J)
  show(cD,p,hp,e,Ze.mp m);rw[<- e];exact S p hp
 refine xtz A I1 (hV ln hl) km R M T λ l ts fr Y pw=>q l ts fr zwg ?_ pw
 .show(me,x,J,Ze.mp (Y.mem_iff.mp ht));exact km x J
 .have:=Y.map (·.1);rw[Zq] at this;ext kC ke this
theorem xlh {κ:Type} [wL]:∀{kvs:iB}{k:κ}{v:V},(cu rH v)->∃ i:Nat,dS kvs (k,v)
 | [],k,v,h=>ij
 | wf,k,v,h=>by
  ext LO
  .ext kN Hv;cases h;show(cU,0,by simp[<- e])
  ext kN AK;show(u0,i,a,xlh h,dc,zTu)
meta def x4r (kvs:dR) (ty:TE):TE:=(zat,∃(k:Key) (v:V),zfW/\(cu rH v)/\Q v H1)
def xqt {X:Cx}{i:Expr}{ty:TE}{x:Str}{p pos:Pos}{D:Addr}{kvs:dR} (hm:LA D) (g:zoP) (hg:tY) (hi:Fq) (hs:NoSl i) (hd:qh) :
    zbJ zfC i (x4r kvs ty):=by
  ext gz j;show(zGr,(thn (xg2 (v:=.ref D) hg hm rfl hd j s Z H (λ v A=>(pY D)/\A=H) I lQ) λ u s1 ⟨1084,x,H1,I1,rx,e1,e2⟩=>?_));subst e1 e2;ext oA u D rx;show(oJ,hi j s1 Z _ _ I1 h,(kU,P,M,y,A,C,E,dM 1083 k v J l q,?_));subst J;show(tL,vs,z,B,xnt C g,L,G,n,(zoG,valueAt vs k,(by rw[<- l]; exact z.val k)));show(cU,B.typeIs,wpAny_getItem_of (xd2 E) B.mapOf G (d9,v,A,C.tok _,n,q))
#check L2
namespace L2
open PySem PySem.Spec PyProof.Rows XL PySem.W
inductive DV where
 | non
 | bl (b:Bool)
 | int (i:Int)
 | str (x:Str)
 | tup (xs:tN)
 | lst (xs:tN)
mutual
def dEq:DV->DV->Bool
 | .non,.non=>true
 | .bl a,.bl b=>a == b
 | .bl a,.int b=>(if a then 1 else 0) == b
 | .int a,.bl b=>a == (if b then 1 else 0)
 | .int a,.int b=>a == b
 | .str a,.str b=>a == b
 | .tup xs,.tup ys=>dEqs xs ys
 | .lst xs,.lst ys=>dEqs xs ys
 | _,_=>false
def dEqs:List DV->List DV->Bool
 | [],[]=>true
 | x::xs,y::ys=>dEq x y&&dEqs xs ys
 | _,_=>false
end
def x4v {a b:Bool} (h:a=true) (k:G1):(a&&b)=true:=ir h k
def xrl {a b:Bool} (h:(a&&b)=true):a=true/\G1:=wJ
def dTT (a b:tN):dEq (.tup a) (.tup b)=dEqs a b:=rfl
def dLL (a b:tN):dEq (.lst a) (.lst b)=dEqs a b:=rfl
mutual
theorem xcq:∀ d,dEq d d=true
 | .non=>rfl
 | .bl _=>beq_self_eq_true _
 | .int _=>beq_self_eq_true _
 | .str _=>beq_self_eq_true _
 | .tup xs=>xe6 xs
 | .lst xs=>xe6 xs
theorem xe6:∀ xs,dEqs xs xs=true
 | []=>rfl
 | x::xs=>x4v (xcq x) (xe6 xs)
end
mutual
def DV.pl:DV->Bool
 | .bl _=>false
 | .tup xs=>pls xs
 | .lst xs=>pls xs
 | _=>true
def pls:List DV->Bool
 | []=>true
 | x::xs=>x.pl&&pls xs
end
mutual
theorem xt2:∀{d e:DV},d.pl=true->e.pl=true->dEq d e=true->d=e
 | .non,.non,_,_,_=>rfl
 | .int a,.int b,_,_,h=>by rw[Qz (a:=a) (b:=b) h]
 | .str a,.str b,_,_,h=>by rw[Qz (a:=a) (b:=b) h]
 | .tup xs,.tup ys,p,q,h=>by
  rw[xld p q h]
 | .lst xs,.lst ys,p,q,h=>by
  rw[xld p q h]
 | .bl _,_,p,_,_=>(Zv p).elim
 | .non,.bl _,_,q,_=>(Zv q).elim
 | .int _,.bl _,_,q,_=>(Zv q).elim
 | .str _,.bl _,_,q,_=>(Zv q).elim
 | .tup _,.bl _,_,q,_=>(Zv q).elim
 | .lst _,.bl _,_,q,_=>(Zv q).elim
 | .non,.int _,_,_,h=>(Zv h).elim
 | .non,.str _,_,_,h=>(Zv h).elim
 | .non,.tup _,_,_,h=>(Zv h).elim
 | .non,.lst _,_,_,h=>(Zv h).elim
 | .int _,.non,_,_,h=>(Zv h).elim
 | .int _,.str _,_,_,h=>(Zv h).elim
 | .int _,.tup _,_,_,h=>(Zv h).elim
 | .int _,.lst _,_,_,h=>(Zv h).elim
 | .str _,.non,_,_,h=>(Zv h).elim
 | .str _,.int _,_,_,h=>(Zv h).elim
 | .str _,.tup _,_,_,h=>(Zv h).elim
 | .str _,.lst _,_,_,h=>(Zv h).elim
 | .tup _,.non,_,_,h=>(Zv h).elim
 | .tup _,.int _,_,_,h=>(Zv h).elim
 | .tup _,.str _,_,_,h=>(Zv h).elim
 | .tup _,.lst _,_,_,h=>(Zv h).elim
 | .lst _,.non,_,_,h=>(Zv h).elim
 | .lst _,.int _,_,_,h=>(Zv h).elim
 | .lst _,.str _,_,_,h=>(Zv h).elim
 | .lst _,.tup _,_,_,h=>(Zv h).elim
theorem xld:∀{xs ys:List DV},pls xs=true->pls ys=true->dEqs xs ys=true->xs=ys
 | [],[],_,_,_=>rfl
 | x::xs,y::ys,p,q,h=>by
  have p:=xrl (a:=x.pl) (b:=pls xs) p;have q:=xrl (a:=y.pl) (b:=pls ys) q;have h:=xrl (a:=dEq x y) (b:=dEqs xs ys) h;rw[xt2 p.1 q.1 h.1,xld p.2 q.2 h.2]
 | [],_::_,_,_,h=>(Zv h).elim
 | _::_,[],_,_,h=>(Zv h).elim
end
theorem xgl {d e:DV}{α:Type}{x y:α} [Et] (p:d.pl=true) (q:e.pl=true) (f:d=e↔x=y):um Cu (x=y):=by
 by_cases c:x=y
 .rw [decide_eq_true c,f.mpr c];exact xcq _
 rw [decide_eq_false c];cases z:Cu with
 | false=>rfl
 | true=>exact absurd (f.mp (xt2 p q z)) c
theorem xjs:∀{xs ys:tN}{e:LY},(zHY,e j=dEq x y)->((Zz (min xs.length ys.length)).all e&&xs.length == ys.length)=zvh
 | [],[],_,_=>rfl
 | [],fh,_,_=>zOm
 | fh,[],_,_=>zOm
 | vZ,pK,e,h=>by
  show(cB,f,xjs (xs:=xs) (ys:=ys) (e:=λ j=>e jQ) (λ j a b ha hb=>h jQ a b (by simpa using ha) Ee),i,h 0 x y rfl rfl);rw[Z6,Z6,(fD,min zuo (ys.length+1)=min xs.length ys.length+1),WA,QO,List.all_map];show _=(dEq x y&&zvh)
  rw[<- f,i];have z:((zuo == ys.length+1):Bool)=(xs.length == ys.length):=by
   rw[JD];simp
  rw[z,Bool.and_assoc];rfl
theorem xji:∀{xs ys:tN},xs.length≠ys.length->dEqs xs ys=false
 | [],[],h=>RJ
 | [],fh,_=>rfl
 | fh,[],_=>rfl
 | vZ,pK,h=>by
  show je (dEq x y&&zvh);rw[xji (xs:=xs) (ys:=ys) (λ z=>h (gK z))];exact Wg _
inductive Dv (K:Zd) (H:Hp):Nat->(fF V DV)
 | non {n:Nat}:iY n .non .non
 | bl {n:Nat}{b:Bool}:iY n yA yA
 | int {n:Nat}{b:Int}:iY n zjr zjr
 | str {n:Nat}{b:Str}:iY n NA NA
 | tup {n:Nat}{a:Addr}{xs:cA}{ds:tN} (ha:zr) (hl:zOI) (h:zCV):iY i0 dH (.tup ds)
 | lst {n:Nat}{a:Addr}{xs:cA}{ds:tN} (ha:qr) (hl:zOI) (h:zCV):iY i0 dH (.lst ds)
section
variable {X:Cx}{pins:List (Addr × Obj)}{Z:St}{H:Hp}{s:Shared}
def xl7 {h:Heap}{a:Addr}{i j:ii} (p:h.IsTuple a i) (q:PlainL h a j):False:=by
 ext w4 o e c p;obtain⟨f,n,b,d,_⟩:83:=q;ext dP e b b;rw[c] at d;ext gk d cE
def xuf {xs ys:tN} (h:zOJ) (f:(zHY,x=y)):xs=ys:=by
 refine Q9 (fL j);by_cases c:j<xs.length
 .rw [uC,Zc cm,f j _ _ uC (Zc cm)]
 rw [Jg cm,Jg cm]
theorem xo4 (I:cL) {n:Nat}{x:V}{d:DV} (h:zWm):∀{m:Nat}{e:DV},(Th x)->d=e:=by
 induction h with
 | non=>ext zbk
 | bl=>ext zbk
 | int=>ext zbk
 | str=>ext zbk
 | @tup n a xs ds ha hl h ih =>
  intro m e b;cases b with
  | @tup m _ ys es hb kl k =>
   show(uq,I.tuple_inj ha hb);refine congrArg DV.tup (xuf cm zWh);have lt:j<xs.length:=by
    show(fj,(Zk.mp f).1)
   exact ih j Ht d mf f (k j Ht e mf b)
  | @lst m _ ys es hb kl k =>
   show(zBo,I.tuple ha,I.list hb)
 | @lst n a xs ds ha hl h ih =>
  intro m e b;cases b with
  | @lst m _ ys es hb kl k =>
   show(uq,I.list_inj ha hb);refine congrArg DV.lst (xuf cm zWh);have lt:j<xs.length:=by
    show(fj,(Zk.mp f).1)
   exact ih j Ht d mf f (k j Ht e mf b)
  | @tup m _ ys es hb kl k =>
   show(zBo,I.tuple hb,I.list ha)
meta def at2 (f:Dz DV DV) (ds es:tN) (j:Nat):Bool:=match ds[j]?,es[j]? with|some d,some e=>f d e|_,_=>false
def xkf {f:Dz DV DV}{ds es:tN}{j:Nat}{d e:DV} (h:gC ds d) (h2:gC es e):at2 f ds es j=f d e:=by
 unfold at2;rw[h,h2]
theorem xm9 (I:cL) {n:Nat}{x:V}{d:DV} (h:zWm):∀{m:Nat}{y:V}{e:DV},(Th y)->∀{A:Around}{u v:Value},A.units+n+m<cLine->vi->RelV y v ->
    Z5 A s u v Cu/\ZT A s u v Cu/\ZG A s u v (! Cu):=by
  induction h with
  | @non n =>
    ext O6;show(jp,u=JE,M);cases G with
    | @non  =>
      show(KA,Z5.same _,ZT.none_none,ZG.none_none)
    | @bl _ b2 =>
      show(IO,Z5.none_bool _,ZT.none_bool _,ZG.none_bool _)
    | @int _ b2 =>
      show(sU,Z5.none_int _ _,ZT.none_int _ _,ZG.none_int _ _)
    | @str _ b2 =>
      show(sU,Z5.none_str _ _,ZT.none_str _ _,ZG.none_str _ _)
    | @tup m b ys es hb kl k =>
      show(Om,Z5.none_tuple B cm,ZT.none_tuple B cm,ZG.none_tuple B cm)
    | @lst m b ys es hb kl k =>
      show(Oo,Z5.none_list B.isList cm,ZT.none_list B.isList cm,ZG.none_list B.isList cm)
  | @bl n b1 =>
    ext O6;show(jp,u=YT _,M);cases G with
    | @non  =>
      show(KA,Z5.bool_none _,ZT.bool_none _,ZG.bool_none _)
    | @bl _ b2 =>
      show(IO,Z5.bool_bool _ _,ZT.bool_bool _ _,ZG.bool_bool _ _)
    | @int _ b2 =>
      show(sU,Z5.bool_int _ _ _,ZT.bool_int _ _ _,ZG.bool_int _ _ _)
    | @str _ b2 =>
      show(sU,Z5.bool_str _ _ _,ZT.bool_str _ _ _,ZG.bool_str _ _ _)
    | @tup m b ys es hb kl k =>
      show(Om,Z5.bool_tuple _ B cm,ZT.bool_tuple _ B cm,ZG.bool_tuple _ B cm)
    | @lst m b ys es hb kl k =>
      show(Oo,Z5.bool_list _ B.isList cm,ZT.bool_list _ B.isList cm,ZG.bool_list _ B.isList cm)
  | @int n b1 =>
    ext zTh;cases G with
    | @non  =>
      show(KA,Z5.int_none _ _,ZT.int_none _ _,ZG.int_none _ _)
    | @bl _ b2 =>
      show(IO,Z5.int_bool _ _ _,ZT.int_bool _ _ _,ZG.int_bool _ _ _)
    | @int _ b2 =>
      show(sU,Z5.int_int _ _ _ _,ZT.int_int _ _ _ _,ZG.int_int _ _ _ _)
    | @str _ b2 =>
      show(sU,Z5.int_str _ _ _ _,ZT.int_str _ _ _ _,ZG.int_str _ _ _ _)
    | @tup m b ys es hb kl k =>
      show(Om,Z5.int_tuple _ _ B cm,ZT.int_tuple _ _ B cm,ZG.int_tuple _ _ B cm)
    | @lst m b ys es hb kl k =>
      show(Oo,Z5.int_list _ _ B.isList cm,ZT.int_list _ _ B.isList cm,ZG.int_list _ _ B.isList cm)
  | @str n b1 =>
    ext zTh;cases G with
    | @non  =>
      show(KA,Z5.str_none _ _,ZT.str_none _ _,ZG.str_none _ _)
    | @bl _ b2 =>
      show(IO,Z5.str_bool _ _ _,ZT.str_bool _ _ _,ZG.str_bool _ _ _)
    | @int _ b2 =>
      show(sU,Z5.str_int _ _ _ _,ZT.str_int _ _ _ _,ZG.str_int _ _ _ _)
    | @str _ b2 =>
      show(sU,Z5.str_str _ _ _ _,ZT.str_str _ _ _ _,ZG.str_str _ _ _ _)
    | @tup m b ys es hb kl k =>
      show(Om,Z5.str_tuple _ _ B cm,ZT.str_tuple _ _ B cm,ZG.str_tuple _ _ B cm)
    | @lst m b ys es hb kl k =>
      show(Oo,Z5.str_list _ _ B.isList cm,ZT.str_list _ _ B.isList cm,ZG.str_list _ _ B.isList cm)
  | @tup n a xs ds ha hl h ih =>
    ext O6;show(oA,u,_,M);show(dG,its,r1,D,O,I.tuple ha);have l1:=r1.length;cases G with
    | @non  =>
      show(KA,Z5.tuple_none D cm,ZT.tuple_none D cm,ZG.tuple_none D cm)
    | @bl _ b2 =>
      show(IO,Z5.tuple_bool _ D cm,ZT.tuple_bool _ D cm,ZG.tuple_bool _ D cm)
    | @int _ b2 =>
      show(sU,Z5.tuple_int _ _ D cm,ZT.tuple_int _ _ D cm,ZG.tuple_int _ _ D cm)
    | @str _ b2 =>
      show(sU,Z5.tuple_str _ _ D cm,ZT.tuple_str _ _ D cm,ZG.tuple_str _ _ D cm)
    | @tup m b ys es hb kl k =>
      ext ziq;show(dG,w,r2,B,J,I.tuple hb);have N:=r2.length;have step:(zzM,w.toArray[j],zTT):=λ j h1 G=>by
        ext zyQ
      have all:=xjs (xs:=ds) (ys:=es) (e:=at2 dEq ds es) λj x y h1 G=>xkf h1 G;have both:ZT A s (.ref a) (.ref b) (dEqs ds es)/\ZG A s (.ref a) (.ref b) (!dEqs ds es):=by
        show(cB,O,ZT.tuples (A:=A) (e:=KH) (Xt D) (zGJ B) cm step,J,ZG.tuples (A:=A) (e:=KH) (Xt D) (zGJ B) cm step);ext zAx
        rw[S,Y,all] at O J;ext cU O J
      simp only[dTT,dLL];refine⟨?_,both⟩;by_cases q:a=b
      . subst q
        have ed:DV.tup ds=DV.tup es:=xo4 I (Dv.tup ha hl h) (Dv.tup hb kl k);rw[zBY,xe6];exact Z5.same _
      . ext zWt
    | @lst m b ys es hb kl k =>
      show(Oo,Z5.tuple_list D B.isList cm,ZT.tuple_list D B.isList cm,ZG.tuple_list D B.isList cm)
  | @lst n a xs ds ha hl h ih =>
    ext O6;show(oA,u,_,M);show(dG,its,r1,D,O,I.list ha);have l1:=r1.length;cases G with
    | @non  =>
      show(KA,Z5.list_none D.isList cm,ZT.list_none D.isList cm,ZG.list_none D.isList cm)
    | @bl _ b2 =>
      show(IO,Z5.list_bool _ D.isList cm,ZT.list_bool _ D.isList cm,ZG.list_bool _ D.isList cm)
    | @int _ b2 =>
      show(sU,Z5.list_int _ _ D.isList cm,ZT.list_int _ _ D.isList cm,ZG.list_int _ _ D.isList cm)
    | @str _ b2 =>
      show(sU,Z5.list_str _ _ D.isList cm,ZT.list_str _ _ D.isList cm,ZG.list_str _ _ D.isList cm)
    | @tup m b ys es hb kl k =>
      show(Om,Z5.list_tuple D.isList B cm,ZT.list_tuple D.isList B cm,ZG.list_tuple D.isList B cm)
    | @lst m b ys es hb kl k =>
      ext ziq;show(dG,w,r2,B,J,I.list hb);have N:=r2.length;have step:(zzM,w.toArray[j],zTT):=λ j h1 G=>by
        ext zyQ
      have all:=xjs (xs:=ds) (ys:=es) (e:=at2 dEq ds es) λj x y h1 G=>xkf h1 G;have both:ZT A s (.ref a) (.ref b) (dEqs ds es)/\ZG A s (.ref a) (.ref b) (!dEqs ds es):=by
        ext zAx
        by_cases c:ds.length=es.length
        . show(cB,O,ZT.lists (A:=A) (e:=KH) D.isList B.isList cm cm step,J,ZG.lists (A:=A) (e:=KH) D.isList B.isList cm cm step);have U:(Zz ds.length).all KH=zvA:=by
            rw[<- all,c,Nat.min_self];simp
          rw[S,U] at O J;ext cU O J
        . rw[xji c]
          show(cU,ZT.lists_lengths (A:=A) D.isList B.isList zJH cm,ZG.lists_lengths (A:=A) D.isList B.isList zJH cm)
      simp only[dTT,dLL];refine⟨?_,both⟩;by_cases q:a=b
      . subst q
        have ed:DV.lst ds=DV.lst es:=xo4 I (Dv.lst ha hl h) (Dv.lst hb kl k);rw[zBY,xe6];exact Z5.same _
      . ext zWt
#check _
def Same.seqL {K:Zd}{H H':Hp}{a:Addr}{xs:cA} (s:gg) (h:qr):SqL K H' a xs:=by
 rcases h with (h|⟨ob,h⟩)|h
 .ext zfO zif
 .show(zfN,Hj zif)
 ext fe h
inductive rEqV (K:Zd) (x:V) (y:V) (H:Hp) (Q:VK):Prop
 | mk (n m:Nat) (d e:DV) (e_:zeA) (r_:(dh,iY m y e,n<=9,m<=9,rW Cu))
inductive rNeV (K:Zd) (x:V) (y:V) (H:Hp) (Q:VK):Prop
 | mk (n m:Nat) (d e:DV) (e_:zeA) (r_:(dh,iY m y e,n<=9,m<=9,rW (! Cu)))
inductive rInV (K:Zd) (neg:Bool) (x:V) (y:V) (H:Hp) (Q:VK):Prop
 | mk (n m:Nat) (d:DV) (es:tN) (e_:zeA) (r_:(dh,iY m y (.lst es),n<=9,m<=9,rW (ztO zLX)))
section
variable {X:Cx}
def xhv (hu:O1):OpR X (compareOp .Eq) (rEqV X.K):=by
 intro a s Z H x y u v Q I f c h;obtain⟨n,m,d,e,z,j,B,C,q⟩:=h;exact (xm9 I z j (A:=X.A) cm f c).2.1 X.prog X.w X.xe _ (DE q)
def xe8 (hu:O1):OpR X (compareOp .NotEq) (rNeV X.K):=by
 intro a s Z H x y u v Q I z j h;obtain⟨n,m,d,e,C,B,D,G,q⟩:=h;exact PySem.W.cmp_ofNotEq ((xm9 I C B (A:=X.A) cm z j).2.2 X.prog X.w X.xe _ (DE q))
theorem xpc {α β:Type}{f:zgp}{g:β->Bool}:∀{xs:eI}{ys:List β},zOJ->(∀(j:Nat) (x:α) (y:β),(Mz,xs,x,ys,y,f x=g y))->xs.any f=ys.any g
 | [],[],_,_=>rfl
 | [],fh,h,_=>ij
 | fh,[],h,_=>ij
 | vZ,pK,h,k=>by
  rw[YK,YK,k 0 x y rfl rfl,xpc (xs:=xs) (ys:=ys) wJ λ j a b u q=>k jQ a b (by simpa using u) PD]
meta def eOf (K:Zd) (H:Hp) (m:Nat) (d:DV) (z:V):Bool:=@dite Bool (∃ e,iY m z e) (Classical.propDecidable _) (λ h=>dEq h.choose d) λ_=>false
def xks {pins:dJ}{Z:St}{H:Hp}{s:Shared} (I:cL) {m:Nat}{d e:DV}{z:V} (h:Th z):eOf X.K H m d z=dEq e d:=by
 unfold eOf;rw[dif_pos ⟨e,h⟩];have a:∃ e,Th z:=⟨e,h⟩
 rw[xo4 I a.choose_spec h]
theorem xsv (hu:O1):uW .In (rInV X.K false):=by
 ext zWg P O R S;cases O with
 | @lst m a xs _ ha hl k =>
  cases G;obtain⟨its,r,pl,hz⟩:63:=I.list ha;have get:∀ z∈xs,∃(j:Nat) (e:DV),xs[j]?=some z/\es[j]?=some e/\Dv X.K H m z e:=λz hz=>by
   ext zzl
  refine SeqAt.in_listAt (eU zcG) pl.isList (cG w N) (DE ?_)
  .ext zzf zTt P
  ext zzb
theorem xmp (hu:O1):uW .NotIn (rInV X.K true):=by
 ext zWg R P S T;cases P with
 | @lst m a xs _ ha hl k =>
  cases G;obtain⟨its,r,pl,hz⟩:63:=I.list ha;have get:∀ z∈xs,∃(j:Nat) (e:DV),xs[j]?=some z/\es[j]?=some e/\Dv X.K H m z e:=λz hz=>by
   ext zzl
  refine SeqAt.notIn_listAt (eU zcG) pl.isList (cG w O) (DE ?_)
  .show(zzf,(by simpa using O),R)
  ext zzb
#check _
#check L2
namespace L2
open PySem PySem.Spec PyProof.Rows XL PySem.W
meta def Tp (H H':Hp):Prop:=OC
def Same.tp {H H':Hp} (s:gg):Tp H H':=(vw,s b _ e)
def Tp.trans {H H' H'':Hp} (s:Tp H H') (r:Tp H' H''):Tp H H'':=(vw,r b xs (s b xs e))
def xtf {H:Hp}{l:Addr}{xs ys:cA} (h:FD):Tp H zwv:=λ b zs e=>by
 show(mq,xi (λ z=>zWH h))
section
variable {J:It}{n:Nat}{g:TG}{Z:St}{fr:List Nat}{tc:TT}{te:TE}{l:Addr}{H1:Hp}{Q:VK}
def xlm (len:Nat) (hlen:sv len) (hl:qv) (x:Nat->V) (hgo:∀ i H,N8->zjc->zyn) (hy:∀ i H v H',(dI,N8,zjc,J.yld i H v H',H'=H/\v=x i)) (hst:∀ H,zjc->J.stop len H)
    (p:LY) (F:MP) (stab:HZ)
    (step:∀ i H2,N8->Same H1 H2->∀(N:V->Hp->Prop) (M:Hp->Prop),(∀ y H',Same H2 H'->p i=true->F i y H'->N y H')->zkY ->
      (XG (x i)))
    (fin:(DZ,((Zz len).filter p).length,(∀(j:Nat) (y:V) (i:Nat),Hl ((Zz len).filter p) i Mp))):Mn J:=by
  show(zmJ,len,(dh,nZ,UF,(vC,((Zz i).filter p).length),∀(j:Nat) (y:V) (k:Nat),(Hl,(Zz i).filter p,k,F k y H2)))
  . refine(eD,zX,xj,rfl,λ j y k e=>FA)
    ext mq Us
  . ext znS
    exact hgo i H2 lt s
  . rintro i ys H2 v H3 lt (⟨s,D,B,f⟩:44) G N E
    show(kT,rfl,hy i H2 v H3 lt s G);refine step i H3 lt s _ _ (dC y H' s' pt I) (c8 H' s' pf)
    . have A:=zyb
      have C:sv ys.length:=by
        rw[B];refine Jp Vg ?_;rw[Z9];lia
      show(eW,A,C,E _ _ (eD,zX,xj,?_,dC j z k w q))
      . show(cW,Us,s' _ _ xS)
      . rw[YB,Jq,Zr,Zr,B,Jj pt]
        rfl
      . rw[YB,Jq,Jj pt] at q
        by_cases c:j<ys.length
        . rw[Jd c] at w
          show(ef,Jd cm,q,stab _ _ _ _ ((Same.tp s').trans (xtf A)) (f j z k w q))
        . rw[J8 cm] at w q
          rw[<- B] at q;cases hj:j-ys.length with
          | zero =>
            rw[hj] at w q;simp at w q;subst w q;exact stab _ _ _ _ (xtf A) I
          | succ m =>
            rw[hj] at w;simp at w
    . refine E _ _ (eD,s.trans s',zyb,?_,dC j z k w q)
      . rw[YB,Jq,Jo (gK pf)]
        simpa using B
      . rw[YB,Jq,Jo (gK pf)] at q
        simp only[QW,Ju] at q;exact stab _ _ _ _ (Same.tp s') (f j z k w q)
  . rintro ys H2 (⟨s,D,B,f⟩:44)
    show(cU,hst _ s,fin ys H2 s D B f)
def xd0 {K:Zd}{a:Addr}{xs:cA} (hs:L3) (hlen:Kr) (hl:qv) (p:LY) (F:MP) (stab:HZ)
    (step:∀(i:Nat) (x:V) (H2:Hp),xY->Same H1 H2->∀(N:V->Hp->Prop) (M:Hp->Prop),(∀ y H',Same H2 H'->p i=true->F i y H'->N y H')->zkY ->
      (XG x))
    (fin:(DZ,((Zz xs.length).filter p).length,(∀(j:Nat) (y:V) (i:Nat),Hl ((Zz xs.length).filter p) i Mp))):Mn Al:=by
  refine xlm xs.length hlen hl (λ i=>xs.getD i .non) (λ i H lt s=>(fG,xs,xs[i],zch,mf)) (λ i H v H' lt s y=>?_) (λ H s=>cC xs zch dF) p F stab zIK fin
  . ext rQ f y
    have z:=f xs (Same.seqL s hs);ext pT e;simp[z]
  . show(uz,e,dS xs (xs.getD i .non),gK mf,step i _ H2 e s N M h1 h2)
def xfq {i:Nat}{x:V}{σ0:St}{H2:Hp}{N:ud}{M:zgC}{g:TG}{te:TE} (h:g x σ0 H2 λ σ' H3=>te σ' H3 N):g x σ0 H2 λ σ' H3=>xd4 σ' H3 zlm:=by
 have e:(λ(σ':St) (H3:Hp)=>xd4 σ' H3 zlm)=λ σ' H3=>zua:=by
  funext σ' H3;show (gV,true,zua,M H3)=zua;rw[fH]
 ext rh h
def filter_all (m:Nat):(Zz m).filter Tc=Zz m:=cy
def xbr {K:Zd}{a:Addr}{xs:cA} (hs:L3) (hlen:Kr) (hl:qv) (F:MP) (stab:HZ)
    (step:∀(i:Nat) (x:V) (H2:Hp),znE xY (XM x))
    (fin:DZ xs.length (IR Mp)):Tf Al:=by
  refine xd0 hs hlen hl Tc F stab (λ i x H2 hx s N M h1 h2=>UK (step i x H2 hx s N zlt)) zrN;show(zAa,b,(Zk.mp b).1)
def xpv {lo:Int}{m:Nat} (hlen:sv m) (hl:qv) (p:LY) (F:MP) (stab:HZ)
    (step:∀(i:Nat) H2,i<m->Same H1 H2->∀(N:V->Hp->Prop) (M:Hp->Prop),(∀ y H',Same H2 H'->p i=true->F i y H'->N y H')->zkY ->
      (XG Li))
    (fin:(DZ,((Zz m).filter p).length,(∀(j:Nat) (y:V) (i:Nat),Hl ((Zz m).filter p) i Mp))):Mn (Itr lo m):=by
  exact xlm m hlen hl (λ i=>Li) (λ i H lt s=>lt) (λ i H v H' lt s y=>y) (λ H s=>dF) p F stab (λ i H2 lt s N M h1 h2=>step i H2 lt s N M h1 h2) fin
def xrb {lo:Int}{m:Nat} (hlen:sv m) (hl:qv) (F:MP) (stab:HZ)
    (step:∀(i:Nat) H2,(znE,i<m,XM Li))
    (fin:DZ m (IR Mp)):Tf (Itr lo m):=by
  refine xpv hlen hl Tc F stab (λ i H2 hi s N M h1 h2=>UK (step i H2 hi s N zlt)) zrN;show(zAa,a,(Zk.mp a).1)
#check _
theorem xfi {α:Type}{f:N5}:∀{as:eI}{ys:cA},(vC as.length)->(∀(i:Nat) (y:V) (a:α),L8->zxd->y=f a)->ys=as.map f
 | [],[],_,_=>rfl
 | [],fh,h,_=>ij
 | fh,[],h,_=>ij
 | a::as,pK,h,k=>by
  rw[Zs,k 0 y a rfl rfl,xfi (as:=as) (ys:=ys) wJ λ i b j d c=>k dc b j IZ Bs]
theorem xqp {α:Type} (q:zgp):∀(as:eI) (p:LY),zEl->((BH).filter p).filterMap (λ i=>zjd)=as.filter q
 | [],_,_=>rfl
 | a::as,p,h=>by
  have d:=xqp q as (λ i=>p dc) λ i b hb=>h dc b Ee;rw[Z6,WA];have e:((BH).map Nat.succ).filter p=((BH).filter (λ i=>p dc)).map Nat.succ:=by
   rw[QX];rfl
  have j:=h 0 a rfl;by_cases c:q a=true
  .rw [Jj (cK j c),Jj c,e,JP];simp only[List.getElem?_cons_zero,Wj];rw[<- d];rfl
  rw [Jo (cK j c),Jo c,e,Wj,<- d];rfl
theorem xin {α:Type} (q:zgp) {as:eI}{p:LY} (h:zEl):((BH).filter p).length=(zdO).length/\∀ j i:Nat,(gC ((BH).filter p) i)->as[i]?=zdO[j]?:=by
 rw[<- xqp q as p h];have all:∀ i∈(BH).filter p,∃ a,zxd:=λ i hi=>by
  have:=ZO.mp (ZN.mp hi).1;show(cU,as[i],Zc this)
 generalize (BH).filter p=b at all
 induction b with
 | nil=>exact(d4,λ j i e=>FA)
 | cons i b ih =>
  show(hI,a,c,all i Zm,o,d,ih λ k hk=>all k (Zl _ hk))
  rw[JP,c];show(gX,gK o,iX j k);cases j with
  | zero =>
   ext Ls;exact c
  | succ m=>exact d m k uU
#check L2
namespace XL
open PySem PySem.MeetsSeq PySem.MeetsSeq2 PySem.MeetsSeq3 PySem.SeqAt
open AutoSeq1 (wpAny_loadPart')
#check XL
namespace L2
open PySem PySem.Spec PyProof.Rows XL PySem.W
meta def xu3 (e:Expr):Bool:= !e.ctorIdx.beq 22
def xr3 {e:Expr}{es:iC}{env:Env} (h:xu3 e=true):starEach sD env=(Ol,SE,starEach es env):=by
 cases e<;>first|rfl|cases h
def xv {X:Cx}{e:Expr}{es:iC}{te:TE}{t:TA} (ha:vo) (hr:zfj) (hn:xu3 e=true):zPG:=xa ha hr (xr3 hn)
meta def Np (H H':Hp):Prop:=∀ b u,(∀ xs,u≠HO.lst xs)->qK->(cu,H' b,u)
def Np.trans {H H' H'':Hp} (s:Np H H') (r:Np H' H''):Np H H'':=λ b u n e=>r b u n (s b u n e)
#check L2
namespace XL
open PySem L2
open PyProof.Rows (assign_Tuple)
section
variable {prog:Program}{w:World}{A:Around}{E:Value->Shared->Prop}
theorem xn6 {it t:Addr}{its:ii} (ne:t≠it):∀(n i:Nat) (s:Shared) (Q:jX dw),(zUV t)->zOD->i+n<=its.size ->
    (ztu,h'.IsListIter it t (i+n),it,Q ((its.toList.drop i).take n) kR)->(fQ (draw (.ref it) n))
  | 0,i,s,Q,hit,_,_,q=>by
    show Ac _ _ (pure []);show(jg,(zA,q s.heap hit (ZJ.refl ..)))
  | i0,i,s,Q,hit,ht,le,q=>by
    have lt:i<its.size:=cm
    show Ac _ _ (Kc>>=_);show(cY,W8 hit ht (x:=its[i]) Gp (c8 C v b));show(xO,xn6 ne n dc _ _ v (ht.extBut b.extBut ne) cm λ y m j=>Dw);have e:its.toList.drop i=its[i]::its.toList.drop dc:=yu Y8 lt
    show(Cd,q y (cK (fD,i+i0=dc+n) m) (b.trans j),e,List.take_succ_cons);ext gD
def xi3 {env:Env}{es:iC}{k}{pos:Pos}{t:Addr}{its:ii}{s:Shared}{Q:vh} (hh:wM) (ht:zOD)
    (hn:pJ zpa its.size) (hs:(zpa).findIdx? (·.1)=none)
    (h:∀ h',WP s.heap.objs.size s.heap h'->wpAny lM A (assignInOrder ((zpa).map (·.2)) its.toList) Q E kR) :
    fQ (assign zqr env zjs):=by
  rw[assign_Tuple];refine Zb (Zaf ?_);unfold unpack;rw[hn,hs];ext zvT;have ne:t≠s.heap.objs.size:=by
    ext fO o e ht;exact ZM (Z0 e)
  unfold unpackItems;ext kW;unfold notIterableAtAll;show(F3,ht.typeIs,slot_list_iter.lookup);ext Ai;ext wH;show(xO,YE ht ?_);show(xO,xn6 ne its.size 0 _ _ zE (ht.push _) cm (c8 G C c));rw[show List.take its.size (List.drop 0 its.toList)=its.toList by rw[List.drop_zero]; exact ZZ cy];ext iL cy;have v:G.IsList t its:=(ht.push _).extBut c.extBut ne;show(xO,WH hh C v cy (cG D H));show(y9,Option.isSome_none);show(jg,(h D (iw,q,H b o q (c.extBut b o q AG))))
#check _
section
variable {X:Cx}{pos:Pos}
inductive x4h (K:Zd) (n:Nat) (t:TGs) (v:V) (Z:St) (H:Hp) (Q:pE):Prop
 | mk (a xs) (e_:pY a) (r_:qr/\xs.length=n/\t xs Z H Q)
def xgr {es:iC}{k:Nat}{t:TGs}{n:Nat} (hc:mD) (h:PGs X es t)
    (hn:zWp) (hst:autoParam ((zaB).findIdx? (·.1)=none) vR):PG X zqr (x4h X.K n t):=by
  ext zDZ B z A;show(dG,its,w,pl,hz,I.list z);refine xi3 mF pl.isList (zSx A) hst (cG h' y);show(uz,C,CS j,zEs,h j _ Z H xs _ Q C zTx q)
#check _
#check XL
namespace L2
open PySem PySem.Spec PyProof.Rows XL PySem.W
#check L2
namespace L2
open PySem PySem.Spec PyProof.Rows XL PySem.W PySem.Builtin PySem.Builtin.Str
def xl3 (x y:Str):(d6,U7,x.length+2):=by
 unfold YL;split
 .ext zUp
 split
 .ext zUp
 .have:=StrLaws.occ_length_le x y 0 x.length zvF;rw[length_partsBetween];omega
theorem xl6:∀(l:RN),Vals ((l.map (·.1)).map V.str) zux
 | []=>.nil
 | (x,t)::l=>.cons Ng (xl6 l)
section
variable {prog:Program}{w:World}{A:Around}{E:Value->Shared->Prop}{s:Shared}{x y:Str}{t u:Tok}{Q:Value->Shared->Prop}
def xty (hy:ou y.length 0) (hz:(fA,x.length+2))
    (h:∀(l:RN) (k:Nat),l.map (·.1)=U7->(D7 { s with heap:=zRE,toks:=k })) :
    fQ (BK "str.split" [xJ,.str y u]):=by
  show(cB,v,xl3 x y,go,λ{S:ZL}=>We (prog:=prog) (w:=w) (A:=A) (E:=E) (s:=s) (S:=S) (Q:=Q) F.slot_str_split zxW F.entry_str_split (F.args_str_split_2 _ _) (rest:=[.str y u]));by_cases c:((eA (x.length<y.length))||(eA (strKind x<strKind y)))=true
  . exact go (meets_str_split_cannot_occur x y t u c) (h [(x,t)] s.toks (by unfold YL; rw[kD]; rfl))
  . have d:=zyu
    by_cases f:(zGY).isEmpty=true
    . exact go (meets_str_split_not_found x y t u d hy f) (h [(x,t)] s.toks (by unfold YL; rw[ja,df f]; rfl))
    . have e:U7=partsBetween x zGY y.length:=by unfold YL; rw[ja,dz f]
      rw[e] at v;refine go (meets_str_split_sep x y t u d hy (Jx.mpr f) gQ gQ) ?_;have z:=h (numbered s.toks (YL x y)) (s.toks+(U7).length) (numbered_texts _ _);rw[<- strsFrom_eq,e] at z;ext gD
#check _
section
variable {X:Cx}
def xov:MtR X "str.split" (λ x xs H Q=>∃ a b,(cR,x=.str a,xs=[NA],ou b.length 0,(fA,a.length+2),Vv (ST (.lst ((YL a b).map V.str))))):=by
 intro c s Z H x xs v us Q I C rs h;obtain⟨a,b,rfl,rfl,D,hz,q⟩:85:=h;ext hF C;obtain⟨u,rfl,⟨t',rfl⟩⟩:62:=xcl rs;refine xty D hz (iX l k);have B:=xl3 a b;rw[<- e] at q B;have new:xbb X.prog X.w (upd H s.heap.objs.size (.lst ((l.map (·.1)).map V.str))) zRE s.heap.objs.size (.lst ((l.map (·.1)).map V.str)):=(Hi,by rw[Za]; omega,zux,0,xl6 l,jj)
 exact(EA,I.laid (t':=k) mQ dF new)
def xmz:(zwu,"int",∃(x:Str) (n:Int),(j7,xs,[kE],(cu,PySem.intText? x,n),x.length<=640,rR n)):=by
 ext rS b;show(nU,x,n,rfl,e,hz,q,h);ext zlg;exact KIN.call_text e hz (Vw n)
#check _
theorem xtt {c:Nat}:∀{a b X Y:de},(dI,c∉a,c∉b,a++c::X=b++c::Y,a=b/\X=Y)
 | [],[],X,Y,_,_,h=>(d4,(Yo.inj h).2)
 | [],z::b,X,Y,_,hb,h=>(wC,(Yo.inj h).1,λ e=>hb (e▸Zm))
 | z::a,[],X,Y,ha,_,h=>(wC,(Yo.inj h).1.symm,λ e=>ha (e▸Zm))
 | z::a,y::b,X,Y,ha,hb,h=>by
  show(hI,f,d,Yo.inj h,r1,r2,xtt (λ m=>ha (Zl _ m)) (λ m=>hb (Zl _ m)) d);show(cU,fS f r1,r2)
def xdl {a b:Str} (h:zJh):mx:=by
 obtain⟨a⟩:=a;obtain⟨b⟩:=b;exact congrArg Str.mk (Array.toList_inj.mp h)
def xc9 (c:Nat) (a b:Str) (r:cH):(zm VQ)=a.cps.toList++c::(zm yJ):=by
 show (a++(gU qT)++(yb yJ)).cps.toList=_;show ((a.cps++#[c])++(yb yJ).cps).toList=_;simp
theorem xn1 {c:Nat}:∀{ws vs:cH},MM->(eC,vs≠[],(∀ p∈ws,zpN),(∀ p∈vs,zpN),ZS qT ws=(yb vs),ws=vs)
 | [],_,h,_,_,_,_=>RJ
 | fh,[],_,h,_,_,_=>RJ
 | nK,[b],_,_,_,_,h=>by
  have e:a=b:=h;rw[e]
 | nK,b::b2::r,_,_,ha,_,h=>by
  show(zmQ,a.cps.toList=(zm (b::b2::r)));show(ef,xc9,e,absurd AD (ha a Zm))
 | zew,[b],_,_,_,hb,h=>by
  show(zmQ,(zm zew)=b.cps.toList);show(ef,xc9,e,absurd (by rw[<- e]; simp) (hb b Zm))
 | zew,b::b2::r',_,_,ha,hb,h=>by
  show(zmQ,(zm zew)=(zm (b::b2::r')));rw[xc9,xc9] at e;obtain⟨j,f⟩:=xtt (ha a Zm) (hb b Zm) e;rw[xdl j,xn1 (ws:=a2::r) (vs:=b2::r') cy cy (λ p d=>ha p (Zl _ d)) (λ p d=>hb p (Zl _ d)) (xdl f)]
def xwn (x y:Str):U7≠[]:=by
 unfold YL;split
 .simp
 split
 .simp
 intro e;ext nQ zrV length_partsBetween;simp at this
def xj9 {c:Nat}{ws:cH} (ne:MM) (free:∀ p∈ws,zpN):YL (yb ws) qT=ws :=
 xn1 (xwn _ _) ne (StrLaws.split_free _ _) free (StrLaws.join_split _ _)
#check L2
namespace L2
open PySem PySem.Spec PyProof.Rows XL
open AutoSeq1 (wpAny_loadPart')
#check L2
namespace L2
open PySem PySem.Spec PyProof.Rows XL
def xrk:D2 "list_reverseiterator" "__len__" none:=D4
def xv4:zRA "list_reverseiterator" "list_reverseiterator.__length_hint__":=D4
section
variable {prog:Program}{w:World}{A:Around}{E:Value->Shared->Prop}{s:Shared}
def xv7 {I l:Addr}{i:Int}{Q:xD} (hit:zbo i) (h:zfm):zCA:=by
 show(zzH,hit.typeIs,xrk,xv4);generalize d:("list_reverseiterator.__length_hint__":String)=j
 show(zEe,j,"list_reverseiterator",by subst d; ext mH);subst d;show(cY,YM (T:="list_reverseiterator") (b:=true) hit.typeIs zqb ?_);show(zdZ,absurd c cE);refine Qd CN (λ c=>wC c9 c);show(zdZ,absurd c c9);ext jg h
def xsk {R:Lh} (hh:wM) {I l:Addr}{items:ii} (hne:l≠I) (S:Addr) (hSI:S≠I) (hSl:S≠l) (res:Value) (c₀:Nat) (hit:zbo zph) (hl:zai)
    (hS:zFE) (hn:zqJ)
    (hR:∀ h' tk acc' c',zIq->zOl ->
      zAH->R (UO res) Cz) :
    wpAny lM A.in1 zRc
      (Vx,match fin with|.done f=>R (.ok f) s'|.again c'=>zDh) (λ e s'=>zqN) s:=by
  have D:S∉[I,l]:=yu hSI hSl
  have W:=(Walks.listRev (prog:=prog) (w:=w) (A:=A.in1) hh I l hne items).toS;show(zIA,hit.typeIs);have N:zEd=false:=yu Builtin.List.listSameRef hSI
  show(cI,M,zGx "list",cE,K,zGx "tuple",cE)
  simp only[N,M,K,Wq,ZC,if_false];show(cY,WW hit ?_);show(xO,xv7 hit ?_);ext Hy;have j:zbo (zph-vI):=by simpa using hit
  show(zJY,codeAny_extend_loopS W hn S D res items.size 0 _ #[] c₀ rfl jM (cC jM j hl) hS (ItemsOf.nil _) (gE s' acc' c' H G B));rw[Moved.eq_with H];refine hR s'.heap s'.toks acc' c' (λ b o J C e=>H.heap b o mX e) G B;rcases Zt.mp c with O|c
  . exact J O
  . exact C (Zp.mp c)
def xmy {Q:dE} (hh:wM) {I l:Addr}{items:ii} (hne:l≠I) (hit:zbo zph) (hl:zai) (hn:zqJ)
    (hQ:∀ h' tk acc' c',zdd ->
      (XN zRS)->zAH->(D7 Cz)) :
    fQ (call (.type "list") [NB]):=by
  refine callType_codes (Q₁:=λ D N=>zla D N zgc) F.called_list (F.typeCall_list_1 _) F.entry_list_init
    (code_list_new _ lQ) (c8 D N S)
  show(kT,rfl,S);show(eY,H,(cu,(zgc).get? s.heap.objs.size,(iz,"list",.seq #[])),jj,P,mB I,zaT hit,O,mB l,zaT hl)
  show(ie,hX H,F.args_list_init_2 _ _);show(lZ,do let J <- Builtin.List.listItems (.ref s.heap.objs.size); Builtin.List.listUpdate (.ref s.heap.objs.size) zgu; letGo J.toList.reverse; zmr oY .none);ext kW;unfold Builtin.List.listItems;show(cY,WQ H rfl (Zo ?_));show(lZ,updateSeq s.heap.objs.size zgu>>=λ_=>letGo (Mm).toList.reverse>>=λ_=>zmr oY .none);show(cY,wpAny_updateSeq H rfl ?_);have K:=Jl (JO (λ_=>Mm)) H rfl;have B:sy i4 (cu,((zgc).update s.heap.objs.size (JO (λ_=>Mm))).get? b,o) :=
    (yl,(JM _ _ (JK (Z0 e))).trans AG)
  refine Zb (wpAny_letGo ?_);refine xsk (A:=A.in1) hh hne s.heap.objs.size (JK P) (JK O) .none _ (hit.at (B I)) (hl.at (B l)) K hn λ h' tk acc' c' T M G=>?_;exact(d4,hQ h' tk acc' c' (iw,X,T b o zwW X (B b o e)) M G)
#check _
meta def x5s (K:Zd) (ta:TA):TE:=zRk (zrz,∀ l,qv->(kJ l (lR H1 l xs.reverse)))
section
variable {X:Cx}
def xr6 {a:Expr}{ta:TA}{p p2 pos pos2:Pos} (hc:mD) (hg:Gl X "list") (hm:Cg "list") (hg2:zqI) (hm2:zqH) (ha:Ff)
    (hs:Fb) (hs3:zRh) :
    PE X (Rc "list" [El]) (x5s X.K ta):=by
  ext gz D;refine Yi (xc0 I hg hm PyProof.Rows.Boot.«list» ?_);refine Jf ?_ (fY hs3) rfl;rw[hs3];show(jR,(spliced (Ol,pq El,backTo pos [])));refine Y4 ?_;refine Call_ (xc0 I hg2 hm2 PyProof.Rows.Boot.«reversed» (M6 (kc (Ly pos2 D) us x vs H1 Y r1 q1)));ext znh hq q1 ru;show(dG,its,rv,p,hz,Y.list hq);have G:=rv.length;ext zIw;refine Qm ?_;show(fw,I2,iy D H1 zOT,Y.kept (t':=x.toks) mQ,ae,Heap.IsRevIter zme x.heap.objs.size l Iy,zE,ac,l<x.heap.objs.size,zaT (p.isList),ad,(zme).IsList l its.toArray,p.isList.at (re AG));have f2:=Y.fpOk (Zj x.heap.objs.size) zQh;generalize S:(zOT:Shared)=P at I2;show(cI,J,P.heap.IsRevIter x.heap.objs.size l Iy,hV S ae,T,P.heap.IsList l its.toArray,hV S ad)
  refine xmy mF (ZM ac) J T (Kw ZB) λ h' tk E c' hk af M=>?_;show(eY,I3,iy D H1 { P with heap:=h',toks:=tk },I2.turned (t':=tk) (it:=x.heap.objs.size) zOa zQh (dO f2) (GG f2) (ug (fX f2)) (fX,(fX f2).2),z2,x.heap.objs.size<P.heap.objs.size,zaT J,e1,E.toList.length=xs.reverse.length,by rw[Yx,G]; simpa using M.1)
  show(tG,n0,nL,nC,nP,I2.size_lt (Zj P.heap.objs.size));refine(gZ,.ref P.heap.objs.size,_,I3.adopt n0 I2.sz nL nC nP (zbq (.lst xs.reverse) (Hi,cK Yx hz,E.toList,c',xio e1 (dC j y u ey eu),by simpa using af)),q _ n0);have ag:gC E u:=by simpa using eu
  have lt:zul:=by
    show(Dg,oh ey)
  show(fV,h2,M.2 j u ag,WM lt,ey);show(cD,u',ab,aa,rv.get ey);have U:(ix,its,its.length-1-j,u):=zbg
  rw[<- G,ab] at U;cases U;exact aa
#check _
meta def Itkd (d:Addr) (o:Obj) (kvs:dR):It :=
 (zMY,H'=H/\∃ k x,rE/\v=kV k)
def xu2 {P:Program}{w:World}{K:Zd}{tg:Expr} (d it:Addr) (o:Obj) (kvs:dR) (ep:Nat) (hep:zwQ) :
    (ET,Itkd d o kvs,h.IsKeyIter it d i kvs.length ep) where
  mem:=cy
  obj:=λi h st b p=>by
    show(rY,by simpa using p);ext dG Y T c1 d1 st;ext Ba T d1
  keep:=λ i h h' ⟨1062,Y,T,r⟩ k=>(cC,Y,k it cy _ T,r)
  item:=by
    ext zDx;ext rQ lt G;ext zAl;ext Xe hx
    show(cD,u,hv,ru,j.get hx);rw[B] at st;refine wpAny_pyNext_dict_item st U hv (dC aa h' z f hs);ext zDy f;have I1:CS m:=rC (yq,p,(hs.2 b p).trans g) S R O N M;rw[<- B] at f;exact⟨85,kV k,H,I1,xvm z,(d4,fG k x hx rfl),f,λ b p=>(C b p).1⟩
  done:=by
    ext zDx;ext rQ le G;ext zAl;show(ef,B,st,wpAny_pyNext_dict_end mF st U (zA zpg) (DX p S R O N M))
  self:=zIL
meta def x5h (to:TE):TI:=(Xm,H1 d=some (.dK kvs),∀ ob,R (Itkd d ob kvs) (upd H1 d (.frz ob (.dK kvs))))
section
variable {X:Cx}{o:Expr}{to:TE}{tg:Expr}
def xyt (ho:LV):yI o (x5h to):=by
 ext DD m;show(oJ,zy m,kU v B x M L r1 N ?_);ext zLw N;show(uZ,z,U,vs,G,dd,xj6 L.hok e);obtain⟨ob,es,E,g,ex,C,T,P,Q⟩:106:=id dd;have da:B.heap.DictAt sZ d vs E:=eT 86 ob es g ex C T P Q
 refine wpAny_pyIter_dict U da ?_;have J:zGO B:=L.write (t':=B.toks) (x:=d) (e:=d) zP jF zcT (Hj g) ⟨g,L.hok d _ e⟩;have I4:zGO { B with heap:=B.heap.push (iz,"dict_keyiterator",.fields (zdW zTG E)) } :=
  J.kept (t':=B.toks) mQ
 refine lY B.heap.objs.size [B.heap.objs.size] (qC,zQf M,I4,xu2 d _ ob kvs E ⟨es,C⟩,?_,qb Y,q ob)
 .show(Pj,S,G.length);show Heap.IsKeyIter _ _ d 0 kvs.length E;rw[S];exact zE
 show(sJ,eb,b,B.heap.objs.size,by simpa using Y);exact J.fpOk (Zj _) (J.hok.fresh (Zj _))
#check _
#check L2
namespace L2
open PySem PySem.Spec PyProof.Rows XL
open AutoSeq1 (wpAny_loadPart')
section
variable {M:Model}{A:Around}{E:Value->Shared->Prop}{s:Shared}{env:Env}
def xi2 {pos:Pos}{T:String}{first:dw}{args:hW Bool L7}{keywords:hW (gc Str) L7}{Q:dE}
    (hplain:args.any (·.1)=false) (hkw:keywords.any (·.1.isNone)=false)
    (h:wpAny M A (evalArgs An true args keywords) (λ a s₁=>wpAny M A (call An (first++a.pos) a.kw) Q E s₁) E s) :
    Ob (callWith pos An first args keywords):=by
  unfold callWith;show(xO,Ct h (λ a s₁ b=>Zb (Zaf ?_)) x);simp only[hplain,hkw,Wq];ext zp;exact Zb (Jr b (λ r d c=>Zb (Jc (wpAny_point (Zo c)))) λ_ _ x=>x)
def xon {pos:Pos}{T:String}{e:Expr}{rest:iC}{kws:zts}{Q:dE}
    (h:wpAny M A (spliced zce) (λ vs s₁=>wpAny M A (evalAll ((Oz).map (·.2)))
      (λ kvs s₂=>wpAny M A (call An vs (((Oz).filterMap (·.1)).zip kvs)) Q E s₂) E s₁) E s)
    (he:iA (zce=(Ol SE (zQA rest))))
    (hplain:autoParam ((zce).any (·.1)=false) vR)
    (hall:autoParam ((Oz).all (·.1.isSome)=true) vR)
    (hkw:autoParam ((Oz).any (·.1.isNone)=false) vR) :
    Ob (callWith pos An [] zce Oz):=by
  refine xi2 hplain hkw ?_;rw[he] at h ⊢;exact evalArgs_kwB hall h
#check _
section
variable {prog:Program}{w:World}{A:Around}{E:Value->Shared->Prop}{s:Shared}
theorem xi4 {T newId initId:String}{Bn Bi:Builtin}{args:dw}{kw:zg}{S:ZL}{Q Q₁:dE} (ft:TypeCalled T newId initId)
    (hct:(sP,checkTypeCall T (Hn args),())) (hcn:zTb newId (ziw An))
    (entryN:IP newId Bn) (entryI:IP initId Bi) (g:Meets (Bn (ziw An)) S)
    (h:S A.in1 (wants Q₁ E) s)
    (hnext:∀ obj s₁,Q₁ obj s₁->s₁.TypeIs obj T/\argsOk initId (ziw obj)/\∃ Si,Meets (Bi (ziw obj)) Si/\Si A.in1 (wants (λ r s₂=>r=.none/\Q obj s₂) E) s₁) :
    fQ (call An args kw):=by
  show(GD,c,M,D,ft.mro)
  show(cB,z,ft.made,B,ft.sub);ext zOt;show(lZ,callAny (.type T) _);ext zBf;rw[Around.under_plain (weight_type_call_type T args kw) (units_type_call_type T args kw)];show(cB,P,ft.notType,O,ft.canCreate)
  repeat (any_goals (first|ext gR|ext jf))
  refine Qo (QP ft.plain entryN (YQ hcn (g prog w A.in1 _ s h))) (c8 r s₁ v);cases r with
  | error e=>exact v
  | ok fl =>
    cases fl with
    | ret obj =>
      show(uZ,K,x,Si,L,j,hnext _ _ v);show(cB,H,ft.init.lookup,J,ft.init.bind obj)
      repeat (any_goals (first|ext gR|ext jf))
      refine Qo (QP ft.init.plain entryI (ft.init.check _ _ _ _ _ _ _ _ K x (L prog w A.in1 _ s₁ j))) (c8 G s₂ f);cases G with
      | error e=>exact f
      | ok fl₂ =>
        cases fl₂ with
        | ret r =>
          obtain⟨rfl,N⟩:=f
          repeat (any_goals (first|ext gR|ext jf))
        | _=>exact f.elim
    | _=>exact v.elim
#check _
def xhi (l:Addr) (items:ii) (n:Nat) (dct:jW) (sl:yW) (tc:Tok) :
    Meets (Builtin.«enumerate.__new__» ⟨[lF "enumerate",iS],zJR⟩) (λ_ R s=>(zqi (OK,dct,.seq items n,sl)) /\
      R (.ok (.ret (.ref (OS).objs.size)))
        { s with heap:=(OS).push (iz,"enumerate",.fields zCp) }) :=
  .of_wp λ prog w A R s h=>by
    ext rK D d B C; obtain⟨m,h⟩:=h;show(gT,x,sub_enumerate,v,Heap.IsList (Shared.heap (dW D g d B C)) l items,(vk,m,lS n))
    wp_walk using Qc m
    refine wpAny_stack_any λ st=>Zo ?_;split
    . rename_i c _ _ _ _ _
      cases (c == YS "enumerate")
      . ext zlV
      . ext zlV
    . ext zlV
section
variable {prog:Program}{w:World}{A:Around}{E:Value->Shared->Prop}{s:Shared}
def xro {e it l:Addr}{i:Nat}{items:ii}{x old:Value}{Q:dE}
    (he:ES s.heap wn) (hit:zUV l) (hl:zai) (hx:uI items) (hne:e≠it)
    (hQ:∀ h',IsEnumOut h' e it DN x s.heap.objs.size->h'.IsListIter it l dc ->
      (zIz zrr x)->zVm ->
      (UR,b≠e,b≠it,i4,sV)->(kJ s.heap.objs.size Ul)) :
    SJ (Builtin.«enumerate.__next__» (m7 [.ref e])) (Vx,∃ v,fin=zXm/\Q v s'):=by
  ext rK R d N os;show(rT,zea 2);ext zaH he Ao;show(cY,wpAny_nextOf_list_item hit hl hx (c8 h₁ aa M))
  replace M:ZJ it R h₁:=M
  have Z:ES h₁ wn:=(M.2 e hne).trans he;show(zmz,zea 3);show(zaH,Z,rawInt wn);show(zmz,zea 4);show(zaH,Z,.none);show(zmz,mkInt wn);ext zVF;show(OV,zdz (.ref e) 3 DN,h₁);show(cY,JH Z cy (c8 h₂ Y K))
  replace K:ZJ e h₁ h₂:=K
  replace Y:ES h₂ DN:=Y
  show(OV,setField (.ref e) 4 .none,h₂);show(cY,CZ Y h₃ X J)
  replace J:ZJ e h₂ h₃:=J
  replace X:ES h₃ DN:=X
  show(OV,newTuple [zxb,x],h₃);refine Zb (wpAny_newTuple ?_);have U:ES zEq DN:=Zi _ X;generalize P:zEq=h₄ at U;show(fw,hsz,h₃.objs.size=R.objs.size,nG J.1 K.1 M.1,ae,e<R.objs.size,Z0 he,ai,(cu,h₄.get? R.objs.size,Bq zxb x),zuL P hsz jj,ah,h₄.objs.size=R.objs.size+1,by rw[<- P,Yl,hsz])
  have aj:(UR,b≠e,b≠it,(cu,R.get? b,o),(cu,h₄.get? b,o)):=λ b o c af hb=>by
    show(kC,P,Zi _ (J.extBut b o c (K.extBut b o c (M.extBut b o af hb))))
  have ag:h₄.IsListIter it l dc:=by
    rw[<- P]; show(qL,o,ho,r,(aa.extBut K.extBut (Z2 hne)).extBut J.extBut (Z2 hne),o,Zi _ ho,r)
  show(OV,Builtin.SmallTypes.ownedTupleIsFree (.ref e),h₄);rw[hsz];clear P X J Y K Z M aa hsz h₃ h₂ h₁;ext kW
  . unfold Builtin.SmallTypes.ownedTupleIsFree
    show(cY,JB U rfl (x:=.none) rfl Dw);ext KN;ext RV;show(cY,JB U rfl (x:=old) rfl ?_);show(cY,CZ U h₅ ad G)
    replace G:ZJ e h₄ h₅:=G
    replace ad:IsEnum h₅ e it DN x:=ad
    show(OV,Builtin.SmallTypes.ownedTupleHandOut (.ref e) (.ref R.objs.size),h₅);ext kW
    . unfold Builtin.SmallTypes.ownedTupleHandOut
      show(cY,CZ ad h₆ ac D)
      replace D:ZJ e h₅ h₆:=D
      replace ac:IsEnumOut h₆ e it DN x R.objs.size:=ac
      refine JH ac cy (c8 h₇ ab C)
      replace C:ZJ e h₆ h₇:=C
      replace ab:IsEnumOut h₇ e it DN x R.objs.size:=ab
      show(cY,(wpAny_letGo (Zo (eJ,hQ h₇ ab ?_ ?_ ?_ ?_))))
      . exact ((ag.extBut G.extBut (Z2 hne)).extBut D.extBut (Z2 hne)).extBut C.extBut (Z2 hne)
      . exact C.extBut _ _ (JK ae) (D.extBut _ _ (JK ae) (G.extBut _ _ (JK ae) ai))
      . rw[C.1,D.1,G.1,ah]
      . exact λ b o c af hb=>C.extBut b o c (D.extBut b o c (G.extBut b o c (aj b o c af hb)))
def xho (a v:Value):(sP,checkTypeCall "enumerate" (zaG nK),()):=Cc
def xh7 (a v:Value):zTb "enumerate.__new__" (zaG [lF "enumerate",a]):=Cc
def xgi (a b v:Value):argsOk "object.__init__" (zaG Ds):=by unfold argsOk; ext Hz
def xlg {T newId:String}{self a v:Value} (hl:D2 T "__init__" (va "object.__init__"))
    (hm:Bind.madeBy (.type T)=pure (some newId)) (hne:(some newId != some "object.__new__")=true) :
    Meets (Builtin.«object.__init__» (zaG [self,a])) (λ_ R s=>s.TypeIs self T/\(zfK s)):=by
  refine Meets.of_wp (gE prog w A R s hs);ext GA h hs
  repeat (any_goals (first|ext gR|ext jf))
  ext qg c
def xkc {l:Addr}{items:ii}{tc:Tok}{Q:dE} (hL:zai)
    (h:∀ h',(zHF h')->h'.IsListIter s.heap.objs.size l 0->h'.objs.size=s.heap.objs.size+2 ->
      (sy i4 sV)->(kJ kh kR)) :
    fQ (call (lF "enumerate") [iS] zJR):=by
  obtain⟨⟨c,D,M,J⟩,K,C,⟨n,B⟩⟩:63:=hL
  replace C:c=.type "list":=C
  replace B:M=.seq items n:=B
  subst C B;refine xi4 Zam (xho _ _) (xh7 _ _) F.entry_enumerate_new F.entry_object_init (xhi l items n D J tc) (Q₁:=λ v G=>G.TypeIs v "enumerate"/\Q v G) (jl K) λ v _ hq =>
    ⟨hq.1,xgi v _ _,_,xlg Zam.init.lookup Zam.made cE,hq.1,rfl,hq.2⟩
  have hz:(OS).objs.size=kh:=Yl ..;show _/\_;rw[hz];have H:IsEnum ((OS).push
      zOs) (s.heap.objs.size+1) s.heap.objs.size 1 .none:=by
    have:=Zx OS
      (o:=zOs) rfl
    rw[hz] at this; exact this
  show(gX,hX H,h _ H (jo,_,Zi _ (Zx _ rfl),rfl) (fS Yl hz) λ b o x=>Mu x)
#check _
#check L2
namespace L2
open PySem PySem.Spec PyProof.Rows XL
meta def Ite1 (K:Zd) (a:Addr):It :=
 zBV MS
def xrz {P:Program}{w:World}{K:Zd}{elts:iC}{x1}{tpos:Pos} (e it l:Addr) (hei:e≠it) :
    (RF,uK,Ite1 K l,ziS,e,(∃ old,ES h wn)/\(zeN it l)) where
  mem:=cy
  obj:=λi h st b A=>by
    ext zLD C e1;ext yU A;rcases A with rfl|rfl
    . show(A7,C,Q1 _)
    . ext Ba e1 d1
  keep:=zNL C N (zWT,C,N.at λ o z=>k it cy o z)
  item:=by
    ext zCi;ext kq xs x S R hg;ext zuq ab S;show(cD,u,hu,ru,rv.get R);ext zbH C N;have D:zPF:=hX C
    unfold pyNext;refine Zb (JY (J7 (name:=zsq) D QG
      (Jv QG D F.entry_enumerate_next
        (xro C N p.isList (x:=u) IS hei λ h' O Q hT hsz hk=>Dw) (F.args_enumerate_next_1 _))))
    refine(eJ,wpAny_letOwnedTupleGo_enum (s:=Ul) O (c8 M J G));have ae:mB e:=Z0 C;have aa:s.heap.objs.size≠e:=JK ae;have kk:(Lv,b∉ziS,(cu,M.get? b,o)):=λb o A g=>by
      ext Ii A;exact (G.2 b A.1).trans (hk b o A.1 A.2 g)
    have I1:zHS M:=I.turnedL kk U;ext Os;have hp:(cu,M.get? s.heap.objs.size,Bq zrr u):=(G.2 _ aa).trans hT;refine⟨85,oY,O8 MS x,(X9,[zrr,u],zck iE ru),rfl,
      (zvN,x,Y2 S R,n0),?_,qb A⟩
    . show(cU,hZ zpT,Q.at λ o y=>(G.2 it (Z2 hei)).trans y)
    . obtain⟨o,O⟩:∃ o,i4:=by
        ext dG o1 e1 c1 d1 N;ext yU A;rcases A with rfl|rfl
        . exact hZ C
        . exact hZ e1
      show(oI,ZM (Z0 O),(U b A).1)
  done:=by
    ext zCi;ext cD xs S hl hg;ext zuq ab S;have e1:=rv.length;ext zbH C N;have ad:(zns,(none:B4)=none/\(CS B)):=λ h' R=>⟨rfl,I.turnedL (t':=s.toks) (λb o A g=>by
      ext Ii A;exact R b o A.2 g) U⟩
    have D:zPF:=hX C
    unfold pyNext;refine Zb (JY (J7 (name:=zsq) D QG
      (Jv QG D F.entry_enumerate_next ?_ (F.args_enumerate_next_1 _))))
    show(rT,zea 2);ext zaH C Ao;show(cY,wpAny_nextOf_list_end (I.ok.hd Y) N p.isList kS (fM h' x J ac));ext cD o O Y ac;show(zFi,cC o O Y);show(jg,ad _ J)
  self:=zCs
meta def x2n (K:Zd) (ta:TA) (tk:TE):TI:=(D1,tk Z H1 λ k H2=>∃ a xs,(j7,vs,mj,k=.int 1,SqL K H2 a xs,R zgl H2))
section
variable {X:Cx}{elts:List Expr}{x1:_}{tpos:Pos}
def xwd {a k:Expr}{ta:TA}{tk:TE}{p pos kp:Pos} (hg:zTp) (hm:zTn) (ha:Ff) (hk:PE X k tk) (hs:Fb) :
    PI X uK (.Call (.Name "enumerate" p) nK [(cC,some "start",k,kp)] pos) (x2n X.K ta tk):=by
  ext DD c;refine Yi (xc0 I hg hm PyProof.Rows.Boot.«enumerate» (xon (PU c M H1 I1 S) (fY hs) (fY hs)));refine kws_cons (kM,hk c M Z H1 _ I1 S,u2,d,x2,G,y,r2,Q,kws_nil ?_);ext nU l xs e e2 hq q Q;ext eQ;subst e2;ext FJ P r1 l P;ext kT J r2;show(dG,its,rv,U,Y,y.list hq);refine xkc U.isList (dC h' D h1 hsz A);show(Hh,Wl (s:=zaA) D ?_,I3,iy c G zaA,y.kept (t':=d.toks) A,⟨121,_,zDR,_,_,(qC,G,I3,xrz _ _ l tZ,⟨hZ D,h1⟩,qb E,q)⟩);have x:d.heap.objs.size<=b:=by
    ext yU E;rcases E with rfl|rfl
    . exact JV _ 1
    . exact Zj _
  exact y.fpOk x (y.hok.fresh x)
#check _
def xs7 {K:Zd}{a:Addr}{xs:cA}{g:TG}{tb:TS}{D:Ends}{Z:St}{H:Hp} (Pv:xR) (h0:zU) (hl:zel)
    (hs:zIV MS) (hd:Re) :
    ∃ W:Nat->Nat->St->Hp->Prop,(∃ m,W 0 m Z H)/\∀ i m Z H,xB ->
      ((zgl).stop i H/\tF)\/((zgl).go i H/\(wN,∀ x H',(zgl).yld i H x H'->(C9 N))):=by
  ext Xf v
  . ext zzw
  . ext Xl
meta def numT (n:Nat):Str:=Zg (toString iu)
meta def xm4 (n:Nat):Bool:=(vP).cps.toList.all (λ c=>(eA (48<=c))&&(eA (c<=57)))&&((gO LZ 1)||((gO LZ 2)&&!(eA (cu zOS 48))))&&(eA zFf)
def xif:∀ n,pL->xm4 n=true:=c9
def xjc {n:Nat} (h:pL):∀ c∈zcE,48<=c/\c<=57:=by
 ext zmx;rw[Z8,Z8,J6] at z;intro c a;show(nQ,(ro).1 c a,Z8);show(cU,zaV this,of_decide_eq_true this.2)
def xo0 {n:Nat} (h:pL):zFf:=by
 ext zmx;rw[Z8] at z;exact of_decide_eq_true kO
def xha {n:Nat} (h:pL):LZ=1\/(LZ=2/\zOS≠some 48):=by
 ext zmx;rw[Z8,Z8] at z;show(AT,y,(ro).2,WG,Z8);rcases y with y|⟨y1,y2⟩
 .exact .inl (of_decide_eq_true y)
 show(lW,(jl,of_decide_eq_true y1));simpa using y2
def xdt {n c:Nat} (h:pL) (hc:c<48):c∉zcE:=λ m=>by
 show(fj,xjc h c m)
#check L2
namespace L2
open PySem PySem.Spec PyProof.Rows XL PySem.W PySem.Builtin PySem.Builtin.Str
section
variable {J:It}{n:Nat}{g:TG}{Z:St}{fr:List Nat}{tc:TT}{te:TE}{l:Addr}{H1:Hp}{Q:VK}
def xhg {K:Zd}{a:Addr}{xs:cA} (hs:L3) (hlen:Kr) (hl:qv) (F:Nat->CB) (F0:∀ H,zjc->F 0 [] H) (stab:∀ i ys zs H H',(dI,rD l zs,D6 l,F i ys H,F i ys H'))
    (step:∀(i:Nat) (x:V) (ys:cA) H2,(eC,xY,nZ,UF,F i ys H2,∀(N:ud),(zRW,F dc (ys++[y]) H',XM x)))
    (fin:(DZ,xs.length,F xs.length ys H2)):Tf Al:=by
  show(zmJ,xs.length,(dh,nZ,UF,vC i,F i ys H2))
  . have m:DI zwt:=λb u e=>by
      ext mq Us
    exact(eD,m,xj,rfl,F0 _ m)
  . ext znS
    exact(fG,xs,xs[i],zch,mf)
  . rintro i ys H2 v H3 lt (⟨s,d,j,f⟩:44) ⟨rfl,o⟩ N w
    have p:=o xs (Same.seqL s hs);refine UK (step i v ys H3 p s d f _ (fM y H' s' z));have c:=s' _ _ d;show(eW,c,cm,w _ _ (eD,zX,xj,gK j,stab _ _ _ _ _ c Rj z))
    . show(cW,Us,s' _ _ xS)
    . show(mq,xi nb)
  . rintro ys H2 (⟨s,d,j,f⟩:44)
    show(cU,cC xs zch dF,fin ys H2 s d j f)
#check _
def xb5 (a b:Str):(TH,a++b,a.cps.toList++b.cps.toList):=by
 show (a.cps++b.cps).toList=_;simp
def xv6 (c:Nat) (a:Str):ZS qT nK=a:=rfl
theorem xcu {c:Nat}{w:Str}:∀{ws:cH},MM->(yb ws)++(gU qT)++w=(yb (ws++[w]))
 | [],h=>RJ
 | nK,_=>by
  apply xdl;rw[xb5,xb5];show _=(zm (a::w::[]));rw[xc9];simp[xv6]
 | VQ,_=>by
  have d:=AM znp (xcu (c:=c) (w:=w) (ws:=yJ) cy);change TH ((yb yJ)++(gU qT)++w) (zm (b::(r++[w]))) at d;rw[xb5,xb5] at d;apply xdl;show _=(zm (a::b::(r++[w])));rw[xb5,xb5,xc9,xc9,<- d];simp
def xdd (a:Str):a.length=a.cps.toList.length:=Ur
theorem xf6 {c k:Nat}:∀{ws:cH},(∀ p∈ws,p.length<=k)->(d6,yb ws,ws.length*fC)
 | [],_=>zBW (yb []) fC
 | nK,h=>by
  show(Ag,U2,a.length<=1*fC)
 | VQ,h=>by
  show(cB,i,U2,d,xf6 (c:=c) (k:=k) (ws:=yJ) zWn);rw[xdd] at i d;rw[xdd,xc9,Zr,Z6,Z6,Nat.succ_mul];lia
theorem xjx (s k:Nat):∀(ws:cH) (a:Nat),zJT->ws.foldl (λ n w=>n+w.length+s) a<=a+ws.length*(k+s)
 | [],a,_=>cy
 | w::ws,a,h=>by
  show(cB,i,h w Zm,b,xjx s k ws (a+w.length+s) zRe);rw[WF,Z6,Nat.succ_mul];lia
theorem xqs:∀{ws:cH}{its:dw},Vals (ws.map V.str) its->∃ l:RN,(zxp its)/\l.map (·.1)=ws
 | [],_,.nil=>fR [] rfl
 | w::ws,_,.cons r rs=>by
  ext hF r;show(cD,l,d,b,xqs rs);show(dy,(w,t)::l,fY d,zeP b)
theorem xid {sep:Str}{k:Nat}:∀{ws:cH},(∀ p∈ws,p.length<=k)->(d6,ZS sep ws,ws.length*zdj)
 | [],_=>zBW (ZS sep []) zdj
 | nK,h=>by
  show(Ag,U2,a.length<=1*zdj)
 | VQ,h=>by
  show(cB,i,U2,d,xid (sep:=sep) (k:=k) (ws:=yJ) zWn);have e:(ZS sep VQ).length=a.length+sep.length+(ZS sep yJ).length:=by
   show (a++sep++ZS sep yJ).length=_;rw[xdd,xb5,xb5,Zr,Zr,<- xdd,<- xdd,<- xdd]
  rw[e,Z6,Nat.succ_mul];lia
inductive x44 (x:V) (xs:cA) (H:Hp) (Q:VK):Prop
 | mk (sep:Str) (l:Addr) (ws:cH) (k:Nat) (e_:x=.str sep) (r_:(cR,xs=[iS],uG (.lst (ws.map V.str)),zJT,(fA,ws.length*zdj),Q (.str (ZS sep ws)) H))
section
variable {X:Cx}
theorem xq5:MtR X "str.join" x44:=by
 intro w s Z H x xs v us Q I B rs h;obtain⟨sep,l,ws,k,rfl,rfl,E,z,hz,q⟩:=h;ext hF B;ext FJ C rs l C;obtain⟨_,its,n,vs,e⟩:=I.hok _ _ E;show(cD,ps,rfl,rfl,xqs vs);have G:=xjx sep.length k (ps.map (·.1)) 0 z;have c:tooLong ((ps.map (·.1)).toArray.foldl (·+·.length+sep.length) 0)=false:=by
  ext zCx cm
 show(zCm,QI s sep t,meets_str_join_list sep t l ps c,(jl (vk,e,lS n)));have D:=xid (sep:=sep) z;have b:(glued sep (ps.map (·.1))).length<=sizeLine:=by
  show(cW,QF,Z1 D hz)
 rw[<- QF] at q
 match ps,b,q with
 | [],b,q=>show(cU,b,MZ jG)
 | [p],b,q =>
  rw[QF] at q;exact(HN,.str cO,I,iE)
 | p::p2::r,b,q=>show(cU,b,MZ jG)
#check _
#check L2
namespace L2
open PySem PySem.Spec PyProof.Rows XL PySem.W
meta def gOr (g1 g2:TG):TG:=λ v Z H Q=>g1 v Z H Q\/g2 v Z H Q
def xx3 {X:Cx}{tg:Expr}{g1 g2:TG} (h1:PG X tg g1) (h2:PG X tg g2):PG X tg (gOr g1 g2):=by
 ext Lu b v u;rcases h with h|h
 .exact h1 b s Z H v u Q I r h
 exact h2 b s Z H v u Q I r h
meta def TF:=AS St Hp Str (oG Str)
meta def x46:TF:=λ Z H a Q=>Q a H
meta def tfC (x:Str) (t:TF):TF:=λ Z H a Q=>(E7 (a++x))/\t Z H (a++x) Q
meta def tfE (te:TE) (t:TF):TF:=λ Z H c Q=>te Z H λ v H1=>∃ x:Str,((zvj/\(fA x.length))\/∃ i:Int,v=.int i/\zPX/\x=toString i)/\(E7 (c++x))/\t Z H1 (c++x) Q
section
variable {X:Cx}
meta def PF (X:Cx) (es:iC) (t:TF):Prop:=∀(pins:dJ) (s:Shared) (Z:St) (H:Hp) (out:Str) (Q:oG Str),(dI,cL,fA out.length,t Z H out Q,(sW (joinParts out (evalEach es X.env)) (EP X pins Z λ v H'=>∃ x,zvj/\Q x H')))
def xh9:PF X [] x46:=λ b s Z H a Q I hz h=>joinParts_nil (d9,Vj,H,kY,iE,vX a h) hz
def xbz {x:Str}{j}{pos:Pos}{es:iC}{t:TF} (h:PF X es t):PF X (.Constant kE j pos::es) (tfC x t):=by
 intro b s Z H c Q I hz ⟨d,q⟩;show(jR,(joinParts c ((pq (.Constant kE j pos))::evalEach es X.env)));exact joinParts_cons (Calls.Constant_str ⟨d,h b _ Z H _ Q kY d q⟩)
def xcj {e:Expr}{pos:Pos}{es:iC}{te:TE}{t:TF} (he:vo) (h:PF X es t):PF X (zFR::es) (tfE te t):=by
 intro c s Z H j Q I hz q;show(jR,(joinParts j ((pq zFR)::evalEach es X.env)));refine joinParts_cons (FormattedValue_plain (kc,he c s Z H _ I q,v,D,y,z,w,r1,dW 1063 x B f p));rcases B with⟨rfl,xl⟩|⟨i,rfl,hi,rfl⟩
 .ext zgU A r1;exact formatField_str (λ t' C=>zEj) xl
 ext zgU A r1;exact formatField_int_small hi zEj
def xgw {v1 v2:Expr}{rest:iC}{pos:Pos}{t:TF} (h:PF X zWR t):PE X (.JoinedStr zWR pos) (mo,Q,t Z H QH λ x H'=>Q (.str x) H'):=by
 ext tT a Q q;refine JoinedStr_many (kM,h a s Z H QH _ I cE q,v,j,y,f,c,r1,Od x e b,d9 y f c r1 ?_);ext rh b
#check _
section
variable {X:Cx}
meta def sgnL (x:Str):cA:=x.cps.toList.map λ c=>V.str qT
def xmu (hc:mD):(zxt,∃ x:Str,eX xs [kE] KG (Vv (ST (.lst (sgnL x))))):=by
 ext rS C;ext zuR x K;refine PySem.call_list_str mF x t (λ h' E A P J e it=>?_) (Z1 K cE);have len:A.toList.length=(sgnL x).length:=by
  rw[sgnL,Za];show(Dg,it.1)
 refine(EA,I.laid (t':=E) J dF (zbq (.lst (sgnL x)) (Hi,?_,A.toList,P,xio len (dC j y u D M),uU)))
 .rw [sgnL,Za];have:x.cps.toList.length=x.length:=Ur
  ext wa zhu
 have B:gC A u:=zpU
 show(kq,c,G,O,N,it.2 j u B);rw[sgnL,Zf,J0,O] at D;ext Og D G N
#check _
section
variable {J:It}{n:Nat}{g:TG}{Z:St}{fr:List Nat}{tc:TT}{te:TE}{l:Addr}{H1:Hp}{Q:VK}{α:Type}
def xhz {K:Zd}{a:Addr}{as:eI}{f gv:N5}{q:zgp} (hs:Oi a (as.map f)) (hlen:zXt) (hl:qv)
    (step:∀(i:Nat) (x:α) (H2:Hp),(uI as)->Same H1 H2->∀(N:V->Hp->Prop) (M:Hp->Prop),(∀ H',LL->q x=true->N (gv x) H')->(∀ H',LL->q x=false->M H') ->
      (XG (f x)))
    (fin:zmw (.lst ((zdO).map gv))):Mn Al:=by
  refine xd0 hs (js hlen) hl (λ i=>((zjd).map q).getD false) (Hm,∃ x,(uI as)/\y=gv x) wI (RT z H2 hz s2) (tR H2 s2 el fy)
  . ext FI hz x c;refine step i x H2 c s2 N M (λ H' s e=>hN _ _ s (cK c e) (fR x c)) (λ H' s e=>hM _ s (cK c e))
  . rw[Za] at ly fy
    obtain⟨A,w⟩:=xin q (as:=as) (p:=λ i=>((zjd).map q).getD false) λ i x c=>fY c
    have B:ys=(zdO).map gv:=by
      apply Q9;intro j;rcases Yy j ys.length with lt|o
      . have v:=Zc lt
        have d:j<((BH).filter λ i=>((zjd).map q).getD false).length:=hV ly lt
        have u:=Zc d;show(cD,x,c,C,fy j _ _ v u);rw[v,C,Zf,<- w j _ u,c];rfl
      . rw[Jg o,Jg (by rw[Za,<- A,<- ly]; exact o)]
    rw[B] at el;exact fin H2 s2 el
def xu8 {β:Type}{K:Zd}{a1 a2:Addr}{as:eI}{bs:List β}{f1:N5}{f2:β->V}{gv:α->β->V} (h1:Oi a1 (as.map f1)) (h2:Oi a2 (bs.map f2)) (el:as.length=bs.length) (hlen:zXt) (hl:qv)
    (step:∀(i:Nat) (x:α) (y:β) (p:Addr) (H2:Hp),(eC,uI as,dS bs y,nZ,H2 p=none,∀(N:ud),(∀ H',Same zOp H'->N (gv x y) H')->g pF Sc zOp λ σ' H3=>te σ' H3 N))
    (fin:zmw (.lst ((S2).map λ p=>zxT))):Tf (Itz K a1 a2):=by
  show(Hd,A,S2,as.length,by rw[List.length_zip,<- el,Nat.min_self])
  show(zmJ,as.length,nZ/\UF/\ys=((S2).take i).map λ p=>zxT)
  . show(DM,(iI,Dd hl e),xj)
  . ext znS
    have c:i<bs.length:=cm
    exact(eT,124,_,_,f1 as[i],f2 bs[i],zXk,zXj,zvk,ir Zf uC)
  . rintro i ys H2 v H3 lt (⟨s,e,rfl⟩:43) ⟨p,x,y,j,d,rfl,o,rfl⟩ N C
    have c:i<bs.length:=cm
    show(cB,j,j _ (Same.seqL s h1),d,d _ (Same.seqL s h2));rw[Zf,mf] at j;rw[Zf,uC] at d;cases j;cases d;refine UK (step i _ _ p H2 mf uC s o _ (cG H' s'));have D:oa H2 p (.tup [f1 as[i],f2 bs[i]]) l (.lst (((S2).take i).map λ p=>zxT)):=by
      show(mq,jd o)
    have G:=zyb;show(eW,G,?_,C _ _ (kL,wB b u,xj))
    . rw[Za,Jm]
      lia
    . rw[oH z hl]
      refine s' _ _ ?_;have w:=s _ _ z;ext DB w o
    . have B:i<(S2).length:=cm
      rw[WV,Zc B,Zu,List.getElem_zip];rfl
  . rintro ys H2 (⟨s,e,rfl⟩:43)
    show(gX,(d9,_,_,zXk,zXj,.inl zNj),fin H2 s ?_);rw[e,<- A,ZY]
#check _
#check L2
namespace L2
open PySem PySem.Spec PyProof.Rows XL PySem.W PySem.Builtin PySem.Builtin.Str
meta def ofL (l:de):Str:=⟨l.toArray⟩
def xg3 (l:de):TH (ofL l) l:=gK ofL
section
variable {prog:Program}{w:World}{K:Type} [DecidableEq K] {A:Around}{E:Value->Shared->Prop}{s:Shared}
meta def xcn (xs more:Fw):Fw:=more.foldl (λ a x=>storedH a cQ dY kH) xs
def xod (xs more:Fw) (i:Nat) (x:K × KJ) (h:uI more):xcn xs (more.take dc)=storedH zMP cQ dY kH:=by
 simp[xcn,ZD,h,Yc]
def xpo (xs:Fw) (k:K) (a:Addr) (v:Value):d6 zSz zuo:=by
 unfold storedH;split<;>simp
theorem xgh:∀(more xs:Fw),d6 (xcn xs more) (VC more.length)
 | [],xs=>dF
 | AU,xs=>by
  show(cB,a,xgh r zay,b,xpo xs cQ dY kH);show d6 (xcn zay r) (VC zez)
  lia
theorem xhm:∀(more xs:Fw),((xs++more).map (·.1)).Nodup->xcn xs more=xs++more
 | [],xs,_=>(Ju _).symm
 | AU,xs,h=>by
  have e:zay=xs++[x]:=by
   refine storedH_new (atKey_none_of_get (c8 j p b)) dY kH;rw[Zu,ZH] at h;exact (lE).2 cQ (Ze.mpr (hX,Zn b)) cQ cy rfl
  show xcn zay r=_;rw[e,xhm r (xs++[x]) (cK JG h),JG];rfl
def xrf {knd:HeapKind prog w K}{d a:Addr}{xs:Fw}{k:K}{v:Value}{Q:vh} (hu:knd.room A) (hkey:knd.is s.heap k a) (hm:s.heap.DictOfH knd d xs)
    (hsz:zh) (hQ:(VI,h'.DictOfH knd d zSz,Rm,Q () kR)) :
    fQ (dictSetHashed d dH (knd.hash k) v):=by
  obtain⟨o,es,P,B,N,b,M,C,L⟩:106:=hm;unfold dictSetHashed
  try with_reducible refine Jc ?_
  show(cY,wpAny_dictFind_heap hu hkey B b M C L (fL J) (c8 j p hj))
  . have I:k∉xs.map (·.1):=not_mem_keys_of_get J
    have e:=storedH_new (atKey_none_of_get J) a v;refine Zb (Wc (wpAny_updateDictKeys (hz:=by have e:=size_of_entries M; lia) B b (hQ _ (jB,106,_,_,P+1,Jl _ B (Zad (QQ b _)),N.mapDictKeys _,QQ b _,?_,?_,?_) BI)))
    . rw[e]
      simp[M,entryOfKey]
    . rw[e]
      intro x q;rcases Zy.mp q with q|q
      . exact knd.keeps (C x q) B b BI
      . show(cW,Zp.mp q,knd.keeps hkey B b BI)
    . rw[e,Zu,ZH]
      show(eW,L,cy,λ x q y G z=>I ?_);have G:y∈[k]:=G;show(ef,Zp.mp G,z,z▸q)
  . have e:=storedH_old (atKey_of_get L hj) a v
    show(cY,(Wc (Zb (wpAny_updateDict B b (wpAny_point (hQ _ (jB,106,_,_,P,Jl _ B (Zad zNu),N.mapDict _,zNu,?_,?_,?_) BI))))))
    . rw[e]
      have:=modify_map_putAt (entryOfKey knd) (λ e:DictEntry=>{ e with val:=v }) k v jV L hj;rw[<- M] at this;obtain⟨l⟩:=es;ext So
    . rw[e]
      intro x q;ext gu y G q;unfold putAt;split<;>exact knd.keeps (C y G) B b BI
    . ext fK e keys_map_putAt L
#check _
section
variable {prog:Program}{w:World}{K:Type} [DecidableEq K] {kk:KeyKind prog w K}{A:Around}{E:Value->Shared->Prop}{s:Shared}
theorem xts {α β:Type} [BEq β] [LawfulBEq β] {f:C2}:∀{l:eI}{x:α},Ki->x∈l->(d6 (l.filter λ y=>zWS) 1)
 | y::r,x,h,b=>by
  rw[Zs,ZE] at h;rw[Qs];split
  .rename_i e
   have e:f y=f x:=Qz e;have z:(r.filter λ y=>zWS)=[]:=by
    rw[QB];intro u j q;exact h.1 (Ze.mpr (cC,u,j,(Qz q).trans e.symm))
   rw[z];exact Zj _
  rename_i e
  rcases qP with rfl|b
  .exact absurd (beq_self_eq_true _) e
  exact xts lE b
def x2o {nm:String}{o:Addr}{oo:Obj}{es:qm}{ep:Nat}{more:hW sj KJ}{Q:jX qm} (hoo:zcp o oo) (hd:oo.data=.dict es ep)
    (he:es.toList=more.map (entryOfKey (tupleKind kk))) (his:∀ x∈more,(wP).is s.heap cQ dY) (hh:(zau,(wP).hash cQ)) (h:Q es s) :
    fQ (Builtin.Dict.entriesForEmpty nm o):=by
  unfold Builtin.Dict.entriesForEmpty;show(cY,Jn hoo hd ?_);ext kW;rw[<- Zan];refine QK _ (λ rest _ s'=>s'=s/\∀ e∈rest,e∈es.toList) _ ?_ ?_ _ _ (d4,λ e z=>z)
  . rintro e rest b s' ⟨rfl,mem⟩
    show(fV,j,mem e jb,he,j);ext gu x v j;obtain⟨ox,its,n,C,B,H,G⟩:104:=his x v;have one:¬ (es.filter (·.hash == (entryOfKey (tupleKind kk) x).hash)).size>1:=by
      rw[<- J4,Array.toList_filter,he];have z:=xts hh v;rw[QX,Za];exact Zai.mpr z
    ext kW;show(lZ,Builtin.Dict.quietEq (.ref dY));unfold Builtin.Dict.quietEq;show(cY,JU (T:="tuple") (cC ox C B) F.slot_tuple_eq.lookup Dw);rw[show (ou,(some (Qg "tuple.__eq__"):B4),some (Qg "object.__eq__")) from cE];show(Sn,Bool.not_false);show(zgM,one,(d4,λ e z=>mem e (Zl _ z)))
  . rintro b s' ⟨rfl,_⟩
    ext jg h
def x3d {nm:String}{d o:Addr}{xs more:hW sj KJ}{Q:vh} (hu:(wP).room A) (hdo:d≠o) (hoS:zo o)
    (hd:zEP) (ho:zEc) (hh:xs=[]->(zau,(wP).hash cQ)) (hsz:zMj)
    (hQ:(znb,Q () kR)) :
    fQ (Builtin.Dict.mergeDict nm d o):=by
  obtain⟨od,ao,aq,hod,am,G,af,au,as⟩:106:=id hd;obtain⟨oo,j,ap,C,av,B,P,aa,ac⟩:106:=id ho;have X:more.length=j.size:=by rw[<- J4,P,Za]
  unfold Builtin.Dict.mergeDict;show(iL,(by simpa using hdo));unfold Builtin.Dict.showsAll;show(iL,cK hoS Zv);ext zp;show(cY,Jn C B ?_);have T:∀ Q':jX PUnit,(znb,Q' Wf kR)->wpAny (model prog w) A (forIn (List.range' 0 j.size) Wf λ i (_:PUnit)=>(do
          let l' <- dictEntries o
          match l'[i]? with
            | some e=>do
              holding [e.key,e.val] (dictSetHashed d e.key e.hash e.val)
              let ar <- dictEpoch o
              if (ar != ap)=true then do
                  zSB (toString nm++toString ":source-changed-during-callback")
                  GL Wf
                else GL Wf
            | _=>do
              zSB "internal:dict-merge"
              GL Wf:Sem (ForInStep PUnit))) Q' E s:=by
    intro Q' an;refine QK _ (λ rest _ s'=>∃ h' i,s'=kR/\(cR,rest=List.range' i (j.size-i),i<=j.size,zNG zMP,(cu,h'.get? o,oo),Rm))
      _ ?_ ?_ _ _ (xZ,s.heap,0,cy,jM,hd,C,ZJ.refl _ _)
    . rintro x rest b s' (⟨h',i,rfl,Z,hi,S,J,M⟩:86)
      have ah:i<j.size:=by
        rcases Yy i j.size with h|h
        . exact h
        . show(ef,Nat.sub_eq_zero_of_le h,Z,nomatch Z)
      obtain⟨rfl,Y⟩:x=i/\rest=List.range' dc (j.size-dc):=by
        ext zIs
        rw[e,List.range'_succ] at Z;injection Z with h1 h2
        ext cU h1 h2
      show(cI,ad,x<more.length,cm,ae,ix more x xP,Zc ad);show(cY,Jn J B ?_);rw[entry_at P x,ae];have aj:=aa xP (Qr ad);have ai:(wP).is h' (xP).1 (dO xP):=(wP).keeps aj hod G M;have hz:E7 (xcn xs (more.take x)):=by
        show(fV,e1,xgh (more.take x) xs,Jm,e1);lia
      show(rT,holding [.ref (dO xP),fX xP] (dictSetHashed d (.ref (dO xP)) ((wP).hash (xP).1) (fX xP)));show(xO,xrf hu ai S hz (c8 h2 al ab));have U:(cu,h2.get? o,oo):=(ab.2 o (Z2 hdo)).trans J;show(cY,JI U B ?_);show(zgM,cy,(xZ,h2,x+1,Y,ah,(cK,xod xs more x xP ae,al),U,M.trans ab))
    . rintro b s' (⟨h',i,rfl,Z,hi,S,J,M⟩:86)
      have ak:i=j.size:=by
        rcases Yy i j.size with h|h
        . ext zIs
          rw[e,List.range'_succ] at Z;exact nomatch Z
        . exact Nat.le_antisymm hi h
      rw[ak,<- X,ZY] at S;exact an h' S M
  dsimp only
  split
  . show(cY,Jn hod G ?_)
    split
    . rename_i hemp
      have h0:ao=#[]:=Array.isEmpty_iff.mp hemp;have hx:xs=[]:=by
        rw[h0] at af;exact List.map_eq_nil_iff.mp af.symm
      subst hx;show(cY,x2o C B P aa (hh rfl) ?_);rw[xhm more [] ac] at hQ;split
      . show(cY,(wpAny_updateDictKeysTo hod G (Zo (hQ _ (jB,106,_,_,aq+1,Jl _ hod (Zad (QQ G _)),am.mapDictKeys _,QQ G _,P,(HE,(wP).keeps (aa x hx) hod G BI),ac) BI)) ?_))
        simp only[WE,Nat.zero_add] at hsz;lia
      . rename_i hne
        show(cI,h1,j=#[],Array.isEmpty_iff.mp (by simpa using hne),ag,more=[],Q3.mp (ir X h1));subst ag;show(jg,hQ _ hd (ZJ.refl _ _))
    . ext zyR
  . ext zyR
def xmx (d o:Addr) (hdo:d≠o) (hoS:zo o) :
    MeetsIn prog w (Builtin.«dict.update» (m7,qe uf o)) (λ A R s=>(wP).room A.in1/\∃ xs more,zEP/\zEc/\(xs=[]->(zau,(wP).hash cQ))/\zMj /\
      (znb (zfK kR))) :=
  .of_wp λA R s ⟨1042,z,⟨1085,xs,more,v,b,B,hsz,h⟩⟩=>by
    unfold Builtin.«dict.update»;show(zDF,v.typeIs);show(jR,(pure (d,[Zw o])));ext Ai;show(jR,Builtin.Dict.updateFrom "dict.update" d zjB [] .none);unfold Builtin.Dict.updateFrom;show(ziH,b.typeIs);ext Hy;ext kW;unfold Builtin.Dict.merge;ext kW;unfold Builtin.Dict.readDirectly;show(cY,YM b.typeIs isSubtype_dict_dict ?_);ext y9 Wr;show(cY,JU b.typeIs F.slot_dict_iter.lookup (Zo ?_));ext Sn beq_self_eq_true;ext zp;refine x3d z hdo hoS v b B hsz (ux q j);ext rT zGS;exact Zb (Zo (Zo (vX,.none,h h' q j)))
#check _
meta def xdx (kvs more:fP):fP:=zvX (λ a x=>ziL a)
theorem KT.merge {H:Hp}:∀{more:fP}{ms:qy},KT H more ms->∀{kvs:fP}{xs:qy},EZ->KT H EL (xcn xs ms):=by
 intro more ms r
 induction r with
 | nil=>intro kvs xs q; exact q
 | cons h _ ih =>
  intro kvs xs q;ext kn a c b h;show(zL,q.put _ c b,a);have y:=ih z;rw[<- a] at y;show KT H (xdx (putK kvs _ _) _) (xcn (storedH xs _ _ _) _);ext kC a y
meta def xip (X:Cx) (k:iO):Int:=(Ip).hash k
inductive rUpd (X:Cx) (x:V) (vs:cA) (H:Hp) (Q:VK):Prop
 | mk (a b:Addr) (kvs more:fP) (e_:nW) (r_:(uE,vs=[se],Hs,GS,zKq,kvs=[]->(zau zfY),jA (ziJ more.length),Q .non (j3 H a EL)))
def xva {X:Cx} (hu:Bg):MtM X "dict.update" (rUpd X):=by
 ext zbr K O P;obtain⟨a,b,kvs,more,rfl,rfl,ab,E,hb,Y,hz,q⟩:=h;cases O;show(cD,u,rfl,R,P.one)
 show(US,u=Zw b,R);show(uZ,za,D,xs,j,N,xkz I.hok E);show(uZ,zb,C,B,f,db,xkz I.hok hb);show(cB,S,Y1 j,lb,Y1 f);have U:E7 EL:=by
  show(cB,e1,xgh B xs,e2,Y1 (f.merge j));ext wa zhu
 refine Q5 PySem.F.slot_dict_update N.typeIs PySem.F.entry_dict_update (PySem.F.args_dict_update_2 _ _) (xmx (kk:=sZ) a b ab C) ⟨?_,(m8,xs,B,N,db,fL e,?_,ux dd' hs)⟩
 .show X.A.in1.units<cLine;exact hu
 .ext eQ;have e0:kvs=[]:=Q3.mp S;have z:=Y e0;have em:more.map (λ x=>zfY)=B.map λ x=>(Ip).hash cQ:=by
   have G:∀{l:fP}{m:qy},KT H l m->l.map (λ x=>zfY)=m.map λ x=>(Ip).hash cQ:=by
    intro l m r
    induction r with
    | nil=>rfl
    | cons h _ ih=>rw[Zs,Zs,ih,lD]; rfl
   exact G f
  ext kC em z
 .ext wa zhu
 obtain ⟨J,es,ep,L,h2,h3,h4,_,h5⟩:106:=dd';refine⟨83,.non,_,xfp (ob:=.dT (xdx kvs more)) I (cK E JF) hs ⟨J,L⟩ (dW,U,D,_,(f.merge j).keeps (c8 c ys M),eT 105 J es ep L h2 h3 h4 h5),rfl,q⟩;show(oI,xeo M E o6,M)
#check L2
namespace L2
open PySem
meta def th (a b:Int):Int:=zGa [hashInt a,hashInt b]
def xoa (X:Cx) (a b:Int):xip X zUA=th a b:=by
 unfold xip th;show (zGa ((zUA).map (keyH X.w)))=_;rw[Zs,Zs,YW];unfold keyH
 with_reducible rfl
meta def rimH (w:Nat):gW:=((VS).map (fE,r,th 0 Vc))++((VS).map (fE,r,th (eR+1) Vc))
def xy8:∀ w,w<31->sL->(rimH w).Nodup:=c9
#check L2
namespace XL
open PySem PySem.Spec PyProof.Rows
meta def xp0 (acc:cH) (x:Str):cH:=if acc.any (· == x)=true then acc else Tv
meta def firsts (val:Nat->Str) (i:Nat):cH:=((Zz i).map val).foldl xp0 []
#check XL
namespace L2
open PySem PySem.Spec PyProof.Rows XL
#check L2
namespace XS
open PySem PySem.SetTable
meta def Up (xs:gJ):Prop:=∀ a b,a<b->b<xs.size->xs.getD a 0<xs.getD b 0
def xqz {xs:gJ}{k d e:Nat} (h:k<xs.size):xs.getD k d=xs.getD k e:=by
 simp[QJ,h]
theorem xjl {xs:gJ}{j:Nat} (up:Up xs):∀(fuel lo hi:Nat),hi-lo<=fuel->lo<=hi->hi<=xs.size->(∀ k,k<lo->zuD<j)->(zHZ hi) ->
    (zIm zmj)
  | 0,lo,hi,hf,hl,hs,h1,h2=>by
    ext zNV
  | fuel+1,lo,hi,hf,hl,hs,h1,h2=>by
    unfold below.go;by_cases c:lo<hi
    . rw[kD]
      show(cI,h,BQ<hi,cm,l,lo<=BQ,cm)
      show (let a:=BQ; _)<=_/\_;simp only[];by_cases d:xs.getD BQ j<j
      . rw[df d]
        refine xjl up fuel _ hi cm cm hs (cG k f) h2;rw[xqz (e:=0) cm] at d;rcases Yy k BQ with z|z
        . exact ZX (up k _ z cm) d
        . have:k=BQ:=cm
          ext cW this d
      . ext iL d
        rw[xqz (e:=0) cm] at d;refine xjl up fuel lo _ cm cm cm h1 (c8 k f b);rcases Yy BQ k with z|z
        . exact Yz (Jp (Ww d) (up _ k z b))
        . have:k=BQ:=cm
          rw[this];exact Ww d
    . ext iL c
      ext zNV
def xkd {xs:gJ} (up:Up xs) (j:Nat):zIm Sr :=
 xjl up xs.size 0 xs.size cm cm dF (λ k a=>cm) (λ k h1 h2=>cm)
def xwp {xs:gJ} (up:Up xs) {j i:Nat} (h:dS xs j):below xs j=i:=by
 show(mL,b,Y5.mp h);have g:xs.getD i 0=j:=by simp[QJ,b,e]
 show(kn,n,f,d,xkd up j);rcases Nat.lt_trichotomy Sr i with z|z|z
 .show(ya,d Sr dF cm,up _ i z b)
 .ext gD
 .show(fj,f i z)
def xlr {t:SetTable} (up:Sx) {j i:Nat}:znM↔zWL:=by
 unfold slot;simp only[];constructor
 .intro h
  split at h
  .rename_i c
   cases h;exact Qz c
  ext T4 h
 intro h;rw[xwp up h,zFZ h]
def xkq {t:SetTable} (up:Sx) (dm:zcw) {j:Nat} (h:∀ i:Nat,t.place[i]?≠some j):zn j:=by
 unfold slot;simp only[];rw[if_neg λ c=>h _ (Qz c),dm,if_neg];unfold has;simp
def xyp {t:SetTable} (up:Sx) (dm:zcw) (j:Nat):(zn j)\/∃ i,znM:=by
 by_cases c:∃ i:Nat,zWL
 .obtain ⟨i,f⟩:=c;show(NV,i,(xlr up).mpr f)
 show(eg,(xkq up dm λ i z=>c ⟨i,z⟩))
structure Ps where
 j:Nat
 more:Nat
 i:Nat
 pt:Nat
meta def adv (mask:Nat) (p:Ps):Ps:=if p.more>0 then { p with j:=p.j+1,more:=p.more-1 } else (du,zbP,(Ch zbP)-zbP,zbP,(V3 p.i p.pt).2)
meta def st0 (mask:Nat) (h:Int):Ps:=(du,rV,(Ch rV)-rV,rV,Hc)
meta def way (mask:Nat) (h:Int):Nat->Ps
 | 0=>st0 mask h
 | i0=>ztJ
meta def toP (p:Ps):Probe:=dW p.j p.more p.i p.pt none
theorem xtr (t:SetTable) (p:Ps):t.advance (toP p)=toP (adv t.mask p):=by
 unfold advance adv;by_cases c:p.more>0
 .rw [df (show (Dp).more>0 from c),kD];rfl
 rw [dz (show ¬ (Dp).more>0 from c),ja];rfl
meta def rnd (mask:Nat) (h:Int):Nat->B3
 | 0=>(rV,Hc)
 | oW=>V3 jD Eh
meta def nAt (mask:Nat) (h:Int):Nat->Nat
 | 0=>0
 | oW=>lK+Dt+1
def xkt (mask i:Nat):i<=(Ch i)/\(Ch i)-i<=9:=by
 unfold runEnd;ext om
theorem xlj {mask:Nat}{h:Int}{r:Nat} (e:zJI) :
    ∀ k,k<=Dt->(Cr (lK+k))=(du,jD+k,UG-jD-k,jD,Eh)
  | 0,_=>e
  | fC,hk=>by
    show adv mask (Cr (lK+k))=_;rw[xlj e k cm];unfold adv;rw[df (fD,UG-jD-k>0)];show Ps.mk _ _ _ _=_
    ext iJ
theorem xle (mask:Nat) (h:Int):∀ r,zJI
 | 0=>rfl
 | oW=>by
  have e:=xle mask h r;show adv mask (Cr (lK+Dt))=_;rw[xlj e _ dF];unfold adv;rw[dz (fD,¬ UG-jD-Dt>0)];rfl
theorem xux (mask:Nat) (h:Int):∀ r,lK<=10*r
 | 0=>dF
 | oW=>by
  have:=xux mask h r;show(Ag,xkt mask jD,lK+_+1<=_)
def xuq (mask:Nat) (h:Int) (r k:Nat) (hk:k<=Dt):(Cr (lK+k)).j=jD+k:=by
 rw[xlj (xle mask h r) k hk]
theorem xxy (mask:Nat) (h:Int):∀ r,Eh=Hc / 32 ^ r
 | 0=>(Nat.div_one _).symm
 | oW=>by
  show Eh / 32=_;rw[xxy mask h r,Nat.div_div_eq_div_mul,Nat.pow_succ]
theorem pt_0 (mask:Nat) (h:Int) (r:Nat) (hr:13<=r):Eh=0:=by
 rw[xxy];refine Nat.div_eq_of_lt ?_;have b:Hc<uc:=by
  unfold bits;show(ya,Zal h (BO,(dk 0)<uc),Int.emod_nonneg h (BO,(dk uc)≠0))
 refine ZK b (Z1 (BO,uc<=32 ^ 13) (Nat.pow_le_pow_right cE hr))
meta def lcg (mask:Nat):T0 Nat
 | 0,i=>i
 | nI,i=>(zsZ*5+1) % mW
theorem xqi (mask:Nat) (h:Int):∀ m,zMm=lcg mask m (rnd mask h 13).1
 | 0=>rfl
 | nI=>by
  show (V3,zMm,(rnd mask h (13+m)).2).1=_;unfold leap;rw[pt_0 mask h (13+m) cm,xqi mask h m];rfl
meta def MkOk (mask:Nat):Prop:=mask=7\/mask=31\/mask=127\/mask=511\/mask=2047
meta def met (mask:Nat):dI Nat Nat Nat B3
 | 0,i,a=>(i,a)
 | nI,i,a=>met mask m ((i*5+1) % mW) (a ||| (1 <<< i))
theorem xfo (mask:Nat) (a:Nat):∀ b i,zTi=lcg mask b (lcg mask a i)
 | 0,_=>rfl
 | b+1,i=>by
  show (zTi*5+1) % _=_;rw[xfo mask a b i];rfl
theorem xqu (mask:Nat):∀(n i a s:Nat),(met mask n i a).2.testBit s=true->a.testBit s=true\/∃ m,m<n/\zsZ=s
 | 0,_,_,_,h=>.inl h
 | i0,i,a,s,h=>by
  rcases xqu mask n _ _ s h with z|⟨m,b,e⟩
  .rw [Nat.testBit_or,WG] at z;rcases z with z|z
   .ext eg z
   rw [Nat.one_shiftLeft,Nat.testBit_two_pow] at z;show(fe,(cC,0,W6 _,of_decide_eq_true z))
  show(lW,(kL,1+m,cm));ext mq xfo
theorem xq0 (mask:Nat):∀(n i a:Nat),(met mask n i a).1=lcg mask n i
 | 0,_,_=>rfl
 | i0,i,a=>by
  show (met mask n _ _).1=_;rw[xq0,Nat.add_comm n 1,xfo];rfl
def cov {mask:Nat} (h:zFu) (i:Nat) (hi:i<=mask) (s:Nat) (hs:Ug):∃ m,m<=mask/\zsZ=s:=by
 have b:∀ s,Ug->∃ m,m<mW/\lcg mask m 0=s:=λs hs=>by
  rcases xqu mask mW 0 0 s (tP,h,Nat.testBit_two_pow_sub_one,decide_eq_true (Nat.lt_succ_of_le hs)) with z|z
  .rw [Nat.zero_testBit] at z;cases z
  ext gD
 show(jq,a,j,b i hi);show(jq,c,d,b s hs);show(fV,e,xq0 mask mW 0 0,h,e);by_cases z:a<=c
 .exact (cC,c-a,cm,by rw[<- xfo,(fD,a+(c-a)=c)])
 refine kL zXf cm;rw[<- xfo,(fD,a+zXf=mW+c),xfo,<- e]
theorem x2a (mask:Nat) (h:Int):∀ r,jD<mW
 | 0=>zOE
 | oW=>zOE
def MkOk.met {mask:Nat} (mk:LW):zFu:=by
 rcases mk with rfl|rfl|rfl|rfl|rfl<;>decide +kernel
def xq2 {mask:Nat} (mk:LW) (h:Int) (s:Nat) (hs:Ug):∃ r,oW<SL/\jD=s:=by
 show(qL,m,a,e,cov mk.met _ (Nat.le_of_lt_succ (x2a mask h 13)) s hs,13+m,by unfold turns; lia,fS xqi e)
def xzp {mask:Nat} (mk:LW) (h:Int) (s:Nat) (hs:Ug):∃ n,n<10*SL/\DO=s:=by
 show(cD,r,a,e,xq2 mk h s hs);have:=xux mask h r;show(dy,lK,cm,cK xle e)
def xv1 {t:SetTable}{hashAt:Tx}{h:Int}{f:Nat}{p:Ps} (z:zn p.j):cu (P7 (f+1) Dp) (.empty p.j none):=by
 unfold probe.go;rw[TY (zn,(Dp).j)];rfl
def xzl {t:SetTable}{hashAt:Tx}{h:Int}{f i:Nat}{p:Ps} (z:Ei p.j) (e:zsL):cu (P7 (f+1) Dp) (.candidate p.j i (toP (adv t.mask p))):=by
 unfold probe.go;show(T6,TY (Ei,(Dp).j));rw[zFZ e,xtr];rfl
def xza {t:SetTable}{hashAt:Tx}{h:Int}{f i:Nat}{p:Ps} (z:Ei p.j) (e:hashAt i≠h):(P7 (f+1) Dp)=(P7 f (toP (adv t.mask p))):=by
 conv=>lhs; unfold probe.go
 show(T6,TY (Ei,(Dp).j));rw[if_neg (λ q=>e (Qz q)),xtr]
theorem xnc {t:SetTable} (up:Sx) (dm:zcw) (hashAt:Tx) (h:Int):∀(f n:Nat),(∃ m,n<=m/\m<n+f/\zhp) ->
    ∃ m,n<=m/\(∀ k,n<=k->k<m->∃ i,(Ei,(B7 k).j)/\hashAt i≠h) /\
      (((zRd (.empty xL none))/\zhp) \/
        ∃ i,(zRd (.candidate xL i (toP (B7 nI))))/\(Ei xL)/\zsL)
  | 0,n,du m a b _=>cm
  | f+1,n,du m a b c=>by
    rcases xyp up dm (B7 n).j with z|⟨i,z⟩
    . show(kP,n,dF,λ k x w=>cm,.inl ⟨xv1 z,z⟩)
    . by_cases e:zsL
      . show(kP,n,dF,λ k x w=>cm,.inr (eE,i,xzl z e,z,e))
      . have ne:n≠m:=λ q=>by rw[<- q,z] at c; cases c
        show(ld,A,D,C,B,xnc up dm hashAt h f i0 (eE m cm cm c),(eE,A,cm,c8 k x w,?_))
        . rcases Yy n k with y|y
          . exact C k cm w
          . ext MC k n;ext dy i z e
        . show(cW,xza z e,B)
meta abbrev Row:=Nat × ztt
structure Tab (t:SetTable) (es:zV) (L:TC):Prop where
 pl:t.place.toList=L.map (·.1)
 el:es.toList=L.map (·.2)
 srt:(L.map (·.1)).Pairwise (·<·)
 dm:zcw
 mok:MkOk t.mask
 bd:∀ e∈L,e.1<=t.mask
 rc:∀ e∈L,∃ n,(way t.mask Nz n).j=e.1/\∀ m,m<n->(way t.mask Nz m).j∈L.map (·.1)
variable {t:SetTable}{es:Array (Int × Value)}{L:List Row}
def Tab.size (T:qx):t.place.size=L.length/\es.size=L.length:=by
 constructor
 .rw [<- J4,T.pl,Za]
 rw [<- J4,T.el,Za]
def Tab.at_ (T:qx) (i:Nat):t.place[i]?=(L[i]?).map (·.1):=by
 rw[<- J0,T.pl,Zf]
def Tab.es_ (T:qx) (i:Nat):es[i]?=(L[i]?).map (·.2):=by
 rw[<- J0,T.el,Zf]
def xih {xs:gJ}{k:Nat}{v:Nat} (h:ix xs k v):xs.getD k 0=v:=by
 show(mL,a,Y5.mp h);simp[QJ,a,e]
def Tab.up (T:qx):Sx:=by
 intro a b j d;rw[zgv] at d;have f:a<L.length:=cm
 rw[xih (ir,T.at_,Zc f),xih (ir,T.at_,Zc d)];show(Dg,JN.mp T.srt a b (js f) (js d) j)
def Tab.live (T:qx) {j i:Nat}:znM↔∃ e,zxS/\e.1=j:=by
 rw[xlr T.up,T.at_,Zh]
def Tab.free (T:qx) {j:Nat}:(zn j)↔j∉L.map (·.1):=by
 constructor
 .intro h z
  ext Dm e b c z;show(CQ,q,w,QS.mp b);show(Kg,T.live.mpr (cC,e,nu q w,c),h)
 intro h;refine xkq T.up T.dm λ i z=>h ?_;rw[T.at_,Zh] at z;ext cD e b c z;exact Ze.mpr (cC,e,Zn b,c)
def Tab.some_free (T:qx) (lt:zbA) (h:Int):∃ n,n<zbc/\(zn,(B7 n).j):=by
 refine Qt mX;have all:∀ s,s<=t.mask->s∈L.map (·.1):=λs hs=>by
  refine Qt nY;show(cD,n,d,e,xzp T.mok h s hs);exact c (cC,n,d,by rw[e]; exact T.free.mpr z)
 have:=Wx (n:=t.mask+1) |>.length_le_of_subset (l₂:=L.map (·.1)) (jr,all s (iF,ZO.mp hs))
 rw[Z9,Za] at this;lia
def Tab.absent (T:qx) {h:Int}{m:Nat} (em:zhp) {P:Value->Prop} (seen:∀ k,k<m->∀ i e,(dI,(Ei,(B7 k).j),zxS,Nz=h,¬ P (fX e))):∀ e∈L,Nz=h->¬ P (fX e):=by
 intro e q B p;show(cD,n,d,A,T.rc e q);rw[B] at d A;have lt:n<m:=by
  rcases Nat.lt_trichotomy n m with z|z|z
  .ext gD
  .rw [z] at d;show(ef,d,em,absurd (Ze.mpr (fR e q)) (T.free.mp em))
  exact absurd (A m z) (T.free.mp em)
 show(CQ,C,D,QS.mp q);show(uz,u,zxS,nu C D,seen n lt i e (T.live.mpr (cC e u d.symm)) u B p)
def xol {α:Type} (xs:Array α) (p:Nat) (x:α) (hp:p<=xs.size):(insertAt xs p x).toList=xs.toList.take p++x::xs.toList.drop p:=by
 unfold insertAt;simp[Array.toList_extract,List.extract];exact ZZ cy
def Tab.add (T:qx) {h:Int}{x:Value}{m:Nat} (em:zhp) (be:∀ k,k<m->(B7 k).j∈L.map (·.1)) (jm:xL<=t.mask) :
    ∃ L',L'.Perm ((xL,h,x)::L)/\Tab (t.put xL).1 (insertAt es (t.put xL).2 (h,x)) L'/\(t.put xL).1.mask=t.mask:=by
  generalize S:xL=j at *;have Q:=T.free.mp em;show(kn,N,Y,X,xkd T.up j);show(cI,U,(t.put j).2=below t.place j,rfl,J,(t.put j).1.mask=t.mask,rfl);rw[U];generalize R:zUN=p at *;have pl:p<=L.length:=by ext ef zgv N N
  have O:∀ e∈zgB,e.1<j:=λ e q=>by
    show(CQ,B,K,QS.mp q);rw[Jm] at B;show(Kf,Y i cm,zEp List.getElem_take)
  have B:∀ e∈zgA,j<e.1:=λ e q=>by
    show(CQ,B,K,QS.mp q);rw[List.length_drop] at B;show(nQ,X (p+i) cm (pA zgv),zEp List.getElem_drop);refine Nat.lt_of_le_of_ne this λ z=>Q ?_;rw[z];exact Ze.mpr (fR,e,List.mem_of_mem_drop q)
  have H:(zoQ).Perm ((j,h,x)::L):=by
    show(Sl,(QL (a:=(j,h,x)) (l₁:=zgB) (l₂:=zgA)),Y7)
  refine(eE,zoQ,H,dN ?_ ?_ ?_ ?_ T.mok ?_ ?_,J)
  . show (insertAt t.place zUN j).toList=_
    rw[R,xol _ _ _ N,T.pl,Zu,Zs,Wo,Wp]
  . rw[xol _ _ _ (cK Cm pl),T.el,Zu,Zs,Wo,Wp]
  . rw[Zu,Zs,JX,Wi]
    have D:((zgB).map (·.1)).Pairwise (·<·):=zTq Wo zjf
    have C:((zgA).map (·.1)).Pairwise (·<·):=zTq Wp (List.drop_sublist _ _)
    show(eW,D,⟨qb G,C⟩,fM a ha b G)
    . ext gu e q G
      exact B e q
    . ext gu e q ha
      rcases Zt.mp G with rfl|G
      . exact O e q
      . ext gu M A G
        exact ZX (O e q) (B M A)
  . show (if has t.dummies j then eraseAt t.dummies (below t.dummies j) else t.dummies)=#[]
    rw[T.dm,if_neg];unfold has;simp
  . intro e q
    rcases zLd with rfl|q
    . exact jm
    . exact T.bd e q
  . intro e q
    have more:∀ s,s∈L.map (·.1)->s∈(zoQ).map (·.1):=λs hs=>by
      ext gu M A hs;exact Ze.mpr (fR,M,H.mem_iff.mpr (Zl _ A))
    rcases zLd with rfl|q
    . show(dy,m,S,λ k I=>more _ (be k I))
    . show(qL,n,a,b,T.rc e q,n,a,λ k I=>more _ (b k I))
#check XS
namespace XS
open PySem PySem.SetTable
meta abbrev Own:=Array (Option Nat)
meta def xcs (o:Own) (j:Nat):Bool:=(zoU).isSome
theorem xlw (mask:Nat) (h:Int) (o:Own):∀(fuel r:Nat),(∃ r',r<=r'/\r'<r+fuel/\(zxn,(rnd mask h r').1)) ->
    ∃ n,(dh,lK<=n,cu (zwZ o fuel jD Eh) DO,zxn DO,∀ m,(NN,lK<=m,m<n,zSD))
  | 0,r,du r' a b _=>cm
  | fuel+1,r,du r' a b c=>by
    unfold layClean.free;have I:=xkt mask jD;cases hf:(zcc).find? λ k=>(RS (jD+k)).isNone with
    | some k =>
      simp only[];obtain⟨B,as,bs,e,A⟩:=List.find?_eq_some_iff_append.mp hf;have v:k∈zcc:=ZR hf;have J:=ZO.mp v;show(dZ,w,∀ m,m<=k->(Cr (lK+m)).j=jD+m,λ m hm=>xuq mask h r m cm,(pW,lK+k,cm,(hD,w k dF),?_,c8 m C y))
      . rw[w k dF]
        unfold xcs;revert B;cases RS (jD+k)<;>simp
      . show(zoR,m=lK+d,m-lK)
        rw[w d cm];have x:d∈as:=by
          have al:as.length=k:=by
            have g:ix zcc as.length k:=AD
            rw[Ye] at g
            . exact ZW.inj g
            . have:=zrV
              ext yC this
          have g:ix zcc d d:=Ye cm;rw[e,Jd cm] at g;exact Zn g
        show(zDS,A d x)
    | none =>
      simp only[];have all:=Yk.mp hf;have u:∀ d,d<=Dt->xcs o (jD+d)=true:=λ d hd=>by
        show(zDS,all d (ZO.mpr cm))
      have ne:r≠r':=λ q=>by
        have:=u 0 jM;rw[Nat.add_zero,q,c] at this;cases this
      show(At,n,K,H,G,E,xlw mask h o fuel oW (eE r' cm cm c));show(wv,nx,nAt mask h oW,lK+Dt+1,rfl,(pW,n,cm,H,G,c8 m C y));rcases Yy m (nAt mask h oW) with z|z
      . show(zoR,m=lK+d,m-lK)
        show(cW,xuq mask h r d cm,u d cm)
      . exact E m z y
structure Lay (mask:Nat) (hs:gW) (k:Nat) (o:Own):Prop where
 sz:o.size=mW
 own:∀ j i:Nat,o[j]?=(pi i)->∃ h,i<k/\(dS hs h)/\∃ n,DO=j/\∀ m,m<n->zSD=true
 has:∀ i:Nat,i<k->∃ j:Nat,zXn
 inj:∀ j j' i:Nat,zXn->o[j']?=(pi i)->j=j'
def xdz {o:Own}{j:Nat} (h:j<o.size) (d:gc Nat):gC o (o.getD j d):=by
 rw[JC h];simp[QJ,h]
theorem Lay.room {mask k:Nat}{hs:gW}{o:Own} (Y:Lay mask hs k o) (lt:k<=mask):∃ s,Ug/\(zxn s):=by
 refine Qt mX;have all:∀ s:Nat,s<mW->∃ i:Nat,o[s]?=(pi i):=λs hs=>by
  have z:xcs o s≠false:=λ z=>c (cC s cm z);have g:=xdz (o:=o) (j:=s) (cK Y.sz hs) (some 0);unfold xcs at z;cases e:RS s with
  | none=>rw[e] at z; ext lX z
  | some i=>show(cU,i,fS g e)
 have E:((VR).map λ s=>(o.getD s none).getD 0).Nodup:=by
  rw[YI,Ja];refine JZ.imp_of_mem (λ{a b} A y ne e=>ne ?_) Wx;show(hI,i,q,all a (ZO.mp A),H,x,all b (ZO.mp y));rw[Id A] at q;rw[Id y] at x;show(cB,C,ZW.inj q,B,ZW.inj x);rw[C,B] at e;ext pk i H e;refine Y.inj a b i ?_ ?_
  .rw [Id A,C]
  rw [Id y,B]
 have:=E.length_le_of_subset (l₂:=Zz k) λ i q=>by
  ext gu s v q;show(lO,i,all s (ZO.mp v));obtain⟨_,G,_⟩:62:=Y.own s i q;rw[Id v] at q;rw[ZW.inj q];exact ZO.mpr G
 rw[Za,Z9,Z9] at this;lia
def Lay.more {mask k:Nat}{hs:gW}{o:Own} (mk:LW) (Y:Lay mask hs k o) (lt:k<=mask) {h:Int} (hk:ix hs k h) :
    ∃ j,(cu zUh j)/\Lay mask hs fC A9:=by
  show(cD,s,L,st,Y.room lt);show(cD,r,R,e,xq2 mk h s L);obtain⟨n,_,Q,G,P⟩:64:=xlw mask h o SL 0 (eE,r,jM,cm,cK e st);generalize O:DO=j at *;have H:j<o.size:=by
    refine Qt mX;unfold xcs at G;show(gm,(show cu zoU 0 by simp[QJ,c]),G)
  have M:gC o none:=by
    rw[xdz H (some 0)];unfold xcs at G;revert G;cases zoU<;>simp
  have new:A9[j]?=(pi k):=gK H
  have v:∀ p:Nat,p≠j->A9[p]?=o[p]?:=λ p ne=>Array.getElem?_setIfInBounds_ne (λ z=>ne z.symm);have sz:(A9).size=o.size:=cy
  have K:∀ s,xcs o s=true->xcs A9 s=true:=λs hs=>by
    by_cases c:s=j
    . subst c
      unfold xcs;show(fV,g,xdz (o:=o.setIfInBounds s (some k)) (j:=s) (cK sz H) (some 0),new,g);rw[<- ZW.inj g];rfl
    . unfold xcs at *
      rw[QZ,v s c,<- QZ];exact hs
  show(eW,j,Q,(du,cK sz Y.sz,c8 p i x,cG i x,dC a b i ha hb))
  . by_cases c:p=j
    . subst c
      ext dP new x x;show(kP,h,Wv _,hk,(cC,n,O,λ m J=>K _ (P m jM J)))
    . rw[v p c] at x
      obtain⟨h',a,b,⟨N,d,q⟩⟩:63:=Y.own p i x;show(kP,h',cm,b,(cC,N,d,λ m J=>K _ (q m J)))
  . rcases Yy i k with z|z
    . obtain⟨p,A⟩:=Y.has i z
      have ne:p≠j:=λ q=>by rw[q,M] at A; cases A
      show(cU,p,(cK,v p ne,A))
    . have:i=k:=cm
      ext yp;ext cU j new
  . have C:∀ p i:Nat,p≠j->A9[p]?=(pi i)->i<k:=λ p i ne x=>by
      rw[v p ne] at x;obtain⟨_,a,_⟩:62:=Y.own p i x;exact a
    by_cases ca:a=j<;>by_cases cb:b=j
    . rw[ca,cb]
    . rw[ca,new] at ha
      cases ha;show(Cp,C b k cb hb)
    . rw[cb,new] at hb
      cases hb;show(Cp,C a k ca ha)
    . rw[v a ca] at ha
      show(ef,v b cb,hb,Y.inj a b i ha hb)
def Lay.nil {mask:Nat}{hs:gW}:Lay mask hs 0 (Array.replicate mW none):=by
 refine(du,cy,c8 j i h,λ i h=>absurd h zpj,fM a b i h)
 .show(kN,Array.getElem?_replicate);split at h<;>simp at h
 show(kN,Array.getElem?_replicate);split at h<;>simp at h
def x0g {mask:Nat} (mk:LW) (hs:Array Int) (le:hs.size<=mask):∃ o,(cu,layClean mask hs,o)/\(ztb hs.size o):=by
  unfold layClean;rw[<- Array.foldl_toList];have c:∀(n:Nat) (l:gW) (k:Nat) (o:Own),hs.toList.drop k=l->(ztb k o)->k+l.length=hs.size->∃ b,l.foldl (λ acc h=>do
      let (owner,k) <- acc
      let j <- zwZ owner SL rV Hc
      pure (owner.setIfInBounds j (some k),fC)) (some (o,k))=some (b,hs.size)/\(ztb hs.size b):=by
    intro _ l
    induction l with
    | nil =>
      intro k o _ Y e;rw[WE,Nat.add_zero] at e;ext eQ;ext wc o Y
    | cons h l ih =>
      intro k o d Y e;rw[Z6] at e;have v:ix hs.toList k h:=by
        have:=congrArg (·[0]?) d;ext So
      show(tL,j,f,x,Y.more mk cm v,b,q,w,ih fC A9 (by rw[<- List.drop_drop,d]; rfl) x cm);show(eW,b,?_,w);rw[WF];rw[<- q]
      ext iJ
      show (do let j <- zUh; pure (A9,fC))=_;rw[f];rfl
  show(qL,o,q,Y,c 0 hs.toList 0 _ rfl Lay.nil cy,o,fY q,Y)
def xqh {mask i:Nat} (h:i<=mask):(Ch i)<=mask:=by
 unfold runEnd;ext om
theorem xp1 (mask:Nat) (h:Int):∀ n,DO+(NJ).more<=mask
 | 0=>by
  show rV+((Ch rV)-rV)<=mask;have:rV<mW:=Nat.mod_lt (bits h) (W6 mask);show(ya,xkt mask rV,xqh (mask:=mask) (i:=rV) cm)
 | i0=>by
  have a:=xp1 mask h n;show (ztJ).j+(ztJ).more<=mask;unfold adv;split
  .show DO+1+((NJ).more-1)<=mask;lia
  show OY+((Ch OY)-OY)<=mask;have l:OY<mW:=Nat.mod_lt _ (W6 mask);generalize OY=i at *;show(ya,xqh (mask:=mask) (i:=i) cm,xkt mask i)
def xtn (mask:Nat) (h:Int) (n:Nat):DO<=mask:=by
 show(fj,xp1 mask h n)
theorem xnx {α β:Type}{f:ztZ}{g:C2}:(VA,(∀ x∈l,f x=some (g x))->l.filterMap f=l.map g)
 | [],_=>rfl
 | x::l,h=>by
  rw[JP,h x jb,xnx zUE];rfl
def x5f {mask:Nat} (mok:LW) (es:zV) (le:es.size<=mask) (finger moves:Nat) (led plain:Bool) :
    ∃ t' order L',laid mask finger moves led plain (es.map (·.1))=some (t',order)/\(L'.map (·.2)).Perm es.toList/\Tab t' (order.filterMap (es[·]?)) L'/\t'.mask=mask/\(eX,t'.led,led,t'.moves=moves,t'.plain=plain):=by
  obtain⟨o,eo,Y⟩:62:=x0g mok (es.map (·.1)) (cK Array.size_map le);rw[Array.size_map] at Y;have q:∀ j k,(j,k)∈((VR).filterMap λ j=>(zcv).map (j,·))↔o[j]?=(pi k):=λ j k=>by
    rw[Yj];constructor
    . ext wW a O e
      rw[Zh] at e;ext cD S R Q e;cases Q;rw[Id O,R]
    . intro e
      have T:j<mW:=by
        show(kC,Y.sz,(Y5.mp e).1)
      show(ie,j,ZO.mpr T);rw[xdz (cK Y.sz T) none] at e;rw[zyt];rfl
  have srt:(((VR).filterMap λ j=>(zcv).map (j,·)).map (·.1)).Pairwise (·<·):=by
    rw[List.map_filterMap,List.pairwise_filterMap];refine List.pairwise_lt_range.imp λ{a b} ab x X y U=>?_;simp only[Option.map_map,Zh] at X U;obtain⟨_,_,rfl⟩:62:=X;obtain⟨_,_,rfl⟩:62:=U;exact ab
  have G:(((VR).filterMap λ j=>(zcv).map (j,·)).map (·.2)).Nodup:=by
    rw[YI,Ja];have p1:=Ja.mp srt;refine JZ.imp_of_mem (λ{a b} O hb lt e=>?_) p1;ext hI j k a J S b;ext pk k S e;have:=Y.inj j J k ((q j k).mp O) ((q J k).mp hb);have lt:j<J:=lt;lia
  generalize hl:((VR).filterMap λ j=>(zcv).map (j,·))=live at *;have I:∀ B∈live,B.2<es.size:=λ B h=>by
    obtain⟨_,a,_⟩:62:=Y.own B.1 B.2 ((zrP).mp h);exact a
  refine⟨106,{ mask,place:=(live.map (·.1)).toArray,dummies:=#[],finger,led,moves,plain },(live.map (·.2)).toArray,zJB,?_,?_,?_,rfl,rfl,lQ⟩
  . unfold laid
    rw[eo];show (cu,some _,_);rw[hl]
  . have Z:(live.map (·.2)).Perm (Zz es.size):=by
      refine (List.perm_ext_iff_of_nodup G Wx).mpr (fL k);ext MA ZO Ze
      . show(wW,B,h,rfl)
        exact I B h
      . intro h
        obtain⟨j,hj⟩:=Y.has k h;show(DM,(j,k),(q j k).mpr hj)
    have R:(zJB).map (·.2)=(live.map (·.2)).map zRi:=by
      ext zio
    have Q:es.toList=(Zz es.size).map zRi:=by
      refine QM cy (c8 i h1 h2);have h3:i<es.size:=zbh
      simp[QJ,h3]
    rw[R,Q];exact Z.map _
  . refine(nh,?_,?_,?_,mok,cG e K,cG e K)
    . ext yo
    . rw[Zq,Array.toList_filterMap,List.toList_toArray,Wj]
      have:∀ B∈live,((es[·]?)∘λ x:B3=>eP) B=some (es.getD B.2 zxh):=λ B h=>by
        show es[B.2]?=_;rw[JC (I B h)];simp[QJ,I B h]
      rw[xnx this];rfl
    . ext cW Zq srt
    . ext gu B h K
      show(nQ,(Y5.mp ((zrP).mp h)).1,Y.sz);show B.1<=mask;lia
    . ext gu B h K
      obtain⟨C,a,b,⟨n,c,d⟩⟩:63:=Y.own B.1 B.2 ((zrP).mp h);have eh:(zpW).1=C:=by
        rw[J0,Array.getElem?_map,JC a] at b;have:=ZW.inj b;simp[QJ,a];exact this
      show ∃ n,(way mask (zpW).1 n).j=B.1/\_;rw[eh];show(eW,n,c,cG m hm);show(cB,H,d m hm,wl,xtn mask C m);show zbw∈_;unfold xcs at H;have g:=xdz (o:=o) (j:=zbw) (pA Y.sz) (some 0);cases e:RS zbw with
      | none=>ext gm e H
      | some k =>
        rw[e] at g;rw[Zq];exact Ze.mpr (fR,(zbw,k),(q _ _).mpr g)
#check XS
namespace XS
open PySem PySem.Spec PySem.SetTable
section
variable {prog:Program}{w:World}{K:Type} [DecidableEq K] {knd:KeyKind prog w K}{A:Around}{E:Value->Shared->Prop}{s:Shared}
theorem xpu (n:Nat) {v:Value} (h:zmN):(sP,ofAClassStatement n v,false):=by
 cases n<;>cases v<;>first|rfl|ext zWw
def xls {ks:sj}{a:Addr}{Q:xD} (hk:zws) (h:zfm):fQ (ofAClassStatement 8 dH):=by
 have B:=hk.typeIs;obtain⟨o,c,n,m,z,x,q⟩:104:=hk;delta ofAClassStatement;show(cY,wpAny_typeOf_ref m ?_);rw[z];show(jR,((gV,"tuple" == "tuple",zwI,isSubtype (.type "tuple") (lF "tuple"))>>=_));ext VH;ext zp;show(cY,WQ m x ?_);show(zAv,zTU zVL,Hg q.byValue)
 .ext zQH v j;set_option smartUnfolding false in show(lZ,ofAClassStatement 7 v>>=_);rw[xpu _ (hall v Zm)];ext zp;show(jg,Hg zKZ)
 ext zHB j;subst j;ext jg h
def x3t {ks:sj}{a:Addr}{Q:xD}{stored:dw} (hk:zws) (hs:∀ y∈stored,zmm) (h:zfm):fQ (searchCouldBeSeen (.ref a) stored):=by
 unfold searchCouldBeSeen;ext kW;refine QK _ (λ rest r s'=>(zTU,∀ y∈rest,zmm)) _ ?_ ?_ _ _ (Hg hs)
 .ext zQH y d;show(kq,ks',b,rfl,j,hall _ Zm);have nx:∀ u∈rest,∃ ks' b,(jv u b)/\(wT s'.heap ks' b):=λ u hu=>hall u (Zl _ hu);simp only[];by_cases c:(M8||carriedByValue (.ref a)&&carriedByValue (.ref b))=true
  .rw [kD];show(jg,Hg nx)
  rw [ja];ext zGT hk;ext zGT j;show(cY,xls hk ?_);ext wH;show(cY,xls j ?_);ext wH;show(jg,Hg nx)
 ext zHB d;subst d;ext jg h
#check _
section
variable {prog:Program}{w:World}{K:Type} [DecidableEq K] {knd:KeyKind prog w K}{A:Around}{E:Value->Shared->Prop}{s:Shared}
meta def xg7 (es:zV) (i:Nat):Int:=(es[i]?.map (·.1)).getD 0
theorem xnj {d a:Addr}{o:Obj}{es:zV}{ep:Nat}{t:SetTable}{L:TC}{k:sj}{Q:jX SetFound} (T:qx) (ho:wF) (hd:OX) (hf:zLY)
    (hu:zsh) (hk:xH k a) (keys:zBy)
    {n0:Nat} (he:zn (Rn n0)) (hn0:n0<zbc)
    (yes:(∃ e∈L,∃ b,zst/\(xH k b))->Q (.there none) s)
    (no:∀ m,(zn (Rn m))->(∀ i,i<m->zax∈L.map (·.1))->(∀ e∈L,zKF)->Q (.free (Rn m) false) s) :
    ∀(fuel n:Nat) (stand:gc Probe),n0-n<fuel->n<=n0->stand.getD (t.probeStart oZ)=toP zVh->(GK (zkm zax)) ->
      (fQ (setSearchFrom d dH oZ true fuel stand))
  | 0,n,stand,h,_,_,_=>cm
  | fuel+1,n,stand,hfu,hn,hst,past=>by
    show(lZ,_>>=_);ext zuM hf;simp only[];have aa:t.gaveWay=false:=by
      unfold gaveWay;rcases T.mok with e|e|e|e|e<;>rw[e]<;>decide
    rw[aa];ext wH;show(dG,m,nm,J,ad,xnc T.up T.dm (xg7 es) oZ zbc n (eE n0 hn cm he));have mn:m<=n0:=by
      refine Ww nY;show(fO,i,e,J n0 hn z);ext HD he
    have B:∀ i,i<m->(zkm zax):=λ i hi=>by
      rcases Yy i n with z|z
      . exact past i z
      . show(cD,j,R,e2,J i z hi)
        show(cD,e,e3,e4,T.live.mp R);refine(d9,j,e,R,e3,λ q=>wC ?_ e2);unfold xg7;show(fK,T.es_,e3,q)
    have ab:∀ i,i<m->zax∈L.map (·.1):=λ i hi=>by
      obtain⟨j,e,R,e3,_⟩:83:=B i hi;show(cD,e',e4,e5,T.live.mp R);exact Ze.mpr (cC,e',Zn e4,e5)
    rw[hst];have U:∀ met,(cu,probe.go t (xg7 es) oZ zbc (toP (way t.mask oZ n)),met)->(cu,t.probe (xg7 es) oZ (toP zVh),met):=λ_ e=>e;rcases ad with⟨pe,emp⟩|⟨i,pc,liv,hi⟩
    . split
      . ext zDQ pe;refine Zo (no m emp ab (dC e O b I C));show(hJ,k',b',h1,H,G,keys e O);have:k'=k:=by
          ext dP I H H;exact G.inj C
        ext yp;exact T.absent emp (P:=λ v=>∃ b,(pY b)/\(xH k' b)) (λ i hi j R l1 l2 l3 ⟨1062,b1,l4,l5⟩=>by
          show(hJ,j2,e2,x1,x2,Y,B i hi);ext dP l1 x1 x1;ext dP l2 x2 x2;exact Y l3 b1 l4 l5) e O h1 (cC b I C)
      . ext zOd pe
    . show(cD,e,le,ej,T.live.mp liv)
      show(hJ,k',b,h1,H,G,keys e (Zn le));obtain⟨pp,hv,v⟩:=e;have H:pY b:=H;subst H;have X:dS es (oP hv b):=ir T.es_ le
      have sm:(cu,t.sameMemory t.moves t.mask,true):=by
        unfold sameMemory;rw[if_pos (beq_self_eq_true _)]
      have ae:m≠n0:=yY he liv
      have N:k'≠k->∀ i',i'<nI->(zkm (Rn i')):=λ c i' hi'=>by
        rcases Yy i' m with z|z
        . exact B i' z
        . ext MC i' m;refine(d9,i,_,liv,le,λ_ b2 I C=>c ?_);have I:Zw b=Zw b2:=I;cases I;exact G.inj C
      have Z:∀ y∈(Wb (λ x:ztt=>x.snd) (Array.filter (λ x=>x.fst == oZ) es).toList),zmm:=λy hy=>by
        ext gu x hx hy;rw[Array.toList_filter,T.el] at hx;show(gu,e',ac,(ZN.mp hx).1);obtain⟨k2,b2,_,x2,Y⟩:83:=keys e' ac;exact fG k2 b2 x2 Y
      split
      . ext zDQ pc;refine Qd (λ_=>Zb (x3t hk Z ?_)) CN
        . ext wH
          ext zAh
          . ext zAc
          . ext zyP
        . skip
          ext zAh
          . ext zAc
          . ext zyP
      . ext zOd pc
#check _
def Tab.plainly {t:SetTable}{es:zV}{L:TC} (T:qx) (b:Bool):Tab { t with plain:=b } es L:=dN T.pl T.el T.srt T.dm T.mok T.bd T.rc
def Tab.fits {t:SetTable}{es:zV}{L:TC} (T:qx) (le:zbA):zLY:=by
 unfold SetTable.fits fill;rw[zgv,Cm,T.dm];simp;exact le
section
variable {prog:Program}{w:World}{K:Type} [DecidableEq K] {knd:KeyKind prog w K}{A:Around}{E:Value->Shared->Prop}{s:Shared}
theorem xr0 (n:Nat) {v:Value} (h:zmN):∃ b,(sP,hashByValue n v,b):=by
 cases v with
 | ref a=>ext zWw
 | _=>cases n<;>exact(hZ,by unfold hashByValue; rfl)
theorem xpg {ks:sj}{a:Addr}{Q:xD} (hk:zws) (h:∀ b,Q b s):fQ (hashByValue 8 dH):=by
 have x:=hk.typeIs;obtain⟨o,c,n,j,B,q,m⟩:104:=hk;unfold hashByValue;show(F3,x,F.slot_tuple_hash.lookup);show(jR,seqItems? (.ref a)>>=_);show(cY,WQ j q ?_);show(zAv,s'=s/\zVL,d4 m.byValue)
 .rintro v rest r s' ⟨rfl,hall⟩;show(Gz,z,xr0 7 (hall v Zm));rw[z];ext zp;cases b with
  | true =>
   ext y9 Wr;show(jg,d4 zKZ)
  | false =>
   show(Sn,Bool.not_false);ext jg zxL
 rintro ⟨r1,r2⟩ s' ⟨rfl,_⟩;cases r1 with
 | none=>exact zxL
 | some b=>exact zxL
def xl9 {h h':Heap}{ks:sj}{a d:Addr}{o:Obj}{es ep t} (x:wT h ks a) (ho:Ec) (hd:OX) (hs:ZJ d h h'):wT h' ks a:=by
 obtain⟨p,b,n,f,u,c,q⟩:104:=x;have l:a≠d:=by
  ext Of;show(jp,p=o,ZW.inj (f.symm.trans ho));show(ef,hd,c,nomatch c)
 exact(mR,p,b,n,(hs.2 a l).trans f,u,c,q)
meta def Cap (m l:Nat):Prop:=zis 7 4 (zis 31 18 (zis 127 76 (zis 511 306 (m=2047/\l<=1228))))
meta def xko (l m:Nat):Prop:=(l=5/\m=31)\/(l=19/\m=127)\/(l=77/\m=511)\/(l=307/\m=2047)
meta def SetT (knd:KeyKind prog w K) (h:Heap) (d:Addr) (xs:BF):Prop:=∃ o es ep t L,Ec/\o.ExactSet/\OX/\qx/\(L.map (·.2)).Perm (xs.map λ x=>(oP,ztB cQ,eP))/\(∀ x∈xs,(wT h cQ eP))/\Cap t.mask L.length
def SetT.nil {h:Heap}{d:Addr}{o:Obj}{ep fg mv:Nat}{led:Bool} (ho:Ec) (hex:o.ExactSet) (hd:o.data=.set #[] ep (.fresh fg mv led)):Aj h [] :=
 (fJ,o,#[],ep,_,⟨66,[],ho,hex,hd,nh rfl rfl JZ.nil jF jC jC,zfw,⟨jC,tS jM⟩⟩)
def stored {h:Heap}{d:Addr}{o:Obj}{es:zV}{ep:Nat}{t:SetTable} (ho:Ec) (hd:OX) (es':zV) (t':SetTable) :
    (cu,(h.update d (W3 es' t')).get? d,{ o with data:=.set es' (ep+1) t' }):=by
  show(Kf,Jl (W3 es' t') ho (fY zNT),zNT)
def xst {d:Addr}{o:Obj}{es:zV}{ep:Nat}{t:SetTable}{L:TC}{Q:vh} (T:qx) (le:zbA) {m5:Nat} (l5:xko L.length m5) (ho:wF) (hd:OX)
    (h:∀ es' t' L',(L'.map (·.2)).Perm (L.map (·.2))->(dI,Tab t' es' L',t'.mask=m5,L'.length=L.length,Q () { s with heap:=s.heap.update d (W3 es' t') })) :
    fQ (setRelay d (SetTable.grown L.length)):=by
  unfold setRelay;show(zuM,T.fits le);simp only[];show(cI,y,SetTable.sizeAbove (SetTable.grown L.length)=m5+1,(by rcases l5 with⟨e,rfl⟩|⟨e,rfl⟩|⟨e,rfl⟩|⟨e,rfl⟩<;>rw[e]<;>decide),j,MkOk m5/\L.length<=m5/\m5<=2047,by unfold MkOk; unfold xko at l5; lia)
  rw[y];have H:¬ (m5+1>sizeLine):=by
    have:fA (2048:Nat):=cE
    lia
  ext iL H;obtain⟨t',c,L',I,B,D,mk,_⟩:105:=x5f (mask:=m5) j.1 es (VY Cm j) t.finger (t.movedTo m5) t.led t.plain;have G:t.relaid (es.map (·.1)) (SetTable.grown L.length)=some (t',c):=by
    unfold relaid;ext cW y I
  rw[G];have C:L'.length=L.length:=by
    have:=B.length_eq;rw[Za,T.el,Za] at this;exact this
  have sz:(c.filterMap (es[·]?)).size=es.size:=nG D.size.2 Cm C
  ext kW;show wpAny _ _ (if (c.filterMap (es[·]?)).size != es.size then _ else _) _ _ _;show(iL,nT sz);ext Ai;have x:(L'.map (·.2)).Perm (L.map (·.2)):=by
    show(kC,T.el,B)
  exact wpAny_storeSet_of ho hd (h _ _ L' x D mk C) (tP,sz,Cm,Z1 (dO j) (Z1 (fX j) cE))
def add {d a:Addr}{k:sj}{xs:BF}{Q:xD} (hu:zsh) (S:Aj s.heap xs) (hk:xH k a) (small:xs.length<1000)
    (yes:k∈xs.map (·.1)->zfm) (no:k∉xs.map (·.1)->(VI,Rm,Aj h' ztD,Q true kR)) :
    fQ (setAddHashed d dH oZ):=by
  obtain⟨o,es,ep,t,L,M,ad,N,T,pm,ks,af⟩:=S;have ll:L.length=xs.length:=by
    have:=pm.length_eq
    rwa [Za,Za] at this
  have G:=af;unfold Cap at G;show(cI,le,zbA,cm,lt,L.length<t.mask,cm)
  have hf:=T.fits le;unfold setAddHashed setAddHashedIn;refine Jc (Zb (Qi M N hf ?_));simp only[];have nb:byScan (.ref a) es=false:=rfl;rw[nb];ext wH;obtain⟨n0,ac,he⟩:=T.some_free le (tupleKeyHash knd k);have keys:zBy:=λ e D=>by
    have m:=pm.mem_iff.mp (Ze.mpr (fR e D));obtain⟨x,B,ex⟩:=Ze.mp m;refine dW cQ eP ?_ ?_ ziO
    . rw[<- ex]
    . rw[<- ex]
  have ag:n0<100000:=by
    refine ZK ac ?_;unfold turns;rcases T.mok with e|e|e|e|e<;>rw[e]<;>decide
  show(cY,xnj T M N hf hu hk keys he ac (fL hy) (fM m em inL nk) 100000 0 none cm jM rfl (λ i hi=>wC hi zpj))
  . simp only[]
    refine Zo (yes ?_);obtain⟨e,D,b,eb,ae⟩:=hy;have mm:=pm.mem_iff.mp (Ze.mpr (fR e D));obtain⟨x,B,ex⟩:=Ze.mp mm;have:eP=b:=by
      rw[<- ex] at eb;have eb:Zw eP=Zw b:=eb;injection eb
    ext fV kx ziO this kx;rw[ae.inj kx];exact Ze.mpr (fR x B)
  . simp only[]
    have ab:k∉xs.map (·.1):=λ z=>by
      obtain⟨x,B,rfl⟩:=Ze.mp z;have mm:=pm.mem_iff.mpr (Ze.mpr (fR x B));obtain⟨e,D,ee⟩:=Ze.mp mm;exact nk e D eP (hD ee) ziO
    show(cY,Qi M N hf ?_);simp only[];obtain⟨H,aa,T',I⟩:=T.add (x:=dH) em inL (xtn _ _ _);generalize ah:t.put (Rn m)=tp at *;obtain⟨t1,p1⟩:=tp;simp only[] at *;have l1:H.length=L.length+1:=by
      show(Sl,aa.length_eq,Z6)
    have Z:(H.map (·.2)).Perm ((ztD).map λ x=>(ztB cQ,Zw eP)):=by
      rw[Zu];have q1:(H.map (·.2)).Perm ((oZ,Zw a)::L.map (·.2)):=aa.map λ x:Row=>eP;exact q1.trans ((pm.cons _).trans (List.perm_append_singleton _ _).symm)
    have kk:∀ h',Rm->∀ x∈ztD,(wT h' cQ eP):=λ h' U x B=>by
      rcases Zy.mp B with B|B
      . exact xl9 ziO M N U
      . show(cW,Zp.mp B,xl9 hk M N U)
    generalize ai:insertAt es p1 (oZ,Zw a)=C at *;have O:∀ v:SetTable,Tab v C H->v.mask=t.mask->(fQ (do storeSet d C v; if (! false&&v.tooFull)=true then do setRelay d (grown (es.size+1)); zwI else zwI)):=λ v T2 m2=>by
      show(cY,(wpAny_storeSet_of M N ?_ (cK,T2.size.2,Z1 zhu cE)));show(cB,J,stored M N C v,U,ZJ.update s.heap d (W3 C v));have fl:v.fill=H.length:=by
        unfold fill;rw[T2.size.1,T2.dm];rfl
      by_cases c:v.tooFull=true
      . rw[c]
        simp only[Bool.not_false,Bool.and_self,if_true];have X:=c;unfold tooFull at X;rw[fl,m2] at X;have X:=of_decide_eq_true X;obtain⟨m5,l5⟩:∃ m5,xko H.length m5:=by
          unfold xko;rcases G with e|e|e|e|e
          . exact W7 31 cm
          . exact W7 127 cm
          . exact W7 511 cm
          . exact W7 2047 cm
          . exact W7 0 cm
        have e5:es.size+1=H.length:=pA Cm
        rw[e5];show(cY,xst T2 cm l5 J rfl λ R t' L2 p2 T3 m3 l3=>?_);have Y:=U.trans (ZJ.update (s.heap.update d (W3 C v)) d (W3 R t'));show(jg,(no ab _ Y ⟨_,R,_,t',L2,stored J rfl R t',ad,rfl,T3,p2.trans Z,kk _ Y,by rw[m3,l3]; unfold Cap; unfold xko at l5; lia⟩))
      . rw[Jx.mpr c]
        ext y9 Wg;refine Zo (no ab _ U ⟨_,C,_,v,H,J,ad,rfl,T2,Z,kk _ U,?_⟩);have X:¬ (v.fill*5>=v.mask*3):=λ z=>c (decide_eq_true z);rw[fl,m2] at X;rw[m2];unfold Cap;lia
    refine Qd (λ_=>Zb (xpg hk (fL b))) (λ_=>Zb (Zo ?_))
    . cases b with
      | true=>exact O t1 T' I
      | false=>exact O _ (T'.plainly false) I
    . exact O t1 T' I
#check _
#check XS
namespace XS
open PySem PySem.Spec PyProof.Rows
section
variable {K:Type} [DecidableEq K]
meta def oneT (acc:BF) (x:sj × Addr):BF:=if cQ∈acc.map (·.1) then acc else Tv
meta def xbx (ky:MQ) (ad:Fy) (i:Nat):BF:=((Zz i).map λ j=>(ky j,ad j)).foldl oneT []
def xen (ky:MQ) (ad:Fy) (i:Nat):zsW=oneT zD (ky i,ad i):=by
 unfold xbx;rw[YB,Zu,Yc];rfl
theorem xgg (ky:MQ) (ad:Fy):∀ i,∀ x∈zD,∃ j,j<i/\x=(ky j,ad j)
 | 0,x,h=>nomatch h
 | dc,x,h=>by
  rw[xen] at h;unfold oneT at h;split at h
  .ext zEY
  rcases zhM with h|h
  .ext zEY
  exact (cC,i,cm,Zp.mp h)
theorem xj1 (ky:MQ) (ad:Fy):∀ i,d6 zD i
 | 0=>dF
 | dc=>by
  have b:=xj1 ky ad i;rw[xen];unfold oneT;split
  .lia
  rw [Zr,ZI];lia
#check _
section
variable {pr:Program}{wd:World}{K:Type} [DecidableEq K] {knd:KeyKind pr wd K}
def SetT.move {h h':Heap}{d:Addr}{xs:BF} (S:Aj h xs) (g:∀ o,Ec->(cu,h'.get? d,o)) (ks:∀ x∈xs,(wT h' cQ eP)):Aj h' xs:=by
 obtain⟨o,es,j,t,⟨L,f,a,i,T,c,_,b⟩⟩:121:=S;exact fJ o es j t ⟨66,L,g o f,a,i,T,c,⟨ks,b⟩⟩
def xjw {h h':Heap}{k:sj}{a:Addr} (x:wT h k a) (g:zHo):wT h' k a:=by
 obtain⟨o,b,n,c,r⟩:102:=x;exact(dM,102,o,b,n,g o c,r)
variable {ar:Around}{R:Result->Shared->Prop}{it:Addr}{fp wr:List Addr}{G:Array GenState->Array GenState->Prop}{n:Nat}{P:Nat->Value->Prop}{St:Nat->Shared->Prop}
theorem xpl (wk:WalksS pr wd ar.in1 it fp wr G n P St) (d:Addr) (nd:d∉fp) (ky:MQ) (ad:Fy) (hv:∀ i v,P i v->v=ztQ) (far:(GK,ad i∉d::wr)) (hu:ar.in1.units<cLine) (small:zjx) :
    ∀(k i:Nat) (s:Shared),n-i=k->i<=n->St i s->(Aj s.heap zD)->zFY ->
      (∀ s2,Moved (d::wr) G s s2->(Aj s2.heap (xbx ky ad n))->(zfK s2)) ->
      codeAny (model pr wd) ar (.builtin "set.update.loop" (m7,qe uf it)) R s:=by
  have U:d∉wr:=λ z=>nd (wk.sub _ z);have more:∀ b∈wr,b∈d::wr:=(yN,Zl _ z);have I:∀{s s2:Shared},Moved (d::wr) G s s2->zFY->(zlN s2.heap):=λ c C j hj=>xjw (C j hj) (re,c.heap _ _ (far j hj) e);have H:∀{s s2:Shared}{i:Nat},(eC,i<=n,Moved wr G s s2,zlN s2.heap,Aj s.heap zD,Aj s2.heap zD):=λ hi c C S=>S.move (re,c.heap d _ U e) λx hx=>by
    show(jq,j,a,xgg ky ad _ x hx);exact C j cm
  intro k
  induction k with
  | zero =>
    intro i s X le st L C w;show(jp,i=n,cm)
    show(zzR,wk.done s _ _ st (cG s2 c));show(jg,w s2 ztP (H dF c zQN L))
  | succ k ih =>
    intro i s X le st L C w;have lt:kf:=cm
    show(zzR,wk.item i s _ _ lt st (dC v s2 pv D c));show(uq,hv i v pv);show(cB,q,zQN,E,H le c q L);show(Ce,ar.in1,holding [Zw (ad i)] (setAdd d ztQ)>>=_,s2);ext zvT;unfold setAdd;refine Jc (Zb (wpAny_pyHash_tuple hu (q i lt) ?_));show(sx,T,(zD).length<1000,(iF,xj1 ky ad i),add (s:={ s2 with toks:=s2.toks+((ky i).length+1) }) hu E (q i lt) T (fL O) (fM nin h2 sb so3))
    . have Q:zsW=zD:=by
        rw[xen];exact if_pos O
      show(zHu,ih dc _ cm lt (zLE,λ b z o e=>e) (cK Q E) q (c8 M B A));exact w M (Moved.trans wk.gtrans ((ztP).then_heap (JV _ _) (iw z e)) B) A
    . have Q:zsW=zD++[(ky i,ad i)]:=by
        rw[xen];exact if_neg nin
      have N:zlN h2:=λ j hj=>xjw (q j hj) λo e=>by
        show(mq,sb.2 _ (λ J:ad j=d=>far j hj (J▸Zm)))
      show(zHu,ih dc _ cm lt (zLE,λ b z o e=>?_) (cK Q so3) N (c8 M B A))
      . show(mq,sb.2 b (λ J:b=d=>nd (J▸z)))
      . refine w M (Moved.trans wk.gtrans ((ztP).then_heap (JV _ _) (iw z ?_)) B) A
        show(mq,sb.2 b (λ J:b=d=>z (J▸Zm)))
#check _
#check XS
namespace XS
open PySem PySem.Spec PyProof.Rows XL
section
variable {pr:Program}{wd:World}{K:Type} [DecidableEq K] {knd:KeyKind pr wd K}{ar:Around}{E:Value->Shared->Prop}{s:Shared}
theorem xka {l:Addr}{its:ii} (ky:MQ) (ad:Fy) {Q:dE} (hd:ar.handled=none) (hu:ar.in1.in1.in1.units<cLine) (hl:s.heap.IsList l its) (hi:∀(i:Nat) (v:Value),(dS its v)->v=ztQ) (hk:∀ i,i<its.size->(xH (ky i) (ad i))) (small:jA its.size)
    (h:∀(h2:Heap) (tk:Nat),zBz->zGt->(D7 (yS h2))) :
    Ac (model pr wd) ar (call (.type "set") [iS]):=by
  show(GD,c0,ag,af,Qp.mro)
  show(cB,P,Qp.made,ac,Qp.sub);ext zOt;show(lZ,callAny (.type "set") _);ext zBf;rw[Around.under_plain (weight_type_call_type "set" [iS] []) rfl];show(kZ,k1,Qp.notType,k2,Qp.canCreate,k3,F.typeCall_set_1 (.ref l))
  repeat (any_goals (first|ext gR|ext jf))
  refine Qo (code_set_new_1 iS (E:=E) (Q₁:=λ ob s1=>∃ x:Bool,zla ob s1 Bw) λ x=>fR x rfl) (c8 r s1 hr);cases r with
  | error e=>exact hr
  | ok fl =>
    cases fl with
    | ret ob =>
      show(jq,x,rfl,hr);show(yi,g0,(cu,(Bw).get? s.heap.objs.size,zjX),jj,H,Shared.TypeIs { s with heap:=Bw } oY "set",hX g0,ah,Qp.init.lookup,ai,Qp.init.bind (.ref s.heap.objs.size))
      repeat (any_goals (first|ext gR|ext jf))
      refine Qo (QP (R:=wants (λ r s2=>r=.none/\∃ h2 tk,eX s2 (yS h2) zBz zGt) E) Qp.init.plain F.entry_set_init (check_set_init_1 H ?_)) (c8 r2 s2 hr2)
      . obtain⟨ol,gl,cl,⟨nl,dl⟩⟩:63:=hl
        obtain⟨ae,B,O,A⟩:=ol;simp only at cl dl;subst cl dl;have Z:(cu,(Bw).get? l,(OK,B,.seq its nl,A)):=Zi _ gl;show(cB,a1,F.sub_list_set,a2,F.sub_list_frozenset);show(cI,a3,(ou,YS "list",YS "dict"),cE,l1,(Bw).IsList l its,(vk,Z,lS nl))
        unfold Builtin.«set.__init__» noKeywords Builtin.Frozenset.updateFrom;generalize aa:pyIter=PI
        wp_walk
        subst aa;refine YE l1 (Zb (wpAny_runValue ?_));have ll:mB l:=Z0 gl;have h3:ar.in1.in1.in1.handled=none:=gK hd
        have n1:l≠(Bw).objs.size:=by
          rw[Yl];exact ZM (ZK ll (WO _))
        have n2:s.heap.objs.size∉[(Bw).objs.size,l]:=by
          rw[Yl];simp only[Zt,Je,or_false,not_or];show(cU,zwe,JK ll)
        have kl:∀ i,i<its.size->(mB,ad i):=λ i D=>by
          obtain⟨o',_,_,X,_⟩:102:=hk i D;exact Z0 X
        refine xpl (knd:=knd) ((Walks.list h3 _ l n1 its).toS) s.heap.objs.size n2 ky ad hi (cG i D) hu small (its.size-0) 0 _ cm jM ⟨zE,(l1.push _)⟩ ?hS (λ j hj=>xjw (hk j hj) (re,Mu e)) ?hE
        . have:=kl i D
          rw[Yl];simp only[Zt,Je,or_false,not_or];show(cU,ZM this,ZM (ZK this (WO _)))
        case hS =>
          show(uz,g1,(cu,((Bw).push (iz,"list_iterator",.fields zyI)).get? s.heap.objs.size,zjX),Zi _ g0,SetT.nil g1 zde rfl)
        case hE =>
          intro s3 G M;obtain⟨U,Y,ab,J,N⟩:=s3;show(jp,Y=s.gens,G.gens);show(jp,ab=s.drawn,G.drawn);show(jp,N=s.os,G.os);refine Zo (Zo (d4,oC U J M (iw,lb,G.heap b o ?_ (Mu e))));rw[Yl];simp only[Zt,Je,or_false,not_or];show(cU,ZM lb,ZM (ZK lb (WO _)))
      . cases r2 with
        | error e=>exact hr2
        | ok fl2 =>
          cases fl2 with
          | ret r =>
            obtain⟨rfl,h2,tk,rfl,M,kp⟩:=hr2
            repeat (any_goals (first|ext gR|ext jf))
            exact h _ _ M kp
          | _=>exact hr2.elim
    | _=>exact hr.elim
#check _
#check XS
namespace L2
open PySem PySem.Spec PyProof.Rows XL XS
section
variable {K:Type} [DecidableEq K]
meta def oneK (acc:GU) (x:sj):GU:=if x∈acc then acc else Tv
meta def xez (xs:GU):Nat:=(xs.foldl oneK []).length
theorem xo7:∀(xs:BF) (acc:BF),(xs.foldl oneT acc).map (·.1)=(xs.map (·.1)).foldl oneK (acc.map (·.1))
 | [],acc=>rfl
 | AU,acc=>by
  rw[WF,xo7 r,Zs,WF]
  ext iJ
  unfold oneT oneK;split
  .rfl
  rw [Zu];rfl
def xsd (xs:GU) (ad:Fy):(zEb).length=xez xs:=by
 unfold xez;rw[<- Za (f:=(·.1)),show (zEb).map (·.1)=xs.foldl oneK [] from ?_];unfold xbx;rw[xo7,Zq]
 ext iJ
 refine QM cy (c8 i c b);simp[Zc b]
theorem xp2:∀(xs acc:GU),(pJ zRo zNq)↔(∀ x∈xs,x∉acc)/\xs.Nodup
 | [],acc=>cy
 | AU,acc=>by
  have le:∀(xs acc:GU),d6 zRo zNq:=by
   intro xs
   induction xs with
   | nil=>intro acc; exact Zj _
   | cons x r j =>
    intro acc;refine Z1 (j _) ?_;rw[Z6];unfold oneK;split
    .lia
    rw [Zr,ZI];lia
  show (pJ (r.foldl oneK (oneK acc x)) _)↔_;rw[Z6,ZE];by_cases hx:x∈acc
  .rw [show oneK acc x=acc from df hx];constructor
   .intro z
    show(fj,le r acc)
   intro z;exact absurd hx (z.1 x jb)
  rw [show oneK acc x=Tv from dz hx];show(AT,j,xp2 r Tv,Zr,ZI);show(MA,(fD,acc.length+zez=acc.length+1+r.length),j)
  .rintro ⟨q,s⟩;show(eW,cG y b,λ z=>q x z zhV,s);rcases qP with rfl|b
   .exact hx
   exact λ z=>q y b (Z3 _ z)
  rintro (⟨q,s,v⟩:43);show(gX,wB y b,v);rcases Gi with z|z
  .exact q y (Zl _ b) z
  rw [Zp.mp z] at b;exact s b
def xr5 {xs:GU}:xez xs=xs.length↔xs.Nodup:=by
 have:=xp2 xs [];unfold xez;ext So
#check _
meta def xxf (K:Zd) (ta:TA):TE:=(zRk,∃(a:Addr) (qs:cM) (kss:zhc Key),vs=mj/\(cR,Oi a KY,qs.length=kss.length,(∀(i:Nat) q ks,Fs->(dS kss ks)->(VU q zTe)),jA qs.length,Q (.int (dk,xez kss)) H1))
section
variable {X:Cx}
def xrv {a:Expr}{ta:TA}{p p2 pos pos2:Pos} (hu:O1) (hc:mD) (hg:Gl X "len") (hm:Cg "len") (hg2:Gl X "set") (hm2:Cg "set") (ha:Ff)
    (hs:Fb) (hs3:(SQ,[zeu],pq zeu)) :
    PE X (Rc "len" [zeu]) (xxf X.K ta):=by
  ext gz G;refine Yi (xc0 I hg hm PyProof.Rows.Boot.«len» ?_);refine PyProof.Rows.callWith_builtin1 ?_ (fY hs3) rfl;rw[hs3];show(jR,(spliced (Ol,pq zeu,backTo pos [])));refine Y4 ?_;refine Call_ (xc0 I hg2 hm2 PyProof.Rows.Boot.«set» (M6 (thn (Ly pos2 G) λ us s1 ⟨vs,H1,I1,r1,q1⟩=>?_)));obtain⟨l,E,j,e,hq,M,ab,hx,q⟩:106:=q1;ext eQ;ext FJ ru r1 l ru;show(dG,its,rv,pl,hz,I1.list hq);show(fV,J,rv.length,Za,J);have sz:its.toArray.size=E.length:=fS ZB J
  refine xka (knd:=sZ) (λ i=>j.getD i []) (λ i=>E.getD i 0) mF ?hu pl.isList (iX i v) (cG i hi) (cK sz hx) (fM h2 Y so kp)
  case hu =>
    show zuz+1+1<cLine;lia
  . have e':dS its v:=uU
    have lt:i<E.length:=by
      show(fj,oh e')
    show(cD,v',O,aa,rv.get (i:=i) (x:=V.ref E[i]) zvk);ext dP e' O O;show(oA,v,E[i],aa);simp[mf]
  . rw[sz] at hi
    have S:i<j.length:=cm
    have:=xek (P:=X.prog) (w:=X.w) I1.hok (ab i E[i] j[i] (Zc hi) (Zc S));show(cI,e1,j.getD i []=j[i],(gK,Zc S),e2,E.getD i 0=E[i],(gK,Zc hi))
    show IsTupleKey sZ s1.heap (j.getD i []) (E.getD i 0);ext fK e1 e2 this
  refine Qm ?_;rw[sz,M] at so;have I2:iy G H1 { s1 with heap:=h2,toks:=Y }:=I1.kept (t':=Y) (yl,kp b o (Z0 e) e);obtain⟨o,es,ep,t,⟨L,ho,ac,hd,T,pm,_,U⟩⟩:121:=so;have ll:es.size=xez j:=by
    have:=pm.length_eq;rw[Za,Za,xsd] at this;rw[Cm,this]
  refine call_len_set ho ac hd (T.fits (by unfold XS.Cap at U; lia)) ?_ (d9,(VD,xez j),H1,I2.tok _,⟨Y+1,hD ll⟩,q);rw[Cm];unfold XS.Cap at U;lia
#check _
#check L2
namespace L2
open PySem PySem.Spec PyProof.Rows
#check L2
namespace L2
open PySem PySem.Spec PyProof.Rows XL PySem.W
def xmv {prog:Program}{w:World}{A:Around}{E:dE}{s:Shared}{it d:Addr}{i ep:Nat}{o:Obj}{es:qm}{en:DictEntry}{ok ov:Value}{Q:CD}
    (st:zaE s.heap i es.size) (hd:wF) (hdat:rA) (hi:zen)
    (h:∀ h',(eC,IsItemIterOut h' it d dc es.size ep en.key en.val s.heap.objs.size,zIz en.key en.val,zVm,KK it i4 sV,Q (cX s.heap.objs.size) kR)):zhz:=by
  have Z:zHR:=hX st
  show(ID,J7 Z Ym ?_);refine Jv Ym Z F.entry_dict_itemiterator_next ?_ (F.args_dict_itemiterator_next_1 _);ext rK Y dr tk os;show(sx,il,it<Y.objs.size,Z0 st,Zb <| Zo <| Zb <| Zb <| Zb <| YO Z <| Zo <| Zb <| wpAny_fieldsOf st rfl ?_)
  show(lZ,Hf (Zw d == JE));show(iL,vT Zv);refine Zb <| Zo <| Zb <| Jn hd hdat ?_
  ext iL cy;refine Zb <| Zo <| Zb <| JI hd hdat ?_
  ext iL cy;ext Ai;have e1:zDB:=by
    show(fK,dz gQ,JT,hi)
  simp only[e1];refine Zb <| Zb <| YO Z <| Zo <| Zb <| YY Z ?_
  show(rT,zdz Ao 3 wn);refine Zb <| (CZ st H X C)
  show(HJ,C,ZJ it Y H,C,T1,Shared.TypeIs (dW H g dr tk os) Ao "dict_itemiterator",hX X,Zb <| Jc <| Zb <| YY T1 <| Zb <| YY T1 ?_)
  show(lZ,Builtin.Dict_items.pairFromOwner Ao 6 en.key en.val);unfold Builtin.Dict_items.pairFromOwner;refine Zb <| wpAny_newTuple ?_
  have G:=Zi (Bq en.key en.val) X;have L:(cu,(Ow).get? Y.objs.size,Bq en.key en.val):=by
    show(kC,C.1,jj)
  have K:(Ow).objs.size=Y.objs.size+1:=fS Yl C.1
  have U:∀ b ob,b≠it->(cu,Y.get? b,ob)->(cu,(Ow).get? b,ob):=λ b ob J e=>Zi _ (C.extBut b ob J e);have z1:H.objs.size=Y.objs.size:=C.1;show(Ce,_,Builtin.Dict_items.ownedTupleIsFree (.ref it)>>=_,dW Ow g dr tk os);rw[z1];revert G L K U;generalize Ow=h2;intro G L K U;clear C T1 X z1;unfold Builtin.Dict_items.ownedTupleIsFree;refine Zb <| Zb <| JB G rfl (x:=.none) rfl <| Dw
  ext KN;refine Zb <| JB G rfl (x:=ok) rfl <| Zb <| JB G rfl (x:=ov) rfl ?_
  refine Zb <| (CZ G h3 ad S)
  refine Zb <| (CZ ad h4 ac R)
  refine Zb <| (CZ ac h5 ab P)
  refine Zb <| (CZ ab h6 aa M)
  have n1:=JK il;refine Zb <| wpAny_letGo <| Zo <| Zo (eJ,Zo (h h6 aa ?_ ?_ λ b ob J e=>?_))
  . exact M.extBut _ _ n1 (P.extBut _ _ n1 (R.extBut _ _ n1 (S.extBut _ _ n1 L)))
  . exact M.1.trans (P.1.trans (R.1.trans (S.1.trans K)))
  . exact M.extBut b ob J (P.extBut b ob J (R.extBut b ob J (S.extBut b ob J (U b ob J e))))
def xpb {prog:Program}{w:World}{A:Around}{E:dE}{s:Shared}{it d:Addr}{ep:Nat}{o:Obj}{es:qm}{ok ov:Value}{Q:CD}
    (hA:wM) (st:zaE s.heap es.size es.size) (hd:wF) (hdat:rA)
    (h:zns zwy):zhz:=by
  have j:zHR:=hX st
  show(ID,J7 j Ym ?_);refine Jv Ym j F.entry_dict_itemiterator_next ?_ (F.args_dict_itemiterator_next_1 _);ext rK D G B C;have q:=st;unfold IsItemIter at q;unfold Builtin.«dict_itemiterator.__next__»
  repeat (any_goals (first|ext gR|(with_reducible refine YO j ?_)|(with_reducible refine YY j ?_)|(with_reducible ext Eo)|(with_reducible ext En)|ext jf))
  have v:(zco es.size none zJk)=none:=by
    rw[dz gQ,JT];simp
  rw[v]
  repeat (any_goals (first|ext gR|(with_reducible refine YO j ?_)|(with_reducible refine YY j ?_)|(with_reducible ext Eo)|(with_reducible ext En)|ext jf))
  ext zzq
def xu6 {prog:Program}{w:World}{A:Around}{E:dE}{s:Shared}{v d:Addr}{ep:Nat}{o:Obj}{es:qm}{Q:dE}
    (hv:zcp v (TJ,"dict_items",#[uf])) (hd:wF) (hdat:rA)
    (h:D7 (zqL "dict_itemiterator" (zkM Rk ep))):fQ (pyIter (.ref v)):=by
  have q:zv v "dict_items":=hX hv
  refine wpAny_pyIter_slot q F.slot_dict_items_iter ?_;refine Jv F.slot_dict_items_iter q F.entry_dict_items_iter ?_ (F.args_dict_items_iter_1 _);ext rK C D x B;unfold Builtin.«dict_items.__iter__»
  repeat (any_goals (first|ext gR|(with_reducible ext Eo)|(with_reducible ext En)|ext jf))
  show(qg,⟨83,_,_,MV,Ym.lookup,h⟩)
def xo1 {prog:Program}{w:World} (d:Addr) (hd:zo d) :
    MeetsIn prog w (Builtin.«dict.items» (m7 [uf])) (λ_ R s=>(zv d "dict") /\
      (zlb (zqL,"dict_items",#[uf]))) :=
  .of_wp λA R s ⟨1042,m,h⟩=>by
    unfold Builtin.«dict.items» Builtin.Dict.noArgs Builtin.Dict.showsAll;refine Zb <| Zb <| QD m ?_
    show(jR,pure d);ext Ai;show(sr,cK hd Zv,Zb <| Zo <| Zb <| JS <| Zo (eJ h))
theorem xss {H:Hp}:∀{kvs:fP}{xs:qy}{i:Nat}{k:iO}{x:V},EZ->rE->∃ q u,(dS xs (k,q,u))/\Iv/\vi
 | _,_,_,_,_,.nil,e=>FA
 | _,(k',q,u)::_,0,k,x,zwG,e=>by
  ext Ls;ext kn r1 r2 b r
  dsimp only at r1 r2 b
  subst r1;exact oC q u r2 b
 | _,_,dc,k,x,S1,e=>by
  show(hJ,q,u,h,f,d,xss (i:=i) (k:=k) (x:=x) t uU);exact d9 q u wJ f d
section
variable {X:Cx}{pins:List (Addr × Obj)}{Z:St}{H:Hp}{s:Shared}
def xis {d:Addr}{o:Obj}{kvs:fP}{es:qm}{ep:Nat} (I:cL) (e:XZ) (hdat:rA) :
    (dh,wF,o.ExactDict,es.size=kvs.length,∀(i:Nat) k x,rE->∃ q en,(dh,zen,jv en.key q,Iv,RelV x en.val)):=by
  obtain⟨g,_,_,⟨xs,j,M,K,L,g',J,b,w,N⟩⟩:44:=uy d e;ext dP g g' g';ext dP hdat b b;refine(eD,g,J,?_,fM i k x A)
  . rw[<- J4,w,Za]
    exact (Y1 j).symm
  . show(hJ,q,u,G,C,B,xss j A)
    exact(dN,84,q,_,by rw[<- J0,w,Zf,G]; rfl,rfl,C,B)
def Inv.nofrzT {d:Addr}{kvs:fP} (I:cL) (e:M9):A5:=λ o' u' z=>by
 ext zFt
#check _
meta def Itkt (d:Addr) (o:Obj) (kvs:fP):It :=
 (zKc,XZ,H'=H/\∃ k x q,rE/\(pY q)/\Iv,zPw)
meta def Itit (d:Addr) (o:Obj) (kvs:fP):It :=
 ⟨(wz,XZ/\i<kvs.length),(He,v,∃ p k x q,(cR,rE,Iv,pY p,vO,H'=(mw H p rZ x))),wz zPw⟩
def xrq {P:Program}{w:World}{K:Zd}{tg:Expr} (d it:Addr) (o:Obj) (kvs:fP) (es:qm) (ep:Nat) (hdat:rA) :
    (ET,Itkt d o kvs,h.IsKeyIter it d i es.size ep) where
  mem:=cy
  obj:=λi h st b m=>by
    ext rY I0;ext dG U S c1 d1 st;ext Ba S d1
  keep:=λ i h h' ⟨1062,U,S,r⟩ k=>(cC,U,k it cy _ S,r)
  item:=by
    ext zDv;ext rQ lt C;ext zBE;ext Xe Y
    show(nU,T,en,he,hk,hq,hr,f i k x Y);refine xhy st g R hdat he (ux l hs);ext zDy l;have I1:CS j:=rC (yq,m,(hs.2 b m).trans g) O N M L J;exact(m8,.ref T,H,I1,fY hk,(d4,wj k x T Y rfl hq),l,λ b m=>(p b m).1)
  done:=by
    ext zDv;ext kT e C;ext zBE;rw[<- sz] at st;exact xjb mF st g R hdat (DX m O N M L J)
  self:=zIL
def xpq {P:Program}{w:World}{K:Zd}{elts:iC}{x1}{tpos:Pos} (d it:Addr) (o:Obj) (kvs:fP) (es:qm) (ep:Nat) (hdat:rA) :
    (RF,uK,Itit d o kvs,[it],it,∃ ok ov,zaE h i es.size) where
  mem:=cy
  obj:=λi h st b A=>by
    ext rY zTy;ext Kz;exact⟨_,st,λv z=>by
      ext zaS z'⟩
  keep:=zAM
  item:=by
    ext zDw;ext Kz;ext rQ lt R;ext zBd;ext Xe hx
    show(nU,qa,N,he,hk,hq,hr,f i k x hx);refine xmv st g hdat he (dC h' J ht hz Q);refine(eJ,wpAny_letOwnedTupleGo_items J (c8 B L G));show(cI,kk,KK it i4 (cu,B.get? b,o),(yq,A,(G.2 b A).trans (Q b o A g)),I1,zpf m B,rC kk M f1 f3 f4 f5);ext Os;show(eY,D,mB it,Z0 st,C,zMq,JK D,hp,(cu,B.get? s.heap.objs.size,Bq N.key N.val),(G.2 _ C).trans ht);refine(m8,oY,(O8,.ref qa,x),zQz ⟨VE 2,[N.key,N.val],zck (fY hk) hr,vk hp iE⟩,rfl,jB 125 _ k x qa hx hq rfl n0 rfl,fT _ L,qb A);ext rY zTy;ext Dq C M
  done:=by
    ext zDw;ext Kz;ext kT e R;ext zBd;rw[<- sz] at st;exact xpb mF st g hdat (DX A M f1 f3 f4 f5)
  self:=zAG
meta def x1i (X:Cx) (to:TE):TI:=(Xm,H1 d=some (.dT kvs),∀ ob,A5->R (Itkt d ob kvs) (upd H1 d (.frz ob (.dT kvs))))
meta def x0y (X:Cx) (to:TE):TI:=(Xm,H1 d=some (.dT kvs),∀ ob,A5->R (Itit d ob kvs) (upd H1 d (.frz ob (.dT kvs))))
section
variable {X:Cx}{o:Expr}{to:TE}{tg:Expr}{elts:List Expr}{x1:_}{tpos apos cpos:Pos}
def xw5 (ho:LV):yI o (x1i X to):=by
 ext DD m;show(oJ,zy m,kU v A x E C r1 K ?_);ext hJ d kvs S e q K;subst S;cases r1;obtain⟨z,M,⟨xs,J,ob,es,G,g,P,B,L,Y⟩⟩:43:=C.hok d _ e;refine xnh M g P B ?_;have D:zGP A:=C.write (t':=A.toks) (x:=d) (e:=d) zP jF zcT (Hj g) ⟨g,(C.hok d _ e).stay zcS (λ c q=>zaz) (GE zaz)⟩;have U:zGP { A with heap:=A.heap.push (iz,"dict_keyiterator",.fields (zdW Rk G)) } :=
  D.kept (t':=A.toks) mQ
 refine lY A.heap.objs.size [A.heap.objs.size] (qC,zQe E,U,xrq d _ ob kvs es G B,zE,qb N,q ob (C.nofrzT e));show(sJ,Q,b,A.heap.objs.size,zTt);exact D.fpOk (Zj _) (D.hok.fresh (Zj _))
def xui (ho:LV) (hbase:zRy) (hline:zhB) :
    zIl (x0y X to):=by
  ext zAI E J U;obtain⟨z,hd,⟨xs,aa,ob,es,P,g,ex,G,ab,hn⟩⟩:43:=U.hok d _ e;show(dZ,K,E.TypeIs (.ref d) "dict",cC ob g ex.1,zzo K)
  . ext zPn
  refine Q5 Q2 K PySem.F.entry_dict_items zHW (xo1 d hd) (jl K);refine xu6 (s:=zjZ) jj Ni G ?_;have S:iy B J zjZ:=U.kept (t':=E.toks) mQ;generalize M:(zjZ:Shared)=D at S;show(cI,Y,(cu,D.heap.get? d,ob),hV M Ni,Q,zGM D,S.write (t':=D.toks) (x:=d) (e:=d) zP jF zcT (Hj Y) ⟨Y,(S.hok d _ e).stay zcS (λ c q=>zaz) (GE zaz)⟩);have I4:zGM zzP :=
    Q.kept (t':=D.toks) mQ
  have N:PIE X B Z uK R (.ref D.heap.objs.size) zzP:=by
    refine lY D.heap.objs.size [D.heap.objs.size] (qC,zQe J,I4,xpq d _ ob kvs es P G,cC .none .none jj,CJ,q ob (U.nofrzT e));show(sJ,eb,b,D.heap.objs.size,Ee);exact Q.fpOk (Zj _) (Q.hok.fresh (Zj _))
  exact N
meta def x4q (X:Cx) (t:TS):TS:=(qW,t { D with nx:=(M7,∃ d ob u,(lm d (.frz ob u))/\A5/\D.nx σ' (upd H' d u)) } Z H)
theorem xqd {st:Stmt}{t:TS} (h:zfd):PS X st (x4q X t):=by
 ext tT b D q;show(oJ,Ut b q,wB f j);cases f with
 | next =>
  obtain⟨σ',H',i,⟨d,ob,u,e,c,r⟩⟩:82:=z;exact(fG,σ',_,i.thaw e c,r)
 | _=>ext gD
#check _
section
variable {d:Addr}{ob:Obj}{kvs:List (List Key × V)}{g:TG}{tb:TS}{D:Ends}{Z:St}{H:Hp}
def xu0 (Pv:xR) (h0:zU) (hl:zBM)
    (hs:∀ i k x q Z H,dI rE Iv Co (DY rZ H pQ pQ)) (hd:zVx) :
    ∃ W:Nat->Nat->St->Hp->Prop,(∃ m,W 0 m Z H)/\∀ i m Z H,xB ->
      ((zsf).stop i H/\tF)\/((zsf).go i H/\(wN,∀ x H',(zsf).yld i H x H'->(C9 N))):=by
  ext zAN w
  . show(lW,⟨sE hlt,pQ,NT j ⟨64,kvs.length-dc,gQ,rfl,hlt,j⟩,zdV⟩)
    obtain⟨rfl,k,b,c,A,rfl,v⟩:=y;exact hs i k b c Z H' A v p
  . ext zFC
def xrr (Pv:xR) (h0:zU) (hl:zBM)
    (hs:∀ i k x q p Z H,eC rE Iv vO Co (zRT rZ)) (hd:zVx) :
    ∃ W:Nat->Nat->St->Hp->Prop,(∃ m,W 0 m Z H)/\∀ i m Z H,xB ->
      ((zse).stop i H/\tF)\/((zse).go i H/\(wN,∀ x H',(zse).yld i H x H'->(C9 N))):=by
  ext zAN B
  . show(lW,(du,sE hlt,pQ,NT v (AR,kvs.length-dc,gQ,hlt,v),zdV))
    obtain⟨j,k,b,c,C,w,rfl,A,rfl⟩:125:=y;exact hs i k b c j Z H C w A p
  . ext zFC
#check _
#check L2
namespace L2
open PySem PySem.Spec PyProof.Rows XL PySem.W PySem.MeetsSeq3
section
variable {prog:Program}{w:World}{a b:Addr}{us vs:Array Value}{n n2:Nat}{dd dd2:Option Addr}{sl sl2:Array (Option Value)}
#check _
#check L2
namespace L2
open PySem PySem.Spec PyProof.Rows XL PySem.W
#check L2
namespace L2
open PySem PySem.Spec PyProof.Rows XL
def xnz:(cu,Manifest.owners.lookup (String.ofList ['d','e','s','r','e','v','e','r'].reverse),Manifest.sig_reversed):=Cc
def xhw:zeb "__next__" "reversed.__next__" :=
 zwj "__next__" (by first|ext eg c9|ext fe c9)
def xvi:(IP,"reversed.__next__",Builtin.«reversed.__next__»):=zof
def xt1 (a:Value):zvQ "reversed.__next__":=by
 show(zjO,"reversed.__next__",['_','_','t','x','e','n','_','_'])
def xuw:zeb "__iter__" "reversed.__iter__" :=
 zwj "__iter__" (by first|ext eg c9|ext fe c9)
def x3w (a:Value):zvQ "reversed.__iter__":=by
 show(zjO,"reversed.__iter__",['_','_','r','e','t','i','_','_'])
def x11:(IP,"reversed.__iter__",Builtin.«dict_keyiterator.__iter__») :=
 entryFor_alias (id':="dict_keyiterator.__iter__") Cc (by first|rfl|ext mH|(unfold String.splitOn; simp +decide [String.splitOnAux])) c9 Cc
def xvd:D2 "reversed" "__len__" none:=D4
def x02:zRA "reversed" "reversed.__length_hint__":=D4
def xrx:D2 "str" "__reversed__" none:=D4
meta def xm7 (x:Str) (t:Tok) (i:Int):Obj:=TJ "reversed" zXe
meta def IsRv (h:Heap) (a:Addr) (x:Str) (t:Tok) (i:Int):Prop:=∃ o,G4/\(LC "reversed")/\(VZ o.data zXe)
section
variable {prog:Program}{w:World}{A:Around}{E:Value->Shared->Prop}{s:Shared}
def IsRv.ty {a:Addr}{x:Str}{t:Tok}{i:Int} (h:IsRv s.heap a x t i):zv a "reversed":=let ⟨o,ho,hc,_⟩:=h; cC o ho hc
def IsRv.at {h h':Heap}{a:Addr}{x:Str}{t:Tok}{i:Int} (z:IsRv h a x t i) (e:zHo):IsRv h' a x t i:=let ⟨o,ho,r⟩:=z; (cC,o,e _ ho,r)
def xwq {x:Str}{t:Tok} (hz:zdM):Meets (Builtin.«reversed.__new__» (m7 [lF "reversed",xJ])) (λ_ R s=>zlb zAY):=λ prog w A R s h=>by
 unfold Builtin.«reversed.__new__»;show(cY,YQ (newClass_reversed _) ?_)
 try dsimp only
 show(zee,(),(by first|rfl|ext Hz));show(zee,(),(by first|rfl|ext Hz))
 try dsimp only
 ext F3 zxW xrx
 try dsimp only
 show(cY,YQ (a:=true) Cc ?_);ext Hy;ext zDq
 dsimp only
 ext kW;unfold Builtin.SmallTypes.newRecord;refine JS ?_ zdo;ext jg h
def xtj:zeb "__init__" "object.__init__" :=
 zPc "object" "__init__" (by first|ext eg c9|ext fe c9)
def xtq:TypeCalled "reversed" "reversed.__new__" "object.__init__" :=
 (dN,c9,c9,fT _ F.mro_reversed,F.made_reversed,c9,zqb,xtj)
def xz9 {x:Str}{t:Tok}{Q:dE} (hz:zdM)
    (h:D7 zAY):fQ (call (.type "reversed") [xJ]) :=
  callType_new xtq cE (F.typeCall_reversed_1 _) (F.newCall_reversed_1 _) (λ m=>F.args_object_init_2 m _) F.entry_reversed_new (xwq hz) ⟨MV,h⟩
def x00 {I:Addr}{x:Str}{t:Tok}{i c:Nat}{Q:CD} (hit:zcr fc) (hc:dS x.cps c) (hz:zdM)
    (hQ:∀ h' tk u,IsRv h' I x t (fc-1)->ZJ I s.heap h'->Q (some (.str qT u)) Cz):zLf:=by
  ext zza q b
  try dsimp only
  ext D5 b xJ;show(D5,b,rawInt fc);show(jR,qF fc 0 _ _);ext iL gQ;show(F3,zxW,slot_str_getitem.lookup);show(jR,Hf false);ext Hy;have v:i<x.length:=by
    have:=(Y5.mp hc).1;simpa [Qn] using this
  ext zVF;refine Zb (JY (getItem_str (c:=c) ?_ ?_ ?_))
  . show(cI,B,BM (fc < zxO),K0 gQ,z,BM (fc>=AF),K0 gQ);rw[B,z,Wq]
  . rw[seqIndex_of gQ gQ]
    simpa using hc
  dsimp only
  show(D5,b,rawInt fc);show(rT,zdz (Zw I) 1 (fc-1));show(cY,wpAny_setField j b cy ?_);refine Zo (eJ,Zo (hQ _ _ _ ?_ BI));exact⟨_,Jl _ j (Obj.isFreed_of_fields (Wh b _)),(Obj.cls_mapFields ..).trans q,by
    rw[Wh b]; simp⟩
def x1g {I:Addr}{x:Str}{t:Tok}{Q:CD} (hh:wM) (hit:zcr (-1))
    (hQ:∀ h',WP I s.heap h'->zwy):zLf:=by
  ext zza C c
  try dsimp only
  ext D5 c xJ;show(D5,c,rawInt (-1));show(jR,(zco,-1,_,_));ext VH;ext RV;show(rT,(zdz (Zw I) 1 (-1))>>=λ_=>setField (Zw I) 0 .none);refine Zb (Zb (wpAny_setField j c cy ?_));have q:=Jl (Obj.mapFields (λ a=>zmS)) j (Obj.isFreed_of_fields (Wh c _));have v:(Obj.mapFields (λ a=>zmS) o).data=.fields #[xJ,rawInt (-1)]:=(nT,Wh c)
  refine wpAny_setField (s:={ s with heap:=s.heap.update I (Obj.mapFields (λ a=>zmS)) }) q v cy ?_;ext kW;unfold Builtin.SmallTypes.stopIteration;ext kW;simp only[newExc,newTuple];show(cY,JS ?_ zdo);refine Zb (m:=firstArgMember _ _) (YQ (a:=JE) (by first|rfl|(simp only[firstArgMember]; rfl)) ?_);refine JS ?_ zdo;simp only[raiseNew];refine Zb (wpAny_handled ?_)
  first|rw[j4 A.in1.handled none hh]|rw[hh]
  show(cY,Zo (wpAny_throw ?_));ext zFi MV;show(jg,hQ _ λ b D B e=>Mu ((zLc).trans ((zLc).trans e)))
def xll {I:Addr}{x:Str}{t:Tok}{i:Int}{Q:dE} (hit:zcr i) (h:kJ I s):fQ (pyIter (.ref I)):=by
 refine wpAny_pyIter_slot hit.ty xuw (Jv xuw hit.ty x11 ?_ (x3w _));show(jR,ret (.ref I));show(jg,⟨_,rfl, "reversed",_,hit.ty,xhw.lookup,h⟩)
#check _
def xxu {prog:Program}{w:World}{A:Around} (hh:wM) (I:Addr) (x:Str) (t:Tok) (hz:zdM) :
    Walks prog w A I [I] [I] x.length (λ i v=>zBX) (λ i h=>i<=x.length/\IsRv h I x t (ze-fc)) where
  sub:=λ b m=>m
  frame:=λ_ _ _ z J=>⟨ro,(kO).at (re,J I cy o e)⟩
  item:=λ i s Q E K z q=>by
    have e:ze-fc=(hU Rh):=gQ
    ext fV f kO e f;show(cI,hl,Rh<x.cps.size,by show Rh<x.length; omega,G,FM x.cps x.length (x.cps[Rh]' hl),JC hl);refine x00 f G hz (dC h' H u j y);have L:(hU Rh)-1=ze-(hU dc):=gQ
    show(ef,L,j,q _ h' H (du _ u G rfl) ⟨K,j⟩ λ b o m D=>y.extBut b o (λ h=>m (gK h)) D)
  done:=λ s Q E z q=>by
    have e:ze-zcC=-1:=gQ
    ext fV f kO e f;exact x1g hh f λ h' C=>q h' s.toks λ b o m D=>C b o (λ h=>m (gK h)) D
  self:=λ_ _ _ _ z q=>xll kO q
section
variable {prog:Program}{w:World}{A:Around}{E:Value->Shared->Prop}{s:Shared}
def xsy:zeb "__length_hint__" "reversed.__length_hint__" :=
 zwj "__length_hint__" (by first|ext eg c9|ext fe c9)
def x1r:(IP,"reversed.__length_hint__",Builtin.«reversed.__length_hint__»):=zof
def x2e (a:Value):zvQ "reversed.__length_hint__":=by
 show(zjO,"reversed.__length_hint__",['_','_','t','n','i','h','_','h','t','g','n','e','l','_','_'])
def xxl {I:Addr}{x:Str}{t:Tok}{Q:dE} (hit:Ua) (hz:KG) (h:∀ u tk,Q (.int zcC u) zoo) :
    fQ (BK "reversed.__length_hint__" [NB]):=by
  obtain⟨o,j,v,q⟩:=id hit;refine Jv xsy hit.ty x1r ?_ (x2e _);unfold Builtin.«reversed.__length_hint__»;show(zee,Zw I,rfl);ext D5 q xJ;ext iL cy;ext zDq
  dsimp only
  show(D5,q,rawInt ze);show(lZ,if (dk x.length)<ze+1 then _ else _);ext iL gQ;unfold retInt;show(cY,wpAny_mkInt (Zo CF));show(cW,Int.sub_add_cancel,h _ _)
def xto (i:Int) (u:Tok):asInt? (.int i u)=pure (some i):=rfl
def x0w {I:Addr}{x:Str}{t:Tok}{Q:xD} (hit:Ua) (h0:zvn) (hz:KG) (h:∀ tk,Q true zoo) :
    zCA:=by
  show(zzH,hit.ty,xvd,x02);generalize j:("reversed.__length_hint__":String)=q
  show(zEe,q,"reversed",by subst j; ext mH);subst j;show(cY,YM (T:="reversed") (b:=true) hit.ty F.sub_reversed_self ?_);show(zdZ,absurd c cE);show(zdZ,absurd c c9);ext RV;show(cY,YQ (xsy.bind _) ?_)
  dsimp only
  refine Zb (JY (xxl hit hz (cG u tk)))
  dsimp only
  show(cI,B,0<zcC,gQ,z,jA zcC,gQ)
  revert B z;generalize hU x.length=n;intro B z;have D:Builtin.List.listFitsIndex n=true:=by
    unfold Builtin.List.listFitsIndex;rw[Sj (gQ:zxO<=n),Sj (gQ:n<AF)];rfl
  have C:zJo n.toNat:=by
    unfold Builtin.List.listTooLong;exact decide_eq_false (Zai.mpr (Z1 (gQ:jA n.toNat) cE))
  have ne:(n != 0)=true:=zsn
  have lt:¬ n<0:=gQ
  rw[xto,pure_bind]
  dsimp only
  rw[D,Gq,dz lt,C,Gq,ne];exact Zo (h tk)
meta def xkp (x:Str) (i:Nat) (v:Value):Prop:=zBX
def xu1 {R:Lh} (hh:wM) {I:Addr}{x:Str}{t:Tok}{S:Addr} (hSI:S≠I) {res:Value}{c₀:Nat} (hit:Ua) (h0:zvn) (hz:KG)
    (hS:zFE)
    (hR:∀ h' tk acc' c',(dI,zIq,zOl,znU acc',R (UO res) Cz)) :
    wpAny lM A.in1 zRc
      (Vx,match fin with|.done f=>R (.ok f) s'|.again c'=>zDh) (λ e s'=>zqN) s:=by
  have W:=(xxu (prog:=prog) (w:=w) (A:=A.in1) hh I x t gQ).toS;show(zIA,hit.ty);show(iL,(E8,show je zEd by simp[Builtin.List.listSameRef,hSI]));show(cY,xll hit ?_);show(xO,x0w hit h0 hz (fL tk));rw[Bool.true_or,fH];ext RV;ext kW;show wpAny _ _ (updateSeq S (·.push .none)>>=λ_=>updateSeq S (·.pop)) _ _ _;show(cY,wpAny_updateSeq hS rfl ?_);have C:=Jl (JO (·.push JE)) hS rfl;refine wpAny_updateSeq C rfl ?_;have G:=Jl (JO (·.pop)) C rfl;have c:∀ b o,b≠S->i4->((s.heap.update S (JO (·.push JE))).update S (JO (·.pop))).get? b=some o:=(iw,v,(JM _ _ (Z2 v)).trans ((JM _ _ (Z2 v)).trans e));have j:IsRv ((s.heap.update S (JO (·.push JE))).update S (JO (·.pop))) I x t (ze-vI):=(zA,hit.at (re,c I o (Z2 hSI) e))
  show(zJY,codeAny_extend_loopS W (Z1 hz cE) S (gK hSI) res x.length 0 _ _ _ rfl jM ⟨jM,j⟩ G (ItemsOf.nil _) (gE s' acc' c' J H B));show(cW,Moved.eq_with J,hR s'.heap s'.toks acc' c' (λ b o v D e=>J.heap b o (λ z=>(Zt.mp z).elim v λ z=>D (Zp.mp z)) (c b o v e)) H B)
def xsg {Q:jX dw} (hh:wM) {I:Addr}{x:Str}{t:Tok} (hit:Ua) (h0:zvn) (hz:KG)
    (hQ:∀ h' tk acc,zdd->(znU acc)->Q acc.toList Cz):fQ (collect (.ref I)):=by
  have J:mB I:=by obtain⟨o,e,_⟩:=hit; ext vU
  have G:∀ R:Lh,(∀ h' tk v D,(dI,zdd,(XN (zxx,.seq v D)),ItemsOf (xkp x) v x.length,zlb Cz)) ->
      (ztx (.builtin "proto.collect" (m7 [NB]))):=λ R M=>by
    refine Y9 F.entry_proto_collect ?_;rw[YH F.plain_proto_collect _];refine Zb (m:=zvo) (JS (Zo ⟨Qu F.plain_list_iadd _,Y9 F.entry_list_iadd ?_⟩));rw[YH F.plain_list_iadd _];exact xu1 (A:=A) (R:=R) (s:={ s with heap:=zgc }) hh (JK J) (hit.at (re AG)) h0 hz jj λ h' tk v D H C B =>
      M h' tk v D (iw,K,H b o zwW K AG) C B
  unfold collect;exact Zb (wpAny_runValue (G _ λ h' tk v D H C B=>Zb (m:=load s.heap.objs.size) (wpAny_load C (Zo (hQ h' tk v H B)))))
#check _
#check L2
namespace L2
open PySem PySem.Spec PyProof.Rows XL PySem.W PySem.Builtin PySem.Builtin.Str
meta def xe4 (x:Str):cH:=x.cps.toList.reverse.map λ c=>qT
def xlz (x:Str):pJ (xe4 x) x.length:=by
 unfold xe4;rw[Za,Yx];simp[Qn]
theorem xl0:∀{vs:dw}{ws:cH},vs.length=ws.length->(∀(j:Nat) v w,(Mz,vs,v,ws,w,∃ u,v=.str w u))->∃ l:RN,(zxp vs)/\l.map (·.1)=ws
 | [],[],_,_=>fR [] rfl
 | [],fh,h,_=>nomatch h
 | fh,[],h,_=>nomatch h
 | v::vs,w::ws,h,g=>by
  show(kT,u,g 0 v w rfl rfl);obtain⟨l,f,d⟩:=xl0 (vs:=vs) (ws:=ws) (Nat.succ.inj h) λ j v w a b=>g jQ v w zTu PL
  show(dy,(w,u)::l,fY f,zeP d)
def x0s {x:Str}{acc:ii} (h:znU acc):∃ l:RN,(zxp acc.toList)/\l.map (·.1)=xe4 x:=by
 refine xl0 (by rw[xlz]; simpa using lD) (dC j v w f d);obtain⟨c,u,q,rfl⟩:=h.2 j v PH;unfold xe4 at d;rw[Zf] at d;obtain⟨r,b,rfl⟩:=Zh.mp d;have lt:j<x.cps.toList.length:=by
  show(Sl,(Zk.mp b).1,Yx)
 rw[WM lt] at b;have e:x.cps.toList.length=x.length:=Ur
 rw[e] at b;have:(cu,some c,r):=by rw[<- q,<- b]; simp
 show(Og,this,u,rfl)
theorem xmt (sep:Str) (ts:Tok) (I:Addr) (x:Str) (t:Tok) (h2:2<=x.length) (hz:KG) (hs:sep.length<=10):Meets («str.join» (m7 (qe,.str sep ts,I)))
    (λ A R s=>(eX,A.handled,none,Ua,∀ h' tk u,zdd->R (UO (.str (ZS sep (xe4 x)) u)) Cz)):=by
  rintro prog w A R s ⟨H,j,J⟩;rw[join_tree_other];show(ziH,j.ty);ext Hy;refine Zb (wpAny_tryCatch (xll j ?_));show(cY,xsg (A:=A.in1) H j gQ hz (dC h' tk M G v));obtain⟨l,L,C⟩:=x0s v;rw[L];have one:∀ w∈xe4 x,w.length<=1:=λ w hw=>by
    obtain⟨c,_,rfl⟩:=Ze.mp hw;exact Zj 1
  have D:=xlz x;have K:=xjx sep.length 1 (l.map (·.1)) 0 (cK C one);have z:l.length=x.length:=by rw[<- D,<- C,Za]
  ext oS z K;show(cI,N,x.length*(1+sep.length)<=1000*11,Nat.mul_le_mul hz gQ,sz,fA 11000,cE)
  have B:tooLong ((l.map (·.1)).toArray.foldl (·+·.length+sep.length) 0)=false:=by
    ext zCx gQ
  show(fV,E,xid (sep:=sep) (k:=1) (ws:=xe4 x) one,D,E);have g:=gives_joinTail sep l B;cases l with
  | nil=>ext gk z zsn
  | cons p r =>
    cases r with
    | nil=>ext gk z zsn
    | cons q r =>
      refine g prog w A R _ ?_;show _/\_;rw[QF,C];show(cU,gQ,J h' _ _ G)
meta def xxq (to:TE) (ta:TA):TE:=(zTo,∃ sep,x=.str sep/\sep.length<=10/\ta Z H1 λ vs H2=>∃ z,(j7,vs,[.str z],2<=z.length,jA z.length,Q (.str (ZS sep (xe4 z))) H2))
section
variable {X:Cx}
def xrw {o a:Expr}{to:TE}{ta:TA}{p2 apos cpos pos2:Pos} (hc:mD) (hg2:zqI) (hm2:zqH) (ho:LV) (ha:Ff)
    (hbase:iA (OJ "join"))
    (hfew:autoParam (((Nb [El]).all (λ x=>! cQ)&&(zff).all (λ x=>zfy)
      && (V8 ([El]:iC)))=true) vR)
    (hline:zhB) (hs:Fb) (hs3:zRh) :
    zcl "join" [El] (xxq to ta):=by
  ext gz D;show(zED,(thn (zy D) λ v s1 ⟨x,H1,Y,r1,P⟩=>?_));obtain⟨sep,rfl,sl,P⟩:=P;ext kT U r1;refine⟨"str", "str.join",YZ,F.slot_str_join,WI,QI _ _ _,?_,?_⟩
  . intro a e
    cases e
  rw[hs3];refine Y0 jk (QU ?_);refine Y4 ?_;refine Call_ (xc0 Y hg2 hm2 PyProof.Rows.Boot.«reversed» (M6 (thn (ha pos2 D s1 Z H1 _ Y P) λ us G ⟨vs,H2,M,r2,q2⟩=>?_)));obtain⟨z,rfl,z2,z3,q⟩:=q2;obtain⟨u,rfl,J,rfl⟩:=xcl r2;refine xz9 gQ ?_;refine Qm ?_;show(yF,I3,iy D H2 { G with heap:=zJz,toks:=G.toks+1+1 },M.kept (t':=G.toks+1+1) mQ,T,IsRv zJz G.heap.objs.size z J zVR,jo _ jj rfl,K,M.fpOk (Zj G.heap.objs.size) zQg);show(zCm,QI _ sep U,xmt sep U G.heap.objs.size z J z2 z3 sl,(cC,mF,T,fM h' tk u hk));have I4:=I3.turned (t':=tk) (it:=G.heap.objs.size) zOa zQg (dO K) (GG K) (ug (fX K)) (fX (fX K)).2;exact dW jG H2 I4 iE q
#check _
#check L2
namespace L2
open PySem PySem.Spec PyProof.Rows XL PySem.W
#check L2
namespace L2
section
variable {D:Ends}{Z:St}{H:Hp}{i:Nat}{v:V}{N:St->Hp->Prop}{wi:TI}{g:TG}{a b u:TS}{c:TT}
def sq2 {t1 t2:TS} (k:Rr u2 t2 Ka):(tSeq t1 t2) D Z H:=k
def sq3 {t1 t2 t3:TS} (k:(ip,d,D,s,Z,ip u3 t3 u2 SN Ka)):(tSeq t1 (tSeq t2 t3)) D Z H:=k
def sq4 {t1 t2 t3 t4:TS} (k:let d:=D; ip s Z u4 t4 (ip,u3,tSeq t3 u4,u2,SN,Ka)):(tSeq t1 (pj t2 t3 t4)) D Z H:=k
def sq5 {t1 t2 t3 t4 t5:TS} (k:ip d D s Z (ip,u5,t5,u4,tSeq t4 u5,(ip,u3,tSeq t3 u4,u2,SN,Ka))):(tSeq t1 (tSeq t2 (pj t3 t4 t5))) D Z H:=k
def sq6 {t1 t2 t3 t4 t5 t6:TS} (k:Rr u6 t6 Xb):(tSeq t1 (pj t2 t3 (pj t4 t5 t6))) D Z H:=k
def sq7 {t1 t2 t3 t4 t5 t6 t7:TS} (k:Rr u7 t7 (ip,u6,tSeq t6 u7,u5,tSeq t5 u6,(ip,u4,tSeq t4 u5,u3,tSeq t3 u4,let u2:=SN; Ka))):(tSeq t1 (zKI t7)) D Z H:=k
def sq8 {t1 t2 t3 t4 t5 t6 t7 t8:TS} (k:let d:=D; ip s Z u8 t8 (ip,u7,tSeq t7 u8,u6,zvc,Xb)):(tSeq t1 (pj t2 t3 (pj t4 t5 (pj t6 t7 t8)))) D Z H:=k
def sq9 {t1 t2 t3 t4 t5 t6 t7 t8 t9:TS} (k:ip d D s Z (ip,u9,t9,u8,tSeq t8 u9,(ip,u7,tSeq t7 u8,u6,zvc,Xb))):(tSeq t1 (tSeq t2 (pj t3 t4 (pj t5 t6 (pj t7 t8 t9))))) D Z H:=k
def sq13 {t1 t2 t3 t4 t5 t6 t7 t8 t9 t10 t11 t12 t13:TS} (k:ip d D s Z (ip,u13,t13,u12,tSeq t12 u13,(ip,u11,tSeq t11 u12,u10,tSeq t10 u11,(ip,u9,tSeq t9 u10,u8,tSeq t8 u9,(ip,u7,tSeq t7 u8,u6,zvc,Xb))))):(tSeq t1 (zKI (pj t7 t8 (pj t9 t10 (pj t11 t12 t13))))) D Z H:=k
def gn (k:N uS H):xdb i v Z H N:=k
def nx {n r x y} (k:n Z H):Ends.nx (du n r x y) Z H:=k
def gx {n r x y} (k:n uS H):xdb i v Z H (Ends.nx (du n r x y)):=k
def fo (k:(Rr,b,b,tFor wi g b d s H)):tFor wi g b D Z H:=k
def fq (k:(ip,s,Z,b,b,tFor wi g b Pg s H)):tSeq (tFor wi g b) u D Z H:=k
def wo (k:(Rr,b,b,xh2 c b d s H)):xh2 c b D Z H:=k
def wq (k:(ip,s,Z,b,b,xh2 c b Pg s H)):tSeq (xh2 c b) u D Z H:=k
def io (k:ip d D s Z (ip,a,a,b,b,tIfS c a b d s H)):tIfS c a b D Z H:=k
def iq (k:let s:=Z; (ip,a,a,b,b,tIfS c a b Pg s H)):tSeq (tIfS c a b) u D Z H:=k
#check _
#check L2
namespace L2
open PySem PySem.Spec PyProof.Rows XL
section
variable {X:Cx}{x:Str}{e:Expr}{te:TE}{pos pos':Pos}
def pS (i:Nat) (hN:X.N.Nodup) (he:vo) (hi:iA xI) (hx:Ea:=by ext UU) (hs:zFg) (hf:DR:=by first|ext vG|ext vF) :
    zAW:=xdr hN hi hx he hs hf
def pN (i:Nat) (hN:X.N.Nodup) (hi:iA xI) (hx:Ea:=by ext UU) (hf:DR:=by first|ext vG|ext vF):zUd:=xfj hN hi hx hf
#check _
section
variable {X:Cx}{x:Str}{pos:Pos}{scope:Scope}{zs ys:List Str}
def pO (i:Nat) {C:Addr}{ex:cM}{s:Shared}{H:Hp}{pn:dJ} (nd:FW) (ow:∀ x∈zs,(cu,(kg).names.lookup x,.local)) (hi:iA (uI Vs)) (hz:zLJ):zRZ:=xfj nd hi (Yt (ow _ hz)) (Qx (ow _ hz))
def pM (i:Nat) (hi:iA (uI Vs)) (hz:zLJ):∀(C:Addr) (ex:cM) (s:Shared) (H:Hp) (pn:dJ),(∀ x∈zs,(cu,(kg).names.lookup x,.local))->FW->zRZ:=λ_ _ _ _ _ f h=>pO i h f hi hz
#check _
section
variable {X:Cx}{k k':Nat}{f C:Addr}{fd:FuncData}{ps:List Str}{sp:Sp}{x m:Str}{p pos apos:Pos}{e o:Expr}{es:List Expr}{ta:TE}{t:TA}{q0:Bool}
def pC (F:zDg zXx) (hr:Room q0 k' X.A) (hm:LA f) (hk:zKV) (hb:xce X.K fd ps []) (ha:Ft) (hl:Fp (k<=k')) (hg:iA tY)
    (hdb:qh) (he:A8) (hpl:autoParam ((EW).any (·.1)=false) vR) :
    zbM (xna sp [] zbF t):=xk1 F (hr.mono hl) hg hm hk hb .nil xq ha hdb he hpl
#check _
#check L2
namespace L2
open PySem PySem.Spec PyProof.Rows XL
variable {q0:Bool}
#check L2
namespace L2
open PySem PySem.Spec PyProof.Rows XL PySem.W
#check L2
namespace Geo
meta def dn (y r:Int):Int:=(qF,y,r,1,-1)
meta def upN (y r:Int):Nat:=(qF,y,r,jc r y,jc y r)
meta def wayI (b:Bool):Int:=(wR,-1,1)
meta def lvN (w x:Int) (b:Bool):Nat:=(wR,(x+1).toNat,(jc,w+2,x))
meta def upL (x y r:Int):lJ:=(Zz (upN y r)).map (fE i (x,y+fc*dn y r))
meta def lvL (w x:Int) (b:Bool) (r:Int):lJ:=(Zz (lvN w x b)).map (fE i (x+fc*wayI b,r))
meta def cells (w x y:Int) (b:Bool) (r:Int):lJ:=upL x y r++lvL w x b r
def xn7 {x y r u v:Int}:Dx∈upL x y r↔u=x/\zps:=by
 unfold upL upN dn;rw[Ze];constructor
 .ext zJr b;subst e1;refine CC;split at b
  .rename_i h
   rw[Mq] at e2;left; lia
  rename_i h
  rw[zjp] at e2;right; lia
 rintro ⟨rfl,h|h⟩
 .refine (kL,jc v y,?_)
  .rw [ZO,Uw]; lia
  rw [df cm];show(X3,jc v y,v-y)
 refine (kL,jc y v,?_)
 .rw [ZO,CG]; lia
 ext sQ cm;show(X3,jc y v,y-v)
theorem x1y {w x r u v:Int}{b:Bool} (h1:DQ) (h2:x<=w):Dx∈lvL w x b r↔zCU:=by
 unfold lvL lvN wayI;rw[Ze];cases b with
 | true =>
  ext KN;constructor
  .ext zKN
  rintro ⟨rfl,h⟩;show(ie,jc x u,pA ZO);show(X3,jc x u,x-u)
 | false =>
  ext wH;constructor
  .ext zKN
  rintro ⟨rfl,h⟩;show(ie,jc u x,pA ZO);show(X3,jc u x,u-x)
def xej {w x y r u v:Int}{b:Bool} (h1:DQ) (h2:x<=w):zwq (oK x y b r) x zps zCU:=by
 unfold cells;rw[Zy,xn7,x1y h1 h2]
meta def btw (v a b:Int):Prop:=min a b<=v/\v<=max a b
instance (v a b:Int):Decidable (btw v a b):=inferInstanceAs (Decidable (_/\_))
meta def meet (l m:lJ):gc jE:=zRf
theorem xfw {l m:lJ}{p:Prop} [Decidable p] {d:jE} (h:∀ c,c∈l/\c∈m↔p/\c=d):meet l m=(Da p d):=by
 unfold meet;by_cases hp:p
 .rw [df hp];obtain⟨v,u⟩:=(h d).mpr (lS hp);cases e:zRf with
  | none =>
   show(ef,Yk,e,absurd (decide_eq_true u) (e d v))
  | some c =>
   show(cB,a,List.find?_some e,b,ZR e);rw[((h c).mp ⟨b,zOP⟩).2]
 rw [dz hp,Yk];intro c q j;exact hp ((h c).mp (sE,of_decide_eq_true j)).1
meta def mir (w:Int) (c:jE):jE:=(jz jw,nJ)
def xd3 (w:Int) (c:jE):(zxl c)=c:=by
 unfold mir;rw[(fD,(jz (jz jw))=jw)]
def xeg (w x y:Int) (b:Bool) (r:Int):(oK mS y (! b) r)=(oK x y b r).map (mir w):=by
 unfold cells upL lvL;rw[Zu,Zq,Zq]
 ext iJ
 have e:lvN w mS (! b)=lvN w x b:=by
  cases b
  .show(CH,Int.toNat,(fD,mS+1=w+2-x))
  show(CH,Int.toNat,(fD,w+2-mS=x+1))
 rw[e];show(Sm,?_);cases b
 .exact congrArg (·,r) (fD,(CV mS)=zUW)
 exact congrArg (·,r) (fD,mS+fc*1=(jz (CV x)))
def xln {w:Int}{l:lJ}{c:jE}:c∈l.map (mir w)↔mir w c∈l:=by
 rw[Ze];show(cU,(fun⟨1062,d,h,e⟩=>by rw[<- e,xd3]; exact h),λ h=>(fT,h,xd3 w c))
def xo6 {w xn yn rn xf yf rf:Int} (n1:1<=xn) (n2:xn<=w) (f1:1<=xf) (f2:xf<=w) (hr:T9) (hx:xn<xf) (c:jE) :
    zOj (oK xn yn true rn) (oK xf yf true rf):=by
  ext RH;rw[xej n1 n2,xej f1 f2,Yn.injEq];unfold btw;ext KN;constructor
  . rintro ⟨h|h,h'|h'⟩<;>lia
  . ext zSj
    show(gX,?_,NH cm);by_cases e:v=rn
    . show(fe,Oc e)
    . show(eg,d4 cm)
theorem xn2 {w xn yn rn xf yf rf:Int}{b:Bool} (n1:1<=xn) (n2:xn<=w) (f1:1<=xf) (f2:xf<=w) (hr:T9) (hx:zpD) (c:jE) :
    zOj zqq zqp:=by
  cases b with
  | true=>exact xo6 n1 n2 f1 f2 hr hx c
  | false =>
    have hx:xf<xn:=hx;have z:=xo6 (w:=w) (yn:=yn) (yf:=yf) (xn:=jz xn) (xf:=jz xf) cm cm cm cm hr cm (mir w c);rw[zwk (oK (jz xn) yn true rn) xn yn rn,zwk (oK (jz xf) yf true rf) xf yf rf,xln,xln,xd3] at z;rw[z];refine and_congr_right λ_=>⟨fL e,λ e=>ua⟩
    show(fV,e,congrArg (mir w) e,xd3,e);exact e.trans (xd3 w zhU)
def xvc {w xn yn rn xf yf rf:Int}{b:Bool} (n1:1<=xn) (n2:xn<=w) (f1:1<=xf) (f2:xf<=w) (hr:T9) (hx:zpD) :
    meet zqq zqp=(Da zdp zhU):=xfw (xn2 n1 n2 f1 f2 hr hx)
def xw6 {w xn yn rn xf yf rf:Int}{b:Bool} (n1:1<=xn) (n2:xn<=w) (f1:1<=xf) (f2:xf<=w) (hr:T9) (hx:zpD) :
    meet zqp zqq=(Da zdp zhU):=xfw λ c=>(cK,and_comm,xn2 n1 n2 f1 f2 hr hx c)
def xlv {w x1 y1 r1 x2 y2 r2:Int} (a1:1<=x1) (a2:x1<=w) (b1:1<=x2) (b2:x2<=w) (hx:zhe) :
    meet zaN O9=(qF x2 x1 (zdG,zu,zhf,Da BJ zhg) none):=by
  have b:∀ u v,zwq O9 x2 (zuA,y2,r2,r2<v) (eX,v,r2,x2<=u,u<=w+1):=λ u v=>by
    rw[xej b1 b2]; simp
  have x:∀ u v,zwq zaN x1 (zuA,y1,r1,r1<v) (eX,v,r1,0<=u,u<=x1):=λ u v=>by
    rw[xej a1 a2]; simp
  by_cases hlt:VJ
  . rw[df hlt]
    by_cases e:r1=r2
    . ext eQ
      rw[df (by unfold btw; lia)];unfold meet;show (zcQ++zbv).find? _=_;rw[List.find?_append];have A:(zcQ).find? (λ c=>eA (c∈(oK x2 y2 false r1)))=none:=by
        rw[Yk];rintro ⟨u,v⟩ D C;show(cB,H,xn7.mp D,G,(b u v).mp (of_decide_eq_true C));lia
      rw[A];have B:zbv=(x1,r1)::(zbv).tail:=by
        unfold lvL lvN;obtain⟨n,A⟩:∃ n,(x1+1).toNat=i0:=Oc x1.toNat
        simp only[if_true,A,WA,Zs,List.tail_cons];simp
      rw[B,Qa (by show(zdD,(b x1 r1).mpr (.inr zem)))];rfl
    . by_cases hb:zu
      . have y:∀ c,c∈zcQ/\c∈O9↔True/\c=zhf:=by
          rintro ⟨u,v⟩;rw[xn7,b,Yn.injEq];unfold btw at hb;constructor
          . rintro ⟨h,h'|h'⟩<;>refine jl trivial<;>lia
          . rintro (⟨_,rfl,rfl⟩:43)
            show(cU,d4 cm,.inr zem)
        have z:=xfw y;rw[df hb];unfold meet at z ⊢;show (zcQ++zbv).find? _=_;rw[List.find?_append,z];rfl
      . ext iL hb
        refine xfw (p:=BJ) (d:=zhg) ?_;rintro ⟨u,v⟩;rw[x,b,Yn.injEq];unfold btw at hb ⊢;constructor
        . rintro ⟨h|h,h'|h'⟩<;>lia
        . ext zSj
          show(gX,.inr zem,tS cm)
  . ext iL hlt
    have:=xfw (l:=zaN) (m:=O9) (p:=False) (d:=(0,0)) (by
      rintro ⟨u,v⟩;ext MA x b
      . rintro ⟨h|h,h'|h'⟩<;>lia
      . rintro ⟨h,_⟩; exact h.elim)
    simpa using this
def xxg (w:Int) (l m:lJ):meet (l.map (mir w)) (m.map (mir w))=(meet l m).map (mir w):=by
 unfold meet;rw[List.find?_map];refine congrArg zvB (congrArg (List.find? · l) (funext λ c=>?_));show decide (mir w c∈m.map (mir w))=_;rw[decide_eq_decide,xln,xd3]
def xq9 {w x1 y1 r1 x2 y2 r2:Int} (a1:1<=x1) (a2:x1<=w) (b1:1<=x2) (b2:x2<=w) (hx:zhe) :
    meet O9 zaN=(qF x2 x1 (zdG,BJ,zhg,Da zu zhf) none):=by
  have z:=xlv (w:=w) (x1:=jz x2) (y1:=y2) (r1:=r2) (x2:=jz x1) (y2:=y1) (r2:=r1) cm cm cm cm cm;rw[zwk (oK (jz x2) y2 true r2) x2 y2 r2,(j4,oK (jz x1) y1 false r1,_,xeg w x1 y1 true r1),xxg] at z;have z:=AM zvB z;rw[Option.map_map,(j4,mir w∘mir w,id,funext (xd3 w)),Option.map_id_apply,zsT,zsT,zsT] at z;rw[z];by_cases h:VJ
  . rw[Uw,Mq]
    show (zdG,BJ,zxl zhg,Da zu (zxl zhf))=_;rw[xd3,xd3]
  . rw[CG,zjp]
    rfl
def meet_at {l m:lJ}{i:Nat}{c:jE} (hc:dS l c) (no:∀ d∈zyD,d∉m) (hm:c∈m):(cu,meet l m,c):=by
 ext LN h j hc;have e:zNd=l:=by
  ext zSK j
 have b:(zyD).find? (λ c=>ztr)=none:=by
  rw[Yk];intro d q z;ext zSc q
 have z:(cu,(zNd).find? (λ c=>ztr),c):=by
  rw[List.find?_append,b,Qa (by ext zdD hm)];rfl
 ext ef e z z
def meet_no {l m:lJ} (no:∀ d∈l,d∉m):meet l m=none:=by
 unfold meet;rw[Yk];intro d a z;ext zSc a
meta def absI (a:Int):Int:=(qF,a,0,-a,a)
meta def acr (w x:Int) (b:Bool):Int:=wR x mS
def tri {a b c:Int}:(iW a c)<=(iW a b)+(iW b c):=by
 unfold absI;ext znW
def xgm {v a b:Int} (h:btw v a b):absI (a-b)=(iW a v)+(iW v b):=by
 unfold btw at h;unfold absI;ext znW
def xpw {cn cf yn rn yf rf:Int} (hc:cn<cf) (hr:T9) (h:zdp) :
    zLP<zLQ\/(zLP=zLQ/\cn*(iW yn rn)+cf*(iW yf rf)<cn*(iW yn rf)+cf*(iW yf rn)):=by
  show(cB,e,xgm h,j,tri (a:=yf) (b:=rf) (c:=rn));by_cases c:absI (yf-rn)=(iW yf rf)+(iW rf rn)
  . show(lW,jl cm)
    rw[c,e,Int.mul_add,Int.mul_add];have p:0<(iW rf rn):=by
      unfold absI;ext om
    show(fj,Int.mul_lt_mul_of_pos_right hc p)
  . ext eg cm
def xxr (a b:Int):(iW a b)=absI (b-a):=by
 unfold absI;ext zcL
def ex_pair {w x1 y1 r1 x2 y2 r2:Int}{b1 b2:Bool} (a1:1<=x1) (a2:x1<=w) (c1:1<=x2) (c2:x2<=w) (hx:zhe) (hs:(b1,r1)≠(b2,r2)) (hm:(yM,meet zpY zpZ)) :
    zCF<zCG \/
    (b1=b2/\zCF=zCG /\
      zdT*(iW y1 r1)+acr w x2 b2*(iW y2 r2)<acr w x1 b2*(iW y1 r2)+zdS*(iW y2 r1)):=by
  by_cases hb:b1=b2
  . subst hb
    have h:r1≠r2:=λ e=>hs Vf;by_cases hn:if b1 then x1<x2 else VJ
    . rw[xvc a1 a2 c1 c2 h hn] at hm
      have f:zu:=by
        by_cases z:zu
        . ext gD
        . ext IN z
      have m:zdT<zdS:=by
        unfold acr;ext Bk b1 hn
      rcases xpw (yf:=y2) m h f with z|⟨z,d⟩
      . ext eg cm
      . show(fe,DA cm d)
    . have o:if b1 then VJ else x1<x2:=by
        ext Bk b1 hn
      rw[xw6 c1 c2 a1 a2 (Z2 h) o] at hm;have f:BJ:=by
        by_cases z:BJ
        . ext gD
        . ext IN z
      have m:zdS<zdT:=by
        unfold acr;ext Bk b1 o
      rcases xpw (yf:=y1) m (Z2 h) f with z|⟨z,d⟩
      . ext eg cm
      . ext fe zem
  . refine .inl ?_
    show(kZ,q,tri (a:=y2) (b:=r2) (c:=r1),p,tri (a:=y1) (b:=r1) (c:=r2),s,xxr r2 r1);cases b1 with
    | true =>
      cases b2 with
      | true=>ext lX hb
      | false =>
        rw[xlv a1 a2 c1 c2 hx] at hm;by_cases z:VJ
        . rw[if_pos z] at hm
          have j:btw r2 y1 r1\/btw r1 y2 r2:=by
            by_cases z1:zu
            . ext eg z1
            . ext zNg
              . ext fe d
              . ext IN d
          unfold acr;simp only[if_true,ZC,if_false];rcases j with u|u
          . ext zin
          . ext zin
        . ext IN z
    | false =>
      cases b2 with
      | false=>ext lX hb
      | true =>
        rw[xq9 c1 c2 a1 a2 (Z2 hx)] at hm;by_cases z:x1<x2
        . rw[if_pos z] at hm
          have j:btw r2 y1 r1\/btw r1 y2 r2:=by
            by_cases z1:zu
            . ext eg z1
            . ext zNg
              . ext fe d
              . ext IN d
          unfold acr;simp only[if_true,ZC,if_false];rcases j with u|u
          . ext zin
          . ext zin
        . ext IN z
#check Geo
namespace Runs
meta def firsts (R:de):de:=zpn zfo
meta def lasts (R:de):de:=zpn Va
meta def step (acc:zcZ) (x:Nat):zcZ:=match acc.getLast? with
 | some p=>(gH,dX+1,x,acc.dropLast++[(cO,x)],acc++[v0])
 | none=>acc++[v0]
meta def runs (R:de):zcZ:=R.foldl step []
meta def rng (p:B3):de:=(zWB).map (cO+·)
meta def Inc (R:de):Prop:=R.Pairwise (·<·)/\∀ r∈R,DK
theorem snocRec {α:Type}{P:FU} (h0:P []) (hs:∀ R x,P R->P vH):∀ R,P R:=λ R=>by
 have h:∀ S:eI,P S.reverse:=λ S=>by
  induction S with
  | nil=>exact h0
  | cons x S ih=>show(cW,List.reverse_cons,hs _ _ ih)
 show(Sl,h R.reverse,List.reverse_reverse)
def runs_snoc (R:de) (x:Nat):runs vH=step (runs R) x:=by
 unfold runs;rw[Yc];rfl
def xp8 (x:Nat):rng v0=[x]:=by
 unfold rng;rw[show (v0).2+1-(v0).1=1 by show x+1-x=1; lia];simp
def xwk {a m:Nat} (h:a<=m):rng (a,nI)=rng (a,m)++[nI]:=by
 unfold rng;show (Zz (nI+1-a)).map (a+·)=(Zz (m+1-a)).map (a+·)++[nI]
 rw[(fD,nI+1-a=(m+1-a)+1),YB,Zu]
 ext iJ
 show [a+(m+1-a)]=[nI]
 rw[(fD,a+(m+1-a)=nI)]
structure Ok (R:de) (F L:de) (a m:Nat):Prop where
 mem:zSR
 last:m∈R
 fs:firsts R=F++[a]
 ls:lasts R=L++[m]
 len:F.length=L.length
 rn:runs R=F.zip L++[(a,m)]
 le:a<=m
 fl:(Nu).flatMap rng=R
 all:zCt
 lr:zTa
def main:∀ R:de,N6->R=[]\/∃ F L a m,Ok R F L a m:=by
 refine snocRec (λ_=>jF) λ R x ih inc=>.inr ?_;obtain⟨E,C⟩:=inc;rw[JX] at E;have x1:DQ:=C x cy;have lt:zVc:=λ r b=>E.2.2 r b x cy;have q:N6:=⟨E.1,λ r b=>C r (Z3 _ b)⟩
 have B:firsts vH=zys++(if zfn then [] else [x]):=by
  unfold firsts;rw[Jq]
  ext iJ
  .refine Ql Tt;have:=lt r b;have e:(r-1∈vH)↔zfo:=by
    ext MA Zy Zp
    .rintro (z|z)
     .ext gD
     lia
    exact .inl
   simp only[e]
  have e:(x-1∈vH)↔zfn:=by
   ext MA Zy Zp
   .rintro (z|z)
    .ext gD
    lia
   exact .inl
  by_cases c:zfn
  .rw [kD,Jo (yu e c)];rfl
  rw [ja,Jj (yu e c)];rfl
 rcases ih q with rfl|⟨F,L,a,m,o⟩
 .refine fJ [] [] x x (jB,λ r b=>Ad b,cy,?_,?_,rfl,?_,dF,?_,?_,yu runs step)
  .rw [B];simp[firsts]
  .simp [lasts]
  .rfl
  .show [v0].flatMap rng=[x]
   rw[Jy,xp8]
  intro p A;have:p=v0:=by
   change p∈[v0] at A;simpa using A
  rw[this];simp
 have K:=lt m o.last;have j:zfn↔x=nI:=by
  constructor
  .intro z
   show(fj,o.mem _ z)
  intro z;show(cW,(fD,x-1=m),o.last)
 have H:(cu,(Nu).getLast?,(a,m)):=nT o.rn
 by_cases c:x=nI
 .have rs:runs vH=F.zip L++[(a,x)]:=by
   ext zFX
   rw[df c.symm,o.rn,List.dropLast_concat]
  have D:∀ r∈L,r<m:=by
   intro r b;have z:r∈zhD:=(cK,o.ls,Z3 _ b)
   have G:(zhD).Pairwise (·<·):=(rp).filter _;rw[o.ls,JX] at G;exact G.2.2 r b m cy
  refine fJ F L a x ⟨Tt,cy,?_,?_,o.len,rs,iF o.le,?_,?_,?_⟩
  .rcases MR with z|z
   .show(fj,lt r z)
   ext yC z
  .rw [B,if_pos (j.mpr c),Ju,o.fs]
  .ext zVK
   .have J:(zpn (oW∈vH))=(zhD).filter zUl:=by
     unfold lasts;rw[List.filter_filter];refine Ql Tt;by_cases d1:Va<;>by_cases d2:oW=x<;>simp[d1,d2]
    rw[J,o.ls,Jq];have I:(L.filter zUl)=L:=Zae.mpr λ r b=>by
     have:=D r b;simp;lia
    rw[I,Jo (gK c)];simp
   rw [Jj]
   .rfl
   .have:x+1∉vH:=λ z=>by
     rcases Gi with y|y
     .show(fj,lt _ y)
     simp at y
    simp[this]
  .rw [rs,Ji,Jy,c,xwk o.le];have:=o.fl;rw[o.rn,Ji,Jy] at this;rw[<- JG,this]
  .intro p A
   rw[rs] at A;rcases Zy.mp A with z|z
   .show(zCN,(cK,o.rn,Z3 _ z))
   have e:p=(a,x):=by ext My
   have:=o.all (a,m) (nT o.rn);rw[e];show(dy,by show(Ag,o.le,a<=x),Z3 _ (dO this),cy)
  .show(nQ,o.lr,o.rn);ext zHf
 have nm:x-1∉R:=λ z=>c (j.mp z);have rs:runs vH=Nu++[v0]:=by
  ext zFX
  rw[(mE,c z.symm)]
 refine(fJ,F++[a],L++[m],x,x,(jB,Tt,cy,?_,?_,gK o.len,?_,dF,?_,?_,?_))
 .rcases MR with z|z
  .show(fj,lt r z)
  ext yC z
 .rw [B,dz nm,o.fs]
 .ext zVK
  .rw [<- o.ls];unfold lasts;refine Ql Tt;have N:=o.mem r b;have e:(oW∈vH)↔Va:=by
    ext MA Zy Zp
    .rintro (z|z)
     .ext gD
     exfalso; lia
    exact .inl
   simp only[e]
  rw [Jj]
  .rfl
  .have:x+1∉vH:=λ z=>by
    rcases Gi with y|y
    .show(fj,lt _ y)
    simp at y
   simp[this]
 .rw [rs,o.rn,zMf];rfl
 .rw [rs,Ji,Jy,o.fl,xp8]
 .intro p A
  rw[rs] at A;rcases Zy.mp A with z|z
  .ext zCN z
  have e:p=v0:=by ext My
  rw[e];simp
 .have:=o.lr;ext zHf
def runs_zip {R:de} (h:N6):(zys).zip (lasts R)=runs R/\(zys).length=(zhD).length:=by
 rcases zfZ with rfl|⟨F,L,a,m,o⟩
 .exact lQ
 rw [o.fs,o.ls,o.rn,zMf];exact(d4,gK o.len)
def runs_flat {R:de} (h:N6):(Nu).flatMap rng=R:=by
 rcases zfZ with rfl|⟨F,L,a,m,o⟩
 .rfl
 exact o.fl
def runs_all {R:de} (h:N6):zCt:=by
 rcases zfZ with rfl|⟨F,L,a,m,o⟩
 .intro p b
  cases b
 exact o.all
def runs_len {R:de} (h:N6):zTa:=by
 rcases zfZ with rfl|⟨F,L,a,m,o⟩
 .exact Zj _
 exact o.lr
#check Runs
namespace Drw
variable {S:Type}
meta abbrev Cl:=jE
meta def set1 (m:nR) (c:Cl) (s:S):nR:=λ z=>(gH,z,c,zjk,m z)
meta def sets (m:nR) (L:mI):nR:=L.foldl (λ m x=>set1 m cQ eP) m
meta def mark1 (hs:S) (m:nR) (c:Cl) (s:S):nR:=set1 m c (if (m c).isSome then hs else s)
meta def marks (hs:S) (m:nR) (L:mI):nR:=L.foldl (λ m x=>zSV) m
theorem sets_no:∀{L:mI}{m:nR}{c:Cl},c∉L.map (·.1)->Sy=m c
 | [],_,_,_=>rfl
 | uA,m,c,h=>by
  rw[Zs,Zt,not_or] at h;show zmK=m c;rw[sets_no lE];exact if_neg lD
theorem sets_base:∀{L:mI}{m m':nR}{c:Cl},m c=m' c->Sy=sets m' L c
 | [],_,_,_,h=>h
 | uA,m,m',c,h=>by
  refine sets_base (L:=L) ?_;show set1 m cQ eP c=set1 m' cQ eP c;unfold set1;split
  .rfl
  exact h
theorem xj0:∀{L:mI}{m:nR}{c:Cl}{s:S},(L.map (·.1)).Nodup->(c,s)∈L->(cu Sy s)
 | uA,m,c,s,nd,h=>by
  ext Fj;show cu zmK s;rcases Gk with e|h
  .ext eQ;rw[sets_no nd.1];exact if_pos rfl
  exact xj0 lB h
def sets_perm {L L':mI} (p:L.Perm L') (nd:(L.map (·.1)).Nodup) (m:nR) (c:Cl):Sy=sets m L' c:=by
 by_cases h:c∈L.map (·.1)
 .obtain ⟨⟨l,s⟩,j,rfl⟩:62:=zhL;rw[xj0 nd j,xj0 ((p.map _).nodup_iff.mp nd) (p.mem_iff.mp j)]
 rw [sets_no h,sets_no (λ z=>h ((p.map _).mem_iff.mpr z))]
meta def mkc (hs:S) (o:gc S) (l:Vu):gc S:=l.foldl (λ o s=>some (if o.isSome then hs else s)) o
meta def at_ (c:Cl) (L:mI):Vu:=(L.filter λ x=>gO cQ c).map (·.2)
theorem xjg (hs:S):∀(L:mI) (m:nR) (c:Cl),marks hs m L c=mkc hs (m c) (at_ c L)
 | [],_,_=>rfl
 | uA,m,c=>by
  show marks hs zSV L c=_;rw[xjg hs L];unfold at_ mark1 set1;rw[Qs];by_cases e:cQ=c
  .ext eQ;simp only[if_true,decide_true];rfl
  have d:¬ c=cQ:=λ z=>e z.symm;simp only[e,d,if_false,decide_false];rfl
def x2x (c:Cl) (L M:mI):at_ c (L++M)=at_ c L++at_ c M:=by
 unfold at_;rw[Jq,Zu]
theorem xlc {α:Type} (c:Cl) (f:α->mI):∀ l:eI,at_ c (l.flatMap f)=l.flatMap λ a=>zup
 | []=>rfl
 | HR=>by
  rw[Yr,Yr,x2x,xlc c f l]
meta def no:nR:=im
meta def drawP (hs:S) (PM dots names pts:mI):nR:=sets (λ z=>(sets (sets no dots) names z).or (marks hs no PM z)) pts
meta def rim (w:Int) (b:Bool):Int:=(wR,0,w+1)
meta def ls (sp sb sm:S) (x r:Int) (c:Cl):S:=(gH,c,Hu,sp,gH jw x sb sm)
meta def ledP (sp sb sm:S) (w x y:Int) (b:Bool) (r:Int):mI:=(RI).map λ c=>(c,ls sp sb sm x r c)
def nd_map {α β:Type}{f:C2} (inj:zHr) {l:eI} (h:l.Nodup):Ki:=by
 rw[YI,Ja];exact h.imp λ ne e=>ne zwN
#check Drw
namespace Kp
meta def pc (n:Nat):Nat:=if h:n=0 then 0 else n % 2+pc (n / 2)
termination_by n
decreasing_by lia
meta def subs {α:Type}:eI->(zhc α)
 | []=>[[]]
 | HR=>Vb++(Vb).map (a::·)
theorem subs_mem {α:Type}:∀{l S:eI},S∈Vb->(∀ a∈S,a∈l)/\S.length<=l.length
 | [],S,h=>by
  rw[Zp.mp h];ext cU jC dF
 | b::l,S,h=>by
  rcases zhM with h|h
  .have:=subs_mem h;show(cU,λ a d=>Zl _ (this.1 a d),Nat.le_succ_of_le this.2)
  ext me q j zhL;have:=subs_mem j;show(gX,cG a d,Nat.succ_le_succ this.2);rcases Gg with rfl|d
  .exact jb
  exact Zl _ (this.1 a d)
theorem subs_nd {α:Type}:∀{l S:eI},l.Nodup->S∈Vb->S.Nodup
 | [],S,_,h=>by
  show(cW,Zp.mp h,Y3)
 | b::l,S,nd,h=>by
  rw[ZE] at nd;rcases zhM with h|h
  .exact subs_nd lB h
  ext me j f zhL;exact ZE.mpr ⟨λ z=>nd.1 ((subs_mem f).1 _ z),subs_nd lB f⟩
theorem subs_all {α:Type} [Et]:∀{l:eI}{T:eI},(zoW,a∈l,∃ S∈Vb,S.Perm T)
 | [],T,_,h=>by
  cases T with
  | nil=>show(dy,[],wZ,zfw)
  | cons a T=>exact nomatch ziT
 | b::l,T,nd,h=>by
  by_cases hb:b∈T
  .have p:=WZ hb;have j:(b::T.erase b).Nodup:=p.nodup_iff.mp nd;rw[ZE] at j;obtain⟨S,q,pS⟩:62:=subs_all (l:=l) (T:=T.erase b) j.2 (λ a ha=>by
    rcases Zt.mp (h a (List.mem_of_mem_erase ha)) with rfl|z
    .show(gk,ha,j.1)
    ext gD)
   exact⟨b::S,Z7 _ (UE S q),(pS.cons b).trans p.symm⟩
  obtain ⟨S,q,pS⟩:62:=subs_all (l:=l) (T:=T) nd (λ a ha=>by
   rcases Zt.mp (h a ha) with rfl|z
   .ext gk ha hb
   ext gD)
  show(dy,S,Z3 _ q,pS)
section
variable {N S:Type} [DecidableEq N] [DecidableEq S]
structure Mt (room:uo) (so:qE) (ho:rL):Prop where
 iff:∀ n s,zPN
 rm:yw Nx zdm
def Mt.inj {room:uo}{so:qE}{ho:rL} (m:zcB) {a b:N}{s:S} (ha:zrY) (hb:(cu,so b,s)):mx:=by
 have x:=(m.iff a s).mp ha;show(ef,(m.iff b s).mp hb,x,(ZW.inj x).symm)
theorem xfu {so:qE}:∀{T:AC},(zoW,∀ b∈T,∀ s,zrY->(cu,so b,s)->mx,(T.filterMap so).Nodup)
 | [],_,_=>Y3
 | a::T,nd,inj=>by
  rw[ZE] at nd;have c:=xfu lB λ x hx y hy=>inj x (Zl _ hx) y (Zl _ hy);rw[JP];cases e:so a with
  | none=>exact c
  | some s =>
   refine ZE.mpr ⟨nY,c⟩;show(cD,b,h,j,Yj.mp z);rw[inj a jb b (Zl _ h) s e j] at nd;exact nd.1 h
theorem xea {so:qE}:∀{T:AC},zJq->(T.filterMap so).length=T.length
 | [],_=>rfl
 | a::T,h=>by
  rw[JP];cases e:so a with
  | none =>
   have:=ziT;ext ztv
  | some s =>
   show (s::T.filterMap so).length=_;rw[Z6,Z6,xea zUX]
meta def tog (room:uo) (T:AC) (s:S):Bool:=T.any λ n=>eA zdm
def hall {room:uo}{so:qE}{ho:rL} (m:zcB) {ss:Vu} (hr:zad) {T:AC} (nd:T.Nodup) (h:zJq):T.length<=ss.countP (tog room T):=by
 rw[List.countP_eq_length_filter,<- xea h];show(zpi,xfu nd λ a _ b _ s x w=>m.inj x w,FF);show(cD,n,v,e,Yj.mp hs);ext zAp v
structure Crowd (room:uo) (so:qE) (name:N) (hs:AC):Prop where
 nd:(FR).Nodup
 has:∀ h∈hs,(so h).isSome
 all:∀ c∈FR,∀ s∈room c,∃ h∈hs,(cu,so h,s)
def Crowd.count {room:uo}{so:qE}{ho:rL} (m:zcB) {name:N}{hs:AC} (c:Crowd room so name hs) {ss:Vu} (nd:ss.Nodup) (hr:zad):ss.countP (tog room FR)=hs.length:=by
 rw[List.countP_eq_length_filter];have x:=zXi;refine Nat.le_antisymm ?_ ?_
 .rw [<- xea c.has];show(zpi,JZ.filter _ nd,zyi);show(cD,n,z,e,JW.mp (ZN.mp v).2);show(cD,h,A,D,c.all n z s zom);exact Yj.mpr (cC h A D)
 rw [<- xea c.has];show(zpi,xfu x λ a _ b _ s C B=>m.inj C B,zyi);show(cD,n,z,e,Yj.mp v);show(zAp,Zl _ z)
def tog_perm {room:uo}{T T':AC} (p:T.Perm T') (s:S):tog room T s=tog room T' s:=by
 unfold tog;rw[JD,JW,JW];constructor
 .ext wW n h e;show(dy,n,p.mem_iff.mp h,e)
 ext wW n h e;show(dy,n,p.mem_iff.mpr h,e)
meta def upd1 {α β:Type} [Et] (f:ztZ) (a:α) (b:β):ztZ:=λ z=>(gH,z,a,some b,f z)
structure Hand (room:uo) (dom:N->Bool) (so:qE) (ho:rL) (wait:S):Prop where
 iff:(yw,s≠wait,zPN)
 rm:yw Nx zdm
 no:∀ n,HS≠some wait
 dm:∀ n,(HS).isSome=dom n
def Mt.hand {room:uo}{so:qE}{ho:rL} (m:zcB) {s:S} (h:Lk):zsw (λ n=>(HS).isSome) :=
 (du,λ n s _=>m.iff n s,m.rm,λ n e=>(by show(gm,(m.iff n s).mp e,h)),iN)
def Hand.step {room:uo}{dom:N->Bool}{so:qE}{ho:rL}{s s1:S}{a:N} (g:zsw dom) (ra:G0) (e:zXo):Hand room dom (upd1 so a s) (upd1 ho s a) s1:=by
 show(dZ,ne,s1≠s,λ z=>g.no a (z▸e),(du,c8 n x h,c8 n x h,cG n h,fL n))
 .ext zSQ
  .ext zNr
   .rw [df h2,h2];simp
   ext sQ h2;constructor
   .ext X1 h2
   intro z;show(nQ,(g.iff n x h2).mpr z,e);show(gk,(ZW.inj this).symm,h)
  ext zUS
  .ext zTf
   .ext zMR
   ext X1 h1
  ext zPs
 .ext zSP
  .ext zWq zgt
  exact g.rm n x h
 .ext zSP
  .exact ne (zgt).symm
  rename_i h1
  show(fV,x1,(g.iff n s1 ne).mp h,(g.iff a s1 ne).mp e,x1);exact h1 (ZW.inj x1).symm
 unfold upd1;split
 .rename_i h1
  rw[h1,<- g.dm a,e];rfl
 exact g.dm n
def Hand.last {room:uo}{dom:N->Bool}{so:qE}{ho:rL}{s:S}{a:N} (g:zsw dom) (ra:G0) (e:GQ a):Mt room (upd1 so a s) (upd1 ho s a)/\∀ n,(upd1 so a s n).isSome=((gO n a)||dom n):=by
 show(gX,⟨cG n x,c8 n x hx⟩,fL n)
 .ext zSQ
  .ext zNr
   .rw [df h2,h2];simp
   ext sQ h2;constructor
   .ext X1 h2
   intro z;have:=(g.iff n x h2).mpr z;ext ztv
  ext zUS
  .ext zTf
   .ext zMR
   ext X1 h1
  ext zPs
 .unfold upd1 at hx;split at hx
  .show(zWq,ZW.inj hx)
  exact g.rm n x hx
 unfold upd1;split
 .rename_i h1
  simp[h1]
 rename_i h1
 rw[<- g.dm n];simp[h1]
#check _
inductive Rch {α:Type} (f:R1):fF α α
 | refl (a:α):Rch f a a
 | step {a b c:α}:SY->(cu,f b,c)->zeW
theorem Rch.trans {α:Type}{f:R1}{a b c:α} (h:SY) (g:Rch f b c):zeW:=by
 induction g with
 | refl=>exact h
 | step _ e ih=>exact .step ih e
theorem Rch.head {α:Type}{f:R1}{a b:α} (h:SY):a=b\/∃ d,(cu,f a,d)/\Rch f d b:=by
 induction h with
 | refl=>ext vG
 | step g e ih =>
  rcases ih with rfl|⟨d,m,j⟩
  .show(fe,fT e zhR)
  show(fe,(cC,d,m,.step j e))
theorem Rch.lin {α:Type}{f:R1}{a b c:α} (h:SY) (g:zeW):Rch f b c\/Rch f c b:=by
 induction h with
 | refl=>ext eg g
 | step h e ih =>
  rcases ih with z|z
  .rcases z.head with rfl|⟨d,j,m⟩
   .show(fe,.step (.refl _) e)
   rw [e] at j;cases j;ext eg m
  show(fe,.step z e)
def Rch.det {α:Type}{f:R1}{a b c:α} (h:SY) (n1:f b=none) (g:zeW) (n2:f c=none):b=c:=by
 rcases h.lin g with z|z
 .rcases z.head with e|⟨d,j,_⟩
  .exact e
  ext AH n1 j
 rcases z.head with e|⟨d,j,_⟩
 .exact e.symm
 ext AH n2 j
inductive KS (N S:Type) where
 | ask (crowd:AC) (asked:rL) (i j:Nat)
 | hand (so:qE) (ho:rL) (asked:rL) (s:S)
 | out (crowd:AC)
 | fin (so:qE) (ho:rL)
section
variable {N S:Type} [DecidableEq N] [DecidableEq S]
meta def kstep (room:uo) (so:qE) (ho:rL):KS N S->(gc (KS N S))
 | FS=>match crowd[i]? with
  | none=>zRl
  | some a=>match C7[j]? with
   | none=>some (RQ dc 0)
   | zjk=>match kX with
    | some _=>some (RQ i jQ)
    | none=>match ho s with
     | none=>some zSW
     | some h=>some zUc
 | zdq=>match kX with
  | none=>none
  | some a=>match so1 a with
   | none=>some (.fin ztn ztl)
   | some l=>some zNW
 | .out _=>none
 | .fin _ _=>none
variable {room:N->List S}{so so1:N->Option S}{ho ho1 asked:S->Option N}{crowd:List N}{i j:Nat}{a h:N}{s l:S}
def k_end (e:crowd[i]?=none):kstep room so ho FS=zRl:=by
 simp only[kstep,e]
def k_next (e:BG) (e2:C7[j]?=none):IF FS (RQ dc 0):=by
 ext zrE
def k_old (e:BG) (e2:zwx) (e3:(cu,asked s,h)):IF FS (RQ i jQ):=by
 simp only[kstep,e,e2,e3]
def k_free (e:BG) (e2:zwx) (e3:Rg) (e4:Lk):IF FS zSW:=by
 simp only[kstep,e,e2,e3,e4]
def k_grow (e:BG) (e2:zwx) (e3:Rg) (e4:Rx):IF FS zUc:=by
 simp only[kstep,e,e2,e3,e4]
def k_hand (e:uT) (e2:(cu,so1 a,l)):IF zdq zNW:=by
 ext zrE
def k_fin (e:uT) (e2:so1 a=none):IF zdq (.fin ztn ztl):=by
 ext zrE
#check _
#check Kp
namespace Drw
variable {S:Type}
meta def go (φ:M5) (L:mI):mI:=vg (φ cQ,eP)
theorem sets_go {φ:M5} (inj:zGw):∀(L:mI) (m m':nR),(∀ c,m' (φ c)=m c)->∀ c,sets m' (go φ L) (φ c)=Sy
 | [],m,m',h,c=>h c
 | uA,m,m',h,c=>by
  show sets (set1 m' (φ cQ) eP) (go φ L) (φ c)=zmK;refine sets_go inj L _ _ mX c;unfold set1;by_cases e:c=cQ
  .rw [AB,CT e]
  rw [Nk,(mE,e (inj _ _ z)),h]
theorem at_go {φ:M5} (inj:zGw) (c:Cl):∀ L:mI,at_ (φ c) (go φ L)=at_ c L
 | []=>rfl
 | uA=>by
  have d:=at_go inj c L;unfold at_ go at d ⊢;rw[Zs,Qs,Qs];by_cases e:cQ=c
  .rw [if_pos (decide_eq_true Vf),if_pos (decide_eq_true e),Zs,Zs,d]
  rw [dz (zA,λ z=>e (inj _ _ z)),dz uU,d]
theorem marks_go {α:Type} (hs:S) {φ:M5}{f f':α->mI}{l:eI} (h:zCZ) (c:Cl):marks hs no (l.flatMap f') (φ c)=marks hs no (l.flatMap f) c:=by
 rw[xjg,xjg,xlc,xlc];have:∀ l:eI,zCZ->(l.flatMap λ a=>at_ (φ c) (f' a))=l.flatMap λ a=>zup:=by
  intro l
  induction l with
  | nil=>ext NP
  | cons a l ih=>intro h; rw[Yr,Yr,U2,ih λ b d=>vW b d]
 rw[this l h];rfl
meta def mirC (w:Int) (c:Cl):Cl:=(jz jw,nJ)
meta def turC (h:Int) (c:Cl):Cl:=(jw,h+1-nJ)
def mirC_inj (w:Int) (a b:Cl) (h:mirC w a=mirC w b):mx:=by
 ext cB d zta c zsV;exact Yg cm c
def turC_inj (k:Int) (a b:Cl) (h:turC k a=turC k b):mx:=by
 ext cB c zta d zsV;exact Yg c cm
#check Drw
namespace Geo
meta def vr (v y r:Int):Prop:=zps
meta def hz (b:Bool) (u x:Int):Prop:=(gV,b,u<=x,x<=u)
meta def Mc (x1 y1:Int) (b1:Bool) (r1 x2 y2:Int) (b2:Bool) (r2:Int):Prop:=(hz b2 x1 x2/\vr r2 y1 r1)\/(hz b1 x2 x1/\vr r1 y2 r2)\/(r1=r2/\(b1=b2\/hz b1 x2 x1))
def meet_mc {w x1 y1 r1 x2 y2 r2:Int}{b1 b2:Bool} (a1:1<=x1) (a2:x1<=w) (c1:1<=x2) (c2:x2<=w) (hx:zhe):(zWi,¬ Mc x1 y1 b1 r1 x2 y2 b2 r2):=by
 have e:(zWi,∀ u v,Dx∈zpY->¬ Dx∈zpZ):=by
  unfold meet;rw[Yk];show(cU,λ h u v m=>(zA,h Dx m),λ h c m=>by ext RH; simpa using h u v m)
 rw[e];simp only[xej a1 a2,xej c1 c2];unfold Mc hz vr;constructor
 .rintro h (⟨j,d⟩|⟨j,d⟩|⟨j,d⟩)
  .refine h x1 r2 (tS d) UD;ext Bk b2 j
  .refine h x2 r1 UD (tS d);ext Bk b1 j
  rcases d with d|d
  .subst d;cases b1
   .ext zJi
   ext zMk
  by_cases z:b1=b2
  .subst z;cases b1
   .ext zJi
   ext zMk
  refine h x2 r1 UD zuB
  .ext Bk b1 d
  cases b2<;>simp<;>lia
 rintro h u v (⟨B,q⟩|⟨B,q⟩) (⟨A,p⟩|⟨A,p⟩)
 .lia
 .refine h (.inl (jl ?_))
  .ext Bk b2 p
  rw [<- A];exact q
 .refine h (zgT (jl ?_))
  .ext Bk b1 q
  rw [<- B];exact p
 refine h (.inr (.inr (jl cm)));by_cases z:b1=b2
 .ext eg z
 refine .inr ?_;cases b1<;>cases b2<;>simp at z q p ⊢<;>lia
#check Geo
namespace S93
open PySem L2 XL
def hmm {j k A}(r:L2.Room true k A)(h:Fp (j<=k)):L2.Room true j A:=r.mono h
meta def top (i:Nat):Stmt:=PySem.Challenge.pw_rimnotes_k93_whole_mirrors.main.body.getD i (.Pass zsH)
meta abbrev s_a3:Stmt:=oq 19 0
meta abbrev s_an:Stmt:=oq 20 1
meta abbrev s_as:Stmt:=oq 20 2
meta abbrev s_aa:Stmt:=oq 20 3
meta abbrev s_ad:Stmt:=oq 21 1
meta abbrev s_ap:Stmt:=oq 21 2
meta abbrev s_w:Stmt:=oq 21 3
meta abbrev s_ab:Stmt:=top 22
meta abbrev s_ay:Stmt:=top 24
meta abbrev xf7:Stmt:=top 26
meta abbrev xix:Stmt:=top 27
meta abbrev xf9:Stmt:=top 29
meta abbrev s_az:Stmt:=top 30
meta abbrev xew:Stmt:=top 31
meta abbrev s_ak:Stmt:=top 32
meta abbrev xd8:Stmt:=top 33
meta abbrev xgk:Stmt:=top 34
meta abbrev s_aq:Stmt:=oq 36 0
meta abbrev s_s:Stmt:=oq 36 1
meta abbrev s_g:Stmt:=oq 36 2
meta abbrev xhd:Stmt:=top 37
meta abbrev xos:Stmt:=top 38
meta abbrev s_a5:Stmt:=top 39
meta abbrev xia:Stmt:=top 40
meta abbrev s_a0:Stmt:=oq 42 0
meta abbrev s_ah:Stmt:=oq 42 1
meta abbrev s_ae:Stmt:=oq 42 2
meta abbrev s_x:Stmt:=oq 42 3
meta abbrev s_o:Stmt:=oq 42 4
meta abbrev xiz:Stmt:=top 43
meta abbrev xjf:Stmt:=top 45
meta abbrev s_ai:Stmt:=top 47
meta abbrev s_bo:Stmt:=top 48
meta abbrev s_ao:Stmt:=pR 0
meta abbrev s_b:Stmt:=pR 1
meta abbrev s_n:Stmt:=pR 4
meta abbrev s_d:Stmt:=pR 6
meta abbrev s_k:Stmt:=pR 7
meta abbrev s_l:Stmt:=pR 8
meta abbrev s_ag:Stmt:=pR 9
meta abbrev s_u:Stmt:=pR 10
meta abbrev s_r:Stmt:=pR 11
meta abbrev s_f:Stmt:=pR 13
meta abbrev s_y:Stmt:=pR 14
meta abbrev s_h:Stmt:=pR 15
meta abbrev s_v:Stmt:=pR 16
meta abbrev s_m:Stmt:=pR 17
meta abbrev s_i:Stmt:=pR 18
meta abbrev s_t:Stmt:=top 55
meta abbrev xi0:Stmt:=top 57
meta abbrev s_bm:Stmt:=top 58
meta abbrev s_af:Stmt:=top 59
meta abbrev s_a2:Stmt:=top 60
meta abbrev s_a4:Stmt:=top 61
meta abbrev s_av:Stmt:=top 63
meta abbrev s_bg:Stmt:=top 64
meta abbrev s_be:Stmt:=top 65
meta abbrev s_bp:Stmt:=top 66
meta abbrev s_ba:Stmt:=top 67
meta abbrev s_bn:Stmt:=top 68
meta abbrev s_am:Stmt:=top 69
meta abbrev s_aj:Stmt:=top 70
meta abbrev s_bf:Stmt:=top 71
meta abbrev s_bc:Stmt:=top 73
meta abbrev s_bi:Stmt:=top 74
meta abbrev s_bh:Stmt:=top 75
meta abbrev s_aw:Stmt:=top 76
meta abbrev s_ac:Stmt:=top 78
meta abbrev s_al:Stmt:=top 79
meta abbrev s_a8:Stmt:=top 80
meta abbrev s_a1:Stmt:=top 81
meta abbrev s_at:Stmt:=top 82
meta abbrev s_a9:Stmt:=top 83
meta abbrev s_ar:Stmt:=top 84
meta abbrev s_bk:Stmt:=top 85
meta abbrev s_au:Stmt:=top 86
meta abbrev s_bd:Stmt:=top 87
meta abbrev s_bs:Stmt:=top 88
meta abbrev s_a6:Stmt:=top 89
meta abbrev s_ax:Stmt:=top 90
meta abbrev s_bl:Stmt:=top 91
meta abbrev s_bj:Stmt:=top 92
meta abbrev s_z:Stmt:=top 93
meta abbrev xsi:Stmt:=top 94
set_option genInjectivity false in
set_option genSizeOf false in
set_option genInjectivity false in
set_option genSizeOf false in
structure Adr where
 f_a3:Addr
 d_a3:FuncData
 f_an:Addr
 d_an:FuncData
 f_as:Addr
 d_as:FuncData
 f_aa:Addr
 d_aa:FuncData
 f_ad:Addr
 d_ad:FuncData
 f_ap:Addr
 d_ap:FuncData
 f_w:Addr
 d_w:FuncData
 f_ab:Addr
 d_ab:FuncData
 f_ay:Addr
 d_ay:FuncData
 f_c7:Addr
 d_c7:FuncData
 f_c8:Addr
 d_c8:FuncData
 f_c9:Addr
 d_c9:FuncData
 f_az:Addr
 d_az:FuncData
 f_cm:Addr
 d_cm:FuncData
 f_ak:Addr
 d_ak:FuncData
 f_cu:Addr
 d_cu:FuncData
 f_cy:Addr
 d_cy:FuncData
 f_aq:Addr
 d_aq:FuncData
 f_s:Addr
 d_s:FuncData
 f_g:Addr
 d_g:FuncData
 f_qb:Addr
 d_qb:FuncData
 f_qd:Addr
 d_qd:FuncData
 f_a5:Addr
 d_a5:FuncData
 f_qe:Addr
 d_qe:FuncData
 f_a0:Addr
 d_a0:FuncData
 f_ah:Addr
 d_ah:FuncData
 f_ae:Addr
 d_ae:FuncData
 f_x:Addr
 d_x:FuncData
 f_o:Addr
 d_o:FuncData
 f_qg:Addr
 d_qg:FuncData
 f_qh:Addr
 d_qh:FuncData
 f_ai:Addr
 d_ai:FuncData
 f_bo:Addr
 d_bo:FuncData
 f_ao:Addr
 d_ao:FuncData
 f_b:Addr
 d_b:FuncData
 T_b:Addr
 f_n:Addr
 d_n:FuncData
 f_d:Addr
 d_d:FuncData
 f_k:Addr
 d_k:FuncData
 f_l:Addr
 d_l:FuncData
 f_ag:Addr
 d_ag:FuncData
 f_u:Addr
 d_u:FuncData
 f_r:Addr
 d_r:FuncData
 f_f:Addr
 d_f:FuncData
 f_y:Addr
 d_y:FuncData
 f_h:Addr
 d_h:FuncData
 f_v:Addr
 d_v:FuncData
 f_m:Addr
 d_m:FuncData
 f_i:Addr
 d_i:FuncData
 f_t:Addr
 d_t:FuncData
 f_qi:Addr
 d_qi:FuncData
 f_bm:Addr
 d_bm:FuncData
 f_af:Addr
 d_af:FuncData
 f_a2:Addr
 d_a2:FuncData
 f_a4:Addr
 d_a4:FuncData
 f_av:Addr
 d_av:FuncData
 f_bg:Addr
 d_bg:FuncData
 f_be:Addr
 d_be:FuncData
 f_bp:Addr
 d_bp:FuncData
 f_ba:Addr
 d_ba:FuncData
 f_bn:Addr
 d_bn:FuncData
 f_am:Addr
 d_am:FuncData
 f_aj:Addr
 d_aj:FuncData
 f_bf:Addr
 d_bf:FuncData
 f_bc:Addr
 d_bc:FuncData
 f_bi:Addr
 d_bi:FuncData
 f_bh:Addr
 d_bh:FuncData
 f_aw:Addr
 d_aw:FuncData
 f_ac:Addr
 d_ac:FuncData
 f_al:Addr
 d_al:FuncData
 f_a8:Addr
 d_a8:FuncData
 f_a1:Addr
 d_a1:FuncData
 f_at:Addr
 d_at:FuncData
 f_a9:Addr
 d_a9:FuncData
 f_ar:Addr
 d_ar:FuncData
 f_bk:Addr
 d_bk:FuncData
 f_au:Addr
 d_au:FuncData
 f_bd:Addr
 d_bd:FuncData
 f_bs:Addr
 d_bs:FuncData
 f_a6:Addr
 d_a6:FuncData
 f_ax:Addr
 d_ax:FuncData
 f_bl:Addr
 d_bl:FuncData
 f_bj:Addr
 d_bj:FuncData
 f_z:Addr
 d_z:FuncData
 f_qj:Addr
 d_qj:FuncData
 C_b6:Addr
 C_q:Addr
 C_e:Addr
 C_p:Addr
 C_c:Addr
 C_a:Addr
 D_j:Addr
structure GB (K:Zd) (mg:gF) (u:Str) (st:Stmt) (ps:cH) (f:Addr) (fd:FuncData):Prop where
 g:yd u f
 F:LQ u u
 b:zhn
structure MB (K:Zd) (C:Addr) (m q:Str) (st:Stmt) (ps:cH) (f:Addr) (fd:FuncData):Prop where
 F:LQ m q
 b:zhn
 m:Meth K C m f
structure Txt (w:World) (K:Zd) (mg:gF) (t:Adr):Prop where
 g_q:yd "LeftSide" t.C_q
 g_e:yd "RightSide" t.C_e
 g_p:yd "Seating" t.C_p
 g_c:yd "Prices" t.C_c
 g_a:yd "Picture" t.C_a
 a3:MB K t.C_b6 "__init__" "Side.__init__" s_a3 zbf t.f_a3 t.d_a3
 an:MB K t.C_q "rim" "LeftSide.rim" s_an jZ t.f_an t.d_an
 B_as:MB K t.C_q "way" "LeftSide.way" s_as jZ t.f_as t.d_as
 aa:MB K t.C_q "across" "LeftSide.across" s_aa BB t.f_aa t.d_aa
 ad:MB K t.C_e "rim" "RightSide.rim" s_ad jZ t.f_ad t.d_ad
 ap:MB K t.C_e "way" "RightSide.way" s_ap jZ t.f_ap t.d_ap
 B_w:MB K t.C_e "across" "RightSide.across" s_w BB t.f_w t.d_w
 ab:d8 "side_of" s_ab zbd t.f_ab t.d_ab
 ay:d8 "cells_of" s_ay ["picture", "name", "side", "row"] t.f_ay t.d_ay
 B_c7:d8 "meeting" xf7 Il t.f_c7 t.d_c7
 B_c8:d8 "total" xix iM t.f_c8 t.d_c8
 B_c9:d8 "upright" xf9 iM t.f_c9 t.d_c9
 az:d8 "upright_of" s_az zui t.f_az t.d_az
 B_cm:d8 "exchangeable" xew iM t.f_cm t.d_cm
 ak:d8 "may_exchange" s_ak Il t.f_ak t.d_ak
 B_cu:d8 "exchanged" xd8 ["pairs", "name", "other"] t.f_cu t.d_cu
 B_cy:d8 "uncrossed" xgk iM t.f_cy t.d_cy
 aq:MB K t.C_p "__init__" "Seating.__init__" s_aq jZ t.f_aq t.d_aq
 s:MB K t.C_p "hand_on" "Seating.hand_on" s_s zlI t.f_s t.d_s
 g:MB K t.C_p "crowd_with" "Seating.crowd_with" s_g zoc t.f_g t.d_g
 B_qb:d8 "crowds" xhd tt t.f_qb t.d_qb
 B_qd:d8 "fits" xos tt t.f_qd t.d_qd
 a5:zeK "left_out" s_a5 t.f_a5 t.d_a5
 B_qe:zeK "kept" xia t.f_qe t.d_qe
 a0:MB K t.C_c "__init__" "Prices.__init__" s_a0 Pa t.f_a0 t.d_a0
 ah:MB K t.C_c "let_in" "Prices.let_in" s_ah nN t.f_ah t.d_ah
 ae:MB K t.C_c "ask_on" "Prices.ask_on" s_ae Iw t.f_ae t.d_ae
 B_x:MB K t.C_c "nearest" "Prices.nearest" s_x Iw t.f_x t.d_x
 o:MB K t.C_c "shift_prices" "Prices.shift_prices" s_o zkP t.f_o t.d_o
 B_qg:d8 "least" xiz tt t.f_qg t.d_qg
 B_qh:zeK "answer" xjf t.f_qh t.d_qh
 ai:d8 "is_whole" s_ai ["thing", "low", "high"] t.f_ai t.d_ai
 bo:d8 "is_name" s_bo ["thing"] t.f_bo t.d_bo
 ao:qQ "__init__" "Picture.__init__" s_ao zah t.f_ao t.d_ao
 F_b:FunD K "put" "Picture.put" s_b t.T_b t.f_b t.d_b
 b_b5:∃ ds,Vals [R8,.int 1,.non] ds/\xce K t.d_b zaL ds
 b_b:xce K t.d_b zaL []
 n:qQ "open_seat" "Picture.open_seat" s_n Bm t.f_n t.d_n
 d:qQ "points" "Picture.points" s_d jZ t.f_d t.d_d
 k:qQ "seats" "Picture.seats" s_k jZ t.f_k t.d_k
 l:qQ "place_of" "Picture.place_of" s_l nN t.f_l t.d_l
 ag:qQ "may" "Picture.may" s_ag Ie t.f_ag t.d_ag
 u:qQ "length" "Picture.length" s_u Ie t.f_u t.d_u
 r:qQ "seats_for" "Picture.seats_for" s_r nN t.f_r t.d_r
 f:qQ "mirrored" "Picture.mirrored" s_f jZ t.f_f t.d_f
 B_y:qQ "turned" "Picture.turned" s_y jZ t.f_y t.d_y
 h:qQ "check_name" "Picture.check_name" s_h nN t.f_h t.d_h
 v:qQ "check_cell" "Picture.check_cell" s_v zcX t.f_v t.d_v
 m:qQ "check_lines" "Picture.check_lines" s_m zlU t.f_m t.d_m
 i:qQ "check_seat" "Picture.check_seat" s_i Bm t.f_i t.d_i
 B_t:d8 "picture_with" s_t ["width", "height", "points", "seats"] t.f_t t.d_t
 B_qi:d8 "drawn" xi0 iM t.f_qi t.d_qi
 bm:d8 "row_text" s_bm OM t.f_bm t.d_bm
 af:d8 "leader_signs" s_af iM t.f_af t.d_af
 a2:d8 "leader_sign" s_a2 zao t.f_a2 t.d_a2
 a4:d8 "rim_signs" s_a4 iM t.f_a4 t.d_a4
 av:d8 "picture_of" s_av ["lines"] t.f_av t.d_av
 bg:d8 "do_line" s_bg zlq t.f_bg t.d_bg
 be:d8 "words_of" s_be ["line"] t.f_be t.d_be
 bp:zgS "frame_of" s_bp t.f_bp t.d_bp
 ba:zgS "rows_of" s_ba t.f_ba t.d_ba
 bn:d8 "span_of" s_bn ["word"] t.f_bn t.d_bn
 am:zgS "point_of" s_am t.f_am t.d_am
 aj:zgS "numbers_of" s_aj t.f_aj t.d_aj
 bf:d8 "number_of" s_bf ["word"] t.f_bf t.d_bf
 bc:zeK "lines_of" s_bc t.f_bc t.d_bc
 bi:d8 "spans_of" s_bi ["rows"] t.f_bi t.d_bi
 bh:d8 "span_word" s_bh zba t.f_bh t.d_bh
 aw:d8 "point_line" s_aw zod t.f_aw t.d_aw
 ac:d8 "_law_cell_at" s_ac XY t.f_ac t.d_ac
 al:d8 "_law_mix" s_al zmH t.f_al t.d_al
 a8:d8 "_law_frame" s_a8 ["_law_script"] t.f_a8 t.d_a8
 a1:d8 "_law_seats" s_a1 zlr t.f_a1 t.d_a1
 B_at:d8 "_law_numbers" s_at ["_law_cell", "_law_digits", "_law_bases"] t.f_at t.d_at
 a9:d8 "_law_point" s_a9 zjT t.f_a9 t.d_a9
 ar:d8 "_law_points" s_ar ["_law_cells", "_law_digits", "_law_width", "_law_height"] t.f_ar t.d_ar
 bk:d8 "_law_put" s_bk zkI t.f_bk t.d_bk
 au:d8 "_law_picture" s_au ["_law_width", "_law_height", "_law_points_here", "_law_seats_here"] t.f_au t.d_au
 bd:d8 "_law_back" s_bd ["_law_pairs", "_law_height", "_law_across", "_law_down"] t.f_bd t.d_bd
 bs:d8 "_law_may" s_bs ["_law_point_here", "_law_seats_here", "_law_side", "_law_row"] t.f_bs t.d_bs
 a6:d8 "_law_length" s_a6 ["_law_width", "_law_point_here", "_law_side", "_law_row"] t.f_a6 t.d_a6
 ax:d8 "_law_giving" s_ax ["_law_points_here", "_law_seats_here", "_law_keep", "_law_pairs"] t.f_ax t.d_ax
 bl:d8 "_law_sum" s_bl ["_law_width", "_law_points_here", "_law_pairs"] t.f_bl t.d_bl
 bj:d8 "_law_rows" s_bj ["_law_rows_here", "_law_across", "_law_down"] t.f_bj t.d_bj
 z:d8 "_law_agrees" s_z zjL t.f_z t.d_z
 g_qj:yd "law" t.f_qj
 F_qj:Fun K "law" "law" xsi t.f_qj t.d_qj
 c_q:Cls K t.C_q
 k_q:Mk K t.C_q t.f_a3
 c_e:Cls K t.C_e
 k_e:Mk K t.C_e t.f_a3
 c_p:Cls K t.C_p
 k_p:Mk K t.C_p t.f_aq
 c_c:Cls K t.C_c
 k_c:Mk K t.C_c t.f_a0
 c_a:Cls K t.C_a
 k_a:Mk K t.C_a t.f_ao
 m_b:Meth K t.C_a "put" t.f_b
 cg:zkC
 ct:zkb
 n_bw:ye t.C_e "width"
 n_bq:ziA "placed"
 n_bb:ziA "height"
 n_a7:ziA "width"
 n_bu:ziA "opened"
 n_br:ye t.C_p "holder_of"
 n_bt:ye t.C_p "seat_of"
 n_bx:UI "lengths"
 n_bz:UI "own"
 n_b0:UI "rent"
 n_bv:UI "seating"
 n_by:UI "picture"
 n_b3:ye t.C_q "width"
 n_abs:og "abs"
 n_bool:og "bool"
 n_dict:og "dict"
 n_enumerate:og "enumerate"
 n_int:og "int"
 n_isinstance:og "isinstance"
 n_len:og "len"
 n_list:og "list"
 n_min:og "min"
 n_range:og "range"
 n_reversed:og "reversed"
 n_set:og "set"
 n_sorted:og "sorted"
 n_str:og "str"
 n_sum:og "sum"
 n_zip:og "zip"
 v_b4:znD "MOST_ROWS" 16
 v_b1:znD "MOST_COLUMNS" 30
 v_b2:znD "MOST_POINTS" 12
 g_j:yd "MIRRORED_SIDES" t.D_j
 D_j:xm1 w K t.D_j [(.inr "left",RO),(.inr "right",R7),(.inr "both",R8)]
@[elab_as_elim] theorem x37 {α:Type}{P:FU}:(us:eI)->us.length=1->(∀ a0,P DP)->P us
 | DP,_,h=>h a0
@[elab_as_elim] theorem x4x {α:Type}{P:FU}:OE 2 (∀ a0 a1,P Cs)
 | Cs,_,h=>h a0 a1
@[elab_as_elim] theorem x40 {α:Type}{P:FU}:OE 3 (∀ a0 a1 a2,P BZ)
 | BZ,_,h=>h a0 a1 a2
@[elab_as_elim] theorem xyd {α:Type}{P:FU}:OE 4 (∀ a0 a1 a2 a3,P Bz)
 | Bz,_,h=>h a0 a1 a2 a3
@[elab_as_elim] theorem x4e {α:Type}{P:FU}:OE 5 (∀ a0 a1 a2 a3 a4,P IW)
 | IW,_,h=>h a0 a1 a2 a3 a4
@[elab_as_elim] theorem xyl {α:Type}{P:FU}:OE 7 (∀ a0 a1 a2 a3 a4 a5 a6,P Iz)
 | Iz,_,h=>h a0 a1 a2 a3 a4 a5 a6
meta def gI (K:Zd) (n:Str) (a:Addr):Prop:=(cu,W5 K mainGlobals n,iH)
meta def gN (K:Zd) (n:Str):Prop:=(cu,W5 K mainGlobals n,none)
meta def fN (K:Zd) (C:Addr) (n:Str):Prop:=ye C n
meta def fI (K:Zd) (C:Addr) (n:Str) (a:Addr):Prop:=Ky C n iH
meta def fB (K:Zd) (C:Addr) (n:Str) (b:String):Prop:=Ky C n (va b)
def bi_1 {K:Zd}{x q:Str}{st:Stmt}{f:Addr}{fd:FuncData}{p0:Str} (F:Ml) (h:(zko,nM x q DP [p0]):=by ext ng):FN [p0]:=(Im,x37 us j (h a b c d e f))
def bi_2 {K:Zd}{x q:Str}{st:Stmt}{f:Addr}{fd:FuncData}{p0 p1:Str} (F:Ml) (h:(zkk,nM x q Cs ME):=by ext ng):FN ME:=(Im,x4x us j (h a b c d e f))
def bi_3 {K:Zd}{x q:Str}{st:Stmt}{f:Addr}{fd:FuncData}{p0 p1 p2:Str} (F:Ml) (h:(zkh,nM x q BZ Lz):=by ext ng):FN Lz:=(Im,x40 us j (h a b c d e f))
def bi_4 {K:Zd}{x q:Str}{st:Stmt}{f:Addr}{fd:FuncData}{p0 p1 p2 p3:Str} (F:Ml) (h:(zkc,nM x q Bz KD):=by ext ng):FN KD:=(Im,xyd us j (h a b c d e f))
def bi_5 {K:Zd}{x q:Str}{st:Stmt}{f:Addr}{fd:FuncData}{p0 p1 p2 p3 p4:Str} (F:Ml) (h:(zAw,nM x q IW zbu):=by ext ng):FN zbu:=(Im,x4e us j (h a b c d e f))
def bi_7 {K:Zd}{x q:Str}{st:Stmt}{f:Addr}{fd:FuncData}{p0 p1 p2 p3 p4 p5 p6:Str} (F:Ml) (h:(zAk,nM x q Iz zab):=by ext ng):FN zab:=(Im,xyl us j (h a b c d e f))
structure GH (K:Zd) (g:Str) (st:Stmt) (f:Addr) (fd:FuncData):Prop where
 a:gI K g f
 F:LQ g g
structure MH (K:Zd) (C:Addr) (m q:Str) (st:Stmt) (f:Addr) (fd:FuncData):Prop where
 a:fI K C m f
 F:LQ m q
 i:O2
def gb_1 {K:Zd}{h:Heap}{mg:gF}{g:Str} (X:C4) (G:yX) (H:Ko) (hb:(zko,nM g g DP [p0]):=by ext ng):d8 g st [p0] f fd:=(Kq,bi_1 H.F hb)
def mb_1 {K:Zd} (H:zaJ) (hb:(zko,nM m q DP [p0]):=by ext ng):zbX [p0]:=(dW,H.F,bi_1 H.F hb,H.a,H.i,H.F.kp)
def gb_2 {K:Zd}{h:Heap}{mg:gF}{g:Str} (X:C4) (G:yX) (H:Ko) (hb:(zkk,nM g g Cs ME):=by ext ng):Se ME:=(Kq,bi_2 H.F hb)
def mb_2 {K:Zd} (H:zaJ) (hb:(zkk,nM m q Cs ME):=by ext ng):zbX ME:=(dW,H.F,bi_2 H.F hb,H.a,H.i,H.F.kp)
def gb_3 {K:Zd}{h:Heap}{mg:gF}{g:Str} (X:C4) (G:yX) (H:Ko) (hb:(zkh,nM g g BZ Lz):=by ext ng):Se Lz:=(Kq,bi_3 H.F hb)
def mb_3 {K:Zd} (H:zaJ) (hb:(zkh,nM m q BZ Lz):=by ext ng):zbX Lz:=(dW,H.F,bi_3 H.F hb,H.a,H.i,H.F.kp)
def gb_4 {K:Zd}{h:Heap}{mg:gF}{g:Str} (X:C4) (G:yX) (H:Ko) (hb:(zkc,nM g g Bz KD):=by ext ng):Se KD:=(Kq,bi_4 H.F hb)
def mb_4 {K:Zd} (H:zaJ) (hb:(zkc,nM m q Bz KD):=by ext ng):zbX KD:=(dW,H.F,bi_4 H.F hb,H.a,H.i,H.F.kp)
def gb_5 {K:Zd}{h:Heap}{mg:gF}{g:Str} (X:C4) (G:yX) (H:Ko) (hb:(zAw,nM g g IW zbu):=by ext ng):Se zbu:=(Kq,bi_5 H.F hb)
def gb_7 {K:Zd}{h:Heap}{mg:gF}{g:Str} (X:C4) (G:yX) (H:Ko) (hb:(zAk,nM g g Iz zab):=by ext ng):Se zab:=(Kq,bi_7 H.F hb)
def txt_mk {w:World}{K:Zd}{h:Heap}{mg:gF} (X:C4) (G:yX) {oc_b kv_b dc_b pm_b cd_b ct_b:Value}{od_b an_b:jW}{sl_b:yW}{tk0_b:Tok}{tk1_b:Tok}{toc_b:Value}{tod_b:jW}{tn_b:Nat}{tsl_b:yW}{tkc_b4:Tok}{tkc_b1:Tok}{tkc_b2:Tok}{ta0_j tb0_j:Tok}{ta1_j tb1_j:Tok}{ta2_j tb2_j:Tok}{ep_j:Nat}
 (g_b6:gI K "Side" C_b6)
 (g_q:gI K "LeftSide" C_q)
 (g_e:gI K "RightSide" C_e)
 (g_p:gI K "Seating" C_p)
 (g_c:gI K "Prices" C_c)
 (g_a:gI K "Picture" C_a)
 (B_a3:MH K C_b6 "__init__" "Side.__init__" s_a3 f_a3 d_a3)
 (B_an:MH K C_q "rim" "LeftSide.rim" s_an f_an d_an)
 (B_as:MH K C_q "way" "LeftSide.way" s_as f_as d_as)
 (B_aa:MH K C_q "across" "LeftSide.across" s_aa f_aa d_aa)
 (B_ad:MH K C_e "rim" "RightSide.rim" s_ad f_ad d_ad)
 (B_ap:MH K C_e "way" "RightSide.way" s_ap f_ap d_ap)
 (B_w:MH K C_e "across" "RightSide.across" s_w f_w d_w)
 (B_ab:GH K "side_of" s_ab f_ab d_ab)
 (B_ay:GH K "cells_of" s_ay f_ay d_ay)
 (B_c7:GH K "meeting" xf7 f_c7 d_c7)
 (B_c8:GH K "total" xix f_c8 d_c8)
 (B_c9:GH K "upright" xf9 f_c9 d_c9)
 (B_az:GH K "upright_of" s_az f_az d_az)
 (B_cm:GH K "exchangeable" xew f_cm d_cm)
 (B_ak:GH K "may_exchange" s_ak f_ak d_ak)
 (B_cu:GH K "exchanged" xd8 f_cu d_cu)
 (B_cy:GH K "uncrossed" xgk f_cy d_cy)
 (B_aq:MH K C_p "__init__" "Seating.__init__" s_aq f_aq d_aq)
 (B_s:MH K C_p "hand_on" "Seating.hand_on" s_s f_s d_s)
 (B_g:MH K C_p "crowd_with" "Seating.crowd_with" s_g f_g d_g)
 (B_qb:GH K "crowds" xhd f_qb d_qb)
 (B_qd:GH K "fits" xos f_qd d_qd)
 (B_a5:GH K "left_out" s_a5 f_a5 d_a5)
 (B_qe:GH K "kept" xia f_qe d_qe)
 (B_a0:MH K C_c "__init__" "Prices.__init__" s_a0 f_a0 d_a0)
 (B_ah:MH K C_c "let_in" "Prices.let_in" s_ah f_ah d_ah)
 (B_ae:MH K C_c "ask_on" "Prices.ask_on" s_ae f_ae d_ae)
 (B_x:MH K C_c "nearest" "Prices.nearest" s_x f_x d_x)
 (B_o:MH K C_c "shift_prices" "Prices.shift_prices" s_o f_o d_o)
 (B_qg:GH K "least" xiz f_qg d_qg)
 (B_qh:GH K "answer" xjf f_qh d_qh)
 (B_ai:GH K "is_whole" s_ai f_ai d_ai)
 (B_bo:GH K "is_name" s_bo f_bo d_bo)
 (B_ao:qX "__init__" "Picture.__init__" s_ao f_ao d_ao)
 (a_b:fI K C_a "put" f_b)
 (l_b:(Ro,f_b,oc_b,od_b,.func (Jb "put" "Picture.put" (xbd s_b) (xa2 s_b) (xm s_b) (.ref T_b) kv_b dc_b pm_b an_b cd_b ct_b),sl_b))
 (c_b:Q7 K cd_b "Picture.put"=true)
 (k_b:zd f_b)
 (i_b:QY K (.ref f_b)=true)
 (t_b:(Ro,T_b,toc_b,tod_b,.seq #[.str "both" tk0_b,.int 1 tk1_b,.none] tn_b,tsl_b))
 (B_n:qX "open_seat" "Picture.open_seat" s_n f_n d_n)
 (B_d:qX "points" "Picture.points" s_d f_d d_d)
 (B_k:qX "seats" "Picture.seats" s_k f_k d_k)
 (B_l:qX "place_of" "Picture.place_of" s_l f_l d_l)
 (B_ag:qX "may" "Picture.may" s_ag f_ag d_ag)
 (B_u:qX "length" "Picture.length" s_u f_u d_u)
 (B_r:qX "seats_for" "Picture.seats_for" s_r f_r d_r)
 (B_f:qX "mirrored" "Picture.mirrored" s_f f_f d_f)
 (B_y:qX "turned" "Picture.turned" s_y f_y d_y)
 (B_h:qX "check_name" "Picture.check_name" s_h f_h d_h)
 (B_v:qX "check_cell" "Picture.check_cell" s_v f_v d_v)
 (B_m:qX "check_lines" "Picture.check_lines" s_m f_m d_m)
 (B_i:qX "check_seat" "Picture.check_seat" s_i f_i d_i)
 (B_t:GH K "picture_with" s_t f_t d_t)
 (B_qi:GH K "drawn" xi0 f_qi d_qi)
 (B_bm:GH K "row_text" s_bm f_bm d_bm)
 (B_af:GH K "leader_signs" s_af f_af d_af)
 (B_a2:GH K "leader_sign" s_a2 f_a2 d_a2)
 (B_a4:GH K "rim_signs" s_a4 f_a4 d_a4)
 (B_av:GH K "picture_of" s_av f_av d_av)
 (B_bg:GH K "do_line" s_bg f_bg d_bg)
 (B_be:GH K "words_of" s_be f_be d_be)
 (B_bp:GH K "frame_of" s_bp f_bp d_bp)
 (B_ba:GH K "rows_of" s_ba f_ba d_ba)
 (B_bn:GH K "span_of" s_bn f_bn d_bn)
 (B_am:GH K "point_of" s_am f_am d_am)
 (B_aj:GH K "numbers_of" s_aj f_aj d_aj)
 (B_bf:GH K "number_of" s_bf f_bf d_bf)
 (B_bc:GH K "lines_of" s_bc f_bc d_bc)
 (B_bi:GH K "spans_of" s_bi f_bi d_bi)
 (B_bh:GH K "span_word" s_bh f_bh d_bh)
 (B_aw:GH K "point_line" s_aw f_aw d_aw)
 (B_ac:GH K "_law_cell_at" s_ac f_ac d_ac)
 (B_al:GH K "_law_mix" s_al f_al d_al)
 (B_a8:GH K "_law_frame" s_a8 f_a8 d_a8)
 (B_a1:GH K "_law_seats" s_a1 f_a1 d_a1)
 (B_at:GH K "_law_numbers" s_at f_at d_at)
 (B_a9:GH K "_law_point" s_a9 f_a9 d_a9)
 (B_ar:GH K "_law_points" s_ar f_ar d_ar)
 (B_bk:GH K "_law_put" s_bk f_bk d_bk)
 (B_au:GH K "_law_picture" s_au f_au d_au)
 (B_bd:GH K "_law_back" s_bd f_bd d_bd)
 (B_bs:GH K "_law_may" s_bs f_bs d_bs)
 (B_a6:GH K "_law_length" s_a6 f_a6 d_a6)
 (B_ax:GH K "_law_giving" s_ax f_ax d_ax)
 (B_bl:GH K "_law_sum" s_bl f_bl d_bl)
 (B_bj:GH K "_law_rows" s_bj f_bj d_bj)
 (B_z:GH K "_law_agrees" s_z f_z d_z)
 (a_qj:gI K "law" f_qj)
 (F_qj:Fun K "law" "law" xsi f_qj d_qj)
 (kc_q:zd C_q)
 (pg_q:Lc C_q)
 (hd_q:TX C_q)
 (po_q:TW C_q)
 (sa_q:Oy C_q)
 (mk_q:TV C_q)
 (a_LeftSide_init:fI K C_q "__init__" f_a3)
 (kc_e:zd C_e)
 (pg_e:Lc C_e)
 (hd_e:TX C_e)
 (po_e:TW C_e)
 (sa_e:Oy C_e)
 (mk_e:TV C_e)
 (a_RightSide_init:fI K C_e "__init__" f_a3)
 (kc_p:zd C_p)
 (pg_p:Lc C_p)
 (hd_p:TX C_p)
 (po_p:TW C_p)
 (sa_p:Oy C_p)
 (mk_p:TV C_p)
 (kc_c:zd C_c)
 (pg_c:Lc C_c)
 (hd_c:TX C_c)
 (po_c:TW C_c)
 (sa_c:Oy C_c)
 (mk_c:TV C_c)
 (kc_a:zd C_a)
 (pg_a:Lc C_a)
 (hd_a:TX C_a)
 (po_a:TW C_a)
 (sa_a:Oy C_a)
 (mk_a:TV C_a)
 (cg:zkC)
 (ct:zkb)
 (n_bw:fN K C_e "width")
 (n_bq:fN K C_a "placed")
 (n_bb:fN K C_a "height")
 (n_a7:fN K C_a "width")
 (n_bu:fN K C_a "opened")
 (n_br:fN K C_p "holder_of")
 (n_bt:fN K C_p "seat_of")
 (n_bx:fN K C_c "lengths")
 (n_bz:fN K C_c "own")
 (n_b0:fN K C_c "rent")
 (n_bv:fN K C_c "seating")
 (n_by:fN K C_c "picture")
 (n_b3:fN K C_q "width")
 (n_abs:gN K "abs")
 (n_bool:gN K "bool")
 (n_dict:gN K "dict")
 (n_enumerate:gN K "enumerate")
 (n_int:gN K "int")
 (n_isinstance:gN K "isinstance")
 (n_len:gN K "len")
 (n_list:gN K "list")
 (n_min:gN K "min")
 (n_range:gN K "range")
 (n_reversed:gN K "reversed")
 (n_set:gN K "set")
 (n_sorted:gN K "sorted")
 (n_str:gN K "str")
 (n_sum:gN K "sum")
 (n_zip:gN K "zip")
 (v_b4:zmP "MOST_ROWS" 16 tkc_b4)
 (v_b1:zmP "MOST_COLUMNS" 30 tkc_b1)
 (v_b2:zmP "MOST_POINTS" 12 tkc_b2)
 (g_j:gI K "MIRRORED_SIDES" D_j)
 (l_j:(Ro,D_j,zun,none,.dict #[(cC,hashStr w "left",.str "left" ta0_j,.str "right" tb0_j),(cC,hashStr w "right",.str "right" ta1_j,.str "left" tb1_j),(cC,hashStr w "both",.str "both" ta2_j,.str "both" tb2_j)] ep_j,#[]))
 (ns_j:zo D_j):∃ t,cT :=
  ⟨⟨f_a3,_,f_an,_,f_as,_,f_aa,_,f_ad,_,f_ap,_,f_w,_,f_ab,_,f_ay,_,f_c7,_,f_c8,_,f_c9,_,f_az,_,f_cm,_,f_ak,_,f_cu,_,f_cy,_,f_aq,_,f_s,_,f_g,_,f_qb,_,f_qd,_,f_a5,_,f_qe,_,f_a0,_,f_ah,_,f_ae,_,f_x,_,f_o,_,f_qg,_,f_qh,_,f_ai,_,f_bo,_,f_ao,_,f_b,_,T_b,f_n,_,f_d,_,f_k,_,f_l,_,f_ag,_,f_u,_,f_r,_,f_f,_,f_y,_,f_h,_,f_v,_,f_m,_,f_i,_,f_t,_,f_qi,_,f_bm,_,f_af,_,f_a2,_,f_a4,_,f_av,_,f_bg,_,f_be,_,f_bp,_,f_ba,_,f_bn,_,f_am,_,f_aj,_,f_bf,_,f_bc,_,f_bi,_,f_bh,_,f_aw,_,f_ac,_,f_al,_,f_a8,_,f_a1,_,f_at,_,f_a9,_,f_ar,_,f_bk,_,f_au,_,f_bd,_,f_bs,_,f_a6,_,f_ax,_,f_bl,_,f_bj,_,f_z,_,f_qj,_,C_b6,C_q,C_e,C_p,C_c,C_a,D_j⟩,⟨wy g_q,wy g_e,wy g_p,wy g_c,wy g_a,mb_2 B_a3,mb_1 B_an,mb_1 B_as,mb_2 B_aa,mb_1 B_ad,mb_1 B_ap,mb_2 B_w,lU B_ab,Di B_ay,yj B_c7,lU B_c8,lU B_c9,lU B_az,lU B_cm,yj B_ak,yj B_cu,lU B_cy,mb_1 B_aq,mb_3 B_s,mb_3 B_g,lU B_qb,lU B_qd,pI B_a5,pI B_qe,mb_2 B_a0,mb_2 B_ah,mb_3 B_ae,mb_3 B_x,mb_4 B_o,lU B_qg,pI B_qh,yj B_ai,pI B_bo,mb_3 B_ao,zlZ,(fT,.cons iE (.cons iE (.cons (rfl) (.nil))),(zlZ).binds t_b rfl 4 rfl λ_ _ _ _ _ _ us j=>xyd us j λ_ _ _ _=>FY),(zlZ).binds t_b rfl 7 rfl λ_ _ _ _ _ _ us j=>xyl us j λ_ _ _ _ _ _ _=>FY,mb_3 B_n,mb_1 B_d,mb_1 B_k,mb_2 B_l,mb_4 B_ag,mb_4 B_u,mb_2 B_r,mb_1 B_f,mb_1 B_y,mb_2 B_h,mb_3 B_v,mb_4 B_m,mb_3 B_i,Di B_t,lU B_qi,yj B_bm,lU B_af,yj B_a2,lU B_a4,pI B_av,yj B_bg,pI B_be,pI B_bp,pI B_ba,pI B_bn,pI B_am,pI B_aj,pI B_bf,pI B_bc,pI B_bi,lU B_bh,lU B_aw,lU B_ac,lU B_al,pI B_a8,lU B_a1,yj B_at,gb_5 X G B_a9,Di B_ar,lU B_bk,Di B_au,Di B_bd,Di B_bs,Di B_a6,Di B_ax,yj B_bl,yj B_bj,gb_7 X G B_z,wy a_qj,F_qj,du pg_q hd_q po_q sa_q,du mk_q a_LeftSide_init B_a3.i kc_q,du pg_e hd_e po_e sa_e,du mk_e a_RightSide_init B_a3.i kc_e,du pg_p hd_p po_p sa_p,du mk_p B_aq.a B_aq.i kc_p,du pg_c hd_c po_c sa_c,du mk_c B_a0.a B_a0.i kc_c,du pg_a hd_a po_a sa_a,du mk_a B_ao.a B_ao.i kc_a,cC a_b i_b k_b,cg,ct,n_bw,n_bq,n_bb,n_a7,n_bu,n_br,n_bt,n_bx,n_bz,n_b0,n_bv,n_by,n_b3,oN n_abs,oN n_bool,oN n_dict,oN n_enumerate,oN n_int,oN n_isinstance,oN n_len,oN n_list,oN n_min,oN n_range,oN n_reversed,oN n_set,oN n_sorted,oN n_str,oN n_sum,oN n_zip,(hZ,wy v_b4),(hZ,wy v_b1),(hZ,wy v_b2),wy g_j,(dM,ns_j,_,_,l_j,zuF (zuF (zuF (.nil))),cE)⟩⟩
def mkS {N P:cH}{sc:Scope} (a:iA zRC) (b:iA zOO) (c:iA zON) (d:N.Nodup:=by ext mH) (e:iA zOc) (f:zQp:=by ext mH) (g:zFH:=by ext mH):xr N P sc:=dN a b c d e f g
def sc_a3:dL zbf zbf s_a3:=mkS
def sc_an:F6 s_an:=mkS
def sc_as:F6 s_as:=mkS
def sc_aa:dL BB BB s_aa:=mkS
def sc_ad:F6 s_ad:=mkS
def sc_ap:F6 s_ap:=mkS
def sc_w:dL BB BB s_w:=mkS
def sc_ab:dL zbd zbd s_ab:=mkS
def sc_ay:dL zzx ["picture", "name", "side", "row"] s_ay:=mkS
def xct:Am "picture" "one" "other" "name" "side" "row" "theirs" "cell" Il xf7:=mkS
def xwa:dL iM iM xix:=mkS
def xse:dL iM iM xf9:=mkS
def sc_az:dL (SG "pair" "name" "side" "row" "x" "y") zui s_az:=mkS
def xc6:dL ["picture", "pairs", "number", "one", "other", "cell"] iM xew:=mkS
def sc_ak:N7 "picture" "one" "other" "name" "side" "row" "other_name" "other_side" "other_row" Il s_ak:=mkS
def xfz:dL zkv ["pairs", "name", "other"] xd8:=mkS
def xca:Am "picture" "pairs" "now" "steps" "found" "name" "other" "cell" iM xgk:=mkS
def sc_aq:F6 s_aq:=mkS
def sc_s:dL ["self", "asked_by", "free_seat", "seat", "name", "left_behind"] zlI s_s:=mkS
def sc_g:Am "self" "name" "rooms" "crowd" "asked_by" "number" "asker" "seat" zoc s_g:=mkS
def xeh:dL (SG "names" "rooms" "seating" "found" "name" "crowd") tt xhd:=mkS
def xq4:dL ["picture", "names", "found"] tt xos:=mkS
def sc_a5:zdB tt s_a5:=mkS
def xp5:zdB zvp xia:=mkS
def sc_a0:dL Pa Pa s_a0:=mkS
def sc_ah:dL zBR nN s_ah:=mkS
def sc_ae:zBw Iw s_ae:=mkS
def sc_x:Am "self" "askers" "asked_by" "found" "asker" "seat" "length" "gap" Iw s_x:=mkS
def sc_o:zBw zkP s_o:=mkS
def xhj:dL ["picture", "names", "crowd", "prices", "name", "pairs"] tt xiz:=mkS
def xef:zdB ["picture", "pairs", "own", "rent", "apart", "steps"] xjf:=mkS
def sc_ai:dL ["thing", "low", "high"] ["thing", "low", "high"] s_ai:=mkS
def sc_bo:dL ["thing"] ["thing"] s_bo:=mkS
def sc_ao:dL zah zah s_ao:=mkS
def sc_b:Am "self" "name" "x" "y" "sides" "low" "high" "highest" zaL s_b:=mkS
def sc_n:dL Bm Bm s_n:=mkS
def sc_d:F6 s_d:=mkS
def sc_k:F6 s_k:=mkS
def sc_l:dL nN nN s_l:=mkS
def sc_ag:N7 "self" "name" "side" "row" "x" "y" "sides" "low" "high" Ie s_ag:=mkS
def sc_u:dL ["self", "name", "side", "row", "x", "y"] Ie s_u:=mkS
def sc_r:dL nN nN s_r:=mkS
def sc_f:dL zrp jZ s_f:=mkS
def sc_y:dL ztU jZ s_y:=mkS
def sc_h:dL nN nN s_h:=mkS
def sc_v:dL zcX zcX s_v:=mkS
def sc_m:dL ["self", "name", "x", "y", "others", "other"] zlU s_m:=mkS
def sc_i:dL Bm Bm s_i:=mkS
def sc_t:dL ["width", "height", "points", "seats", "picture", "name", "x", "y", "sides", "low", "high", "side", "row"] ["width", "height", "points", "seats"] s_t:=mkS
def xdy:N7 "picture" "pairs" "signs" "name" "x" "y" "sides" "low" "high" iM xi0:=mkS
def sc_bm:dL OM OM s_bm:=mkS
def sc_af:N7 "picture" "pairs" "signs" "name" "side" "row" "x" "y" "cell" iM s_af:=mkS
def sc_a2:dL zao zao s_a2:=mkS
def sc_a4:dL (SG "pairs" "width" "signs" "name" "side" "row") iM s_a4:=mkS
def sc_av:dL ["lines", "size", "width", "height", "picture", "number", "line"] ["lines"] s_av:=mkS
def sc_bg:dL ["picture", "number", "words", "rows", "point", "row", "name", "x", "y", "sides", "low", "high"] zlq s_bg:=mkS
def sc_be:dL ["line", "words"] ["line"] s_be:=mkS
def sc_bp:zeL ["words"] s_bp:=mkS
def sc_ba:zeL zES s_ba:=mkS
def sc_bn:dL ["word", "ends"] ["word"] s_bn:=mkS
def sc_am:zeL (zIH "words" "numbers") s_am:=mkS
def sc_aj:zeL zNm s_aj:=mkS
def sc_bf:dL ["word", "sign"] ["word"] s_bf:=mkS
def sc_bc:zdB zki s_bc:=mkS
def sc_bi:dL zlK ["rows"] s_bi:=mkS
def sc_bh:dL zba zba s_bh:=mkS
def sc_aw:Am "point" "height" "name" "x" "y" "sides" "low" "high" zod s_aw:=mkS
def sc_ac:dL XY XY s_ac:=mkS
def sc_al:dL ["_law_cell", "_law_k", "_law_number"] zmH s_al:=mkS
def sc_a8:dL (zMd "_law_script" "_law_cell") ["_law_script"] s_a8:=mkS
def sc_a1:N7 "_law_script" "_law_height" "_law_cell" "_law_digits" "_law_thick" "_law_seats_here" "_law_k" "_law_side" "_law_row" zlr s_a1:=mkS
def sc_at:dL ["_law_cell", "_law_digits", "_law_bases", "_law_numbers_here", "_law_k", "_law_base"] zCQ s_at:=mkS
def sc_a9:N7 "_law_numbers_here" "_law_name" "_law_x" "_law_y" "_law_height" "_law_sides" "_law_low" "_law_high" "_law_way" zjT s_a9:=mkS
def sc_ar:dL ["_law_cells", "_law_digits", "_law_width", "_law_height", "_law_columns", "_law_rows_here", "_law_letters", "_law_points_here", "_law_cell", "_law_numbers_here", "_law_x", "_law_y", "_law_name"] ["_law_cells", "_law_digits", "_law_width", "_law_height"] s_ar:=mkS
def sc_bk:Am "_law_picture_here" "_law_point_here" "_law_name" "_law_x" "_law_y" "_law_sides" "_law_low" "_law_high" zkI s_bk:=mkS
def sc_au:Am "_law_width" "_law_height" "_law_points_here" "_law_seats_here" "_law_picture_here" "_law_side" "_law_row" "_law_point_here" zzZ s_au:=mkS
def sc_bd:Am "_law_pairs" "_law_height" "_law_across" "_law_down" "_law_found" "_law_name" "_law_side" "_law_row" zAC s_bd:=mkS
def sc_bs:dL zAn ["_law_point_here", "_law_seats_here", "_law_side", "_law_row"] s_bs:=mkS
def sc_a6:dL ["_law_width", "_law_point_here", "_law_side", "_law_row", "_law_across"] ["_law_width", "_law_point_here", "_law_side", "_law_row"] s_a6:=mkS
def sc_ax:dL zjU ["_law_points_here", "_law_seats_here", "_law_keep", "_law_pairs"] s_ax:=mkS
def sc_bl:dL zAo ["_law_width", "_law_points_here", "_law_pairs"] s_bl:=mkS
def sc_bj:dL zAs ["_law_rows_here", "_law_across", "_law_down"] s_bj:=mkS
def sc_z:dL zjF zjL s_z:=mkS
def xd6:dL ["_law_script", "_law_width", "_law_height", "_law_seats_here", "_law_points_here", "_law_picture_here", "_law_pairs", "_law_steps", "_law_other", "_law_read"] ["_law_script"] xsi:=mkS
#check S93
namespace S93
open PySem L2 XL PyProof.Rows
def xdu {K:Zd}{v:Value}:(cu,WT K v v,true):=df cy
def xw {H H':Hp}{p:Addr}{o:HO} (s:gg) (hp:VB p):gB (L2.upd H' p o):=λ b u z=>by
 have a:=s b u z;ext DB a hp
def su_e {H H':Hp}{p:Addr}{o:HO} (hp:vO) (e:zQJ):gg:=e▸(ge hp)
def ug_e {H H':Hp}{p:Addr}{o:HO} (e:zQJ):(cu,H' p,o):=e▸xj
def xkn {n:Nat} (h:zjx):fA n:=Z1 h cE
def xbj {n:Nat} (h:zjx):sv n:=Jp h cE
def ne_f {H:Hp}{a b:Addr}{o u:HO} (h:Tu) (h':qK) (d:o≠u:=by exact o6):Hs:=xeo h h' d
def leS0:fA 0:=cE
def leS1:1<=sizeLine:=cE
def leS2:fA 2:=cE
def leS3:fA 3:=cE
def leS5:fA 5:=cE
def leS6:fA 6:=cE
def leS7:fA 7:=cE
def xye {H:Hp}{x dx:Addr}{a b c:HO} (hx:d7 x) (hd:d7 dx):gB (upd (upd (iK dx a) x b) x c):=λ y o e=>by
 rw[jd hx,jd hx,jd hd];exact e
meta def xab (b:Bool):Str:=wR "left" "right"
meta def xf0 (t:Adr) (H:Hp) (p:Addr) (b:Bool) (w:Int):Prop:=∃ dx,dA p (we (wR t.C_q t.C_e) [("width",Nl)])
inductive x2d (K:Zd) (vs:cA) (H:Hp) (Q:VK) (_:XK):Prop
 | mk (p C dx:Addr) (n:Int) (e_:vs=[pF,.int n]) (r_:(dh,dA p (we C []),Uf,xfs K C "width",Q .non (iK p (we C [("width",.int n)]))))
inductive sp1 (v:V) (vs:cA) (H:Hp) (Q:VK) (_:XK):Prop
 | mk (p:V) (e_:vs=[p]) (r_:Q v H)
inductive x4j (vs:cA) (H:Hp) (Q:VK) (_:XK):Prop
 | mk (p:V) (x:V) (e_:vs=[p,x]) (r_:Q x H)
inductive xyg (t:Adr) (vs:cA) (H:Hp) (Q:VK) (_:XK):Prop
 | mk (p:Addr) (n:Int) (e_:vs=[pF]) (r_:zPt i0)
inductive x38 (t:Adr) (vs:cA) (H:Hp) (Q:VK) (_:XK):Prop
 | mk (p:Addr) (n x:Int) (e_:vs=[pF,.int x]) (r_:zPt (n+1-x))
inductive xjz (t:Adr) (vs:cA) (H:Hp) (Q:VK) (_:XK):Prop
 | mk (b:Bool) (n:Int) (e_:vs=[lu,.int n]) (r_:∀ p H',(dI,vO,xf0 t H' p b n,gg,HP p))
section
variable {P:Program}{w:World}{K:Zd}{mg:Str->Option Value}{base:Heap}{t:Adr}
def ok_a3 (T:cT):mr t.f_a3 t.d_a3 zbf (x2d K):=by
 refine T.a3.F.okn (k:=0) sc_a3 (c7 Q E h) (cZ vs Q E hr h)
 .ext cV
 ext EH p C e n;refine(sF,xk (Ae ew));ext uw l c j;exact⟨126,p,C,e,[],rfl,l,c,j,(NF 0),q⟩
def ok_an (T:cT):zsz t.f_an t.d_an 0:=by
 refine T.an.F.okn (k:=0) sc_an (c7 Q E h) (cZ vs Q E hr h)
 .ext cV
 ext zQX
def ok_as (T:cT):zsz t.f_as t.d_as (-1):=by
 refine T.B_as.F.okn (k:=0) sc_as (c7 Q E h) (cZ vs Q E hr h)
 .ext cV
 ext Rt p;ext zR zuX;show(wc,1,h)
def ok_aa (T:cT):mr t.f_aa t.d_aa BB (x4j):=by
 refine T.aa.F.okn (k:=0) sc_aa (c7 Q E h) (cZ vs Q E hr h)
 .ext cV
 ext sY p x;refine(sF,w6 1);exact h
def ok_ap (T:cT):zsz t.f_ap t.d_ap 1:=by
 refine T.ap.F.okn (k:=0) sc_ap (c7 Q E h) (cZ vs Q E hr h)
 .ext cV
 ext zQX
def ok_ad (T:cT):dB 1 t.f_ad t.d_ad jZ (xyg t):=by
 refine T.ad.F.okn (k:=0) sc_ad (c7 Q E h) (cZ vs Q E hr h)
 .ext cV
 ext sY p n;ext zR Ue;ext zcO l j;exact(dN,p,t.C_e,l,_,_,rfl,zrh j q)
def ok_w (T:cT):dB 1 t.f_w t.d_w BB (x38 t):=by
 refine T.B_w.F.okn (k:=0) sc_w (c7 Q E h) (cZ vs Q E hr h)
 .ext cV
 ext zi p n x;show(zR,vV Ue 1);ext zcO l j;exact⟨p,t.C_e,l,_,_,rfl,zrh j q⟩
theorem ok_ab (T:cT):dB 3 t.f_ab t.d_ab zbd (xjz t):=by
 refine T.ab.F.okn (k:=2) sc_ab (c7 Q E h) (cZ vs Q E hr h)
 .ext cV
 ext sY b n;refine⟨_,xb (xaf (xbe zlD) (xb (VP (tV dU (xan)) (zHi T.k_q T.g_q))
  (rO (tV dU (xan)) (gq (zHi T.k_e T.g_e)))) (xz))
  qU,?_⟩
 refine sq2 ?_; intros; ext wK; cases b with
 | true =>
  show(zaW,A6 jG MN); ext wK; ext zSZ;exact (λ x p m j ne=>(iT,x,t.C_q,p,n,iT 45 xj T.c_q T.n_b3 zHe))
 | false =>
  show(dQ,A6 jG MN,qM ?_);refine ifN c9 ?_;ext zSZ;exact (λ x p m j ne=>(iT,x,t.C_e,p,n,zrh xj zHe))
meta def isNm (x:Str):Bool:=(gO x.length 1)&&(!(eA (x.cps.toList<[97]))&&!(eA ([122]<x.cps.toList)))
inductive x5b (vs:cA) (H:Hp) (Q:VK) (_:XK):Prop
 | mk (i lo hi:Int) (e_:(De,j5,.int lo,hi)) (r_:lo<=i/\i<=hi/\(rW true))
inductive x4z (vs:cA) (H:Hp) (Q:VK) (_:XK):Prop
 | mk (x:Str) (e_:vs=[kE]) (r_:(qG x)/\(rW true))
def x5t:TH (gU "a") [97]:=c9
def x5k:TH (gU "z") [122]:=c9
def ok_ai (T:cT):mr t.f_ai t.d_ai ["thing", "low", "high"] (x5b):=by
 refine T.ai.F.okn (k:=0) sc_ai (c7 Q E h) (cZ vs Q E hr h)
 .ext cV
 ext zi i m j;refine(uH,gq (xe9 (XI "int" T.n_int boot_int) (xe9 (x2i (XI "bool" T.n_bool boot_bool)) (xgo (xjk xim xim ew dU hB)))));ext yE u p;refine A6 j5 MN;show(dQ,(jo,_,_,.inl (mR,_,_,false,j5,rfl,jk,lv false rfl true MN)),Gj)
 .refine ?_;show(DC,Q (.bl (decide (i<=j))) H,decide_eq_true p,q)
 ext zaw u c
def ok_bo (T:cT):mr t.f_bo t.d_bo ["thing"] (x4z):=by
 refine T.bo.F.okn (k:=0) sc_bo (c7 Q E h) (cZ vs Q E hr h)
 .ext cV
 ext Rt x;show(zR,xe9 zlD (xe9 (xd1 xb6 ztH (xp) nA) (xgo (xjk xgf xgf (xan) dU (xan)))));ext lO j h;unfold isNm at j;simp only[Z8,decide_eq_true_eq,YG,decide_eq_false_iff_not] at j;ext kn m u p j;show(dQ,A6 kE MN,iZ 64 rfl (E8 m) Gj)
 .refine (SR,VT d)
  .refine SR ?_;show(fK,x5k,decide_eq_false p,q)
  rw [x5t,decide_eq_false u] at d;ext lX d
 show(zaw,fY m,c)
structure Pt where
 nm:Str
 x:Int
 y:Int
 sd:Str
 lo:Int
 hi:Int
meta def ptV (p:Pt):cA:=NQ Ms Mr zQ p.lo p.hi
inductive Pl (H:Hp):fF cJ dR
 | nil:Pl H [] []
 | cons {p:Pt}{q:Addr}{ps:cJ}{kvs:dR} (h:zqQ p) (r:BT):Pl H VL (zxV p.nm q)
inductive PtsL (H:Hp):HH cJ
 | nil:PtsL H [] []
 | cons {p:Pt}{q:Addr}{ps:cJ}{qs:cM} (h:MK) (r:tf):PtsL H VL vY
def xiq {Z:L2.St}{H:Hp}{A B:zgC} (h:A H):xd4 Z H (λ b H4=>(gV,b,A H4,B H4)):=by
 show(DC,(gV,true,A H,B H),fH,h)
def xyf {i:Nat}{v:V}{Z:L2.St}{H:Hp}{A B:oG L2.St} (h:A uS H):xdb i v Z H (M7,xd4 σ' H' λ b H4=>(gV,b,A σ' H4,B σ' H4)):=by
 show(DC,(gV,true,A uS H,B uS H),fH,h)
meta def Tups (H H':Hp):Prop:=OC
theorem Pl.keep {H H':Hp} (s:pb) {ps:cJ}{kvs:dR} (h:BT):Pl H' ps kvs:=by
 induction h with
 | nil=>ext uj
 | cons h _ ih=>ext RU
theorem PtsL.keep {H H':Hp} (s:pb) {ps:cJ}{qs:cM} (h:tf):zrU:=by
 induction h with
 | nil=>ext uj
 | cons h _ ih=>ext RU
theorem Pl.len {H:Hp}{ps:cJ}{kvs:dR} (h:BT):zNs:=by
 induction h with
 | nil=>rfl
 | cons _ _ ih=>simp[ih]
theorem PtsL.len {H:Hp}{ps:cJ}{qs:cM} (h:tf):zOK:=by
 induction h with
 | nil=>rfl
 | cons _ _ ih=>simp[ih]
theorem Pl.find {H:Hp}{ps:cJ}{kvs:dR} (h:BT) {nm:Str}{pt:Pt} (e:Sv):∃ q,Gr=Nw/\(zqQ pt):=by
 induction h with
 | nil=>ext sG
 | @cons p q ps kvs h _ ih =>
  by_cases c:p.nm=nm
  .rw [Qa Bs] at e;cases e;show(dy,q,xbt (hD c),h)
  rw [WB Bs] at e;show(cD,a,l,b,ih e);show(dy,a,(cK,xbg (λ z=>c (Jk.inj z)),l),b)
theorem Pl.no {H:Hp}{ps:cJ}{kvs:dR} (h:BT) {nm:Str} (e:∀ p∈ps,S6):Gr=none:=by
 induction h with
 | nil=>rfl
 | @cons p q ps kvs h _ ih =>
  rw[xbg (λ z=>e p Zm (Jk.inj z))];exact ih λ a b=>e a (Zl _ b)
theorem Pl.get {H:Hp}{ps:cJ}{kvs:dR} (h:BT) {i:Nat}{k:Key}{x:V} (e:rE):∃ p q,(dh,FC,k=.inr p.nm,jv x q,zqQ p):=by
 induction h generalizing i with
 | nil=>ext sG
 | @cons p q ps kvs h _ ih =>
  cases i with
  | zero =>
   simp at e;exact nh 84 p q e.1.symm e.2.symm h
  | succ j=>ext C0
theorem PtsL.get {H:Hp}{ps:cJ}{qs:cM} (h:tf) {i:Nat}{q:Addr} (e:Fs):∃ p,FC/\MK:=by
 induction h generalizing i with
 | nil=>ext sG
 | @cons p q' ps qs h _ ih =>
  cases i with
  | zero =>
   ext Tm p
  | succ j=>ext C0
theorem Pl.snoc {H:Hp}{ps:cJ}{kvs:dR} (h:BT) {p:Pt}{q:Addr} (e:sN (ptV p)):Pl H Ak (kvs++[(oP,.inr p.nm,q)]):=by
 induction h with
 | nil=>ext KL
 | cons h _ ih=>ext E3
theorem PtsL.snoc {H:Hp}{ps:cJ}{qs:cM} (h:tf) {p:Pt}{q:Addr} (e:MK):PtsL H Ak MJ:=by
 induction h with
 | nil=>ext KL
 | cons h _ ih=>ext E3
meta abbrev picF (w h:Int) (dp do_:Addr):o8:=[("width",Nl),("height",.int h),oP "placed" dp,oP "opened" do_]
structure Pic (t:Adr) (H:Hp) (a dp do_:Addr) (w h:Int) (ps:cJ):Prop where
 ins:∃ dx,dA a (we t.C_a Kh)
 pl:∃ kvs,(IT dp)/\BT
 w1:sL
 w2:jJ
 h1:DL
 h2:j8
 len:Rz
def Same.tups {H H':Hp} (s:gg):pb:=(vw,s b _ e)
def Pic.same {t:Adr}{H H':Hp}{a dp do_:Addr}{w h:Int}{ps:cJ} (s:gg) (p:zrR):zrb :=
 (zBi,e,Hk xS,kvs,(cC,kvs,xS,q.keep (Same.tups s)))
def xal {w h:Int}{dp do_:Addr}{m:Str} (e:((["width", "height", "placed", "opened"]:cH).all λ k=>zwh)=true):(Kh).lookup m=none:=by
 ext zls;obtain⟨j,d,c,b,_⟩:45:=e;unfold picF;ext F4 j m zIG none;show(F4,d,m,[zaD,IE],none);show(F4,c,m,[IE],none);rw[ZA,b];rfl
def lkW {w h:Int}{dp do_:Addr}:(Kh).lookup (gU "width")=some (.int w):=by
 unfold picF;show(zca,"width","width")
def lkH {w h:Int}{dp do_:Addr}:(Kh).lookup (gU "height")=some (.int h):=by
 show(zlp,"height");show(zca,"height","height")
def lkP {w h:Int}{dp do_:Addr}:(Kh).lookup (gU "placed")=(cX dp):=by
 show(zlp,"placed");show(zwn,"placed","height",[zaD,IE])
inductive xz3 (t:Adr) (vs:cA) (H:Hp) (Q:VK) (_:XK):Prop
 | mk (p dx:Addr) (w h:Int) (e_:De pF Nl h) (r_:(dA p zsp)/\(cR,sL,jJ,DL,j8,∀ H' dp do_,(d7 dp)->(eC,d7 do_,D6 p,Pic t H' p dp do_ w h [],H' do_=some (.dT []),tw)))
inductive spCN (t:Adr) (vs:cA) (H:Hp) (Q:VK) (_:XK):Prop
 | mk (a dp do_:Addr) (pw ph:Int) (ps:cJ) (nm:Str) (pt:Pt) (e_:vs=[dH,xT]) (r_:(dh,i5,Uh,Sv,Q .non H))
inductive spCC (t:Adr) (vs:cA) (H:Hp) (Q:VK) (_:XK):Prop
 | mk (a dp do_:Addr) (pw ph:Int) (ps:cJ) (x y:Int) (e_:De dH C5 y) (r_:i5/\(cR,DQ,x<=pw,1<=y,y<=ph,Q .non H))
inductive x4y (t:Adr) (vs:cA) (H:Hp) (Q:VK) (_:XK):Prop
 | mk (a dp do_:Addr) (pw ph:Int) (ps:cJ) (e_:yy) (r_:i5/\∀ H' l qs,T8 Td zrU l)
inductive spCL (t:Adr) (vs:cA) (H:Hp) (Q:VK) (_:XK):Prop
 | mk (a dp do_:Addr) (pw ph:Int) (ps:cJ) (nm:Str) (x y:Int) (e_:vs=[dH,xT,C5,Vp]) (r_:i5/\(∀ p∈ps,S6->p.x≠x/\p.y≠y)/\zht)
inductive spCS (t:Adr) (vs:cA) (H:Hp) (Q:VK) (_:XK):Prop
 | mk (a dp do_:Addr) (pw ph:Int) (ps:cJ) (b:Bool) (r:Int) (e_:De dH lu r) (r_:dh i5 DK VN zht)
inductive xya (t:Adr) (vs:cA) (H:Hp) (Q:VK) (_:XK):Prop
 | mk (a dp do_:Addr) (pw ph:Int) (ps:cJ) (nm:Str) (x y:Int) (sd:Str) (lo hi:Int) (hv:V) (e_:vs=[dH,xT,C5,Vp,.str sd,.int lo,hv]) (r_:i5/\(cR,znT hi ph,Uh,DQ,x<=pw,(ma,1<=y,y<=ph,Ru,1<=lo,lo<=hi,hi<=ph,(∀ p∈ps,S6/\p.x≠x/\p.y≠y),ztd,znj (D6 dp) (ps++[zMX]))))
inductive x4g (t:Adr) (vs:cA) (H:Hp) (Q:VK) (_:XK):Prop
 | mk (a dp do_:Addr) (pw ph:Int) (ps:cJ) (nm:Str) (pt:Pt) (e_:vs=[dH,xT]) (r_:dh i5 Uh Sv (zKW (i8 pt.x pt.y)))
meta def lenI (w x y:Int) (b:Bool) (r:Int):Int:=(wR x mS)+(qF,y-r,0,-(y-r),y-r)
inductive x5o (t:Adr) (vs:cA) (H:Hp) (Q:VK) (_:XK):Prop
 | mk (a dp do_:Addr) (pw ph:Int) (ps:cJ) (nm:Str) (pt:Pt) (b:Bool) (r:Int) (e_:zMG) (r_:i5/\(cR Uh Sv DK VN (Ej (lenI pw pt.x pt.y b r))))
def ok_ao (T:cT):dB 2 t.f_ao t.d_ao zah (xz3 t):=by
 refine T.ao.F.okn (k:=1) sc_ao (c7 Q E h) (cZ vs Q E hr h)
 .ext cV
 ext EH p y N O;refine⟨_,xb (D0 (NR 1 (zwa,.int 30,T.v_b1.choose_spec)) (NR 2 (zwa zhQ T.v_b4.choose_spec)) qU)
  (xb (Ae ew)
  (xb (Ae hB)
  (xb zgg
  (xk (Ae (xf5)))))),?_⟩
 refine sq5 ?_; intros; ext sI Y M L U S;refine(RD,N,30,M,L,iteF (RD O 16 U S Gu));show(dQ,zly Y T.n_a7 0,zly xj T.n_bb 1);rw[xfk];refine cG J x;show(dZ,D,p≠J,xh xj x,⟨126,p,_,y,_,rfl,(gs D xj),T.c_a,T.n_bq,(NF 2),cG m j⟩);show(ia,I,p≠m,xh xj j,R,J≠m,xh (cK zjb xj) j,zly (gs I xj) T.n_bu 3);rw[zjb] at x;have G:d7 m:=by
  have z:=j;rw[oF I,oF R,oF I] at z;ext gD
 refine q _ J m x G (λ b u C e=>?_) ⟨⟨y,xj⟩,cC [] ?_ .nil,M,L,U,S,jM⟩ ?_
 .have X:b≠J:=xh e x;have Z:b≠m:=λ z=>by
   subst z;rw[xi C,xi X,xi C] at j;ext gm e j
  rw[xi C,xi Z,xi C,xi X,xi C];exact e
 .rw [zjb,xi R,zjb];exact xj
 ext Cf I
def ok_h (T:cT):dB 2 t.f_h t.d_h nN (spCN t):=by
 refine T.h.F.okn (k:=1) sc_h (c7 Q E h) (cZ vs Q E hr h)
 .ext cV
 obtain ⟨a,m,l,u,v,ps,nm,pt,rfl,h⟩:=h;refine(uH,rO (zit zBx (xb4 (xd7 (xge pH ew eZ)))) qU);ext uw j y C;ext Ik D x z j;show(fO,q0,e,pl.find C);exact(iT,nm,rfl,y,true,iteF (mJ D x T.n_bq lkP (zbL,m,cX q0,e,tE zic z,iteF q)))
def ok_v (T:cT):dB 2 t.f_v t.d_v zcX (spCC t):=by
 refine T.v.F.okn (k:=1) sc_v (c7 Q E h) (cZ vs Q E hr h)
 .ext cV
 obtain ⟨a,z,j,l,m,ps,x,y,rfl,h⟩:=h;refine(uH,rO (PW.pt (xch (NR 1 eZ) (xb4 (NR 2 eZ)))) qU);ext sI e x1 x2 y1 y2;ext yZ u r e;exact rF u r ⟨x,1,l,rfl,x1,x2,true,rfl,iteF (mJ u r T.n_bb lkH (RD,y,m,y1,y2,iteF q))⟩
def ok_d (T:cT):dB 1 t.f_d t.d_d jZ (x4y t):=by
 refine T.d.F.okn (k:=0) sc_d (c7 Q E h) (cZ vs Q E hr h)
 .ext cV
 obtain ⟨a,M,ab,pw,ph,ps,rfl,h⟩:=h;refine(uH,xk (xt (x0k (zUC,"rest",jZ,s_d,xw1 eZ,zmY ew))));ext lO O h;ext Ik dx hp hk O;refine mJ dx hp T.n_bq lkP (oC,M,kvs,hk,fM ob nf l hl);have Z:l≠M:=λ z=>by
  rw[z,xj] at hl;cases hl
 have U:si:=by rwa [xi Z] at hl
 show(zOu,kvs.length,j,xs=D.map V.ref/\(cR,D.length<=i,(cu,j M,Po),(o4 M qK (cu,j b,u)),j l=some (.lst xs),PtsL j xC D))
 .refine qC [] dF ?_ Rj xj zmL
  .ext Cf Z
  rw [jd U,xi nb];exact e
 .ext IJ xs j D J;ext cU J lt
 .rintro i xs j v H3 lt (⟨D,rfl,ql,J,Y,C,G⟩:66) ⟨p,k,x,hx,rfl,I,rfl⟩ N hN;show(nU,pt,q0,aa,rfl,rfl,S,pl.get hx);show(dZ,e0,(cu,j q0,.tup (ptV pt)),Y _ _ (ne_f S hk) S,fU p xj);ext Mx;have n0:q0≠p:=xh e0 I;show(gX,zwM,λ R h1=>(iT,R,q0,_,ptV pt,(ib,rfl,jP xj,jP ?_,cy,(VE,1+5),o6,λ_ p2 h2=>?_)))
  .rw [oH (gs n0 e0) h1,xi n0];exact e0
  have up:AL (cu,j b,u) (cu,(upd (iP zqZ R [qz]) p2 (.tup ([qz]++ptV pt))) b,u):=λb u e=>by
   show(fw,c1,b≠p,xh e I,X,HF j p (.tup (qe qz q0)),gs c1 e,c2,b≠R,xh X h1,L,HF zqZ R (.tup [qz]),gs c2 X)
   ext DB L h2
  have c3:l≠p2:=xh (show oa zqZ R (.tup [qz]) l zQl from by
   show(cI,c1,l≠p,xh C I,X,oa j p (.tup (qe qz q0)) l zQl,gs c1 C)
   ext DB X h1) h2
  have tk:ps.take dc=xC++[pt]:=by
   rw[ZD,aa];rfl
  have ll:sv D.length:=zNf pl.len O.len;show(eW,up _ _ C,js ll,hN _ _ ⟨66,D++[p2],cy,kS,?_,Rj,xj,?_⟩)
  .show(eO,oF Z,up _ _ J)
  .have L:=up _ _ (Y b u nb e);show(cW,jd U,L)
  rw [tk];refine PtsL.snoc (PtsL.keep Ca G) ?_
  .have L:=up _ _ e;show(cW,tW L (up _ _ C),L)
  ext Cf c3
 rintro xs j (⟨D,rfl,_,J,Y,C,G⟩:66);show(gX,⟨J,dF⟩,(wj,M,ob,_,J,nf,q _ l D zX ?_ (PtsL.keep Ca (by rw[pl.len,ZY] at G; exact G))))
 .by_cases c:b=M
  .subst c;ext ku hk e xj
  show(ww,c,Y b u c e)
 .ext ww Z C
 show(eO,tW e J,e)
def ok_m (T:cT):dB 2 t.f_m t.d_m zlU (spCL t):=by
 refine T.m.F.okn (k:=1) sc_m (c7 Q E h) (cZ vs Q E hr h)
 .ext cV
 obtain ⟨a,dp,aa,pw,ph,ps,nm,x,y,rfl,h⟩:=h;refine⟨_,xb (zEi (yc "other" "name" 1 ["self", "name", "x", "y", "others", "other"] s_m) DT (Dc yP ew) 4)
  (xb (zEr hB)
  (xk (zEr gM))),?_⟩
 refine sq3 ?_; intros; ext yE R no;ext Ik dx hp hk R;refine⟨tX,rfl,hp,fb,a,dp,aa,pw,ph,ps,rfl,R,λ H1 l1 qs s1 J X=>zWk⟩;show(zOu,qs.length,M,(cR,xs=D.map V.ref,D.length<=i,DI M,M l=some (.lst xs),∀ o∈D,∃ p∈ps,S6/\H1 o=some (.tup E1)))
 .exact (OZ,hl,λ o z=>nomatch z)
 .ext IJ xs M D G;show(KM,qs,cN (G _ _ J),Gp)
 .rintro i xs M v H3 lt (⟨D,rfl,ol,G,C,I⟩:65) ⟨rfl,S⟩ N hN;show(fV,Y,S _ (cN (G _ _ J)),Zf,Y);ext qw o U Y;show(cD,p,ab,ep,X.get U);refine(oQ,o,_,B5 (G _ _ ep) Gj)
  .have cn:p.nm≠nm:=λ z=>by
    rw[z] at c;simp at c
   show(eW,C,(js,zNf X.len R.len),hN _ _ (zsr,D++[o],?_))
   .intro b u e
    by_cases cb:b=l
    .subst cb;ext gm e hl
    rw [xi cb];exact G b u e
   intro o' ac;rcases Zy.mp ac with z|z
   .exact I o' z
   .have:=Zp.mp z;ext yp;show(kP,p,Zn ab,cn,ep)
  exact hN _ _ (dN 65 D rfl cm G C I)
 rintro xs M (⟨D,rfl,ol,G,C,I⟩:65);show(pT,(fT,cN (G _ _ J),cy));ext oX; have L:∀(o:Addr),o∈D->∃ p∈ps,S6/\M o=some (.tup E1):=λ o U=>by
  show(dG,p,h1,h2,h3,I o U);show(kP,p,h1,h2,G _ _ h3)
 refine zyU
 .show(zzC,(iZ,o,1,_,B5 m3 (zag,λ z=>(no p m1 m2).1 (V.int.inj z),FY)))
 ext zot O;ext zMs; refine zyU
 .show(zzC,(iZ,o,2,_,B5 m3 (zag,λ z=>(no p m1 m2).2 (V.int.inj z),FY)))
 ext zot O;exact q _ (s1.trans G)
def ok_i (T:cT):dB 4 t.f_i t.d_i Bm (spCS t):=by
 refine T.i.F.okn (k:=3) sc_i (c7 Q E h) (cZ vs Q E hr h)
 .ext cV
 obtain ⟨a,C,j,m,u,ps,b,r,rfl,h⟩:=h;refine⟨_,xb (xap (Op 1))
  (rO (NR 2 eZ) qU),?_⟩
 refine sq2 ?_; intros; ext uw e r1 r2;ext yZ x v e;refine rF x v (jo,b,m,dC p D z y l);exact mJ x (l _ _ v) T.n_bb lkH (RD,r,u,r1,r2,iteF (q D l))
def ok_b (T:cT):dB 3 t.f_b t.d_b zaL (xya t):=by
 refine T.F_b.okn (k:=2) sc_b (c7 Q E h) (cZ vs Q E hr h)
 .ext cV
 obtain ⟨a,M,R,pw,N,ps,nm,x,y,Z,X,hi,hv,rfl,h⟩:=h;refine⟨_,xb (pS 7 sc_b.nd (xcp (zxz jL) eZ (pv 6)))
  (xb (nF zBx qU)
  (xb (xap (iD dU T.c_a T.v.m (ok_v T) eG T.v.b xK))
  (xb (nF (zit (CY (zEz (NU 4 (xey (v:=.ty "str") rfl T.n_str boot_str rfl)))) (xb4 (xd7 (xvs h8 rfl T.g_j T.D_j)))) qU)
  (xb (D0 (NR 5 eZ) (zCY 7 (NU 5 eZ)) qU)
  (xb (zPC ew)
  (xb (nF (xu x43 (Ep xu5 (gP eZ)) (zwa,.int 12,T.v_b2.choose_spec) nA) qU)
  (xb (xap (iD dU T.c_a T.m.m (ok_m T) eG T.m.b zuY))
  (xk (vq eZ ew (xag (f8 2 (f8 3 (qR 4 5 7))))))))))))),?_⟩
 refine sq9 ?_; intros; obtain⟨I,ac,hn,x1,x2,y1,⟨y2,ab,l1,l2,l3,no,len,q⟩⟩:47:=h;ext Ik L G U I;have aa:jT (valV zjP (Jk Z)):=by
  rcases ab with rfl|rfl|rfl<;>decide +kernel
 rcases ac with⟨rfl,e⟩|rfl
 .show(uq,e.symm);show(yL,ifP jk (zqW ?_));show(GC,zKY,zAq,(A6,jG,iteF ⟨.inr Z,rfl,false,(fY aa),Gu⟩),zAS N);show(GC,zBH,zBe,zzA,vt (vT leS5) q1 J);have O:upd H1 q1 (.tup [.int x,.int y,.str Z,.int X,.int N]) a=some (.ins t.C_a L (picF pw N M R)):=by rw[xi (xh (s1 _ _ G) J)]; exact s1 _ _ G
  have Y:upd H1 q1 (.tup [.int x,.int y,.str Z,.int X,.int N]) M=some (.dK kvs):=by rw[xi (xh (s1 _ _ U) J)]; exact s1 _ _ U
  refine⟨a,_,L,_,_,rfl,⟨45,O,T.c_a,T.n_bq,lkP,⟨83,M,_,rfl,DPut.k (k:=.inr nm) Y (ZX (by have:=pl.len; lia:kvs.length<12) (by decide)),?_⟩⟩⟩;rw[xdh (.ref q1) (pl.no (nm:=nm) (λp G=>(no p G).1))];have nq:q1≠M:=λz=>by
   subst z;ext gm TN J
  refine q _ (λb u nb e=>?_) ⟨⟨L,?_⟩,⟨_,xj,Pl.snoc (p:=dM nm x y Z X N) (pl.keep (λb xs e=>?_)) ?_⟩,I.w1,I.w2,I.h1,I.h2,(by rw[Zr]; exact len)⟩
  .ext zPu
  .show(eO,tW O Y,O)
  .ext zFv
  ext ww nq xj
 refine Ny jk;ext dQ zKY zAq;show(GC,(A6,jG,iteF (dW,.inr Z,rfl,false,fY aa,Gu)),zAS hi,zBH,zBe);show(dQ,zzA,vt (vT leS5) q1 J);have O:upd H1 q1 (.tup [.int x,.int y,.str Z,.int X,.int hi]) a=some (.ins t.C_a L (picF pw N M R)):=by rw[xi (xh (s1 _ _ G) J)]; exact s1 _ _ G
 have Y:upd H1 q1 (.tup [.int x,.int y,.str Z,.int X,.int hi]) M=some (.dK kvs):=by rw[xi (xh (s1 _ _ U) J)]; exact s1 _ _ U
 refine⟨a,_,L,_,_,rfl,⟨45,O,T.c_a,T.n_bq,lkP,⟨83,M,_,rfl,DPut.k (k:=.inr nm) Y (ZX (by have:=pl.len; lia:kvs.length<12) (by decide)),?_⟩⟩⟩;rw[xdh (.ref q1) (pl.no (nm:=nm) (λp G=>(no p G).1))];have nq:q1≠M:=λz=>by
  subst z;ext gm TN J
 refine q _ (λb u nb e=>?_) ⟨⟨L,?_⟩,⟨_,xj,Pl.snoc (p:=dM nm x y Z X hi) (pl.keep (λb xs e=>?_)) ?_⟩,I.w1,I.w2,I.h1,I.h2,(by rw[Zr]; exact len)⟩
 .ext zPu
 .show(eO,tW O Y,O)
 .ext zFv
 ext ww nq xj
def ok_l (T:cT):dB 3 t.f_l t.d_l nN (x4g t):=by
 refine T.l.F.okn (k:=2) sc_l (c7 Q E h) (cZ vs Q E hr h)
 .ext cV
 obtain ⟨a,y,u,C,D,ps,nm,pt,rfl,h⟩:=h;refine⟨_,xb zkw
  (gq (xbq xs1 (tU eZ ew) xcm C8)),?_⟩
 refine sq2 ?_; intros; ext uw j L I;ext Ik J G M j;show(cD,q0,e,v,pl.find I);refine⟨a,J,_,rfl,G,fb,a,y,u,C,D,ps,nm,pt,rfl,j,L,I,?_⟩;exact mJ J G T.n_bq lkP ⟨y,Gs,rfl,(hV,e,tE zic M),2,rfl,q0,ptV pt,rfl,jP v,(λ z=>wC kO (Lq,¬ ((2:Nat)=5))),λ p x=>q _ p (ge x) xj⟩
theorem ok_u (T:cT):dB 5 t.f_u t.d_u Ie (x5o t):=by
 refine T.u.F.okn (k:=4) sc_u (c7 Q E h) (cZ vs Q E hr h)
 .ext cV
 obtain ⟨a,O,x,z,J,ps,nm,pt,b,r,rfl,h⟩:=h;refine⟨_,xb (Ez (Xu mT) 4 sc_u.nd 5)
  (xb (zkQ xK)
  (gq (x0 xa0 (xfr (iD (Op 2) T.c_q T.aa.m (ok_aa T) eG T.aa.b Nj) (zFb 2 Nj)) (zlx (vV jt 3))))),?_⟩
 refine sq3 ?_; intros; ext sI v U X r1 r2;ext yZ G D v;show(dQ,⟨a,G,_,rfl,D,fb,a,O,x,z,J,ps,nm,pt,rfl,v,U,X,λ Z S y L=>fU S L⟩,⟨a,G,_,rfl,y _ _ D,fb,a,O,x,z,J,ps,b,r,rfl,Pic.same y v,r1,r2,cG Y C⟩);cases b with
 | true =>
  show(AO,zDM true);ext zS N j;exact⟨p,N,_,rfl,hs,XE,_,_,rfl,_,rfl,q R ((y.trans C).trans I)⟩
 | false =>
  show(lW,zDM false);show(zS,N,id j);exact⟨p,N,_,rfl,hs,XE,p,z,_,rfl,j,_,rfl,q R ((y.trans C).trans I)⟩
inductive xa8 (H:Hp):HH lJ
 | nil:xa8 H [] []
 | cons {c:jE}{q:Addr}{cs:lJ}{qs:cM} (h:Um) (r:EY):xa8 H (c::cs) vY
theorem xa8.keep {H H':Hp} (s:pb) {cs:lJ}{qs:cM} (h:EY):xa8 H' cs qs:=by
 induction h with
 | nil=>ext uj
 | cons h _ ih=>ext RU
theorem xa8.len {H:Hp}{cs:lJ}{qs:cM} (h:EY):zoj:=by
 induction h with
 | nil=>rfl
 | cons _ _ ih=>simp[ih]
theorem xa8.get {H:Hp}{cs:lJ}{qs:cM} (h:EY) {i:Nat}{q:Addr} (e:Fs):∃ c,zfi/\Um:=by
 induction h generalizing i with
 | nil=>ext sG
 | @cons c q' cs qs h _ ih =>
  cases i with
  | zero =>
   ext Tm c
  | succ j=>ext C0
theorem xa8.append {H:Hp}{cs ds:lJ}{qs rs:cM} (h:EY) (h':xa8 H ds rs):xa8 H (cs++ds) (qs++rs):=by
 induction h with
 | nil=>exact h'
 | cons h _ ih=>ext E3
def xa8.snoc {H:Hp}{cs:lJ}{qs:cM} (h:EY) {c:jE}{q:Addr} (e:Um):xa8 H (cs++[c]) MJ:=h.append (.cons e .nil)
def xc8 {Z:L2.St}{fr:de}{te:TE}{l:Addr}{H1:Hp}{Q:VK}{lo d:Int}{n:Nat} (f:Nat->jE) (hl:qv) (hn:ziZ)
    (hte:∀(i:Nat) (H2:Hp) (R:VK),kf->(zIg (iP H2 p (i8,(f i).1,(f i).2)))->te ((zug).set 0 (d0 zwd)) H2 R)
    (fin:∀(H2:Hp) (qs:cM),(dI,nZ,(cu,H2 l,uM),xa8 H2 ((Zz n).map f) qs,L9)):zry ztE:=by
  refine xco n (λ i xs H2=>∃ qs:cM,(cR,xs=qs.map V.ref,qs.length<=i,nZ,zqn xs,xa8 H2 ((Zz i).map f) qs)) ?_ ?_ ?_ ?_
  . exact OZ hl .nil
  . rintro i xs H2 lt _
    exact lt
  . rintro i xs H2 v B lt (⟨qs,rfl,y,q,j,x⟩:65) ⟨rfl,rfl⟩ N A
    refine xyf ?_;refine hte i _ _ lt λ p w=>(cC,?_,?_,A _ _ (zsr,qs++[p],?_))
    . ext DB j w
    . show(cW,Za,Jp y zSb)
    . intro b u e
      have z:b≠l:=xh e hl;show(fK,xi z,oH (q _ _ e) w,q _ _ e)
    . rw[YB,Zu]
      refine xa8.snoc (xa8.keep Ca x) ?_
      . show(fK,tW e j,jd w,e)
      . show(Dq,xh j w,xj)
  . rintro xs H2 (⟨qs,rfl,_,q,j,x⟩:65)
    show(cU,dF,fin H2 qs q j x)
inductive x0t (t:Adr) (vs:cA) (H:Hp) (Q:VK) (_:XK):Prop
 | mk (a dp do_:Addr) (pw ph:Int) (ps:cJ) (nm:Str) (pt:Pt) (b:Bool) (r:Int) (e_:zMG) (r_:(uE,i5,Uh,Sv,DK,VN,(zHg,pt.x<=pw),∀ H' l qs,(oz,gg,Td,xa8 H' (Geo.cells pw pt.x pt.y b r) qs,qs.length<100,l)))
def lno {m:Str}{v:V} (h:ou m (gU "width")):([("width",v)]:o8).lookup m=none:=by
 rw[ZA,h];rfl
def ok_ay (T:cT):dB 6 t.f_ay t.d_ay ["picture", "name", "side", "row"] (x0t t):=by
 refine T.ay.F.okn (k:=5) sc_ay (c7 Q E h) (cZ vs Q E hr h)
 .ext cV
 obtain ⟨a,dp,S,z,ph,ps,nm,pt,b,r,rfl,h⟩:=h;refine⟨_,xb (xap (iD dU T.c_a T.u.m (ok_u T) eG T.u.b zuY))
  (xb (xbk (Xu mT) (xai rfl (Ab (zar sc_ay.nd) (pN 5 sc_ay.nd))))
  (xb (pS 6 sc_ay.nd (Op 2))
  (xb (pS 7 sc_ay.nd (xcp (NS jt gM) (xp) zuX))
  (xb (zKh,"x",4,qR 5 3 7,xag (lq 1 0),8)
  (xb (zKh,"row",3,f8 4 (CO (x0 xa0 (xfr (mO jL T.c_q T.an.m (ok_an T) eG T.an.b) (mO jL T.c_e T.ad.m (ok_ad T) eG T.ad.b)) zzs) zzs),xag GX,9)
  (gq (wu xh0 wg 9))))))),?_⟩
 refine sq7 ?_; intros; obtain⟨O,hn,hf,r1,r2,⟨x1,x2,y1,y2⟩,q⟩:47:=h;ext zle O;by_cases hd:pt.y<r<;>cases b
 .-- down right
  show(zjW,false);show(GC,⟨tX,rfl,zyC,fb,a,dp,S,z,ph,ps,nm,pt,rfl,zyA,hn,hf,λ H2 q2 s2 X=>fU q2 X⟩,(rF,dx,zpk,znX false),zFQ,⟨103,pt.y,r,1,rfl,PN,tS zwY⟩);ext zkf zaO;show(zS,J,id U);show(cI,D,(cu,H4 p,znx t.C_e),pX hs,aa,xf0 t H4 p false z,zxa)
  show(lW,⟨p,J,_,rfl,D,Vt,p,z,rfl,aa,zDb⟩);ext Xc zbQ;have c1:zcs:=by
   have e:IK=(zWy).map (fE i zaO):=Xx zhK
   ext rh X8
  have c2:ziz IA:=by
   have e:IA=(Zz zmX).map (fE i zbQ):=by
    ext zTX
   ext rh cu5
  have ac:=c1.len;have ab:=c2.len;show(ia,b1,zcd,Xk,b2,zgO IA,Xj,V6);show(zcM,xw (((zeo).trans s3).trans (s4.trans s5)) G,zer,(zdc).keep (Same.tups (ge G)),Uo)
 .-- down left
  show(zyS,zFQ,(wj,pt.y,r,1,rfl,PN,tS zwY),zaO)
  ext zBI;ext Xc zcu;have c1:zcs:=by
   have e:IK=(zWy).map (fE i zaO):=Xx zhK
   ext rh X8
  have c2:ziz IC:=by
   have e:IC=(zLU).map (fE i zcu):=by
    ext zFz
   ext rh cu5
  have ac:=c1.len;have ab:=c2.len;show(ia,b1,zcd,Xk,b2,zgO IC,Xj,V6);show(zcM,xw (((zeo).trans s3).trans (s4.trans s5)) G,zer,(zdc).keep (Same.tups (ge G)),Uo)
 .-- up right
  show(zjW,false);show(GC,⟨tX,rfl,zyC,fb,a,dp,S,z,ph,ps,nm,pt,rfl,zyA,hn,hf,λ H2 q2 s2 X=>fU q2 X⟩,zvs dx ⟨45,zpk,T.c_a,T.n_a7,lkW,znX false⟩,zPB,zGK);ext zkf zbC;show(zS,J,id U);show(cI,D,(cu,H4 p,znx t.C_e),pX hs,aa,xf0 t H4 p false z,zxa)
  show(lW,⟨p,J,_,rfl,D,Vt,p,z,rfl,aa,zDb⟩);ext Xc zbQ;have c1:zcs:=by
   have e:IK=(zWx).map (fE i zbC):=Xx zhN
   ext rh X8
  have c2:ziz IA:=by
   have e:IA=(Zz zmX).map (fE i zbQ):=by
    ext zTX
   ext rh cu5
  have ac:=c1.len;have ab:=c2.len;show(ia,b1,zcd,Xk,b2,zgO IA,Xj,V6);show(zcM,xw (((zeo).trans s3).trans (s4.trans s5)) G,zer,(zdc).keep (Same.tups (ge G)),Uo)
 .-- up left
  ext zyS zPB zGK zbC
  ext zBI;ext Xc zcu;have c1:zcs:=by
   have e:IK=(zWx).map (fE i zbC):=Xx zhN
   ext rh X8
  have c2:ziz IC:=by
   have e:IC=(zLU).map (fE i zcu):=by
    ext zFz
   ext rh cu5
  have ac:=c1.len;have ab:=c2.len;show(ia,b1,zcd,Xk,b2,zgO IC,Xj,V6);show(zcM,xw (((zeo).trans s3).trans (s4.trans s5)) G,zer,(zdc).keep (Same.tups (ge G)),Uo)
def xus {K:Zd}{Z:L2.St}{fr:de}{te:TE}{l l1:Addr}{H1:Hp}{Q:VK}{qs:cM} (hl1:VU l1 uM) (hl:qv) (hn:qs.length<1000)
    (hte:∀(q:Addr) (H2:Hp) (R:VK),(zIg (mw H2 p rZ zyl))->te ((zug).set 0 Nw) H2 R)
    (fin:∀(H2:Hp) (ws:KF),nZ->(cu,H2 l,.lst (ws.map λ p=>zhZ))->ws.map (·.2)=zFk->(∀ p∈ws,zGH)->L9) :
    zry (Itl K l1):=by
  refine xco qs.length (λ i xs H2=>∃ ws:KF,xs=ws.map (λ p=>V.ref cO)/\ws.length<=i/\nZ/\(zqn xs)/\ws.map (·.2)=(qs.take i).map (λ q=>(V.ref q,V.bl true))/\∀ p∈ws,zGH) ?_ ?_ ?_ ?_
  . exact⟨66,[],rfl,dF,ge hl,xj,cy,λ p z=>nomatch z⟩
  . ext IJ xs H2 ws d
    show(KM,qs,cN (d _ _ hl1),Gp)
  . rintro i xs H2 v H lt (⟨ws,rfl,B,d,c,x,y⟩:66) ⟨rfl,D⟩ N G
    show(fV,j,D _ (cN (d _ _ hl1)),Zf,j);ext qw q E j;refine xyf ?_;refine hte q _ _ λ p w=>(cC,?_,?_,G _ _ ⟨66,ws++[(p,rZ,zyl)],cy,kS,?_,xj,?_,?_⟩)
    . ext DB c w
    . show(cW,Za,Jp B zSb)
    . intro b u e
      show(fK,Us,oH (d _ _ e) w,d _ _ e)
    . rw[ZD,E,Zu,x]
      simp
    . intro C A
      rcases Zy.mp A with z|z
      . have e:=y C z
        show(fK,tW e c,jd w,e)
      . have:=Zp.mp z
        ext yp;show(Dq,xh c w,xj)
  . rintro xs H2 (⟨ws,rfl,_,d,c,x,y⟩:66)
    rw[ZY] at x;show(cU,(fT,cN (d _ _ hl1),cy),fin H2 ws d c x y)
meta abbrev ck (c:jE):iO:=[.inl jw,.inl nJ]
def xs2 {c d:jE} (h:AV=ck d):c=d:=by
 ext hI a b c f e d;show(zJK,ck,Q4.injEq)
theorem xpk {d:Addr}{H:Hp}{cs:lJ}{qs:cM} (cl:EY) (hd:zjl):∀(kvs0:fP),kvs0.length+cs.length<1000 ->
    ∃ kvs,xe1 d (j3 H d kvs0) zFk (j3 H d kvs)/\∀ c:jE,(jT zUT)↔c∈cs\/(jT (valV kvs0 (ck c))):=by
  induction cl with
  | nil=>exact λ kvs0 _=>(cC,kvs0,.nil,λ c=>cy)
  | @cons c q cs qs h _ ih =>
    intro kvs0 x;have y:(cu,upd H d (.dT kvs0) q,.tup ((AV).map kV)):=by
      ext DB h hd
    show(fV,w,DPut.t (k:=AV) (v:=zyl) (zXG,.dT kvs0) y (ZX (Ad x:kvs0.length<1000) cE),xfk,w);have B:=xbv kvs0 AV (.bl true);show(cD,kvs,A,mem,ih (putK kvs0 AV (.bl true)) (Ad x));show(eW,kvs,.cons w A,fL j);rw[mem j,xcx];by_cases e:ck j=ck c
    . have:=xs2 e
      ext yp;simp
    . have ne:j≠c:=λ z=>e (hD z)
      ext iL e;simp[ne]
meta def xx5 (H:Hp) (o:gc jE) (v:V):Prop:=(zfH,o,none,∃ c q,(cu o c)/\(pY q)/\Um)
inductive x15 (t:Adr) (vs:cA) (H:Hp) (Q:VK) (_:XK):Prop
 | mk (a dp do_:Addr) (pw ph:Int) (ps:cJ) (o1 o2:Addr) (n1 n2:Str) (p1 p2:Pt) (b1 b2:Bool) (r1 r2:Int) (e_:zSm) (r_:i5/\(cR (ji o1 [.str n1,qN b1,.int r1]) (ji o2 [.str n2,qN b2,.int r2]) (dh,qG n1,Pp n1 p1,1<=r1,(cR,r1<=ph,1<=p1.x,p1.x<=pw,1<=p1.y,p1.y<=ph)) (dh,qG n2,Pp n2 p2,1<=r2,(cR,r2<=ph,1<=p2.x,p2.x<=pw,1<=p2.y,p2.y<=ph)) (zxf,xx5 H' (Geo.meet (Geo.cells pw p1.x p1.y b1 r1) (Geo.cells pw p2.x p2.y b2 r2)) v,G5)))
def xsq (T:cT):dB 7 t.f_c7 t.d_c7 Il (x15 t):=by
 refine T.B_c7.F.okn (k:=6) xct (c7 Q E h) (cZ vs Q E hr h)
 .ext cV
 obtain ⟨a,dp,j,C,ph,ps,o1,o2,n1,n2,U,D,Y,X,r1,r2,rfl,h⟩:=h;refine⟨_,xb (yt 2 (uh (pN 3 xct.nd) 4 xct.nd 5))
  (xb (pS 6 xct.nd (HY (uX,(xF "cell" ["picture", "one", "other", "name", "side", "row", "theirs", "cell"] xf7),x9 zke,ziC (xcd))))
  (xb (yt 1 (uh (pN 3 xct.nd) 4 xct.nd 5))
  (xb (qO (x9 zke) (pN 7 xct.nd) (rO (xd7 (xgy pH pV (pv 6))) (w6 7)))
  xN))),?_⟩
 refine sq5 ?_; intros; obtain⟨G,ad,ac,⟨m1,f1,u1,v1,g1⟩,⟨m2,f2,u2,v2,g2⟩,q⟩:46:=h;show(ui,o2,ac,⟨a,dp,j,C,ph,ps,n2,D,X,r2,rfl,(ib,G,m2,f2,u2,v2,g2,λ H1 l1 qs s1 J O ah=>zWk)⟩);refine xus J hl cm (λ q H2 R k=>Hq k) (gE H2 ws s2 hl2 he hw);ext Oh l ws hl2 hw S5;show(cD,kvs,af,mem,xpk (zrH s2) hd [] (by have:=O.len; simp; lia));refine d9 Nd _ zW (cK he af) ?_;show(dZ,S,gB (j3 H2 d kvs),xw (s1.trans s2) hd,fU o1 (S _ _ ad));ext OG; refine⟨a,dp,j,C,ph,ps,n1,U,Y,r1,rfl,(ib,kI S G,m1,f1,u1,v1,g1,λ H4 l4 aa s4 I N ag=>lH l4 I)⟩;have ae:H4 d=some (.dT kvs):=pX xj;refine xbc (xs:=aa.map V.ref) (Pv:=λ i Z H5=>∃ v7:eV,Z=[iH,cX o1,cX o2,tD n1,some (qN Y),d0 r1,Vi,v7]/\H4=H5 /\
  ∀ c∈(Geo.cells C U.x U.y Y r1).take i,c∉zJy) (gS _ rfl cy) (λ_ _ _ _ ⟨_,_,z,_⟩=>by rw[<- z]; ext qS I) ?_ ?_
 .rintro i v Z _ hv (⟨v7,rfl,rfl,no⟩:63);ext XU; ext FI hv q7 ab;show(cD,c,hc,L,N.get ab);show(eK,mm,mem c,(RW,d,F8 AV ae L,ite2 nY nY))
  .have hm:c∈zJy:=by
    rcases mm.mp z with y|y
    .exact y
    simp [valV] at y
   exact (q _ _ (S.trans s4) (.inr (gZ,c,q7,Geo.meet_at hc no hm,L)))
  refine (gS,_,rfl,cG c' M);rw[ZD,hc] at M;rcases Zy.mp M with y|y
  .exact no c' y
  .have:c'=c:=by simpa using y
   ext yp;exact λ y=>z (mm.mpr (.inl y))
 rintro Z _ (⟨v7,rfl,rfl,no⟩:63);rw[Za,N.len,ZY] at no;exact q _ _ (S.trans s4) (.inl (lS,Geo.meet_no no))
def lkO {w h:Int}{dp do_:Addr}:(Kh).lookup (gU "opened")=(cX do_):=by
 show(zlp,"opened");show(F4,zeU "opened" "height",gU "opened",[zaD,IE],_);show(zwn,"opened","placed",[IE])
meta abbrev Seat:=Bool × Int
meta def xad (s:Seat):iO:=[UJ i3,.inl fW]
meta def xba (s:Seat):cA:=[MO,.int fW]
def xfd {a b:Bool} (h:zUR):mx:=by
 cases a<;>cases b<;>first|rfl|ext gk h c9
def xh3 {s t:Seat} (h:jK=xad t):s=t:=by
 simp only[xad,Yo.injEq,Jk.injEq,Q4.injEq] at h;exact Yg (xfd lD) (dO h)
meta def Sts (H:Hp) (do_:Addr) (ss:cF):Prop:=∃ kvs:fP,(Pq do_)/\kvs.map (·.1)=zes/\ss.Nodup/\ss.length<=32
def Sts.same {H H':Hp}{do_:Addr}{ss:cF} (s:gg) (h:qp):Sts H' do_ ss:=let ⟨k,e,r⟩:=h; cC k xS r
theorem xt6 {kvs:fP}{ss:cF} (e:kvs.map (·.1)=zes) {s:Seat} (h:s∉ss):U1=none:=by
 cases z:U1 with
 | none=>rfl
 | some v =>
  show(GA,i,xlh z);have m:jK∈kvs.map (·.1):=Ze.mpr ⟨_,Zn c,rfl⟩;rw[e] at m;ext Dm t b d m;show(gk,b,(cK,xh3 d,h))
theorem x0z {kvs:fP}{ss:cF} (e:kvs.map (·.1)=zes) {s:Seat} (h:ue):∃ v,cu U1 v:=by
 cases z:U1 with
 | some v=>show(cU,v,rfl)
 | none =>
  have m:jK∈kvs.map (·.1):=by rw[e]; exact Ze.mpr (fR s h)
  show(cD,p,b,c,Ze.mp m);show(fV,a,xee (xad s) kvs,z,a);have:(zvV,λ kv=>eA (oM=xad s)):=JW.mpr (cC p b Bs);ext gm this a
inductive xao (H:Hp):HH cF
 | nil:xao H [] []
 | cons {s:Seat}{q:Addr}{ss:cF}{qs:cM} (h:Bd) (r:Lb):xao H NZ vY
theorem xao.keep {H H':Hp} (k:pb) {ss:cF}{qs:cM} (h:Lb):xao H' ss qs:=by
 induction h with
 | nil=>ext uj
 | cons h _ ih=>exact .cons (k _ _ h) ih
theorem xao.len {H:Hp}{ss:cF}{qs:cM} (h:Lb):qs.length=ss.length:=by
 induction h with
 | nil=>rfl
 | cons _ _ ih=>simp[ih]
meta def xb2 (s t:Seat):Prop:=(Gw/\(je t.1))\/(i3=t.1/\fW<t.2)
theorem xwu {s t:Seat} (h:lexK (xad s) (xad t)=true):xb2 s t:=by
 ext hI a i s b j t;unfold xad at h;unfold lexK at h;by_cases e:zUR
 .show(kN,CT e);unfold lexK at h;by_cases e2:i=j
  .show(kN,CT e2);unfold lexK at h;cases h
  show(kN,(mE,e2 (Q4.inj z)));show(NV,xfd e,of_decide_eq_true h)
 ext kN zRB;cases a<;>cases b
 .ext lX e
 .show(gk,h,(zvW,¬ xem (UJ false) (UJ true)=true))
 .ext eg lQ
 ext lX e
meta def unK:iO->Seat
 | [.inr s,.inl r]=>zuK s
 | _=>Ck
def xo3 (s:Seat):unK (xad s)=s:=by
 ext Gz r s;cases b
 .show (zuK (gU "right"))=_;rw[decide_eq_false c9]
 show (zuK (gU "left"))=_;rw[zoF]
inductive x3g (t:Adr) (vs:cA) (H:Hp) (Q:VK) (_:XK):Prop
 | mk (a dp do_:Addr) (pw ph:Int) (ps:cJ) (ss:cF) (b:Bool) (r:Int) (e_:De dH lu r) (r_:(cR,i5,qp,DK,VN,oD∉ss/\ss.length<32/\(zBP (ss++[oD]))))
inductive x1b (t:Adr) (vs:cA) (H:Hp) (Q:VK) (_:XK):Prop
 | mk (a dp do_:Addr) (pw ph:Int) (ps:cJ) (ss:cF) (e_:yy) (r_:i5/\qp/\∀(l:Addr) (ss':cF) (qs:cM),(eC,si,xao H ss' qs,R5,zpQ,ST uM))
def Pic.but {t:Adr}{H H':Hp}{a dp do_:Addr}{w h:Int}{ps:cJ}{kvs:fP} (e:Pq do_) (s:UM do_) (p:zrR):zrb :=
 (zBi,x,Hk zoz,k,(cC,k,zoz,q.keep λ b xs x=>zoz))
def ok_n (T:cT):dB 5 t.f_n t.d_n Bm (x3g t):=by
 refine T.n.F.okn (k:=4) sc_n (c7 Q E h) (cZ vs Q E hr h)
 .ext cV
 obtain ⟨a,Z,j,R,S,ps,ss,b,r,rfl,h⟩:=h;refine⟨_,xb (zkQ Cj)
  (xb (zPC (xag Cj))
  (xk (vq eZ (xag Cj) (xcd)))),?_⟩
 refine sq3 ?_; intros; obtain⟨v,st,r1,r2,no,len,q⟩:47:=h;ext yZ N X v;ext At kvs Y M nd aa V1;show(dQ,⟨a,N,_,rfl,X,fb,a,Z,j,R,S,ps,b,r,rfl,v,r1,r2,cG H1 I⟩,Db q1 L);generalize D:tH H1 q1 lu r=H2;ext jS G L D g2 D;show(cB,C,G _ _ (I _ _ Y),z,G _ _ (I _ _ X));have U:(zvY oD)=none:=xt6 M no;show(dQ,(mJ,N,z,T.n_bu,lkO,zbL j none U (F8,xad oD,C,g2) Gu),zvs N (iU,z,T.c_a,T.n_bu,lkO,tz,cG q3 J));generalize D:tH H2 q3 lu r=H3;ext jS O J D g3 D;have kl:kvs.length=ss.length:=by
  show(Dg,DF M)
 refine AZ j (VG,xad oD,O _ _ C,g3,(Ga,kvs.length<33));have bt:ki j Cn (sA H3 j (.dT (putK kvs (xad oD) (.bl true)))):=λc u nc e=>by
  show(oI,nc,O _ _ (G _ _ (I _ _ e)))
 refine q _ bt (Pic.but Y bt v) (vv _ xj ?_)
 .rw [xdh _ U,Zu,Zu,M];rfl
 .rw [ZH];show(dy,nd,cy,λ x hx y hy=>(cK,Zp.mp hy,λ e=>no (e▸hx)))
 rw [Zr];show ss.length+1<=32;lia
def ok_k (T:cT):dB 1 t.f_k t.d_k jZ (x1b t):=by
 refine T.k.F.okn (k:=0) sc_k (c7 Q E h) (cZ vs Q E hr h)
 .ext cV
 obtain ⟨a,dp,C,M,N,ps,ss,rfl,h⟩:=h;show(zR,xaj (xnq rfl) rfl T.n_sorted PyProof.Rows.Boot.«sorted» (gP eZ));ext yE D st;ext yZ Z U D;ext At kvs X J nd O V1;have kl:kvs.length=ss.length:=by
  show(Dg,DF J)
 refine mJ Z U T.n_bu lkO (eT,C,kvs,[false,true],rfl,X,cm,jN I,cE,gE l ts fr tm pm pw')
 .have m:cO∈kvs.map (·.1):=zeT I;rw[J] at m;show(Fo,s,e,Ze.mp m);rw[<- e];rfl
 rw[J] at pm;have back:∀ t∈ts,xad (unK t.1)=t.1:=λ t ht=>by
  show(Fo,s,e,Ze.mp (pm.mem_iff.mp (Ze.mpr (fR t ht))));rw[<- e,xo3]
 have z:=q l ((ts.map (·.1)).map unK) (ts.map (·.2)) fr ?_ ?_ ?_
 .rw [Zq] at z;ext gD
 .clear pm pw'
  induction ts with
  | nil=>ext uj
  | cons t ts ih =>
   refine .cons ?_ (ih (λ x j=>tm x (Zl _ j)) λ x j=>back x (Zl _ j));have e:=tm t Zm;rw[<- back t Zm] at e;exact e
 .have L:=pm.map unK;have Y:(zes).map unK=ss:=by
   ext XW unK xad xo3
  ext ef Y L L
 rw [Ja] at pw';rw[Zq,Ja];refine pw'.imp_of_mem λ{x y} j S G=>xwu ?_;show lexK (xad (unK cQ)) (xad (unK y.1))=true;show(fK,back x j,back y S,G)
meta def SsOk (h:Int) (ss:cF):Prop:=ss.Nodup/\ED/\(zuN h)
theorem xao.get {H:Hp}{ss:cF}{qs:cM} (h:Lb) {i:Nat}{q:Addr} (e:Fs):∃ s,(dS ss s)/\Bd:=by
 induction h generalizing i with
 | nil=>ext sG
 | @cons s q' ss qs h _ ih =>
  cases i with
  | zero =>
   ext Tm s
  | succ j=>ext C0
def nd_map {α β:Type}{f:C2} (inj:zHr) {l:eI} (h:l.Nodup):Ki:=by
 rw[List.nodup_iff_pairwise_ne,Ja];exact h.imp λ c e=>c zwN
theorem xao.snoc {H:Hp}{ss:cF}{qs:cM} (h:Lb) {s:Seat}{q:Addr} (e:Bd):xao H (ss++[s]) MJ:=by
 induction h with
 | nil=>ext KL
 | cons h _ ih=>ext E3
theorem xda {α:Type}{R:fF α α} (as:∀ a b,R a b->¬ R b a):∀{l l':eI},(dI,l.Perm l',l.Pairwise R,l'.Pairwise R,l=l')
 | [],l',p,_,_=>(Yp.nil_eq p)
 | a::t,[],p,_,_=>wC p.symm (by intro z; exact absurd (Yp.nil_eq z) cy)
 | a::t,b::t',p,h,h'=>by
  show(cB,j,Wi.mp h,d,Wi.mp h');by_cases e:mx
  .ext eQ;rw[xda as ((List.perm_cons a).mp p) j.2 d.2]
  have B:a∈t':=by
   have:=p.mem_iff.mp (Zm (a:=a) (l:=t));rcases Zt.mp this with z|z
   .ext gk z e
   ext gD
  have A:b∈t:=by
   have:=p.mem_iff.mpr (Zm (a:=b) (l:=t'));rcases Zt.mp this with z|z
   .show(gk,z.symm,e)
   ext gD
  show(gk,d.1 a B,as _ _ (j.1 b A))
def xdw (a b:Seat) (h:xb2 a b):¬ xb2 b a:=by
 rintro (⟨x,y⟩|⟨x,y⟩)<;>rcases h with⟨z,w⟩|⟨z,w⟩
 .ext AH x w
 .rw [x,y] at z; cases z
 .rw [z,w] at x; cases x
 lia
meta def xe5 (s:Seat):DV:=.tup [MO,.int fW]
def xug {s t:Seat}:xe5 s=xe5 t↔s=t:=by
 constructor
 .intro h
  unfold xe5 at h;simp only[DV.tup.injEq,Yo.injEq,DV.str.injEq,DV.int.injEq,and_true] at h;exact Yg (xfd lD) lE
 intro h;rw[h]
def xvw (s t:Seat):(um,dEq (xe5 s) (xe5 t),s=t):=xgl rfl rfl xug
def xwe (ss:cF) (s:Seat):(um,(ss.map xe5).any (λ z=>dEq z (xe5 s)),ue):=by
 ext zGZ
 .ext wW z hz e;ext gu t b hz;rw[xvw,decide_eq_true_iff] at e;exact e▸b
 intro h;exact(fT,UE s h,xcq _)
theorem xqq {K:Zd}{H:Hp}{q:Addr}{s:Seat} (h:Bd):iY 1 rZ (xe5 s):=by
 ext zma a b
 match j,a,b with
 | 0,a,b=>ext zoL
 | 1,a,b=>ext O5
 | j+2,a,b=>simp[xba] at a
def xao.dv {K:Zd}{H:Hp}{ss:cF}{qs:cM} (h:Lb) {l:Addr} (e:xU):iY 2 iS (.lst (ss.map xe5)):=by
 ext zjR;ext zlA;ext dP w b b;exact xqq y
theorem xao.pick {H:Hp}:zAV cF (∀(j:Nat) (y:V) (s:Seat),zWl Bd) R0
 | [],[],_,_=>vX [] .nil
 | [],fh,h,_=>ij
 | fh,[],h,_=>ij
 | NZ,pK,h,k=>by
  show(cD,q,e,b,k 0 y s rfl rfl);show(qL,rs,d,r,xao.pick (ss:=ss) (ys:=ys) wJ λ j y s h1 h2=>k jQ y s zbh zbg,q::rs,ir e d,.cons b r)
theorem xj7 {α:Type} [Et]:∀{l m:eI},l.Nodup->(∀ x∈l,x∈m)->l.length<=m.length
 | [],m,_,_=>jM
 | HR,m,nd,sub=>by
  obtain⟨i,c⟩:=ZE.mp nd;show(cB,b,sub a Zm,z,xj7 (l:=l) (m:=m.erase a) c (HE,(Zaa (λ e:x=a=>i (e▸hx))).mpr (sub x (Zl _ hx))));rw[List.length_erase_of_mem b] at z;have:=List.length_pos_of_mem b;rw[Z6];lia
meta def ptD (p:Pt):DV:=.tup zIr
theorem x5l {K:Zd}{H:Hp}{q:Addr}{p:Pt} (h:MK):iY 1 rZ (ptD p):=by
 ext zma a b
 match j,a,b with
 | 0,a,b=>ext zoL
 | 1,a,b=>ext O5
 | 2,a,b=>ext O5
 | 3,a,b=>ext zoL
 | 4,a,b=>ext O5
 | 5,a,b=>ext O5
 | j+6,a,b=>simp[ptV] at a
def PtsL.dv {K:Zd}{H:Hp}{ps:cJ}{qs:cM} (h:tf) {l:Addr} (e:xU):zPR ptD:=by
 ext zjR;ext zlA;ext dP w b b;exact x5l y
theorem xs0 {K:Zd}{H:Hp}{q:Addr}{a b:Int} (h:sN zxJ):iY 1 rZ (.tup zxJ):=by
 ext zma c l
 match j,c,l with
 | 0,c,l=>ext zUM
 | 1,c,l=>ext zUM
 | j+2,c,l=>simp at c
structure PtOk (w h:Int) (p:Pt):Prop where
 nm:qG p.nm
 x1:1<=p.x
 x2:p.x<=w
 y1:1<=p.y
 y2:p.y<=h
 sd:zmA p.sd
 l1:1<=p.lo
 l2:p.lo<=p.hi
 l3:p.hi<=h
structure xbf (w h:Int) (ps:cJ):Prop where
 ok:RA
 nn:(ps.map (·.nm)).Nodup
 nx:(ps.map (·.x)).Nodup
 ny:(ps.map (·.y)).Nodup
 le:Rz
def xde {α β:Type} (f:C2) {ps:eI} (nd:(ps.map f).Nodup) {i:Nat} (hi:i<ps.length):∀ p∈xC,f p≠f ps[i]:=λ p b e=>by
 have z:=nd;rw[<- Y7 i ps,Y8 hi,Zu,Zs,ZH] at z;exact (kO).2 _ No _ Zm e
def xk9 {α β γ:Type}{f:C2}{g:α->γ}{k:β->γ} (e:∀ a,g a=k (f a)) (inj:XJ) {l:eI} (h:Ki):(l.map g).Nodup:=by
 show(zL,nd_map inj h,Zq);show(cW,(j4,g,k∘f,funext e),z)
theorem xes {ps:cJ} (nd:(ps.map (·.nm)).Nodup) {p:Pt} (hp:Ax):zei (λ q=>gO q.nm p.nm) p:=by
 induction ps with
 | nil=>simp at hp
 | cons a ps ih =>
  ext Fj;rcases Zt.mp hp with z|z
  .subst z;rw[Qa cy]
  have ne:¬ a.nm=p.nm:=λ y=>nd.1 (y▸(zeT z));show(cW,WB (by simpa using ne),ih lB z)
meta def xbw (p:Pt) (s:Seat):Bool:=((gO p.sd "both")||(eA (p.sd=xab i3)))&&((eA (p.lo<=fW))&&(eA (fW<=p.hi)))
def xs3 (sd w:Str):inV (.str sd) [R8,.str w]=(zXd||(gO sd w)):=by
 have e:∀ a b:Str,um M8 (b=a):=λ a b=>by
  rw[JD,beq_iff_eq,decide_eq_true_iff];exact eq_comm
 show (((gU "both") == sd)||((w == sd)||false))=_;rw[Wq,e,e]
meta def xht (s2:cF) (p:Pt) (i:Nat):Bool:=match s2[i]? with|zjk=>MF|none=>false
def xhp {s2:cF}{p:Pt}{s:Seat}{i:Nat} (h:dS s2 s):xht s2 p i=MF:=by
 unfold xht;rw[h]
inductive x3r (t:Adr) (vs:cA) (H:Hp) (Q:VK) (_:XK):Prop
 | mk (a dp do_:Addr) (pw ph:Int) (ps:cJ) (ss:cF) (pt:Pt) (b:Bool) (i:Int) (e_:vs=[dH,qz,lu,j5]) (r_:(uE,i5,qp,qG pt.nm,Pp pt.nm pt,1<=i,i<=ph,zsF ((eA (Oa∈ss))&&xbw pt Oa)))
inductive x1q (t:Adr) (vs:cA) (H:Hp) (Q:VK) (_:XK):Prop
 | mk (a dp do_:Addr) (pw ph:Int) (ps:cJ) (ss:cF) (pt:Pt) (e_:vs=[dH,qz]) (r_:i5/\(cR,qp,SsOk ph ss,qG pt.nm,Pp pt.nm pt,∀(H':Hp) (l:Addr) (srt:cF) (rs:cM),gg->si->(oz,R4,PB,lm l zol,xao H' zoi rs,l)))
def ok_ag (T:cT):dB 5 t.f_ag t.d_ag Ie (x3r t):=by
 refine T.ag.F.okn (k:=4) sc_ag (c7 Q E h) (cZ vs Q E hr h)
 .ext cV
 obtain ⟨a,M,j,N,O,ps,ss,pt,b,i,rfl,h⟩:=h;refine⟨_,xb zkw
  (xb (zkQ xK)
  (xb (xbk (tU eZ ew) (zhb (pN 4 sc_ag.nd) (xo (pN 5 sc_ag.nd) (xo (pN 6 sc_ag.nd) (mC 7 sc_ag.nd 8 sc_ag.nd)))))
  (gq (xe9 (x29 (xgy pH (xag xK) eZ)) (xe9 (xd1 xhq jL (xag (xa (xan) Vh)) jk) (xgo (xjk xim xim pV gM wg))))))),?_⟩
 refine sq4 ?_; intros; obtain⟨C,st,hn,hf,i1,i2,q⟩:47:=h;ext Ik J X hk C;show(dQ,⟨a,J,_,rfl,X,fb,a,M,j,N,O,ps,pt.nm,pt,rfl,C,hn,hf,?_⟩,⟨a,J,_,rfl,X,fb,a,M,j,N,O,ps,b,i,rfl,C,i1,i2,cG H1 L⟩);show(cD,q0,e0,U,pl.find hf);show(cB,G,L _ _ X,Z,L _ _ hk);show(dQ,mJ _ G T.n_bq lkP (jB,M,Gs,rfl,(hV,e0,tE zJ Z),q0,_,rfl,jP (L _ _ U),rfl,?_),Db q1 S);generalize I:tH H1 q1 lu i=H2;ext jS s2 S I g2 I;show(cB,D,nE G,y,L.trans s2);ext At ko Y ek nd aa V1;show(cB,x,y _ _ Y,qq,q);by_cases cin:Oa∈ss
 .obtain ⟨v,hv⟩:=x0z ek cin;show(dQ,(mJ,_,D,T.n_bu,lkO,dN j Az rfl (hV hv zSA) true rfl MN),Db q3 R);generalize I:mw H2 q3 R8 lu=H3;show(KO,s3,R,I,g3,z,qq H3 (y.trans s3));rw[Sj cin,Qv] at z;unfold xbw at z;refine Iu q3 g3 Fh
  .ext zLI
   rw[c,Qv] at z;refine(eJ,Lx c2 c2)
   .rw [c2,Qv] at z;ext gD
   rw [Jx.mpr c2,Q8] at z;ext gD
  ext zLI
  ext UQ zyu Q8
 have n0:valV ko (xad Oa)=none:=xt6 ek cin;show(Cd,qq H2 y,K0 cin,Q8);exact mJ _ D T.n_bu lkO (zbL,j,none,n0,zSA,iteF z)
theorem ok_r (T:cT):dB 6 t.f_r t.d_r nN (x1q t):=by
 refine T.r.F.okn (k:=5) sc_r (c7 Q E h) (cZ vs Q E hr h)
 .ext cV
 obtain ⟨a,dp,G,pw,ph,ps,ss,pt,rfl,h⟩:=h;refine⟨_,xb zkw
  (gq (uO,zQO nN s_r,Xp,Oq,G6,λ_ _ _ _ _=>xei (xbe (iD gM T.c_a T.ag.m (ok_ag T) eG T.ag.b (f8 2 GX))),xag GX)),?_⟩
 refine sq2 ?_; intros; ext sI C st S hn hf;ext yZ O hp C;show(dQ,⟨a,O,_,rfl,hp,fb,a,dp,G,pw,ph,ps,pt.nm,pt,rfl,C,hn,hf,?_⟩,⟨a,O,_,rfl,hp,fb,a,dp,G,pw,ph,ps,ss,rfl,C,st,λ l1 srt Y af X J ad=>?_⟩);show(zOB,.lst (Y.map V.ref),af);show(Df,U,X.keep (Same.tups s1),ql,X.len,ag,zcg,VY J.length_eq S,h9 l1 g1 l2 Z);refine xd0 (cN g1) (js (Ga,Y.length<33)) Z (xht srt pt) (Dk,∃ s q,(dS srt s)/\zY/\Bd) (zCR s) (RT x H4 hx s4) (tR H4 s4 el4 f4)
 .rw [Zf] at hx;ext vQ hx;show(cD,z,D,ep,U.get ho);have I:=s1.trans s4;have L:z∈ss:=J.mem_iff.mp (Zn D);obtain⟨ab,aa⟩:=S.2.2 z L;show(ui,o,pX ep,⟨a,O,_,rfl,I _ _ hp,fb,a,dp,G,pw,ph,ps,ss,pt,ro,kO,rfl,kI I C,st.same I,hn,hf,ab,aa,cG H5 s5⟩);refine Gj
  .ext zFd;ext pU q6 ae;exact hN _ _ (s5.trans (ge ae)) (cK,xhp D,c) (gZ z q6 D xj)
  ext zFd;exact hM _ s5 (by rw[xhp D]; exact Jx.mpr c)
 have fi:=xin (xbw pt) (as:=srt) (p:=xht srt pt) (λ i s hs=>xhp hs);rw[Za,ql] at ly f4;obtain⟨ac,e4,R⟩:62:=xao.pick (H:=H4) (ss:=zoi) (ys:=ys) (fS ly fi.1) (λj y s hy hs=>by
  have hj:j<((Zz srt.length).filter (xht srt pt)).length:=by
   show(kC,ly,oh hy)
  show(hJ,s',q',h1,h2,h3,f4 j y _ hy (Zc hj));rw[fi.2 j _ (Zc hj),hs] at h1;cases h1;ext dy q' h2 h3)
 subst e4;exact q H4 l2 srt ac (Ho s4) (s1.free Z) J ad el4 R
meta def scD:V->DV
 | j5=>j5
 | yA=>yA
 | .str s=>.str s
 | _=>.non
meta def scV:Uc
 | vJ=>true
 | yB=>true
 | jG=>true
 | .non=>true
 | _=>false
theorem x30 {K:Zd}{H:Hp}{v:V} (h:scV v=true):iY 0 v (scD v):=by
 cases v with
 | int i=>exact .int
 | bl b=>exact .bl
 | str s=>exact .str
 | non=>exact .non
 | _=>cases h
def xg1 {K:Zd}{H:Hp}{xs:cA} (f:zRz) (j:Nat) (x:V) (d:DV) (h1:gC xs x) (h2:gC (xs.map scD) d):iY 0 x d:=by
 rw[Zf,h1] at h2;cases h2;exact x30 (J6.mp f x (Zn h1))
structure Dr (t:Adr) (H:Hp) (a dp do_:Addr) (w h:Nat) (ps:cJ) (ss srt:cF):Prop where
 pic:zUU
 sts:qp
 ok:LE
 pm:R4
 lt:PB
 nm:znO
def Dr.same {t:Adr}{H H':Hp}{a dp do_:Addr}{w h:Nat}{ps:cJ}{ss srt:cF} (d:EE) (s:gg):PX H' ss srt:=(dM,Pic.same s d.pic,d.sts.same s,d.ok,d.pm,d.lt,d.nm)
inductive x2l (t:Adr) (vs:cA) (H:Hp) (Q:VK) (_:XK):Prop
 | mk (w h:Int) (l m:Addr) (ps:cJ) (qs:cM) (ss:cF) (rs:cM) (e_:vs=[Nl,.int h,iS,.ref m]) (r_:dh (dh sL jJ DL j8) xU tf (cR,SA,zng m,R0,S9,∀ H' a dp do_,gg->Nv->(oz,d7 dp,d7 do_,zrb,Sts H' do_ ss,a)))
def ok_t (T:cT):dB 6 t.f_t t.d_t ["width", "height", "points", "seats"] (x2l t):=by
 refine T.B_t.F.okn (k:=5) sc_t (c7 Q E h) (cZ vs Q E hr h)
 .ext cV
 obtain ⟨w,O,l,m,ps,qs,ss,rs,rfl,h⟩:=h;refine⟨_,xb (zkq sc_t.nd GX)
  (xb (nO 2 (oE (EJ (pN 5 sc_t.nd) (pN 6 sc_t.nd) (pN 7 sc_t.nd) (pN 8 sc_t.nd) (mC 9 sc_t.nd 10 sc_t.nd))) (oB (iD h8 T.c_a T.m_b (ok_b T) eG T.b_b (SM jt jL pV wg (pv 9) (pv 10)))))
  (xb (nO 3 (oE (mC 11 sc_t.nd 12 sc_t.nd)) (oB (zGk (lq 11 12))))
  U9)),?_⟩
 refine sq4 ?_; intros; obtain⟨⟨w1,w2,h1,h2⟩,hl,ae,L,hm,ac,⟨⟨ak,ar,ad⟩,q⟩⟩:47:=h;refine (λ a dx hx ag ne=>iT a dx w O (iU,xj,w1,w2,h1,h2,λ H5 dp do_ hdp5 hdo5 s6 pic5 hdt=>CC));ext oX; have k5:Aq:=(iI,s6 b u (xh e hx) (zdx hx ag));have up:zLB:=λb z=>by
  cases e:H b with
  | none=>rfl
  | some u=>ext O4 hx ag
 show(tK,ah,up _ hdp5,ai,up _ hdo5,pl,ae.len,sl,ac.len);refine lH l (k5 _ _ hl)
 show(zLj,zTs (Gy,[zjh,d0 O,mV,cX m,iH,v5,Y,X,U,R,J,I,G],H2,vd H2 w O xC,H2 do_=some (.dT [])))
 refine xbc (xs:=KY) (Pv:=Pv) (UV,k5,by simpa using pic5,hdt) (λ_ _ _ _ ⟨_,_,_,_,_,_,_,_,_,z,_⟩=>zVk) ?_ ?_
 .ext zBA H2 s2 D N;show(cD,p,hp,ez,ae.get hz);ext LN hi ep hp;have ok:=L.ok p (Zn hp);obtain⟨⟨aq,an⟩,⟨kvs,ao,_⟩,_⟩:=id D;have as:=L.le;show(ui,z,nE ez,Sq aq an);refine⟨a,dp,do_,w,O,xC,p.nm,p.x,p.y,p.sd,p.lo,p.hi,zxe,rfl,ib D zW ok.nm ok.x1 ok.x2 ok.y1 (yr,ok.y2,ok.sd,ok.l1,ok.l2,ok.l3,cG p' ab,?_,c8 H3 k3 j)⟩
  .have e:=ep.symm;ext eQ;show(dy,zvL L.nn,zvL L.nx,zvL L.ny)
  .rw [Jm];lia
  refine (UV,(iI,k3 b u (xh e ah) (s2 b u e)),?_,k3 _ _ (ne_f N ao) N);ext fK ZD hp j
 rintro Z H2 (⟨v5,Y,X,U,⟨R,J,I,G,rfl,s2,D,N⟩⟩:121);ext OG; rw[Za,pl,ZY] at D;show(zHQ,m,nE hm,zTs (Gy,[zjh,d0 O,mV,cX m,iH,v5,Y,X,U,R,J,I,G],H3,vd H3 w O ps,Sts H3 do_ (ss.take i)))
 refine xbc (xs:=ztk) (Pv:=Pv) (UV,s2,D,AR [] N Y3 cy) (λ_ _ _ _ ⟨_,_,_,_,_,_,_,_,_,z,_⟩=>cN (z _ _ hm)) ?_ ?_
 .ext zBA H3 s3 j M;show(cD,s0,aa,ez,ac.get hz);ext LN hi es aa;show(hI,b,r,s0,r1,r2,ad _ (Zn aa));ext yZ ap am j;have al:oD∉ss.take i:=λ hmem=>by
   have:=xde id (by simpa using ak) hi _ hmem;exact this (hD es)
  refine fU z (s3 _ _ ez);show(dQ,Sq ap am,⟨a,dp,do_,w,O,ps,ss.take i,b,r,rfl,(ib,j,M,r1,r2,al,?_,fM H4 k4 af aj)⟩)
  .rw [Jm];lia
  refine UV (mZ,k4 c u (xh e ai) (s3 c u e)) af ?_;ext fK ZD aa aj
 rintro Z H3 (⟨v5,Y,X,U,⟨R,J,I,G,rfl,s3,j,M⟩⟩:121);rw[Za,sl,ZY] at M;exact (q H3 a dp do_ s3 hx ah ai j M)
meta abbrev Pr:=Pt × Bool × Int
meta def prV (p:Pr):cA:=zMK
inductive PrsL (H:Hp):HH cS
 | nil:PrsL H [] []
 | cons {p:Pr}{q:Addr}{ps:cS}{qs:cM} (h:ziQ) (r:EN):PrsL H VL vY
theorem PrsL.keep {H H':Hp} (s:pb) {ps:cS}{qs:cM} (h:EN):PrsL H' ps qs:=by
 induction h with
 | nil=>ext uj
 | cons h _ ih=>ext RU
theorem PrsL.len {H:Hp}{ps:cS}{qs:cM} (h:EN):zOK:=by
 induction h with
 | nil=>rfl
 | cons _ _ ih=>simp[ih]
theorem PrsL.snoc {H:Hp}{ps:cS}{qs:cM} (h:EN) {p:Pr}{q:Addr} (e:ziQ):PrsL H Ak MJ:=by
 induction h with
 | nil=>ext KL
 | cons h _ ih=>ext E3
theorem PrsL.get {H:Hp}{ps:cS}{qs:cM} (h:EN) {i:Nat}{q:Addr} (e:Fs):∃ p,FC/\ziQ:=by
 induction h generalizing i with
 | nil=>ext sG
 | @cons p q' ps qs h _ ih =>
  cases i with
  | zero =>
   ext Tm p
  | succ j=>ext C0
structure PrOk (ps:cJ) (w h:Int) (p:Pr):Prop where
 nm:qG eS
 fd:zei (λ z=>gO z.nm eS) cO
 r1:1<=jI
 r2:jI<=h
 xy:(dh,1<=uD,uD<=w,1<=yK,yK<=h)
def x18 (qs:cM) (k:Nat):cutV (qs.map V.ref) (some (rg k)) none=(qs.drop fC).map V.ref:=by
 unfold cutV;rw[(fD,(rg k)=(hU fC)),HT.sIx_nat,HT.sIx_none,Za,<- Wp,<- Wo]
 ext iJ
 by_cases c:fC<=qs.length
 .rw [Nat.min_eq_left c,ZZ cy]
 rw [Nat.min_eq_right cm,List.drop_length,List.drop_of_length_le cm];simp
theorem PrsL.drop {H:Hp}{ps:cS}{qs:cM} (h:EN) (k:Nat):PrsL H (ps.drop k) (qs.drop k):=by
 induction h generalizing k with
 | nil=>simpa using PrsL.nil
 | cons h r ih =>
  cases k with
  | zero=>exact .cons h r
  | succ k=>exact ih k
meta def cel (w:Int) (p:Pr):lJ:=Ah uD yK mU jI
meta abbrev Tr:=Str × Str × jE
meta def xbm (w:Int) (p:Pr):Int:=lenI w uD yK mU jI
def xvy {ps:cJ}{w h:Int}{p:Pr} (o:Rv) (hw:jJ) (hh:j8):zUy zhr:=by
 ext zMl
inductive xzo (t:Adr) (vs:cA) (H:Hp) (Q:VK) (_:XK):Prop
 | mk (a dp do_ l:Addr) (pw ph:Int) (ps:cJ) (prs:cS) (qs:cM) (e_:Fe) (r_:zmv (Ej,(prs.map (xbm pw)).sum))
def xn5 (T:cT):dB 6 t.f_c8 t.d_c8 iM (xzo t):=by
 refine T.B_c8.F.okn (k:=5) xwa (c7 Q E h) (cZ vs Q E hr h)
 .ext cV
 obtain ⟨a,dp,J,l,M,ph,ps,prs,S,rfl,h⟩:=h;show(zR,(xaj (xmm rfl) rfl T.n_sum PyProof.Rows.Boot.«sum» (gP (uO,(sS ["name", "side", "row"] R9 [0] iM xix),Tb,(DW,U,X,zhb zye (Ab zyd (pO 2 X U)),3),zUk,uV,iD gM T.c_a T.u.m (ok_u T) eG T.u.b (qR 0 1 2)))));ext sI C O pr ok len;ext zle C;refine h9 l O l1 I;refine xco S.length (λ i zs L=>zs=(((SF).map (xbm M)).map V.int)/\(gB L)/\L l1=some (.lst zs)) ?_ ?_ ?_ ?_
 .exact (cC,cy,ge I,xj)
 .rintro i zs L lt (⟨_,j,_⟩:43);show(KM,S,cN (j _ _ O),Gp)
 .rintro i zs L v H3 lt (⟨rfl,j,z⟩:43) ⟨rfl,hv⟩ N hN;show(fV,D,hv _ (cN (j _ _ O)),Zf,D);ext vQ D;show(cD,p,G,ep,pr.get ho);show(eK,y,ok p (Zn G),fU o (j _ _ ep));ext Mx;refine⟨tX,rfl,j _ _ hp,fb,a,dp,J,M,ph,ps,eS,cO,mU,jI,rfl,Pic.same j C,y.nm,y.fd,y.r1,y.r2,cG H4 Z⟩;show(eW,Z _ _ z,?_,hN _ _ (cC ?_ zX xj))
  .rw [Za,Za,Jm];exact ZX (cm:min i prs.length<13) cE
  .rw [ZD,G,Zu,Zu];rfl
  show(eO,jd I,Z _ _ (j b u e))
 rintro zs L (⟨rfl,j,z⟩:43);rw[pr.len,ZY] at z;refine(nh,(fT,cN (j _ _ O),cy),l1,prs.map (xbm M),cN z,vt CA n hn,q _ j);ext gu p Y hn;exact xvy (ok p Y) w2 h2
meta def xeb (s:Str):Str:=(gH,s,"left","right",gH s "right" "left" s)
meta def mirP (w:Int) (p:Pt):Pt:=(dM,p.nm,jz p.x,p.y,xeb p.sd,p.lo,p.hi)
meta def turP (h:Int) (p:Pt):Pt:=zuG zfs zex zvq
meta def mirS (s:Seat):Seat:=(! i3,fW)
meta def turS (h:Int) (s:Seat):Seat:=(i3,Tw)
inductive xtm (t:Adr) (f:dI Int Int Pt Pt) (g:Int->Seat->Seat) (vs:cA) (H:Hp) (Q:VK) (_:XK):Prop
 | mk (a dp do_:Addr) (pw ph:Int) (ps:cJ) (ss:cF) (e_:yy) (r_:(cR,i5,qp,xbf pw ph ps,SsOk ph ss,∀(H':Hp) (a' dp' do':Addr) (ss':cF),eC gg (d7 a') (d7 dp') (d7 do') (oz,R5,zpQ,Pic t H' a' dp' do' pw ph (ps.map (f pw ph)),Sts H' do' (ss'.map (g ph)),a')))
def SsOk.perm {h:Int}{ss ss':cF} (p:R5) (o:S9):SsOk h ss':=(cC,p.nodup_iff.mpr o.1,VY p.length_eq o,(jr,o.2.2 s (p.mem_iff.mp hs)))
def xli {h:Int}{ss:cF} (o:S9):SsOk h zqy:=by
 ext zEV
 .simp only [turS,Yn.injEq] at e;exact Yg e.1 cm
 ext me s' c zgn;have:=o.2.2 s' c;simp only[turS];lia
def xiv {h:Int}{ss:cF} (o:S9):SsOk h (ss.map mirS):=by
 ext zEV
 .simp only [mirS,Yn.injEq] at e;exact Yg (by have:=e.1; revert this; cases a.1<;>cases sR<;>simp) e.2
 ext me s' c zgn;exact o.2.2 s' c
def xev {w h:Int}{ps:cJ} (o:SA):xbf w h zqv:=by
 refine(dW,jN v,?_,?_,?_,js o.le)
 .show(me,q,u,Ze.mp v);show(zVX,o.ok q u);have A:xeb q.sd="left"\/xeb q.sd="right"\/xeb q.sd="both":=by
   rcases f with z|z|z<;>rw[z]
   .exact .inr (.inl c9)
   .ext eg c9
   exact .inr (.inr c9)
  exact(eT,a,Kw mirP,Kw mirP,d,e,A,g,i,j)
 .show(eO,Zq,o.nn)
 .show(zKK,mS,o.nx)
 show(eO,Zq,o.ny)
def xgv {w h:Int}{ps:cJ} (o:SA):xbf w h zqx:=by
 refine(dW,jN u,?_,?_,?_,js o.le)
 .show(me,s,q,Ze.mp u);show(zVX,o.ok s q);exact⟨a,b,c,S7,S7,f,S7,S7,S7⟩
 .show(eO,Zq,o.nn)
 .show(eO,Zq,o.nx)
 show(zKK,h+1-x,o.ny)
def ok_y (T:cT):dB 7 t.f_y t.d_y jZ (xtm t (λ_ h p=>turP h p) turS):=by
 refine T.B_y.F.okn (k:=6) sc_y (c7 Q E h) (cZ vs Q E hr h)
 .ext cV
 ext zKX G;refine⟨_,xb (y0 1 sc_y.nd Ue)
  (xb (xbo rfl (sS ["name", "x", "y", "sides", "low", "high"] ["rows"] [1] ztU s_y) DT (DW,U,X,oE (EJ zye zyd (pO 2 X U) (pO 3 X U) (Ab (pO 4 X U) (pO 5 X U))),6) zSM uV (λ_ _ _ _ _=>xag (SM dU ew (vV jL 2) gM (vV jL 5) (vV jL 4))) (j:=2) rfl Hb)
  (xb (zFA,Ra ["rows"] [1] ztU s_y,(DW,U,X,oE (Ab zye zyd),2),ziC (vV hB 1))
  zAb)),?_⟩
 refine sq4 ?_; intros; ext CU ad st ac al q h;show(zAD,mJ dx hp T.n_bb lkH ?_,G,Y);show(cB,as,ac.le,ql,af.len);show(V7,l1,Y,l2,aj,qs.length,D,DI D,D l2=some (.lst zs),PtsL D ((xC).map (turP G)) rs)
 .exact OZ aj zmL
 .ext zIZ D Y
 .rintro i zs D v H3 lt (⟨rs,rfl,rl,s2,M,S⟩:65) ⟨rfl,hv⟩ N hN;show(fV,I,hv _ (cN (s2 _ _ Y)),Zf,I);ext vQ I;show(cD,p,ah,ep,af.get ho);show(eK,au,ac.ok p (Zn ah),fU o (nE ep));ext Mx;ext su leS6 p7 J;show(Xa,(.str ((turP G) p).nm::ptV ((turP G) p)),J,l2,xh M J,M,13)
  .show(eO,jd aj,pZ Tz)
  rw [ZD,ah,Zu];refine PtsL.snoc (PtsL.keep Ca S) ?_
  .ext zfJ M
  ext Cf n7
 rintro zs D (⟨rs,rfl,rl,s2,M,S⟩:65);show(pT,(fT,cN (s2 _ _ Y),cy));rw[ql,ZY] at S;show(dZ,R,gB D,pB,⟨a,dx,_,rfl,R _ _ hp,fb,a,dp,ae,pw,G,ps,ss,rfl,kI R ad,st.same R,λ l3 ss' C fr sl pm an=>?_⟩);show(yF,s3,Same D (upd D l3 (.lst (C.map V.ref))),ge fr,g3,oa D l3 zQk l3 zQk,xj,aa,zqT s3);revert s3 g3 aa;generalize upd D l3 (.lst (C.map V.ref))=H3;intro s3 g3 aa;show(cB,Z,al.perm pm,am,sl.len);show(V7,l3,g3,l4,ai,C.length,H4,Same H3 H4,H4 l4=some (.lst zs),xao H4 ((ss'.take i).map (turS G)) rs)
 .ext zJg
 .ext IJ zs H4 rs s4;show(KM,C,cN (s4 _ _ g3),Gp)
 .rintro i zs H4 v H5 lt (⟨rs,rfl,rl,s4,L,O⟩:65) ⟨rfl,hv⟩ N hN;show(fV,I,hv _ (cN (s4 _ _ g3)),Zf,I);ext vQ I;show(cD,s0,ao,ep,aa.get ho);show(eK,ar,dO Z,fU o (pX ep));ext Mx;ext pU p7 J;show(Xa,xba ((turS G) s0),J,l4,xh L J,L,33)
  .show(eO,jd ai,pZ Ty)
  ext zJJ ao O
  .ext zfJ L
  ext Cf n7
 rintro zs H4 (⟨rs,rfl,rl,s4,L,O⟩:65);show(pT,(fT,cN (s4 _ _ g3),cy));rw[am,ZY] at O;show(ia,ab,Same D H4,s3.trans s4,z,gB H4,R.trans ab,rF dx (z _ _ hp) ⟨a,_,dx,_,_,rfl,(z _ _ hp),T.c_a,T.n_bb,lkH,pw,G,l2,l4,ps.map (turP G),_,ss'.map (turS G),rs,rfl,zSg,ab _ _ M,S.keep (Same.tups ab),xgv ac,L,O,xli Z,zNH ap aq⟩);exact q H' a' ap aq ss' (z.trans s5) (z.free f1) (z.free f2) (z.free f3) pm an ag ak
def x2j {sd:Str} (h:Ru):(cu,valV zjP (Jk sd),.str (xeb sd)):=by
 rcases h with rfl|rfl|rfl<;>decide +kernel
def xyx (b:Bool):(cu,valV zjP (Jk (xab b)),qN (! b)):=by
 cases b<;>decide +kernel
def ok_f (T:cT):dB 7 t.f_f t.d_f jZ (xtm t (λ w _ p=>mirP w p) (λ_ s=>mirS s)):=by
 refine T.f.F.okn (k:=6) sc_f (c7 Q E h) (cZ vs Q E hr h)
 .ext cV
 ext zKX ph;refine⟨_,xb (y0 1 sc_f.nd Ue)
  (xb (xbo rfl (sS ["name", "x", "y", "sides", "low", "high"] ["columns"] [1] zrp s_f) DT (DW,S,U,oE (EJ (pO 0 U S) (pO 1 U S) (pO 2 U S) (pO 3 U S) (Ab (pO 4 U S) (pO 5 U S))),6) zSM uV (λ_ _ _ _ _=>xag (SM dU (vV jL 1) hB (xqt T.g_j T.D_j rfl gM jV) h8 jt)) (j:=2) rfl Hb)
  (xb (zFA,Ra [] [] zrp s_f,zCH,xag (xa (xqt T.g_j T.D_j rfl dU jV) mT))
  zAb)),?_⟩
 refine sq4 ?_; intros; ext CU ad st ac al q h;show(zAD,rF dx hp ?_,ph,X);show(cB,au,ac.le,ql,af.len);show(V7,l1,X,l2,aj,qs.length,C,DI C,C l2=some (.lst zs),PtsL C ((xC).map (mirP pw)) rs)
 .exact OZ aj zmL
 .ext zIZ C X
 .rintro i zs C v H3 lt (⟨rs,rfl,rl,s2,L,R⟩:65) ⟨rfl,hv⟩ N hN;show(fV,G,hv _ (cN (s2 _ _ X)),Zf,G);ext vQ G;show(cD,p,ah,ep,af.get ho);show(eK,ao,ac.ok p (Zn ah),fU o (nE ep));ext Mx;refine(nh,84,.inr p.sd,.str (xeb p.sd),x2j ao.sd,zfB,cG p7 I);show(Xa,(.str ((mirP pw) p).nm::ptV ((mirP pw) p)),I,l2,xh L I,L,13)
  .show(eO,jd aj,pZ Tz)
  rw [ZD,ah,Zu];refine PtsL.snoc (PtsL.keep Ca R) ?_
  .ext zfJ L
  ext Cf n7
 rintro zs C (⟨rs,rfl,rl,s2,L,R⟩:65);show(pT,(fT,cN (s2 _ _ X),cy));rw[ql,ZY] at R;show(dZ,O,gB C,pB,⟨a,dx,_,rfl,O _ _ hp,fb,a,dp,ae,pw,ph,ps,ss,rfl,kI O ad,st.same O,λ l3 ss' z fr sl pm an=>?_⟩);show(yF,s3,Same C (upd C l3 (.lst (z.map V.ref))),ge fr,g3,oa C l3 zQj l3 zQj,xj,aa,zqT s3);revert s3 g3 aa;generalize upd C l3 (.lst (z.map V.ref))=H3;intro s3 g3 aa;show(cB,Y,al.perm pm,am,sl.len);show(V7,l3,g3,l4,ai,z.length,H4,Same H3 H4,H4 l4=some (.lst zs),xao H4 ((ss'.take i).map (mirS)) rs)
 .ext zJg
 .ext IJ zs H4 rs Z;show(KM,z,cN (Z _ _ g3),Gp)
 .rintro i zs H4 v H5 lt (⟨rs,rfl,rl,Z,J,M⟩:65) ⟨rfl,hv⟩ N hN;show(fV,G,hv _ (cN (Z _ _ g3)),Zf,G);ext vQ G;show(cD,s0,ap,ep,aa.get ho);show(eK,as,dO Y,fU o (Z _ _ ep));ext Mx;refine(nh,84,UJ s0.1,qN (! s0.1),xyx s0.1,tz,cG p7 I);show(Xa,xba ((mirS) s0),I,l4,xh J I,J,33)
  .show(eO,jd ai,pZ (Z _ _ e))
  ext zJJ ap M
  .ext zfJ J
  ext Cf n7
 rintro zs H4 (⟨rs,rfl,rl,Z,J,M⟩:65);show(pT,(fT,cN (Z _ _ g3),cy));rw[am,ZY] at M;show(ia,ab,Same C H4,s3.trans Z,y,gB H4,O.trans ab,rF dx (y _ _ hp) ⟨a,_,dx,_,_,rfl,(y _ _ hp),T.c_a,T.n_bb,lkH,pw,ph,l2,l4,zxq pw,_,zds,rs,rfl,zSg,ab _ _ L,R.keep (Same.tups ab),xev ac,J,M,xiv Y,zNH aq ar⟩);exact q H' a' aq ar ss' (y.trans s5) (y.free f1) (y.free f2) (y.free f3) pm an ag ak
meta def acrI (w:Int) (p:Pr):Int:=if mU then uD else jz uD
meta def uprI (w:Int) (p:Pr):Int:=zgi*XQ
def x3s {a b:Int} (a0:0<=a) (a1:jA a) (b0:0<=b) (b1:jA b):(ur,a*b,1000000):=by
 show(pT,Int.mul_nonneg a0 b0);show(gT,d,zNC a1 b0,c,1000*b<=1000*1000,Int.mul_le_mul_of_nonneg_left b1 cE);exact Int.le_trans d c
def xzy {ps:cJ}{w h:Int}{p:Pr} (o:Rv) (hw:jJ) (hh:j8):zUy zgh:=by
 ext XX o;have z:=x3s (a:=zgi) (b:=XQ) zaj zaj zwS zwS;unfold uprI;lia
inductive xzv (t:Adr) (vs:cA) (H:Hp) (Q:VK) (_:XK):Prop
 | mk (a dp do_ q0:Addr) (pw ph:Int) (ps:cJ) (p:Pr) (e_:vs=(qe dH q0)) (r_:dh i5 (zuj q0 p) zUK (Ej (uprI pw p)))
inductive x41 (t:Adr) (vs:cA) (H:Hp) (Q:VK) (_:XK):Prop
 | mk (a dp do_ l:Addr) (pw ph:Int) (ps:cJ) (prs:cS) (qs:cM) (e_:Fe) (r_:zmv (Ej,(prs.map (uprI pw)).sum))
meta def mayB (ss:cF) (p:Pt) (s:Seat):Bool:=(eA ue)&&MF
meta def excB (ss:cF) (p p':Pr):Bool:=mayB ss cO p'.2&&mayB ss p'.1 dX
inductive xy5 (t:Adr) (vs:cA) (H:Hp) (Q:VK) (_:XK):Prop
 | mk (a dp do_ o1 o2:Addr) (pw ph:Int) (ps:cJ) (ss:cF) (p p':Pr) (e_:zSm) (r_:(uE,i5,qp,zuj o1 p,zuj o2 p',zUK,PrOk ps pw ph p',zsF (excB ss p p')))
meta def canO (w:Int) (ss:cF) (p p':Pr):gc jE:=if excB ss p p' then Geo.meet (cel w p) (cel w p') else none
meta def canF (w:Int) (ss:cF) (p:Pr) (r:cS):List Tr:=r.filterMap λ b=>(zgY b).map λ c=>(eS,jO b,c)
meta def cans (w:Int) (ss:cF):cS->List Tr
 | []=>[]
 | wf=>zmI
def xuk {w:Int}{ss:cF}{p p':Pr}{r:cS}:canF w ss p (p'::r)=(match zgY p' with|some c=>[(eS,jO p',c)]|none=>[])++canF w ss p r:=by
 unfold canF;rw[JP];cases zgY p'<;>rfl
meta def TrV (H:Hp) (o:gc Tr) (v:V):Prop:=(zfH,o,none,∃ c q qc,dh (cu o c) (pY q) (sN [Uz,.str (dO c),.ref qc]) (ji qc (i8,dO nJ,(fX c).2)))
inductive x2m (t:Adr) (vs:cA) (H:Hp) (Q:VK) (_:XK):Prop
 | mk (a dp do_ l:Addr) (pw ph:Int) (ps:cJ) (ss:cF) (prs:cS) (qs:cM) (e_:Fe) (r_:i5/\(cR qp xU EF (zaI pw ph) (zxf,TrV H' (cans pw ss prs).head? v,G5)))
theorem ok_az (T:cT):dB 6 t.f_az t.d_az zui (xzv t):=by
 refine T.az.F.okn (k:=5) sc_az (c7 Q E h) (cZ vs Q E hr h)
 .ext cV
 obtain ⟨a,Y,D,q0,v,U,ps,p,rfl,h⟩:=h;refine⟨_,xb (yt 1 (uh (pN 2 sc_az.nd) 3 sc_az.nd 4))
  (xb (Ez (Xu Vh) 5 sc_az.nd 6)
  (gq (x0 xgp (xfr (iD (Op 3) T.c_q T.aa.m (ok_aa T) eG T.aa.b C3) (zFb 3 C3)) (zlx (vV jL 4))))),?_⟩
 refine sq3 ?_; intros; ext uw u M ok;ext yZ O X u;show(ui,q0,M,⟨a,O,_,rfl,X,fb,a,Y,D,v,U,ps,eS,cO,rfl,u,ok.nm,ok.fd,λ H1 Z J L=>fU Z L⟩);have C:=J _ _ X;show(XX,id ok);show(cB,w2,u.w2,h2,u.h2);have x:-uc<acrI v p/\acrI v p<uc:=zaj
 have y:=q;unfold uprI acrI at y;unfold acrI at x;cases hb:mU with
 | true =>
  rw[hb] at y x;show(AO,⟨a,_,_,_,_,rfl,(ff,C,T.c_a,T.n_a7,lkW,zWc true)⟩);ext zS R j;exact⟨G,R,_,rfl,hs,XE,_,_,rfl,_,rfl,.inl x,zUe⟩
 | false =>
  rw[hb] at y x;show(lW,(rF,_,C,zWc false));show(zS,R,id j);exact⟨G,R,_,rfl,hs,XE,G,v,_,rfl,j,_,rfl,.inl x,zUe⟩
def xsc (T:cT):dB 7 t.f_c9 t.d_c9 iM (x41 t):=by
 refine T.B_c9.F.okn (k:=6) xse (c7 Q E h) (cZ vs Q E hr h)
 .ext cV
 obtain ⟨a,Z,G,l,j,U,ps,prs,O,rfl,h⟩:=h;refine(uH,gq (xaj (xmm rfl) rfl T.n_sum PyProof.Rows.Boot.«sum» (gP (uX,yc "pair" "picture" 0 iM xf9,Tb,pC (ok_az T) hr T.az.g T.az.F.kp T.az.b (lq 1 0)))));ext sI C X S ok len;obtain⟨⟨dx,hp⟩,_,w1,w2,Y,M,_⟩:=id C;refine h9 l X l1 L;have ql:=S.len;refine xbr (cN X) (js (Ga,O.length<13)) L (Dk,∃ p,zet/\y=.int (uprI j p)) (λ i y H H' tp h=>h) (λ i x H2 hx s2 N hN=>?_) (tR H2 s2 el f)
 .rw [Zf] at hx;ext vQ hx;show(cD,p,D,ep,S.get ho);have I:=ok p (Zn D);exact jB a Z G o j U ps p rfl (eD,kI s2 C,nE ep,I,λ H4 s4=>oO s4 (fR p D))
 have ey:ys=(zSG).map V.int:=by
  ext oS ql ly;refine Q9 (fL i);by_cases c:i<ys.length
  .show(o9,p,Y,M,f i _ uC);rw[uC,Zf,Zf,Y,M];rfl
  rw [Jg cm,Jg kS]
 subst ey;show(Oh,l1,zSG,cN el,vt CA n hn,q _ s2);ext gu p J hn;exact xzy (ok p J) w2 M
def ok_ak (T:cT):dB 6 t.f_ak t.d_ak Il (xy5 t):=by
 refine T.ak.F.okn (k:=5) sc_ak (c7 Q E h) (cZ vs Q E hr h)
 .ext cV
 obtain ⟨a,L,u,N,M,I,J,ps,ss,p,x,rfl,h⟩:=h;refine⟨_,xb (yt 1 (uh (pN 3 sc_ak.nd) 4 sc_ak.nd 5))
  (xb (yt 2 (uh (pN 6 sc_ak.nd) 7 sc_ak.nd 8))
  (gq (xe9 (zFe (qR 3 7 8)) (xgo (zFe (qR 6 4 5)))))),?_⟩
 refine sq3 ?_; intros; obtain⟨j,st,U,S,G,D,q⟩:47:=h;ext yZ C O j;show(GC,⟨N,_,rfl,jP U,rfl,?_⟩,fU M S,⟨a,C,_,rfl,O,fb,a,L,u,I,J,ps,ss,cO,dY,kH,rfl,j,st,G.nm,G.fd,D.r1,D.r2,cG Y y⟩,Gj)
 .refine ⟨a,C,_,rfl,y _ _ O,fb,a,L,u,I,J,ps,ss,cQ,mU,jI,rfl,Pic.same y j,st.same y,D.nm,D.fd,G.r1,G.r2,cG X R⟩;have z:=q X (y.trans R);unfold excB at z;show(UQ,(zF,mayB ss cO eP,c),Qv)
 have z:=q Y y;unfold excB at z;show(UQ,show (je,mayB ss cO eP) from zyu,Q8)
def xel (T:cT):dB 8 t.f_cm t.d_cm iM (x2m t):=by
 refine T.B_cm.F.okn (k:=7) xc6 (c7 Q E h) (cZ vs Q E hr h)
 .ext cV
 ext zIN ab M;refine⟨_,xb (xaz Z4 rfl (xf1 rfl T.n_enumerate mT) (xai rfl (xo (pN 2 xc6.nd) (xo (pN 3 xc6.nd) (xac)))) (xk (xaz Z4 rfl (x9 (xbq xcg ew (xbn (x0 xa0 hB (xp))) xcm)) (pN 4 xc6.nd) (xk (xaf (xbe (pC (ok_ak T) hr T.ak.g T.ak.F.kp T.ak.b (f8 0 zxM))) (xb (pS 5 xc6.nd (pC (xsq T) hr T.B_c7.g T.B_c7.F.kp T.B_c7.b (f8 0 zxM)))
  (rO (E5 jt) (LF (xa (BY gM) (xa (BY h8) C3))))) (xz))))))
  xN,?_⟩
 refine sq2 ?_; intros; ext ztz; ext sI ad st hl pr ok;refine(sO,cN hl,?_)
 show(zLj,∃(v2 v3 R O:eV),(M0,[iH,mV,v2,v3,R,O],H2,cans M ss (prs.drop i)=cans M ss prs))
 refine xjt (xs:=KY) (Pv:=Pv) (zpr i6 rfl) (λ_ _ _ _ ⟨_,_,_,_,_,z,_⟩=>zVk) ?_ ?_
 .rintro i x p Z H2 hx hp (⟨v2,v3,R,O,rfl,s2,ea⟩:123);rw[Zf] at hx;ext vQ hx;show(cD,I,af,aa,pr.get ho);show(gT,G,ok I (Zn af),sp,Same H2 zUH,ge hp);show(zqU,⟨p,_,rfl,jP xj,rfl,?_⟩); show(ut,wn,(sO,cN (sp _ _ (s2 _ _ hl)),cG p4 ai));rw[x18];have s4:Same H2 (upd zUH p4 (.lst ((zvr).map V.ref))):=sp.trans (ge ai);have ac:=pr.drop dc;have ed:prs.drop i=I::R6:=by
   ext LN h1 h2 af
   rw[Y8 h1,h2]
  rw[ed] at ea;refine lH p4 xj
  let Pv (j:Nat) (Z:L2.St) (H5:Hp):Prop:=∃(R O:eV),(j7,Z,[iH,mV,d0 i,cX o,R,O],Aq,(cu,H5 p4,.lst ((zvr).map V.ref)),canF M ss I ((R6).drop j)++cans M ss (prs.drop dc)=cans M ss prs)
  refine xbc (xs:=(zvr).map V.ref) (Pv:=Pv)
   (Lr,s2.trans s4,xj,ea) (λ_ _ _ _ ⟨_,_,_,_,z,_⟩=>cN z) ?_ ?_
  .rintro j x Z H5 hx (⟨R,O,rfl,N,X,C⟩:84);ext XU; ext FI hx o2 aj;show(cD,L,ae,Y,ac.get aj);have D:=ok L (List.mem_of_mem_drop (Zn ae));have ak:(R6).drop j=L::(R6).drop jQ:=by
    ext LN h1 h2 ae;rw[Y8 h1,h2]
   rw[ak,xuk] at C;show(dQ,⟨a,dp,ab,o,o2,M,ph,ps,ss,I,L,rfl,(ib,kI N ad,st.same N,N _ _ aa,N _ _ Y,G,D,cG H6 s6)⟩,VT cx)
   .ext zcj; have J:=N.trans s6;refine⟨a,dp,ab,M,ph,ps,o,o2,jO I,jO L,I.1,L.1,dO I,dO L,fX I,fX L,rfl,(iU,kI J ad,J _ _ aa,J _ _ Y,⟨45,G.nm,G.fd,G.r1,G.r2,G.xy⟩,ff D.nm D.fd D.r1 D.r2 D.xy,fM H7 v s7 mv)⟩;ext XV; have ag:xx5 H7 (canO M ss I L) v:=by
     unfold canO;ext fK cx fH mv
    rcases ag with⟨em,rfl⟩|⟨c,q6,em,rfl,hq6⟩
    .rw [em] at C;show(yL,qd jk);exact(Lr,J.trans s7,KW X,C)
    rw [em] at C;ext yL LT;have U:=J.trans s7;refine UT o (U _ _ aa) (jB,o2,_,0,_,rfl,rfl,jP (U _ _ Y),rfl,Cb,cG p7 ah);show(sx,s8,Same H7 (iP H7 p7 [CW I,CW L,.ref q6]),ge ah,q _ _ (U.trans s8) (.inr (mR,(jO I,jO L,c),p7,q6,?_,rfl,xj,wx hq6)));rw[<- C];rfl
   have em:canO M ss I L=none:=by
    unfold canO;rw[dz cx]
   rw[em] at C;exact(Lr,N.trans s6,uF X,C)
  rintro Z H5 (⟨R,O,rfl,N,X,C⟩:84);refine zpr N ?_;show(oS,List.drop_of_length_le (l:=R6) (by rw[ac.len]; exact Zj _),C);exact C
 rintro Z H2 (⟨v2,v3,R,O,rfl,s2,ea⟩:123);rw[Za,pr.len,List.drop_length] at ea;exact q _ _ s2 (.inl (lS,zeP ea))
meta def exP (p1 p2 p:Pr):Pr:=(cO,(gH,eS,CK,p2.2,gH eS CL p1.2 dX))
theorem xsj {p1 p2:Pr}{A:cS} (h:∀ p∈A,eS≠CK/\eS≠CL):A.map zeY=A:=by
 induction A with
 | nil=>rfl
 | cons p A ih =>
  rw[Zs,ih λ c d=>vW c d]
  ext iJ
  obtain⟨a,b⟩:=h p Zm;unfold exP;rw[if_neg a,dz b]
def xt0 {prs A B C:cS}{p1 p2:Pr} (nd:(prs.map (·.1.nm)).Nodup) (e:prs=zMx):prs.map zeY=A++zEI/\CK≠CL:=by
 ext eQ;rw[Zu,ZH] at nd;obtain⟨_,j,h⟩:43:=nd;rw[Zs,ZE,Zu,Zs,ZH] at j;obtain⟨c,_,q,s⟩:44:=j;rw[ZE] at q;have ne:CK≠CL:=λ z=>c (nT z);show(gX,?_,ne);rw[Zu,Zs,Zu,Zs];rw[xsj (A:=A),xsj (A:=B),xsj (A:=C)]
 .unfold exP;rw[fH,if_neg (Z2 ne),fH]
 .intro p b
  show(gX,λ z=>c ?_,λ z=>q.1 ?_)
  .rw [<- z];exact Z7 _ (Zl _ No)
  rw [<- z];exact Ze.mpr (fR p b)
 .intro p b
  show(gX,λ z=>c ?_,λ z=>s _ No _ Zm z);show(kC,z,Z3 _ No)
 intro p b;ext gX zPk zPk
theorem xk5 {w:Int}{ss:cF}{tr:Tr}:∀{prs:cS},tr∈(GN prs)->(zBJ,tr=zwV)
 | [],h=>ij
 | wf,h=>by
  rcases zhM with z|z
  .show(o9,l,j,e,Yj.mp z);show(cD,c,q,D,Zh.mp e);show(GD,B,C,x,List.append_of_mem j);exact fJ [] p B l (d9,C,c,fY x,q,D.symm)
  obtain ⟨A,p1,B,p2,⟨C,c,e,v,u⟩⟩:121:=xk5 z;exact(fJ,p::A,p1,B,p2,⟨83,C,c,ua,v,u⟩)
inductive Sd (H:Hp):fF cS dR
 | nil:Sd H [] []
 | cons {p:Pr}{t:Addr}{ps:cS}{kvs:dR} (h:zfc) (r:Lf):Sd H VL (zxV eS t)
theorem Sd.keep {H H':Hp} (s:pb) {ps:cS}{kvs:dR} (h:Lf):Sd H' ps kvs:=by
 induction h with
 | nil=>ext uj
 | cons h _ ih=>ext RU
theorem Sd.len {H:Hp}{ps:cS}{kvs:dR} (h:Lf):zNs:=by
 induction h with
 | nil=>rfl
 | cons _ _ ih=>simp[ih]
theorem Sd.keys {H:Hp}{ps:cS}{kvs:dR} (h:Lf):kvs.map (·.1)=ps.map (λ p=>Jk eS):=by
 induction h with
 | nil=>rfl
 | cons _ _ ih=>simp[ih]
theorem Sd.get {H:Hp}{ps:cS}{kvs:dR} (h:Lf) {i:Nat}{k:Key}{x:V} (e:rE):∃ p,FC/\k=.inr eS:=by
 induction h generalizing i with
 | nil=>ext sG
 | @cons p q ps kvs h _ ih =>
  cases i with
  | zero =>
   simp at e;show(wc,p,e.1.symm)
  | succ j=>ext C0
theorem Sd.find {H:Hp}{ps:cS}{kvs:dR} (h:Lf) (nd:(ps.map (·.1.nm)).Nodup) {p:Pr} (m:Ax):∃ t,(zuP eS)=(cX t)/\zfc:=by
 induction h with
 | nil=>cases m
 | @cons p' t ps kvs h _ ih =>
  ext Fj;rcases Zt.mp m with rfl|z
  .exact (cC,t,xbt rfl,h)
  show(o9,t',q,l,ih lB z);show(eW,t',?_,l);show(cW,xbg (λ e=>nd.1 (Ze.mpr (cC,p,z,(Jk.inj e).symm))),q)
theorem xob {k:Key}:∀{kvs:dR},k∉kvs.map (·.1)->Pk
 | [],_=>rfl
 | kv::r,h=>by
  obtain⟨a,b⟩:=kv;rw[xbg (λ e=>h (hV e Zm))];exact xob λ z=>h (Zl _ z)
theorem xly {d:Addr}{H:Hp}:∀{kvs kv0:dR},((zxQ).map (·.1)).Nodup->(zxQ).length<1000->xe1 d (kB H d kv0) zIS (kB H d zxQ)
 | [],kv0,_,_=>by
  show(cW,Ju,.nil)
 | kv::kvs,kv0,nd,hl=>by
  have fr:valV kv0 oM=none:=xob λ z=>by
   rw[Zu,ZH] at nd;exact (lB).2 _ z _ Zm rfl
  show(AT,f,DPut.k (k:=oM) (v:=kv.2) (zXG,.dK kv0) (ZX (by rw[Zr] at hl; lia:kv0.length<1000) cE),xfk,xdh _ fr);show(fV,b,xly (d:=d) (H:=H) (kvs:=kvs) (kv0:=kv0++[kv]) (cK JG nd) (cK JG hl),JG,b);exact .cons f b
theorem xyk {H:Hp}:∀{prs:cS}{ys:cA},(vC prs.length)->(∀(i:Nat) (y:V) (p:Pr),L8->zet->∃ q t,zY/\(sN (qe MW t))/\zfc) ->
    ∃(ws:KF) (kvs:dR),ys=ws.map (λ p=>V.ref cO)/\(∀ p∈ws,zVU)/\ws.map (·.2)=zIS/\Sd H prs kvs
  | [],[],_,_=>(nh,84,[],[],λ p h=>(nomatch h),rfl,.nil)
  | [],fh,h,_=>ij
  | fh,[],h,_=>ij
  | p::prs,pK,hl,h=>by
    show(hJ,q,t,x,w,v,zxs p);show(nU,ws,kvs,D,C,B,A,xyk (prs:=prs) (ys:=ys) zVw λ i y' d hy hp=>h dc y' d hy hp)
    refine(dN,84,(q,MW,zjs)::ws,zxV eS t,ir x D,cG d b,by rw[Zs,Zs,B]; rfl,.cons v A);rcases qP with rfl|z
    . exact w
    . exact C _ z
theorem PrsL.pick {H:Hp}:(zAV,cS,(∀(j:Nat) (y:V) (s:Pr),zWl (PV s)),PrsL H ss rs)
 | [],[],_,_=>vX [] .nil
 | [],fh,h,_=>ij
 | fh,[],h,_=>ij
 | NZ,pK,hl,h=>by
  show(cD,q,w,v,zxs s);show(qL,rs,d,b,PrsL.pick (ss:=ss) (ys:=ys) zVw λ j y' s' hy hs=>h jQ y' s' hy hs,q::rs,ir w d,.cons v b)
meta def xm8 (kvs:dR) (i:Nat):V:=match kvs[i]? with|some kv=>zfz|none=>.non
def xti {Z:L2.St}{fr:de}{te:TE}{l d:Addr}{H1:Hp}{Q:VK}{ob:Obj}{kvs:dR} (hd:VU d Po) (hl:qv) (hn:PZ) (F:MP) (stab:HZ)
    (step:∀(i:Nat) (k:Key) (x:V) (H2:Hp),(znE,rE,te ((zug).set 0 (some (kV k))) H2 N))
    (fin:DZ kvs.length (IR Mp)):zry (Itkd d ob kvs):=by
  refine xlm kvs.length hn hl (xm8 kvs) (λ i H lt s=>⟨s _ _ hd,lt⟩) (λ i H v H' lt s y=>?_) (λ H s=>⟨s _ _ hd,dF⟩) Tc F stab zIK zrN
  . obtain⟨e,k,x,b,j⟩:=y
    ext pT e;unfold xm8;rw[b,j]
  . obtain⟨⟨k,x⟩,b⟩:∃ y,dS kvs y:=hZ mf
    have o:xm8 kvs i=kV k:=by
      unfold xm8;rw[b]
    show(cW,o,UK (step i k x H2 b s N zlt))
  . rw[L2.filter_all,Z9] at ly
    refine fin ys H2 s e ly λ i y c=>f i y i c ?_;rw[L2.filter_all,Ye (iF,(Zk.mp c).1)]
inductive x5a (K:Zd) (vs:cA) (H:Hp) (Q:VK) (_:XK):Prop
 | mk (l:Addr) (prs:cS) (qs:cM) (p1 p2:Pr) (e_:vs=[iS,CW p1,CW p2]) (r_:xU/\EF/\(prs.map (·.1.nm)).Nodup/\(cR,Ev,p1∈prs,p2∈prs,CK≠CL,∀ H' l' qs',(oz,gg,d7 l',lm l' zNw,PrsL H' zob qs',l')))
theorem xor (T:cT):mr t.f_cu t.d_cu ["pairs", "name", "other"] (x5a K):=by
 refine T.B_cu.F.okn (k:=0) xfz (c7 Q E h) (cZ vs Q E hr h)
 .ext cV
 obtain ⟨l,prs,qs,C,v,rfl,h⟩:=h;refine⟨_,xb (y0 3 xfz.nd (HY (uO,(sS ["each", "side", "row"] [] [] zkv xd8),zfA,(DW,ow,U,zhb (pO 0 U ow) (Ab (pO 1 U ow) (pO 2 U ow)),3),zUk,uV,xag (f8 0 (zgL Cj)))))
  (xb (y0 4 xfz.nd (zQC ew hB))
  (gq (uX,(sS ["each"] ["seats", "giver"] [3,4] zkv xd8),xyt (pv 3),zmY (tU ew (xne pH hB dU dU zpz))))),?_⟩
 refine sq3 ?_; intros; obtain⟨hl,pr,U,len,m1,m2,⟨ne,q⟩⟩:47:=h;show(eK,ql,pr.len,h9 l hl l1 am);refine xbr (cN hl) (js (Ga,qs.length<13)) am (Dk,∃ p q t,dh zet zY (sN (qe MW t)) zfc) (λ i y H H' tp ⟨p,q,t,J,S,R,a4⟩=>(mR,p,q,t,J,S,sM R,sM a4)) (λ i x H2 hx s2 N hN=>?_) zQM
 .rw [Zf] at hx;ext vQ hx;show(cD,p,G,ep,(zqS s2).get ho);show(ui,o,ep,(Hq,λ q1 M=>Db q2 hq2));show(cB,sa,K6 [qN mU,.int jI] M,sb,K6 (qe MW q1) hq2);exact oO (sa.trans sb) (mR,p,q2,q1,G,rfl,xj,sb _ _ xj)
 ext oS ql ly;obtain⟨ws,kvs,rfl,w2,w3,L⟩:84:=xyk (H:=H1) (prs:=prs) (ys:=ys) ly λ i y p hy hp=>by
  obtain⟨p',q',t',J,S,R,a4⟩:104:=f1 i y hy;ext dP hp J J;exact d9 q' t' S R a4
 have kl:=L.len;have knd:(kvs.map (·.1)).Nodup:=by
  show(cW,L.keys,xk9 (f:=zuW) (k:=Jk) iN (λ_ _ e=>Jk.inj e) U)
 show(dQ,dM l1 ws rfl el1 w2 S5,d9 U8 _ jF (cK,w3,xly (kv0:=[]) knd kS) ?_);rw[WD];generalize eu:kB H1 d kvs=H2;show(KO,s2,hd,eu,g2,af,L.keep (Same.tups s2));refine λ gd O=>zMV zkz
 rw[xfk];generalize eu:kB H2 gd (xd9 [] zkz)=X;ext n8 s3 O g3;show(Df,ad,zwC,Y,af.keep (Same.tups s3),aj,gd≠d,yY g2 O,(oC,d,kvs,ad,c8 ob l4 I));show(fw,ai,l4≠d,yY xj I,ab,X l4=none,by rwa [xi ai] at I,k4,o4 d (cu,X b,u) (HF X d Po),zMr,t4,Tups X (upd X d Po),(vw,k4 _ _ (nB ad) e));refine xti xj I (Ga,kvs.length<13) (Dk,∃ p q,zet/\zY/\(PV SX)) (λ i y H H' tp ⟨p,q,J,S,R⟩=>(d9,p,q,J,S,sM R)) (λ i k x H5 hk s5 N hN=>?_) zJw
 .show(me,p,G,Y.get hk);show(cB,mp,Zn G,ae,(Y.keep t4).keep (Same.tups s5));show(cB,ac,nD (k4 _ _ aj g3),d5,nD (xj (H:=X) (a:=d) (o:=Po)));ext su leS1 q1 M;have Z:=K6 [MW] M;obtain⟨r,hr,ev,es⟩:∃ r∈prs,(valV (xd9 [] zkz) (Jk eS)).getD (.str eS)=V.str (jO r)/\(SX).2=r.2:=by
   show ∃ r∈prs,(valV (putK (putK [] (Jk (jO C)) (V.str (jO v))) (Jk (jO v)) (V.str (jO C))) (Jk eS)).getD (.str eS)=V.str (jO r)/\(SX).2=r.2;rw[xcx,xcx];unfold exP;by_cases c1:eS=(jO C)
   .refine (eE,v,m2,?_,df c1);rw[(mE,ne (c1.symm.trans (Jk.inj z))),CT c1];rfl
   by_cases c2:eS=(jO v)
   .refine eE C m1 ?_ (fS,Uy,df c2);rw[CT c2];rfl
   refine (eE,p,mp,?_,fS Uy Ux);rw[(mE,c2 (Jk.inj z)),(mE,c1 (Jk.inj z))];rfl
  show(cD,t,al,ak,(zqR Z).find U hr);refine(gS,gd,.inl (hZ,.inl (Z _ _ ac)),⟨_,(tE,.inr eS,Z _ _ ac),d,zjs,rfl,?_,q1,t,_,_,rfl,rfl,jP xj,jP ak,cy,Cb,λ z=>(by simp[xba] at z),λ_ q2 hq2=>?_⟩)
  .rw [show kV (Jk eS)=V.str eS from rfl,ev];show(eg,(gZ,kvs,.inr (jO r),.inr (Hj,Z _ _ d5),al.symm))
  refine oO (Z.trans (ge hq2)) (gZ p q2 G ?_);rw[xj];unfold prV;rw[(yx,(SX).1,cO),(j4,(SX).2,r.2,es)];rfl
 obtain ⟨ag,rfl,ah⟩:62:=PrsL.pick (H:=H5) (ss:=prs.map (exP C v)) (ys:=ys) (nG ly5 kl Za) λj y s hy hs=>by
  show(hJ,p,q',J,S,R,f5 j y hy);rw[Zf,J] at hs;cases hs;ext dy q' S R
 have aa:=(pB).trans s3;refine q H5 l4 ag (iI,nD (k4 _ _ (xh FZ hd) (aa _ _ e))) (aa.free ab) el5 ah
meta def totI (w:Int) (prs:cS):Int:=(prs.map (xbm w)).sum
meta def upI (w:Int) (prs:cS):Int:=(prs.map (uprI w)).sum
meta def nmF (n:Str) (p:Pr):Bool:=gO eS n
meta def nxtP (w:Int) (ss:cF) (prs:cS):cS:=match zro with
 | some tr=>match RR tr.1,RR (dO tr) with
  | some p1,some p2=>zob
  | _,_=>prs
 | none=>prs
meta def itP (w:Int) (ss:cF) (prs:cS):Nat->cS
 | 0=>prs
 | fC=>EM
meta def trP (w:Int) (ss:cF) (prs:cS):Tr:=(zro).getD ("", "",0,0)
meta def stP (w:Int) (ss:cF) (prs:cS) (k:Nat):zxP:=(trP w ss vN,totI w (Mb fC),upI w (Mb fC))
structure GPr (ps:cJ) (w h:Int) (prs:cS):Prop where
 ok:∀ p∈prs,Rv
 nn:(prs.map (·.1.nm)).Nodup
 ns:(prs.map (·.2)).Nodup
 le:Ev
theorem xi1 {prs:cS} (nd:(prs.map (·.1.nm)).Nodup) {p:Pr} (h:p∈prs):cu (RR eS) p:=by
 induction prs with
 | nil=>cases h
 | cons q ps ih =>
  ext Fj;rcases Gk with rfl|z
  .exact Qa (gK nmF)
  rw [WB]
  .exact ih lB z
  intro e;exact nd.1 (Ze.mpr (cC p z zIy))
theorem x_ne {ps:cJ} (nx:(ps.map (·.x)).Nodup):∀{p q:Pt},(dI,Ax,q∈ps,p.nm≠q.nm,p.x≠q.x):=by
 induction ps with
 | nil=>intro p q h; cases h
 | cons r ps ih =>
  intro p q j f i e;rw[Zs,ZE] at nx;rcases Zt.mp j with rfl|z
  .rcases Zt.mp f with rfl|b
   .exact i rfl
   exact nx.1 (Ze.mpr (cC q b e.symm))
  rcases Zt.mp f with rfl|b
  .exact nx.1 (Ze.mpr (cC p z e))
  exact ih nx.2 z b i e
def xzs {ps:cJ}{w h:Int}{p:Pr} (o:Rv) (hw:jJ) (hh:j8):ur zhr 45:=by
 ext zMl
def x2v {ps:cJ}{w h:Int}{p:Pr} (o:Rv) (hw:jJ) (hh:j8):ur zgh 450:=by
 ext XX o;show(cI,c,ur zgi 30,zaj,b,ur XQ 15,zwS)
 unfold uprI;show(pT,Int.mul_nonneg jw sR);show(cB,j,zNC nJ sR,d,Int.mul_le_mul_of_nonneg_left b.2 (BO,(dk 0)<=30));exact Int.le_trans j d
theorem xsp {f:Pr->Int}{c:Int} (c0:0<=c):∀{prs:cS},(∀ p∈prs,(ur,f p,c))->(ur,zVq,c*(dk prs.length))
 | [],_=>cy
 | wf,h=>by
  show(cB,i,h p Zm,b,xsp c0 (prs:=r) λ q hq=>vW q hq);rw[Zs,JA,Z6];rw[V0 zez (rg r.length),Int.mul_add,Int.mul_one];lia
def GPr.tot {ps:cJ}{w h:Int}{prs:cS} (g:FT) (hw:jJ) (hh:j8):ur ve 540:=by
 show(cB,z,xsp (f:=xbm w) (c:=45) cE (qY,xzs (g.ok p hp) hw hh),l,g.le);unfold totI;lia
def GPr.up {ps:cJ}{w h:Int}{prs:cS} (g:FT) (hw:jJ) (hh:j8):ur zfq 5400:=by
 show(cB,z,xsp (f:=uprI w) (c:=450) cE (qY,x2v (g.ok p hp) hw hh),l,g.le);unfold upI;lia
def xpi {ps:cJ}{w h:Int}{ss:cF}{prs:cS}{tr:Tr} (nx:(ps.map (·.x)).Nodup) (g:FT) (ht:cu zro tr) :
    ∃ A p1 B p2 C c,prs=A++p1::(B++p2::C)/\canO w ss p1 p2=some c/\tr=zwV/\CK≠CL/\zk=prs.map zeY/\zk=A++zEI/\(ziM zk) /\
      (totI w zk<ve\/(eX,zhO,zhP,totI w zk=ve,zfq<upI w zk)):=by
  obtain⟨A,p1,B,p2,⟨C,c,e,H,O⟩⟩:121:=xk5 (List.mem_of_mem_head? ht);obtain⟨S,ne⟩:=xt0 g.nn e;show(yi,M,p1∈prs,AD,L,p2∈prs,AD,j,g.ok p1 M,b,g.ok p2 L);have K:zk=prs.map zeY:=by
    unfold nxtP;rw[ht];subst O;show (match RR CK,RR CL with
    | some p1,some p2=>zob
    | _,_=>prs)=_
    rw[xi1 g.nn M,xi1 g.nn L]
  have E:=K.trans S;have R:(yM,Geo.meet (cel w p1) (cel w p2)):=λ z=>by
    unfold canO at H;rw[z] at H;ext T4 H
  have Q:p1.1.x≠p2.1.x:=x_ne nx (ZR j.fd) (ZR b.fd) ne;have hs:(zhO,fX p1)≠(zhP,fX p2):=λ z=>by
    have v:=g.ns;rw[e,Zu,Zs,ZH,ZE] at v;exact (dO v).1 (nT,j4 p1.2 p2.2 z)
  show(eK,I,Geo.ex_pair (y1:=p1.1.y) (y2:=p2.1.y) j.xy.1 (dO j.xy) b.xy.1 (dO b.xy) Q hs R,fJ A p1 B p2 (eT,86,C,c,e,H,O,ne,K,kL E (du,jN J,?_,?_,?_)))
  . rw[E] at J
    have D:∀ q,q∈A\/q∈B\/q∈C->q∈prs:=λ q hq=>by
      rw[e];simp only[Zy,Zt];rcases hq with z|z|z
      . ext eg z
      . show(fe,.inr (.inl z))
      . exact .inr (.inr (.inr (.inr z)))
    simp only[Zy,Zt] at J;rcases J with z|rfl|z|rfl|z
    . exact g.ok p (D p (.inl z))
    . exact dW j.nm j.fd b.r1 b.r2 j.xy
    . exact g.ok p (D p (.inr (.inl z)))
    . exact dW b.nm b.fd j.r1 j.r2 b.xy
    . exact g.ok p (D p (.inr (.inr z)))
  . show(fV,v,g.nn,e,v);rw[E];simpa using v
  . show(fV,v,g.ns,e,v);rw[E];refine (Yp.nodup_iff ?_).mp v;simp only[Zu,Zs];ext zVe;exact ((QL.cons p1.2).trans (Yp.swap _ _ _)).trans (QL.symm.cons p2.2)
  . show(fK,K,Za,g.le)
  . have t0:ve=(zCl p1 p2):=by
      unfold totI;rw[e];simp
    have Z:totI w zk=(zCl zdP zdQ):=by
      unfold totI;rw[E];simp
    have Y:upI w prs=(zCw p1 p2):=by
      unfold upI;rw[e];simp
    have X:upI w zk=(zCw zdP zdQ):=by
      unfold upI;rw[E];simp
    have G:(zLN<zLO)\/(eX,zhO,zhP,zLN=zLO,uprI w p1+uprI w p2<uprI w zdP+uprI w zdQ):=I;rcases G with z|⟨P,U,T⟩
    . ext eg cm
    . show(fe,cC P cm cm)
meta def muP (w:Int) (prs:cS):Nat:=(ve*6000+(6000-zfq)).toNat
inductive StL (H:Hp):HH Ss
 | nil:StL H [] []
 | cons {p:zxP}{t q:Addr}{ps:Ss}{ts:cM} (h:zCd) (hq:zGI) (r:zdJ):StL H VL (t::ts)
theorem StL.keep {H H':Hp} (s:pb) {ps:Ss}{ts:cM} (h:zdJ):StL H' ps ts:=by
 induction h with
 | nil=>ext uj
 | cons h hq _ ih=>exact .cons zif (s _ _ hq) ih
theorem StL.len {H:Hp}{ps:Ss}{ts:cM} (h:zdJ):ts.length=ps.length:=by
 induction h with
 | nil=>rfl
 | cons _ _ _ ih=>simp[ih]
theorem StL.snoc {H:Hp}{ps:Ss}{ts:cM} (h:zdJ) {p:zxP}{t q:Addr} (e:zCd) (eq:zGI):StL H Ak (ts++[t]):=by
 induction h with
 | nil=>exact .cons e eq .nil
 | cons h hq _ ih=>exact .cons h hq ih
inductive x5u (K:Zd) (t:Adr) (vs:cA) (H:Hp) (Q:VK) (_:XK):Prop
 | mk (a dp do_ l:Addr) (pw ph:Int) (ps:cJ) (ss:cF) (prs:cS) (qs:cM) (e_:Fe) (r_:i5/\qp/\xU/\EF/\GPr ps pw ph prs/\(ps.map (·.x)).Nodup/\∀(H':Hp) (tp ln ls:Addr) (n:Nat) (qs' sq:cM),dI gg (d7 ln) (Bv tp (qe Gm ls)) (eC,lm ln zNw,PrsL H' (CP pw n) qs',lm ls (.lst (sq.map V.ref)),StL H' ((Zz n).map (stP pw ss prs)) sq,(oz,(∀ k<n,(yM,(cans pw ss (CP pw k)).head?)),(∀ k,GPr ps pw ph (CP pw k)),cans pw ss (CP pw n)=[],ln≠ls,tp)))
theorem xkl {ps:cJ}{w h:Int}{ss:cF}{prs:cS} (nx:(ps.map (·.x)).Nodup) (g:FT):∀ k,ziM vN
 | 0=>g
 | fC=>by
  have b:=zog;show ziM EM;cases e:(GN vN).head? with
  | none =>
   unfold nxtP;ext rh b
  | some tr =>
   obtain⟨_,_,_,_,⟨_,_,_,_,_,_,_,_,g',_⟩⟩:121:=xpi nx b e;exact g'
def xpa (T:cT):dB 9 t.f_cy t.d_cy iM (x5u K t):=by
 refine T.B_cy.F.okn (k:=8) xca (c7 Q E h) (cZ vs Q E hr h)
 .ext cV
 ext zIN X y;refine⟨_,xb (pS 2 xca.nd (xbh xh6 rfl T.n_list boot_list mT))
  (xb (F2 3 xca.nd)
  (xb (pS 4 xca.nd zBt)
  (xb (xhk Z4 (E5 h8) (xb (yt 4 (uh (pN 5 xca.nd) 6 xca.nd 7))
  (xb (pS 2 xca.nd (pC (xor T) hr T.B_cu.g T.B_cu.F.kp T.B_cu.b (f8 2 Tq)))
  (xb (xap (BD gM (zgL (f8 5 (f8 6 (f8 7 (CO (pC (xn5 T) hr T.B_c8.g T.B_c8.F.kp T.B_c8.b (lC 2)) (pC (xsc T) hr T.B_c9.g T.B_c9.F.kp T.B_c9.b (lC 2)))))))))
  (wp 4 xca.nd zBt)))))
  (LF xK)))),?_⟩
 refine sq5 ?_; intros; obtain⟨R,st,hl,pr,g,nx,q⟩:47:=h;obtain⟨⟨aD,hp⟩,_,w1,w2,h1,h2,_⟩:=id R;show(eK,I,xkl (ss:=ss) nx g,⟨83,l,_,rfl,wV hl,cG ab ad⟩);generalize eu:iK ab uM=H1;ext n8 s1 ad g1;ext AN zmc ls U;have a8:d7 ls:=s1.free U;generalize eu:sH H1 ls=H2;have s2:=su_e U eu;show(cB,g2,ug_e eu,aa,s1.trans s2);show(dZ,a2,ab≠ls,xh g1 U,⟨a,dp,X,ab,y,ph,ps,ss,prs,qs,rfl,(iU,kI aa R,st.same aa,Uj,zqS aa,g.ok,fM H3 v s3 tv)⟩);ext zMu; have al:=aa.trans s3;have a4:∀ k,muP y vj<3300000:=λ k=>by
  show(cB,z1,(I k).tot w2 h2,z2,(I k).up w2 h2);unfold muP;lia
 show(ie,λ m Z H5=>∃(k:Nat) (J:Addr) (v v5 v6 v7:eV) (vf:V) (G L:cM),(j7,m,muP y vj,k+m<=muP y prs,Z=zEB,(ma,Aq,d7 J,J≠ls,(cu,H5 J,.lst (G.map V.ref)),PrsL H5 vj G,(cu,H5 ls,.lst (L.map V.ref)),StL H5 ((Zz k).map (stP y ss prs)) L,(∀ j<k,(yM (zsC (CP y j)))),TrV H5 (zsC vj) vf)),fJ _ 0 ab none (fJ,_,_,_,v,xZ qs [] (hO,0+muP y prs<=_) rfl al ad (ib,a2,s3 _ _ (s2 _ _ g1),zqS al,zwC,.nil,λ j hj=>wC hj zpj,tv)));rintro m Z H5 (⟨k,J,_,v5,⟨v6,v7,vf,G,L,rfl,km,rfl,s5,a9,a3,as,ao,D,ae,av,ay⟩⟩:121);have sl:=ae.len;ext oS Z9 sl;have mb:=a4 0;rcases ay with⟨en,rfl⟩|⟨tr,qf,qc,et,rfl,hqf,hqc⟩
 .refine Ny jk;ext pU tp a7;have Y:=K6 (qe,.ref J,ls) a7;exact q _ tp J ls k G L (s5.trans Y) a9 xj (Y _ _ as) (PR Y) (Y _ _ D) (zqR Y) av I (List.head?_eq_none_iff.mp en) a3
 refine qM LT;obtain⟨A,p1,B,p2,⟨C,c,e,hc,aA,ne,en,el,g',aB⟩⟩:121:=xpi nx (I k) et;subst aA;have m1:p1∈vj:=AD
 have m2:p2∈vj:=AD
 have a5:muP y nS<muP y vj:=by
  show(tK,z1,(I k).tot w2 h2,z2,(I k).up w2 h2,z3,(HQ).tot w2 h2,z4,(HQ).up w2 h2);have aC:totI y nS<totI y vj\/(eX,zhO,zhP,totI y nS=totI y vj,upI y vj<upI y nS):=aB;unfold muP;lia
 let Pm (σ':L2.St) (H9:Hp):Prop:=∃(J:Addr) (v5 v6 v7:eV) (vf:V) (G L:cM),(ma,σ'=zEB,gB H9,d7 J,J≠ls,(cu,H9 J,.lst (G.map V.ref)),PrsL H9 nS G,(cu,H9 ls,.lst (L.map V.ref)),StL H9 ((Zz fC).map (stP y ss prs)) L,TrV H9 (zsC nS) vf)
 ext sK Pm
 .rintro σ' H9 (⟨a6,v5,v6,v7,⟨vf,a0,sq9,e1,e2,e3,e4,e5,e6,e7,e8,e9⟩⟩:121);refine(fT,a5,fJ fC a6 none v5 (fJ,v6,v7,vf,a0,qC sq9 cm e1 e2 e3 (ib,e4,e5,e6,e7,e8,cG j hj,e9)));by_cases cj:j=k
  .subst cj;ext cW et o6
  exact av j cm
 refine sq4 ?_; intros; show(ui,qf,hqf,dN J _ G p1 p2 rfl (yr,as,ao,(I k).nn,(I k).le,m1,m2,ne,λ H6 l6 N Y ah ag an=>?_));rw[<- en] at an;have O:PrsL H6 nS N:=an;have ak:=s5.trans Y;show(ia,aw,d7 l6,s5.free ah,ap,l6≠ls,yY D ah,⟨.inl (DA,_,cN (Y _ _ D)),a,dp,X,l6,y,ph,ps,nS,N,rfl,kI ak R,ag,O,(HQ).ok,(HQ).le,cG H7 s7⟩);have aj:=ak.trans s7;show(dQ,⟨a,dp,X,l6,y,ph,ps,nS,N,rfl,(iU,kI aj R,pZ ag,zrH s7,(HQ).ok,(HQ).le,cG H8 s8)⟩,vt (vT leS5) p9 aq);have M:=(Y.trans s7).trans s8;show(cB,s9,K6 (zmU,((nS).map (xbm y)).sum,((nS).map (uprI y)).sum) aq,ar,s9 _ _ (M _ _ D));refine P8 ls ar
 .rw [Za];exact ZX (by have z:muP y prs<3300000:=mb; lia:L.length<3300000) cE
 have a1:p9≠ls:=kK (M _ _ D) aq;obtain⟨HA,ac⟩:∃ HA,HA=(yk,(iP H8 p9 (zmU,((nS).map (xbm y)).sum,((nS).map (uprI y)).sum)),ls,L.map V.ref,.ref p9):=iE
 have kA:o4 ls (cu,H8 b,u) (cu,HA b,u):=λ b u nb e=>by
  show(fK,ac,xi nb,s9 _ _ e)
 have tA:Tups H8 HA:=(vw,kA _ _ (nB (M _ _ D)) e);have af:gB HA:=(iI,kA _ _ (xh e a8) (wx (aj _ _ e)));have gA:(cu,HA ls,.lst ((L++[p9]).map V.ref)):=by
  rw[ac,xj,Zu];rfl
 have gp:HA p9=some (.tup (zmU,((nS).map (xbm y)).sum,((nS).map (uprI y)).sum)):=by
  show(fK,ac,xi a1,xj)
 have au:=kA _ _ ap (s8 _ _ (s7 _ _ ag));show(cB,am,((zrH s7).keep (Same.tups s8)).keep tA,az,(zqR M).keep tA);rw[<- ac];show(dQ,⟨a,dp,X,l6,y,ph,ps,ss,nS,N,rfl,(iU,kI af R,st.same af,au,am,(HQ).ok,fM HB vB sB ax)⟩,lY l6 _ (jB,106,vB,N,L++[p9],rfl,af.trans sB,aw,ap,sB _ _ au,(eD,am.keep (Same.tups sB),sB _ _ gA,?_,ax)));rw[YB,Zu];refine StL.snoc (p:=stP y ss prs k) (q:=qc) (az.keep (Same.tups sB)) ?_ ?_
 .have ai:trP y ss (itP y ss prs k)=(p1.1.nm,p2.1.nm,c):=by
   unfold trP;rw[et];rfl
  unfold stP;rw[ai];exact sB _ _ gp
 have ai:trP y ss (itP y ss prs k)=(p1.1.nm,p2.1.nm,c):=by
  unfold trP;rw[et];rfl
 unfold stP;rw[ai];exact sB _ _ (tA _ _ (M _ _ hqc))
meta abbrev seF (d1 d2:Addr):o8:=[oP "seat_of" d1,oP "holder_of" d2]
def lkSo {d1 d2:Addr}:(zeX).lookup (gU "seat_of")=(cX d1):=by
 unfold seF;show(zca,"seat_of","seat_of")
def lkHo {d1 d2:Addr}:(zeX).lookup (gU "holder_of")=(cX d2):=by
 unfold seF;show(zwn,"holder_of","seat_of",zJG)
def xnk {d1 d2:Addr}{m:Str} (e:((["seat_of", "holder_of"]:cH).all λ k=>zwh)=true):(zeX).lookup m=none:=by
 ext zls;ext Fm c b e;unfold seF;ext F4 c m zJG none;rw[ZA,b];rfl
meta def SoD (H:Hp) (d:Addr) (n:Nat) (so:dD):Prop:=∃ kvs:dR,U6/\zsg/\∀ nm,((GQ nm)->Gr=none)/\∀ s,(cu,so nm,s)->∃ q,Gr=Nw/\Bd
meta def HoD (H:Hp) (d:Addr) (n:Nat) (ho:cP):Prop:=∃ kvs:fP,M9/\zsg/\∀ s,U1=(ho s).map V.str
def SoD.keep {H H':Hp}{d:Addr}{n:Nat}{so:dD} (s:zcW) (tp:pb) (h:zxD):SoD H' d n so:=by
 ext zcJ;show(kP,kvs,h _ e,l,λ nm=>⟨(f nm).1,(jr,let ⟨q,a,b⟩:=(f nm).2 s hs; (cC,q,a,sM b))⟩)
def HoD.keep {H H':Hp}{d:Addr}{n:Nat}{ho:cP} (s:zcV) (h:zxD):HoD H' d n ho:=by
 ext zPi
def HoD.le {H:Hp}{d:Addr}{n k:Nat}{ho:cP} (s:zcV) (h:n<=k):HoD H d k ho:=by
 ext zlo
def SoD.le {H:Hp}{d:Addr}{n k:Nat}{so:dD} (s:zcW) (h:n<=k):SoD H d k so:=by
 ext zlo
def HoD.get {H:Hp}{d:Addr}{n:Nat}{ho:cP} (s:zcV) {b:Addr}{c:Seat} (eb:zxH):zgN ((ho c).map V.str):=by
 ext zcJ;show(kC,f c,(F8,xad c,e,eb))
def HoD.put {H:Hp}{d:Addr}{n:Nat}{ho:cP} (s:zcV) (hn:ziZ) {b:Addr}{c:Seat} (eb:zxH) (x:Str) :
    ∃ H',(cR,zQW,HoD H' d i0 (Kp.upd1 ho c x),zoB,pb,zpy):=by
  show(ld,kvs,e,l,f,s,zLA (VG,xad c,e,eb,GZ) zJa)
  . show(fj,xbv kvs (xad c) (.str x))
  . rw[xcx]
    unfold Kp.upd1;by_cases zc:z=c
    . rw[CT zc,df zc]
      rfl
    . rw[(E6,zc (xh3 y)),dz zc]
      exact f z
def SoD.put {H:Hp}{d:Addr}{n:Nat}{so:dD} (s:zcW) (hn:ziZ) {b:Addr}{c:Seat} (eb:zxH) (x:Str) :
    ∃ H',(cR,DPut H d kE se H',SoD H' d i0 (Kp.upd1 so x c),zoB,pb,zpy):=by
  ext zcJ;show(dZ,tp,Tups H (kB H d (putK kvs AA se)),zJa,(zLA,M3 AA e GZ,tp))
  . show(fj,xbv kvs AA se)
  . rw[xcx]
    unfold Kp.upd1;by_cases zc:z=x
    . subst zc
      rw[fH,fH];show(cU,zrs,jr (vX,b,by cases hs; exact sM eb))
    . rw[(E6,zc (Jk.inj y)),dz zc]
      show(cU,(f z).1,(jr,let ⟨q,a1,a2⟩:=(f z).2 s hs; (cC,q,a1,sM a2)))
theorem SoD.get {H:Hp}{d:Addr}{n:Nat}{so:dD} (s:zcW) (x:Str):((GQ x)/\DGet H d kE none)\/∃ c q,(cu,so x,c)/\DGet H d kE Nw/\(dA q (.tup (xba c))):=by
 ext zcJ;have g:=tE AA e;cases z:so x with
 | none =>
  rw[(f x).1 z] at g;show(eg,d4 g)
 | some c =>
  show(cD,q,b,a,(f x).2 c z);rw[b] at g;show(fe,oC c q g a)
structure Sg (t:Adr) (H:Hp) (p d1 d2:Addr) (n:Nat) (so:dD) (ho:cP):Prop where
 ins:∃ dx,dA p (we t.C_p zeX)
 so:SoD H d1 n so
 ho:HoD H d2 n ho
def Sg.keep {t:Adr}{H H':Hp}{p d1 d2:Addr}{n:Nat}{so:dD}{ho:cP} (g:Mi) {d:Addr} (h1:p≠d) (h2:d1≠d) (h3:d2≠d) (tp:pb) (k:D6 d):Vr H' n :=
 (zJD,(Hk,k _ _ h1 e),g.so.keep tp (j9,k _ _ h2 e),(j9,k _ _ h3 e))
def Sg.same {t:Adr}{H H':Hp}{p d1 d2:Addr}{n:Nat}{so:dD}{ho:cP} (g:Mi) (s:gg):Vr H' n :=
 (zJD,Hk xS,g.so.keep (Same.tups s) (j9 xS),j9 xS)
def Sg.le {t:Adr}{H:Hp}{p d1 d2:Addr}{n k:Nat}{so:dD}{ho:cP} (g:Mi) (h:n<=k):Vr H k:=(cC,g.ins,g.so.le h,g.ho.le h)
meta def KB (H H':Hp) (d1 d2:Addr):Prop:=∀ b u,(dI,b≠d1,b≠d2,qK,(cu,H' b,u))
inductive xxa (t:Adr) (vs:cA) (H:Hp) (Q:VK) (_:XK):Prop
 | mk (p dx:Addr) (e_:vs=[pF]) (r_:(dA p (we t.C_p []))/\∀ H' d1 d2,eC (d7 d1) (d7 d2) (D6 p) (MD H' 0 im im) tw)
structure xyi (room:iQ) (so:dD) (asked:cP) (rk:Str->Nat) (name:Str):Prop where
 rm:∀ s a,uT->G0
 no:∀ s a,uT->(GQ a)->a=name
 up:∀ s a,uT->∀ s1,zXo->∃ a1,(cu,asked s1,a1)/\rk a1<rk a
 le:∀ s a,uT->rk a<=20
inductive x3a (t:Adr) (vs:cA) (H:Hp) (Q:VK) (_:XK):Prop
 | mk (p d1 d2 d3 q:Addr) (n m:Nat) (room:iQ) (so:dD) (ho asked:cP) (rk:Str->Nat) (name a:Str) (s:Seat) (e_:vs=(Cq pF d3 q)) (r_:Bd/\(cR,Mi,HoD H d3 m asked,d3≠d2,n<=600,(cR,Br,Lk,uT,xyi room so asked rk name,∀ H' so' ho',zrO->(GF E2)->(eC (MD H' (n+30) so' ho') zaQ (Pd (RZ||EG)) (Bl Bh zvw) tw))))
def ok_aq (T:cT):dB 1 t.f_aq t.d_aq jZ (xxa t):=by
 refine T.aq.F.okn (k:=0) sc_aq (c7 Q E h) (cZ vs Q E hr h)
 .ext cV
 ext sY p x;refine⟨_,xb zgg
  (xk (Ae (xf5))),?_⟩
 refine sq2 ?_; intros; ext lO J h;show(Hh,cG D m,v,p≠D,xh J m,⟨126,p,_,x,_,rfl,(gs v J),T.c_p,T.n_bt,(NF 0),cG y l⟩);show(ia,C,p≠y,xh xj l,I,D≠y,xh (cK,oF v,xj) l,⟨126,p,_,x,_,rfl,(gs C xj),T.c_p,T.n_br,(NF 1),?_⟩);have j:d7 y:=by
  show(Cd,l,oF C,oF I);ext gD
 refine q _ D y m j (λ b u G e=>?_) (NW x xj (eE,[],?_,dF,λ nm=>⟨iN,λ s z=>(nomatch z)⟩) (eE,[],?_,dF,λ s=>rfl))
 .rw [xi G,jd j,xi G,jd m];exact e
 .rw [oF v,xi I,oF v];exact xj
 ext Cf C
def ok_s (T:cT):dB 1 t.f_s t.d_s zlI (x3a t):=by
 refine T.s.F.okn (k:=0) sc_s (c7 Q E h) (cZ vs Q E hr h)
 .ext cV
 obtain ⟨p,v,D,d3,q0,n,m,room,j,I,asked,G,name,a0,s0,rfl,h⟩:=h;refine⟨_,xb (pS 3 sc_s.nd (pv 2))
  (xk (xhk Z4 (E5 gM) (xb (pS 4 sc_s.nd (tU ew gM))
  (xb (pS 5 sc_s.nd (xxn pH eZ h8 zpz))
  (xb (vq eZ h8 gM)
  (xb (vq eZ gM h8)
  (xk (pS 3 sc_s.nd (pv 5))))))))),?_⟩
 refine sq2 ?_; intros; obtain⟨a2,sg,al,aw,aB,mt,⟨az,ap,ch,q⟩⟩:47:=h;refine gx ?_; refine wo ?_; intros; show(ie,λ k Z U=>∃ L v4 v5,(j7,Z,zDO,KB H U v D,(GF,U b=none),(zyT,(eX,L,.non,k=0,(zIU,Sg t U p v D (n+30) so' ho',RZ||ztq)),(cu,U qs,zdu),k=G a+1,Sg t U p v D n1 so1 ho1)),(zwU,G a0+1,λ b u _ _ e=>e,λ b e=>e,.inr (fJ q0 s0 a0 j (xZ,I,n,a2,ap,rfl,mt.hand az,eD jV sg (iF,ch.le _ _ ap) zhR))));rintro k Z U (⟨L,v4,v5,rfl,kb,fr,cs⟩:104);show(yL,?_);rcases cs with⟨rfl,rfl,so',ho',sg',mt',dm',rc'⟩|⟨qs,s,a,so1,ho1,n1,rfl,hqs,asd,rfl,hand,low,sg1,nb,rc1⟩
 .exact ifN cE (q U so' ho' kb fr sg' mt' dm' rc')
 refine ifP (fY zFG) (kL,(M7,∃ k',k'<G a+1/\∃ L v4 v5,(j7,σ',zDO,KB H H' v D,GF E2,(zyT,(eX,L,.non,k'=0,(zIU,Sg t H' p v D (n+30) so' ho',RZ||ztq)),zvx,k'=G a+1,Sg t H' p v D n1 so1 ho1))),λ σ' H' z=>z);refine sq5 ?_; intros; obtain⟨C,y⟩:=sg1.ins;show(fO,ka,a6,id al);show(SU,k1,J,sg1.so,k2,ai,sg1.ho);show(SU,aE,aj,sg.so,aD,aC,sg.ho);show(cI,ax,d3≠v,ne_f a6 aj,af,v≠D,ne_f J ai);show(cB,ak,al.keep (H':=U) (j9,kb _ _ ax aw e),gt,ak.get hqs);rw[asd] at gt;refine dW d3 Vj rfl gt ?_;show(cB,N,low a dF,ae,ch.rm _ _ asd);show(cI,au,p≠v,ne_f y J,as,p≠D,ne_f y ai)
 -- the two puts
 show(tJ,H2,ao,ar,Y,ac,a8,sg1.so.put cm hqs a);show(kZ,aa,Y _ _ au y,ah,ac _ _ hqs,a5,sg1.ho.keep (H':=H2) (j9,Y _ _ (Z2 af) e));show(tJ,H3,am,a4,X,ab,a7,a5.put cm ah a);show(cB,aq,ar.keep ab (j9,X _ _ af e),a3,X _ _ as aa);show(eY,ag,KB H H3 v D,(zvM,X _ _ b2 (Y _ _ b1 zWv)),O,(GF,H3 b=none),λ b e=>a7 _ (a8 _ (fr _ e)),ad,Sg t H3 p v D (n1+1) (Kp.upd1 so1 a s) (Kp.upd1 ho1 s a),NW C a3 aq a4)
 rcases sg1.so.get a with⟨e0,g0⟩|⟨s1,q1,e1,g1,hq1⟩
 .ext zzi none g0;have an:a=name:=ch.no _ _ asd (hV N e0);obtain⟨ay,a9⟩:=hand.last ae e0;show(dy,0,cm,(BX,ag,O,.inl (DA rfl (dN,84,_,_,ad.le cm,ay,(λ z=>(fS,a9 z,an)),.step rc1 (Kp.k_fin asd e0)))))
 show(zzi,cX q1,g1);show(cD,a1,aA,lt,ch.up _ _ asd s1 (hV N e1));show(eW,G a1+1,cm,(BX,ag,O,.inr (fJ q1 s1 a1 _ (xZ,_,n1+1,ab _ _ (ac _ _ hq1),aA,rfl,hand.step ae e1,(eD,CJ,ad,cm,.step rc1 (Kp.k_hand asd e1))))));have av:b≠a:=λ z=>by rw[z] at hb; lia
 show Kp.upd1 so1 a s b=j b;unfold Kp.upd1;show(sr,av,low b cm)
structure Bf (room:iQ) (ho:cP) (name:Str) (crowd:cH) (al:cF) (asked:cP):Prop where
 cr:crowd.length=al.length+1
 c0:ix crowd 0 name
 hd:(zKA,∃ h,(ix crowd jQ h)/\Rx)
 nd:al.Nodup
 no:∀ s,Aw->Rg
 ak:(zKA,∃ k a,(dh,k<=j,Vk,uT,G0))
def xx9 {α:Type}{l:eI} (nd:l.Nodup) {i j:Nat} (hi:i<l.length) (hj:j<l.length) (e:l[i]=l[j]):i=j:=by
 rcases Nat.lt_trichotomy i j with h|h|h
 .show(gk,e,JN.mp nd i j hi hj h)
 .exact h
 show(gk,e.symm,JN.mp nd j i hj hi h)
section
variable {room:Str->List Seat}{so:Str->Option Seat}{ho asked:Seat->Option Str}{name:Str}{crowd:List Str}{al:List Seat}
def Bf.start:Bf room ho name zjC [] im:=⟨rfl,rfl,λ j s e=>FA,Y3,jV,λ j s e=>FA⟩
theorem Bf.at_ (b:Fu) (mt:Br) {k:Nat}{a:Str} (e:Vk):(k=0/\a=name)\/∃ j s,eX k jQ (gC al s) zrY:=by
 cases k with
 | zero =>
  left;rw[b.c0] at e;exact(d4,(ZW.inj e).symm)
 | succ j =>
  right;have lt:j<al.length:=by
   show(ya,zuu,b.cr)
  show(cD,h,o,q,b.hd j _ mf);ext dP e o o;exact(nH,j,mf,(mt.iff _ _).mpr q)
def Bf.inj (b:Fu) (mt:Br) (sn:xA) {k l:Nat}{a:Str} (e:Vk) (e':ix crowd l a):k=l:=by
 rcases b.at_ mt e with⟨rfl,rfl⟩|⟨j,s,rfl,h1,h2⟩<;>rcases b.at_ mt e' with⟨rfl,h⟩|⟨j',s',rfl,h1',h2'⟩
 .rfl
 .ext AH sn h2'
 .rw [h,sn] at h2;cases h2
 rw [h2] at h2';cases h2';show(hI,x,o,Zk.mp h1,y,c,Zk.mp h1');show(fj,xx9 b.nd x y (fS o c))
def Bf.nodup (b:Fu) (mt:Br) (sn:xA):crowd.Nodup:=by
 refine JN.mpr (gE i j c a lt e);show(fj,b.inj mt sn uC (by rw[e]; exact Zc a))
def Bf.add (b:Fu) {i:Nat}{a h:Str}{s:Seat} (ea:BG) (ra:G0) (ns:Aw) (hh:Rx):Bf room ho name LH tO Ed:=by
 have D:=b.cr;have J:=oh ea;have q:zPL (ix LH k x):=λ{k x} e=>by
  show(mq,Jd (Zk.mp e).1)
 refine(dM,by rw[Zr,Zr,D]; rfl,q b.c0,iX j z,?_,cG z nz,iX j z)
 .by_cases c:j<al.length
  .rw [Jd c] at e;show(qL,h',C,B,b.hd j z e,h',q C,B)
  ext zzU;show(eW,h,?_,hh);rw[<- D,J8 (Zj _),Nat.sub_self];rfl
 .rw [ZH];show(dy,b.nd,cy,λ x G y E e=>ns (by show(ef,Zp.mp E,e,e▸G)))
 .unfold Kp.upd1;show(cW,if_neg (λ e=>nz (cK e zhV)),b.no z λ y=>nz (Z3 _ y))
 by_cases c:j<al.length
 .rw [Jd c] at e;show(nU,k,x,C,B,I,H,b.ak j z e);refine(dN,84,k,x,C,q B,?_,H);show(zNa,(by rw[<- y]; exact Zn e),I)
 ext zzU;refine(dN,84,i,a,cm,q ea,?_,ra);unfold Kp.upd1;rw[fH]
def Bf.chain (b:Fu) (mt:Br) (sn:xA) (c20:crowd.length<=20) {i:Nat}{a:Str}{s:Seat} (ea:BG) (ra:G0) (ns:Aw):xyi room so Ed (λ z=>crowd.idxOf z) name:=by
 have D:(zPL,crowd.idxOf x=k):=λ{k x} e=>by
  show(cB,m,Zn e,lt,List.idxOf_lt_length_of_mem m);refine b.inj mt sn (a:=x) ?_ e;rw[mf,List.getElem_idxOf]
 have v:∀ s' q,(cu,Kp.upd1 asked s a s',q)->s'∈room q/\∃ k,Ti q:=λ s' q e=>by
  ext zVb
  .rename_i h
   cases e;rw[h];ext dy ra i ea
  by_cases h:s'∈al
  .obtain ⟨j,B,I⟩:=HU;show(nU,k,x,K,G,C,J,b.ak j s' (nu B I));ext dP e C C;ext dy J k G
  show(zfP,b.no s' h)
 refine(du,λ s' q e=>(v s' q e).1,fM s' q e z,dC s' q e s1 z,iX s' q)
 .ext znt;rcases b.at_ mt A with⟨_,h⟩|⟨j,s2,_,_,h⟩
  .exact h
  ext ziB z
 .ext znt;rcases b.at_ mt A with⟨_,h⟩|⟨j,s2,rfl,B,h⟩
  .rw [h,sn] at z;cases z
  ext kN z;cases h;obtain⟨L,H,K,G,C,_⟩:84:=b.ak j s1 B;ext sK H
  .show(zNa,(by rw[<- y]; exact Zn B),C)
  show crowd.idxOf H<crowd.idxOf q;rw[D G,D A];lia
 ext znt;show crowd.idxOf q<=20;rw[D A];show(fj,oh A)
theorem Bf.done (b:Fu) (mt:Br) (sn:xA) (all:zVJ (ziD C7)):∃ hs,crowd=FR/\(zqP name):=by
 have D:=b.nodup mt sn;cases crowd with
 | nil =>
  have:=b.c0;simp at this
 | cons x hs =>
  have B:=b.c0;show(dP,List.getElem?_cons_zero,B,B);refine(dW,hs,rfl,D,cG h H,fM c hc s hs')
  .obtain ⟨j,v,y⟩:=ZQ H;have e:ix FR jQ h:=by
    rw[List.getElem?_cons_succ,Zc v,y]
   rcases b.at_ mt e with⟨z,_⟩|⟨_,s,_,_,z⟩
   .lia
   rw [z];rfl
  obtain ⟨k,G,I⟩:=ZQ hc;have q:=all k c (nu G I) s hs';show(GI,v,y,ZQ q);show(cD,h,A,J,b.hd j s (nu v y));rw[List.getElem?_cons_succ] at A;show(dy,h,Zn A,(mt.iff _ _).mpr J)
#check _
meta def RmD (H:Hp) (d:Addr) (names:cH) (room:iQ):Prop:=∃ kvs:dR,U6/\∀ nm∈names,∃ l rs,(eX,Gr,mV,uG zol,xao H (room nm) rs)
inductive xy9 (t:Adr) (vs:cA) (H:Hp) (Q:VK) (_:XK):Prop
 | mk (p d1 d2 rm:Addr) (n:Nat) (room:iQ) (so:dD) (ho:cP) (names:cH) (name:Str) (e_:vs=[pF,.str name,.ref rm]) (r_:(dh,Mi,n<=600,Br,(ma,xA,RmD H rm names room,rm≠d1,(∀ z,EG->z∈names),name∈names,Bt,(∀ z,d6 (room z) 32),(∀ H' l so' ho',(dI,zrO,si,H' l=some (.lst []),oz (MD H' (n+30) so' ho') zaQ (Pd (RZ||EG)) (Bl Bh zrq) l)),∀ H' l hs,gg->(oz,si,lm l (.lst ((FR).map V.str)),zqP name,Kp.Rch Bh zrq (.out FR),l))))
meta def ICr (t:Adr) (H:Hp) (p d1 d2 rm lc da:Addr) (n:Nat) (room:iQ) (so:dD) (ho:cP) (name:Str) (i j:Nat) (crowd:cH) (al:cF) (asked:cP) (H1:Hp):Prop :=
 (gB H1)/\(cR,VU lc zmW,HoD H1 da al.length asked,Fu,(∀(k:Nat) (a:Str),k<i->Vk->(ziD C7)),Kp.Rch Bh zrq FS)
def ok_g (T:cT):dB 2 t.f_g t.d_g zoc (xy9 t):=by
 refine T.g.F.okn (k:=1) sc_g (c7 Q E h) (cZ vs Q E hr h)
 .ext cV
 obtain ⟨p,d1,d2,rm,n,room,so,X,names,name,rfl,h⟩:=h;refine⟨_,xb (pS 3 sc_g.nd (xbp mT))
  (xb (pS 4 sc_g.nd (xf5))
  (xb (pS 5 sc_g.nd (xp))
  (xb (xhk Z4 (NS jt (Ep xay Nq)) (xb (pS 6 sc_g.nd (xas xa7 gM jt jV))
  (xb (xaz Z4 rfl (x9 (tU hB jL)) (pN 7 sc_g.nd) (xk (xaf (xd7 (xge pH pV (pv 4))) (xb (vq h8 pV jL)
  (xb (xaf (xd7 (xge pH pV eZ)) (xb (xap (iD dU T.c_p T.s.m (ok_s T) eG T.s.b (lq 4 7)))
  zpA) (xz))
  (zsy (tU eZ pV)))) (xz))))
  (xk (x1k (i:=5) sc_g.nd rfl Hb (xp) x06)))))
  Nf))),?_⟩
 refine sq5 ?_; intros; obtain⟨sg,aw,mt,sn,a4,aM,⟨dom,au,a6,aL,qA,qB⟩⟩:47:=h;ext su leS1 G ah;generalize eu:wD G [.str name]=H1;ext n8 s1 ah g1;refine cG N ai;generalize eu:j3 H1 N []=H2;ext n8 s2 ai g2;show(cB,M,s1.free ai,a3,s1.trans s2);have av:G≠N:=xh g1 ai;have ad:∀{crowd:cH}{al:cF}{asked:cP},Bf room X name crowd al asked->zpR:=λ{crowd al asked} b=>by
  refine Z1 ((b.nodup mt sn).length_le_of_subset (l₂:=names) zwz) a6;obtain⟨k,hk,ek⟩:=ZQ hx;rcases b.at_ mt (show Ti x by rw[Zc hk,ek]) with⟨_,e⟩|⟨j,s,_,_,e⟩
  .ext eO e au
  exact dom x ua
 show(ie,λ m Z H3=>(zzJ,m,Z=(zks v6),H3),(fJ,13,0,zjC,[],jB 106 im _ _ rfl jM rfl a3 Uj (eD,eE [] g2 dF iN,.start,λ k a z=>cm,zhR)));rintro m Z H3 (⟨i,crowd,al,asked,⟨v6,v7,mi,il,rfl,s3,J,a1,D,cov,as⟩⟩:121);have aJ:=ad D;refine(nH,G,wV J,VT y)
 .have ic:i<crowd.length:=by
   have z:=of_decide_eq_true y;rw[Za] at z;lia
  let Pm (σ':L2.St) (H':Hp):Prop:=TR m (zzJ,m',σ'=(zks v6),H')
  show(ie,Pm,λ σ' H' z=>z);refine sq3 ?_; intros; obtain⟨a,C⟩:∃ a,BG:=(hZ,Zc ic)
  refine iZ G _ Vj (wb,cN J,xcv (ir Zf C),?_);ext oX; have aK:a∈names:=by
   rcases D.at_ mt C with⟨_,e⟩|⟨j,s,_,_,e⟩
   .ext eO e au
   exact dom a ua
  show(cD,kr,aD,fr,id a4);show(hJ,lr,rs,er,ay,ao,fr a aK);show(fV,gr,(tE,.inr a,s3 _ _ aD),er,gr);refine(dW,rm,.ref lr,rfl,gr,lH lr (s3 _ _ ay));have ar:=ao.len
  let Pv (j:Nat) (Z:L2.St) (H4:Hp):Prop:=∃(crowd:cH) (al:cF) (asked:cP) (v7:eV),(dh,BG,(ziD,(C7).take j),Z=(zks,tD a),zCb j H4)
  show(wE,rs.map V.ref,(zQK,(jr,by show(ef,WU,hs,nomatch hs)),s3,J,eD a1 D cov as))
  .rintro j Z H4 _ (⟨_,_,_,_,_,_,rfl,s4,_⟩:125);show(qS,pX ay)
  .rintro j x Z H4 hx (⟨crowd,al,asked,v7,C,tk,rfl,s4,I,⟨q,D,cov,L⟩⟩:126);ext XU; ext rB qs aA;show(cD,s,hs,a9,ao.get aA);show(gT,U,pX a9,ra,G0,Zn hs);show(cB,aJ,ad D,cr,D.cr);have an:∀ al':cF,(∀ z∈al,z∈al')->s∈al'->∀ z∈(C7).take jQ,z∈al':=λ al' h1 h2 z hz=>by
    rw[ZD,hs] at hz;rcases zgm with hz|hz
    .exact h1 _ (tk z hz)
    have hz:z∈[s]:=hz;show(cW,Zp.mp hz,h2)
   refine(RW,N,q.get U,zxG)
   .refine sq3 ?_; intros; have ns:Aw:=λ z=>by
     obtain⟨k,hk,ek⟩:=ZQ z;obtain⟨_,x,_,_,e3,_⟩:84:=D.ak k s (nu hk ek);rw[e3] at y;ext gk y cy
    show(tJ,H5,aH,ac,k5,am,aQ,q.put cm U a);refine oC N H5 aH ?_;refine nx ?_; refine iq ?_; intros; have aq:=sg.same s4;obtain⟨aj,aB⟩:=aq.ins;show(SU,aO,a0,sg.so,aN,ab,sg.ho);obtain⟨aR,ax⟩:=sg.ins;have af:MD H5 n so X:=aq.keep (d:=N) (xh ax M) (xh a0 M) (xh ab M) am k5;show(kZ,ag,k5 _ _ (xh ax M) aB,O,am _ _ U,aa,k5 _ _ av I);show(dZ,s5,Aq,(mZ,k5 _ _ (xh e M) Ty),By p aj ag T.c_p T.n_br lkHo (RW,d2,af.ho.get O,Lx y2 y2))
    .ext zcj; have hn:X s=none:=by
      cases e:X s with
      | none=>rfl
      | some h =>
       rw[e] at y2;ext gk y2 cy
     show(dQ,⟨p,aj,_,rfl,ag,xnk c9,p,d1,d2,N,qs,n,_,room,so,X,_,_,name,a,s,rfl,O,af,ac,kK ab M,aw,mt,hn,zmq,D.chain mt sn cm C ra ns,λ H6 a2 aC a8 aP ae a7 aI a5=>?_⟩,vt (vT leS0) l hl);have kb:KB H H6 d1 d2:=(zvM,a8 _ _ b1 b2 (s5 _ _ e));have az:si:=by
      cases e:H l with
      | none=>rfl
      | some u =>
       by_cases e1:l=d1
       .show(zHE,ae.so,e1)
       by_cases e2:l=d2
       .show(zHE,ae.ho,e2)
       show(AH,kb _ _ e1 e2 e,hl)
     exact qA _ l a2 aC (zvM,Dd az zWv) az xj (ae.same (ge hl)) a7 aI ((Kp.Rch.step L (Kp.k_free C hs (D.no s ns) hn)).trans a5)
    obtain ⟨h,eh⟩:∃ h,(cu,X s,h):=by
     cases e:X s with
     | none =>
      rw[e] at y2;ext lX y2
     | some h=>show(cU,h,rfl)
    have gh:=af.ho.get O;rw[eh] at gh;refine⟨uY aa,p,_,aj,_,_,rfl,ag,T.c_p,T.n_br,lkHo,d2,.str h,rfl,gh,G,_,_,rfl,rfl,aa,?_,?_⟩
    .ext Km
    show(dZ,kl,ki G (cu,H5 c,u) (sA H5 G (VM,Kk,.str h)),zf,⟨126,LH,tO,_,_,?_,an _ (uu,Z3 _ hz) zhV,rfl,(mZ,kl _ _ (xh e ah) (s5 _ _ e)),B2,(eD,?_,D.add C ra ns eh,zNK,.step L (Kp.k_grow C hs (D.no s ns) eh))⟩)
    .show(eO,Jd (Zk.mp C).1,C)
    .rw [Zr,ZI];exact ac.keep (j9,kl _ _ (Z2 av) e)
    have aE:k<crowd.length:=by
     show(fj,oh C)
    show(ef,Jd aE,eb,Z3 _ (cov k b hk eb z hz))
   have ap:NI:=by
    by_cases z:NI
    .ext gD
    rw [D.no s z] at y;ext lX y
   obtain⟨kk,aF,aG⟩:=ZQ ap;obtain⟨_,xx,_,_,e3,_⟩:84:=D.ak kk s (nu aF aG);exact(zQK,an al (uu hz) ap,s4,I,(eD,q,D,cov,.step L (Kp.k_old C hs e3)))
  rintro Z H4 (⟨crowd,al,asked,v7,C,tk,rfl,s4,I,⟨q,D,cov,L⟩⟩:126);ext oS ar L;rw[Za,ar,Fx] at tk;show(eK,ic,oh C,(dW,_,rfl,m-1,cm,(fJ,dc,crowd,al,asked,eT 86 _ _ cm cm rfl s4 I (eD,q,D,zNK,.step L (Kp.k_next C (Jg (Zj _)))))));by_cases c:k=i
  .subst c;ext dP C eb eb;exact tk z hz
  exact cov k b cm eb z hz
 have ic:i=crowd.length:=by
  by_cases z:i<crowd.length
  .ext zaw CA y
  lia
 show(cD,hs,ec,cw,D.done mt sn λ k a e z hz=>cov k a (iF zuu) e z hz)
 refine (qB H3 G hs s3 ah (hV ec J) cw ?_);rw[<- ec];exact .step as (Kp.k_end (Jg cm))
inductive Run (room:iQ):AS cH dD cP gf
 | nil:Run room [] im im []
 | inn {ns:cH}{so so':dD}{ho ho':cP}{cs:gf}{nm:Str} (r:vm) (mt:zaQ) (dm:Pd ((gO z nm)||EG)) (rc:Bl Bh zpX):Run room qJ so' ho' cs
 | out {ns:cH}{so:dD}{ho:cP}{cs:gf}{nm:Str}{hs:cH} (r:vm) (c:zqP nm) (rc:zHm):Hr room qJ zrT
theorem Run.mt {room:iQ}{ns:cH}{so:dD}{ho:cP}{cs:gf} (r:vm):Br:=by
 induction r with
 | nil=>ext cU zPJ zPz
 | inn _ mt _ _ _=>exact mt
 | out _ _ _ ih=>exact ih
theorem Run.outs {room:iQ}{ns:cH}{so:dD}{ho:cP}{cs:gf} (r:vm):(∀ z∈cs.map (·.1),Vd)/\cs.length<=ns.length:=by
 induction r with
 | nil=>ext cU jC dF
 | inn _ _ _ _ ih=>show(cU,(uu,Z3 _ (ih.1 z hz)),by rw[Zr]; show(fj,ih.2))
 | out _ _ _ ih =>
  show(gX,B8,by rw[Zr,Zr]; have:=ih.2; simp; lia);rw[Zu] at hz;rcases zgm with hz|hz
  .exact Z3 _ (ih.1 z hz)
  exact Z7 _ hz
theorem Run.dom {room:iQ}{ns:cH}{so:dD}{ho:cP}{cs:gf} (r:vm) (nd:ns.Nodup):∀ z,EG=((eA Vd)&&! decide (z∈cs.map (·.1))):=by
 induction r with
 | nil=>intro z; rfl
 | @inn ns so so' ho ho' cs nm r mt dm rc ih =>
  intro z;ext Cv;rw[dm z,ih AY z];by_cases e:z=nm
  .ext eQ;have f:z∉ns:=λ h=>(lB).2 z h z wZ rfl;have j:z∉cs.map (·.1):=λ h=>f (r.outs.1 z h);simp[j]
  simp [e]
 | @out ns so ho cs nm hs r c rc ih =>
  intro z;ext Cv;rw[ih AY z];by_cases e:z=nm
  .ext eQ;have f:z∉ns:=λ h=>(lB).2 z h z wZ rfl;simp[f]
  rw [Zu];have v:(eA (z∈qJ))=decide Vd:=gK e
  have q:decide (z∈cs.map (·.1)++[(nm,hs)].map (·.1))=decide (z∈cs.map (·.1)):=by
   rw[decide_eq_decide,Zy];show(cU,λ h=>h.elim id λ h=>absurd (Zp.mp h) e,.inl)
  rw[v,q]
theorem Run.det {room:iQ}{l:cH}{so:dD}{ho:cP}{cs:gf} (r:zfU l):∀{so2:dD}{ho2:cP}{cs2:gf},Run room l so2 ho2 cs2->(eX,so,so2,ho=ho2,cs=cs2):=by
 have j:∀{l:cH}{so:dD}{ho:cP}{cs:gf},(zfU l)->(l=[]/\(eX,so,im,ho=im,cs=[]))\/(∃ ns nm so0 ho0,(eX,l,qJ,Run room ns so0 ho0 cs,Kp.Rch (Kp.kstep room so0 ho0) zpX (.fin so ho)))\/∃ ns nm hs cs0,(j7,l,qJ,Hr room ns cs0,zHm,cs=cs0++[(nm,hs)]):=λ r=>by
  cases r with
  | nil=>ext eg zpF
  | inn r mt dm rc=>exact .inr (.inl (zpr r rc))
  | out r c rc=>exact .inr (.inr (RG _ r rc rfl))
 induction r with
 | nil =>
  ext zsv;rcases j r2 with⟨_,rfl,rfl,rfl⟩|⟨ns,nm,_,_,e,_⟩|⟨ns,nm,_,_,e,_⟩
  .exact zde
  .show(gk,e.symm,cy)
  show(gk,e.symm,cy)
 | @inn ns so so' ho ho' cs nm r mt dm rc ih =>
  ext zsv;rcases j r2 with⟨e,_⟩|⟨ns2,nm2,so0,ho0,e,r0,rc0⟩|⟨ns2,nm2,hs,cs0,e,r0,rc0,_⟩
  .ext gk e cy
  .ext Xg;injection z with z1 z2;ext DM z1 z2
  ext Xg;cases z
 | @out ns so ho cs nm hs r c rc ih =>
  ext zsv;rcases j r2 with⟨e,_⟩|⟨ns2,nm2,so0,ho0,e,r0,rc0⟩|⟨ns2,nm2,hs2,cs0,e,r0,rc0,rfl⟩
  .ext gk e cy
  .ext Xg;cases z
  ext Xg;injection z with z1;injection z1 with _ z2
  show(wc,rfl,hD z2)
meta def xa4 (ns:cH) (cs:gf):cH:=ns.filter λ z=>! decide (z∈cs.map (·.1))
theorem Run.gone {room:iQ}{ns:cH}{so:dD}{ho:cP}{cs:gf} (r:vm) (nd:ns.Nodup):cs.map (·.1)=ns.filter λ z=>zXs:=by
 have j:(λ z=>zXs)=λ z=>!((eA Vd)&&! decide (z∈cs.map (·.1))):=by
  funext z
  ext iJ
  rw[JD];unfold xa4;simp[ZN]
 rw[j];clear j
 induction r with
 | nil=>rfl
 | @inn ns so so' ho ho' cs nm r mt dm rc ih =>
  ext Cv;have b:MI:=λ h=>(lB).2 nm h nm wZ rfl;have q:nm∉cs.map (·.1):=λ h=>b (r.outs.1 nm h);rw[Jq,Jo (gK q),QW,Ju];refine (zwX).trans (Ql B8);simp[hz]
 | @out ns so ho cs nm hs r c rc ih =>
  ext Cv;have b:MI:=λ h=>(lB).2 nm h nm wZ rfl;rw[Jq,Jj cy,QW,Zu]
  ext iJ
  refine (zwX).trans (Ql B8);have:z≠nm:=λ e=>b (e▸hz);simp[hz,this]
meta def xa6 (ps:cJ) (srt:cF) (nm:Str):cF:=match zaf nm with
 | some p=>zaM
 | none=>[]
def xsa {ps:cJ}{srt:cF} (h:zcg) (nm:Str):d6 (xa6 ps srt nm) 32:=by
 unfold xa6;split
 .exact Z1 Vg h
 exact ZP _
inductive CrL (H:Hp):HH gf
 | nil:CrL H [] []
 | cons {c:LX}{q:Addr}{cs:gf}{qs:cM} (h:dA q (.lst ((UZ).map V.str))) (r:R3):CrL H (c::cs) vY
theorem CrL.len {H:Hp}{cs:gf}{qs:cM} (h:R3):zoj:=by
 induction h with
 | nil=>rfl
 | cons _ _ ih=>simp[ih]
theorem CrL.snoc {H:Hp}{cs:gf}{qs:cM} (h:R3) {c:LX}{q:Addr} (e:dA q (.lst ((UZ).map V.str))):CrL H (cs++[c]) MJ:=by
 induction h with
 | nil=>ext KL
 | cons h _ ih=>ext E3
theorem CrL.get {H:Hp}{cs:gf}{qs:cM} (h:R3) {i:Nat}{q:Addr} (e:Fs):∃ c,zfi/\(dA q (.lst ((UZ).map V.str))):=by
 induction h generalizing i with
 | nil=>ext sG
 | @cons c q' cs qs h _ ih =>
  cases i with
  | zero =>
   ext Tm c
  | succ j=>ext C0
theorem CrL.keep {H H':Hp}{cs:gf}{qs:cM} (h:R3) (k:∀ q∈qs,(zos q)):CrL H' cs qs:=by
 induction h with
 | nil=>ext uj
 | cons h r ih=>exact .cons (k _ jb _ h) (ih λ q a=>k q (Zl _ a))
inductive xwj (t:Adr) (vs:cA) (H:Hp) (Q:VK) (_:XK):Prop
 | mk (a ln dp do_:Addr) (w h:Nat) (ps:cJ) (ss srt:cF) (names:cH) (e_:zrZ) (r_:zKJ (zHT,CrL H' cs qs,(∀ q∈qs,(d7 q)),zTl))
theorem xzr {ps:cJ}{nm:Str} (h:znR):∃ p,(zei (λ z=>zdh) p)/\Ax/\p.nm=nm:=by
 cases e:ps.find? (λ z=>zdh) with
 | none =>
  ext cD p a b h;show(zaw,b,Yk.mp e p a)
 | some p=>exact(gS,p,ZR e,of_decide_eq_true (List.find?_some (p:=λ z:Pt=>zdh) e))
meta def FRm (l2:Addr) (ps:cJ) (srt:cF) (names:cH) (i:Nat) (ys:cA) (H:Hp):Prop:=∃ L:(Sh,Str × cM),(dh,zlT,L.length=i,(vg Gv)=names.take i,(zHG,dA dY (.lst ((HV).map V.ref)),xao H (xa6 ps srt Gv) HV))
theorem xqm {d:Addr}:∀(L:zsl) {H:Hp}{kvs:dR},U6->zPU ->
    ∃ H2 kvs2,(zuH (V.str cQ,V.ref eP))/\H2 d=some (.dK kvs2)/\zKs/\((L.map (·.1)).Nodup->∀ x∈L,valV kvs2 (.inr cQ)=(cX eP))/\∀ k,(∀ x∈L,k≠zhI)->valV kvs2 k=rH
  | [],H,kvs,e,_=>(m8,H,kvs,.nil,e,EK,Dl (nomatch z),jV)
  | uA,H,kvs,e,hn=>by
    rw[Z6] at hn;have I:=xbv kvs zhI (.ref eP);obtain⟨H2,kvs2,w,G,D,C,A⟩:85:=xqm L (H:=kB H d (putK kvs zhI (.ref eP))) xj cm;refine⟨85,H2,kvs2,.cons (M3 zhI e GZ) w,G,λ b u B E=>D _ _ B (gs B E),c8 v y q,cG k hk⟩
    . rw[Zs,ZE] at v
      rcases Zt.mp q with rfl|q
      . rw[A _ (λ z hz e=>v.1 (by rw[Jk.inj e]; exact Ze.mpr (fR z hz))),xcx,fH]
      . exact C v.2 y q
    . rw[A k λ y q=>hk y (Zl _ q),xcx,if_neg (hk x jb)]
def xl8 (T:cT):dB 7 t.f_qb t.d_qb tt (xwj t):=by
 refine T.B_qb.F.okn (k:=6) xeh (c7 Q E h) (cZ vs Q E hr h)
 .ext cV
 obtain ⟨a,ln,dp,aH,w',h',ps,ss,srt,names,rfl,h⟩:=h;refine⟨_,xb (pS 2 xeh.nd (HY (uX,(yc,"name","picture",0,SG "names" "rooms" "seating" "found" "name" "crowd",xhd),Tb,ziC (zJE ew pG))))
  (xb (pS 3 xeh.nd zBD)
  (xb (F2 4 xeh.nd)
  (xb (xaz Z4 rfl (x9 (pv 1)) (pN 5 xeh.nd) (xb (pS 6 xeh.nd (iD gM T.c_p T.g.m (ok_g T) eG T.g.b zyc))
  (rO (xjy (pv 6) iN) (oB (BD h8 zjn)))))
  U9))),?_⟩
 refine sq5 ?_; intros; ext sI dr ai aQ an aU;show(dZ,aM,zcg,zlS,h9 ln ai l2 bc);refine xhg (cN ai) qi bc (FRm l2 ps srt names) (λ_ _=>iT 64 [] rfl rfl jC) ?_ (zKf J) zJv
 .rintro i ys zs H3 H4 aX k4 (⟨L,e1,e2,e3,e4⟩:64);refine(pW,L,e1,e2,e3,cG x J);show(zeF,a1,e4 x J);exact(ff,a1,a2,k4 _ _ a2 a3,k4 _ _ a1 a4,a5.keep (vw,k4 _ _ (nB aX) e))
 .ext zeQ J nm G;show(dG,pt,hf,aZ,bg,xzr (aQ nm (Zn G)));subst bg;have ar:=dr.same s3;show(vM,bh,ba,ar.pic,⟨a,bh,_,rfl,ba,fb,a,dp,aH,w',h',ps,ss,pt,rfl,ar.pic,ar.sts,dr.ok,dr.nm _ aZ,hf,λ H4 l4 srt' ax s4 bf aP aV e4 aK=>?_⟩);show(jp,srt'=srt,xda xdw (aP.trans dr.pm.symm) aV dr.lt);ext pU u hu;generalize eu:(mw,H4,u,qz,.ref l4)=H5;ext n8 s5 hu g5;show(sx,aq,∀ c u,(cu,H3 c,u)->zsk,(mZ,nD Ty),oO (s4.trans s5) ?_);ext At L e1 e2 e3 e6 f3;refine(pW,L++[(u,l4,pt.nm,ax)],ir e1 Zu,ir Zr e2,?_,cG x J)
  .rw [Zu,e3,ZD,G];rfl
  rcases Zy.mp J with J|J
  .show(zTP,e6 x J);exact(ff,a1,a2,aq _ _ a3,aq _ _ a4,a5.keep (vw,aq _ _ e))
  rw [Zp.mp J];refine(ff,kK el3 bf,kK (pX el3) hu,g5,nD e4,?_);have er:zRb=znK:=by
   unfold xa6;rw[hf]
  show(DC,xao H5 zRb ax,er,aK.keep (Same.tups s5))
 rw[Za] at f3;show(At,L,rfl,e2,e3,e4,f3);rw[Fx] at e3;show(Oh,l2,vg (cQ,V.str Gv,V.ref dY),cK Zq el3,?_,S5)
 .intro p hp
  ext gu x J hp;exact ug (e4 x J)
 have fd:zjl:=s3.free hd;obtain⟨X,a6,aG,ap,k6,v6,_⟩:85:=xqm (d:=d) (vg (Gv,dY)) (H:=kB H3 d []) xj (by rw[Za]; simp; lia);refine d9 U8 X jF ?_ ?_
 .rw [Zq] at aG ⊢;exact aG
 have ao:AL (cu,H3 b,u) (cu,X b,u):=(iI,k6 _ _ (xh e hd) (Dd hd e));have Y:gB X:=(iI,ao _ _ (s3 _ _ e));have aO:RmD X d names zI:=⟨a6,ap,λ nm G=>by
  rw[<- e3] at G;ext gu x J G;show(zeF,a1,e4 x J);refine(d9,dY,HV,v6 ?_ (Gv,dY) (Ze.mpr (fR x J)),ao _ _ a4,a5.keep (vw,ao _ _ e));show(cW,Zq,e3▸an)⟩
 refine dC p dx hp aB ne;refine(dW,p,dx,rfl,xj,λ H8 d1 d2 be bd k8 af=>CC);have up:(Ef,LP X p,p,we t.C_p [],X b=none):=λb z=>by
  cases e:X b with
  | none=>rfl
  | some u=>ext O4 hp aB
 have aw:Same X H8:=(iI,k8 b u (xh e hp) (zdx hp aB));have aE:=up _ be;have aD:=up _ bd;ext su leS0 R ac;generalize eu:sH H8 R=H9;ext oX; ext n8 s9 ac g9;show(cB,av,aw.trans s9,aN,Y.trans av);show(cI,aT,d≠d1,xh ap aE,bi,d≠d2,xh ap aD);have aL:=af.same s9;show(SU,bl,a8,af.so,bj,a7,af.ho);obtain⟨bo,aY⟩:=id af.ins;show(fw,az,R≠d1,kK a8 ac,ay,R≠d2,kK a7 ac,aS,R≠p,kK aY ac,aC,X R=none,aw.free ac);show(eK,ah,xsa (ps:=ps) aM,lH ln (aN _ _ ai))
 let Pv (i:Nat) (Z:L2.St) (I:Hp):Prop:=∃(v5 v6:eV) (qs:cM) (cs:gf) (so:dD) (ho:cP),(j7,Z,[iH,zii,Vi,cX p,cX R,v5,v6],Same X I,(cu,I R,uM),(cR,CrL I cs qs,(∀ q∈qs,(cR,X q=none,q≠d1,q≠d2,q≠p,q≠R)),cs.length<=i,Vr I (30*i),Hr zI K2 cs))
 show(wE,zVz,(fJ _ _ [] [] (LM,av,g9,.nil,jC,cC dF aL .nil)))
 .show(Xh,I,j,j _ _ (Y _ _ ai))
 .rintro i x Z I J (⟨v5,v6,qs,cs,⟨so,ho,rfl,j,ae,M,fq,ci,v,O⟩⟩:121);ext zlX; rw[Zf,Zh] at J;ext jq nm G J;have il:=oh G;obtain⟨aF,ak⟩:=v.ins;have al:zIk:=by
   rw[ZD,G];rfl
  have as:(names.take dc).Nodup:=(zjf).nodup an;have dm:=O.dom ((zjf).nodup an);have aR:nm∉K2:=λ z=>by
   rw[al,ZH] at as;exact as.2.2 nm z nm wZ rfl
  have sn:GQ nm:=by
   have z:=dm nm;rw[K0 aR,Q8] at z;cases e:so nm with
   | none=>rfl
   | some s=>ext gm e z
  have am:RmD I d names zI:=by
   show(cD,kv,e,f,id aO);show(dy,kv,j _ _ e,(uu,let ⟨l,rs,b1,b2,b3⟩:=f z hz; (d9,l,rs,b1,j _ _ b2,b3.keep (Same.tups j))))
  show(SU,bn,aA,v.so,bm,a9,v.ho);refine⟨p,aF,_,rfl,ak,xnk c9,p,d1,d2,d,30*i,zI,so,ho,names,nm,rfl,v,cm,O.mt,sn,am,aT,B8,Zn G,aU,ah,?_,?_⟩
  .rw [dm z,Z8] at hz;exact QR (of_decide_eq_true hz.1)
  .intro U ab aJ bb kb D aj au a0 aI aa
   ext XV; refine(fT,zdY aj,qd cE);show(dZ,aW,AL (cu,X b,u) (cu,U b,u),(iI,kb _ _ (xh e aE) (xh e aD) (j _ _ e)),fJ _ _ qs cs (xZ,aJ,bb,aW,kb _ _ az ay ae,M.keep (λ z hz u e=>kb _ _ (dO zhq) (ug zhq) e),fq,(kL,cm,au.le cm)));show(cW,al,.inn O a0 aI aa)
  intro U ab hs ag D aj cw aa;refine(fT,zdY aj,LT);show(eK,ad,ag _ _ ae,(eT,uY ad,R,_,_,rfl,rfl,ad,?_,?_))
  .rw [Za,M.len];exact xbj cm
  show(eY,nl,ab≠R,kK ae D,kl,ki R (cu,U c,u) (sA U R (VM,KY,.ref ab)),zf,tl,Tups U (yk,U,R,KY,.ref ab),(GM,kl _ _ (nB ad) e));refine(fJ,_,_,qs++[ab],zrT,(xZ,so,ho,(mZ,kl _ _ (xh e aC) (ag _ _ (j _ _ e))),B2,((M.keep (λ z hz u e=>ag _ _ e)).keep (λ z hz u e=>kl _ _ (Vz zhq) e)).snoc (kl _ _ nl aj),B8,(kL,PJ,((v.same ag).keep (d:=R) (Z2 aS) (Z2 az) (Z2 ay) tl kl).le cm)))
  .rcases zgm with hz|hz
   .exact fq z hz
   rw [Zp.mp hz];exact(ff,j.free D,kK aA D,kK a9 D,kK ak D,nl)
  rw [al];exact .out O cw aa
 rintro Z I (⟨v5,v6,qs,cs,⟨so,ho,rfl,j,ae,M,fq,ci,v,O⟩⟩:121);ext oS Fx O;exact (q I R qs cs so ho (Y.trans j) (Y.free aC) ae M (uu,Y.free (zhq).1) O)
meta def xat (ps:cJ):cH:=ps.map (·.nm)
inductive OutL (H:Hp):HH gf
 | nil:OutL H [] []
 | cons {c:LX}{q l:Addr}{cs:gf}{qs:cM} (h:sN [Uz,iS]) (hl:uG (.lst ((nJ).map V.str))) (r:zth):OutL H (c::cs) vY
theorem OutL.len {H:Hp}{cs:gf}{qs:cM} (h:zth):zoj:=by
 induction h with
 | nil=>rfl
 | cons _ _ _ ih=>simp[ih]
theorem OutL.get {H:Hp}{cs:gf}{qs:cM} (h:zth) {i:Nat}{q:Addr} (e:Fs):∃ c l,zfi/\(sN [Uz,iS])/\(uG (.lst ((nJ).map V.str))):=by
 induction h generalizing i with
 | nil=>ext sG
 | @cons c q' l cs qs h hl _ ih =>
  cases i with
  | zero =>
   ext Ls;exact oC c l h hl
  | succ j=>ext C0
meta def FOu (H0:Hp) (l2:Addr) (cs:gf) (i:Nat) (ys:cA) (H:Hp):Prop:=∃ L:Sh LX,(dh,zlT,L.length=i,(vg kH)=cs.take i,(zHG,dA dY (.lst ((HV).map V.str)),H0 dY=none))
meta def OutF (H0 H:Hp) (l:Addr) (cs:gf) (qs:cM):Prop:=∃ L:Sh LX,qs=L.map (λ x=>cQ)/\cs=L.map (λ x=>kH)/\∀ x∈L,(dh,H0 dY=none,dY≠l,zmM,dA dY (.lst ((HV).map V.str)))
theorem xua {H:Hp}:∀(L:Sh LX),(∀ x∈L,zmM/\(dA dY (.lst ((HV).map V.str))))->OutL H (vg kH) (L.map λ x=>cQ)
 | [],_=>.nil
 | uA,h=>.cons (h x jb).1 (h x jb).2 (xua L zUE)
inductive x13 (t:Adr) (vs:cA) (H:Hp) (Q:VK) (_:XK):Prop
 | mk (a dp do_:Addr) (w h:Nat) (ps:cJ) (ss srt:cF) (e_:yy) (r_:EE/\FX/\(zHT,OutL H' cs qs,Ry,OutF H H' l cs qs))
inductive x1j (t:Adr) (vs:cA) (H:Hp) (Q:VK) (_:XK):Prop
 | mk (a dp do_:Addr) (w h:Nat) (ps:cJ) (ss srt:cF) (e_:yy) (r_:EE/\FX/\∀ H' l cs so ho,zgJ (lm l (.lst ((Gc).map V.str))) Ry)
def xrc {α:V}{xs:cA}:cutV (α::xs) (some 1) none=xs:=by
 unfold cutV;simp[HT.sIx]
def x3e {a b:Str}:zIR:=zBK
def ok_a5 (T:cT):dB 8 t.f_a5 t.d_a5 R9 (x13 t):=by
 refine T.a5.F.okn (k:=7) sc_a5 (c7 Q E h) (cZ vs Q E hr h)
 .ext cV
 ext zlF M w';refine⟨_,xb (DS (xF "point" tt s_a5) DT yP 1)
  (gq (uX,xF "crowd" tt s_a5,x9 (pC (xl8 T) hr T.B_qb.g T.B_qb.F.kp T.B_qb.b (lC 1)),xag (CO (xas (r:=rIxL K) xa7 dU (xp) jV) (xbq (r:=rSlL K) xcg dU C8 xcm)))),?_⟩
 refine sq2 ?_; intros; ext yE dr ad;have ac:=dr.pic.len;show(vM,dx,af,dr.pic,⟨tX,rfl,af,fb,a,dp,M,w',h',ps,rfl,dr.pic,gE H1 l1 ds s1 e1 U⟩);show(eK,aj,U.len,h9 l1 e1 l2 ah);refine xbr (cN e1) qi ah zKl wI (λ i x H2 v s2 N hN=>?_) zpI
 .ext zeQ v qa I;show(cD,p,Y,ae,U.get I);exact(oQ,qa,pd,B6 (nE ae) zTj)
 have ey:ys=(Ha).map V.str:=by
  show(zpm,(by rw[ly,Za,aj]; unfold xat; rw[Za]));show(jq,p,Y,fy i y hy);unfold xat at hb;ext zbn Y
 rw[ey] at e2;have R:=s1.trans s2;refine⟨a,l2,dp,M,w',h',ps,ss,srt,Ha,rfl,(iU,dr.same R,e2,cG nm ag,ad,by unfold xat; ext cW Za ac,λ H3 l3 qs cs so ho s3 al e3 aa ak S=>?_)⟩
 .show(o9,p,Y,e,Ze.mp ag);ext dy p Y e
 show(zDi,S.outs)
 show(cB,ab,aa.len,G,R.trans s3);refine h9 l3 e3 l4 Z;refine xhg (cN e3) qi Z (FOu H l4 cs) (λ_ _=>iT 64 [] rfl rfl jC) ?_ (λ i x ys H5 v s5 el5 f5 N hN=>?_) zJw
 .rintro i ys zs H5 H6 hz k6 (⟨L,b1,b2,O,C⟩:64);refine(pW,L,b1,b2,O,cG x v);ext zeF a1 Dn;exact(ff,a1,a2,k6 _ _ a2 a3,k6 _ _ a1 a4,a5)
 .ext zeQ v qa I;show(cD,c,hc,ai,aa.get I);show(eK,D,nD ai,oQ qa Uz (wb,cN D,Eu,vX 1 (nH,qa,cN D,cG lh J)));rw[Zs,xrc];show(zoC,upd H5 lh (.lst ((nJ).map V.str)),J);ext pU u hu;generalize eu:(mw,H6,u,Uz,.ref lh)=H7;ext n8 s7 hu g7;refine oO ztW ?_;ext At L b1 b2 O C f5;refine(pW,L++[(u,lh,c)],ir b1 Zu,ir Zr b2,?_,cG x v)
  .rw [Zu,O,ZD,hc];rfl
  rcases Zy.mp v with v|v
  .ext zTP Dn;exact(ff,a1,a2,KW a3,KW a4,a5)
  rw [Zp.mp v];exact(ff,kK el5 J,kK (uF el5) hu,g7,pZ g6,(G.trans s5).free J)
 rw[Za] at f5;show(At,L,rfl,b2,O,C,f5);rw[ab,Fx] at O;have X:=xua L λ x v=>⟨ug Dn,GG Dn⟩
 show(ef,O,X,q H5 l4 (vg cQ) cs so ho (G.trans s5) (G.free Z) (ir el5 Zq) X S (gS,L,O.symm,λ x v=>(eD,Vz Dn,(Dn).1,ug Dn,GG Dn)))
def xk8 (T:cT):dB 9 t.f_qe t.d_qe R9 (x1j t):=by
 refine T.B_qe.F.okn (k:=8) xp5 (c7 Q E h) (cZ vs Q E hr h)
 .ext cV
 ext zlF J w';refine⟨_,xb (y0 1 xp5.nd (zUC "holders" zvp xia zBF dU))
  (gq (uO (yc "point" "out" 1 zvp xia) DT (pM 0) NL (RE (xu (r:=rInV K true) (xmp (xb0 hr)) yP ew jk)) yP)),?_⟩
 refine sq2 ?_; intros; ext yE dr ad;show(eK,al,dr.pic.len,⟨a,dp,J,w',h',ps,ss,srt,rfl,dr,ad,λ H1 l1 qs v so ho s1 am e1 U R _=>?_⟩);show(zDi,R.outs)
 show(eK,ab,U.len,h9 l1 e1 l2 ag);refine xbr (cN e1) qi ag (Hm,zeJ (dS v c)) wI (λ i x H2 hx s2 N hN=>?_) zpI
 .ext IH qa I;obtain⟨c,lh,hc,ah,_⟩:83:=U.get I;exact(iZ,qa,rfl,jP (nE ah),zoS)
 have ey:ys=(v.map (·.1)).map V.str:=by
  show(zpm,(by rw[ly,Za,Za,ab]));show(jq,c,hc,fy i y hy);ext zbn hc
 rw[ey] at e2;show(cB,O,s1.trans s2,aa,dr.same O);show(vM,dx,af,aa.pic,⟨tX,rfl,af,fb,a,dp,J,w',h',ps,rfl,aa.pic,gE H3 l3 ds s3 e3 S⟩);have ak:=S.len;show(cB,aj,s3 _ _ e2,L,O.trans s3);refine h9 l3 e3 l4 Z;have ac:∀{H5:Hp},Same H3 H5->Dv K H5 1 (.ref l2) (.lst ((v.map (·.1)).map DV.str)):=λ{H5} s5=>.lst (zxu aj) cy λ j x d h1 h2=>by
  rw[Zf,Zh] at h1 h2;ext jq z hz h1;ext jq z' Y h2;show(ku,hz,Y,.str)
 have X:∀ nm:Str,(((v.map (·.1)).map DV.str).any λ z=>dEq z (.str nm))=decide (nm∈v.map (·.1)):=λ nm=>by
  ext zGZ
  .ext wW d hd e;ext gu z hz hd;rw[x3e] at e;ext kC zom hz
  intro hm;exact(fT,Ze.mpr (hX hm),xcq _)
 refine xd0 (cN e3) qi Z (λ i=>((zje).map λ p=>! decide (p.nm∈v.map (·.1))).getD false) zKl wI (RT x H5 hx s5) zSo
 .ext IH qa I;show(cD,p,G,ae,S.get I);show(eK,C,nD ae,(oQ,qa,pd,B6 C ⟨0,1,pd,_,.str,ac s5,cE,cE,_,rfl,zxG⟩))
  .rw [fH,X] at y;exact oQ qa pd (B6,C,hN _ _ i6 (cK G y) (fR p G))
  rw [fH,X] at y;exact hM _ i6 (by rw[G]; exact Jx.mpr y)
 have fi:=xin (λ p:Pt=>! decide (p.nm∈v.map (·.1))) (as:=ps) (p:=λ i=>((zje).map λ p=>! decide (p.nm∈v.map (·.1))).getD false) (λ i p G=>fY G);rw[Za,ak] at ly fy;have ek:(Tj v)=(ps.filter λ p=>! decide (p.nm∈v.map (·.1))).map (·.nm):=by
  unfold xa4 xat;rw[QX];rfl
 have ai:ys=(Tj v).map V.str:=by
  rw[ek];show(zpm,UH fi.1);have hj:i<((zdl).filter λ i=>((zje).map λ p=>! decide (p.nm∈v.map (·.1))).getD false).length:=by
   show(kC,ly,oh hy)
  show(jq,p,G,fy i y _ hy (Zc hj));rw[fi.2 i _ (Zc hj)] at G;ext zbn G
 show(ef,ai,e5,q H5 l4 v so ho (L.trans s5) (L.free Z) e5 R)
theorem Run.crowd {room:iQ}{ns:cH}{so:dD}{ho:cP}{cs:gf} (r:vm) (nd:ns.Nodup):∀ c∈cs,∃ so0 ho0,Kp.Mt room so0 ho0/\Kp.Crowd room so0 jw nJ/\∀ z∈UZ,Vd:=by
 induction r with
 | nil=>exact jC
 | inn _ _ _ _ ih =>
  intro c f;ext Cv;show(hJ,so0,ho0,q,l,j,ih AY c f);ext zGD
 | @out ns so ho cs nm hs r cw rc ih =>
  intro c f;ext Cv;rcases Zy.mp f with f|f
  .obtain ⟨so0,ho0,q,l,j⟩:83:=ih AY c f;ext zGD
  rw [Zp.mp f];refine d9 so ho r.mt cw B8;rcases Zt.mp hz with rfl|hz
  .exact Z7 _ wZ
  show(AT,k,cw.has z hz,r.dom AY z,Z8);exact Z3 _ (zaV k)
inductive x3q (t:Adr) (vs:cA) (H:Hp) (Q:VK) (_:XK):Prop
 | mk (a ln dp do_:Addr) (w h:Nat) (ps:cJ) (ss srt:cF) (names:cH) (e_:zrZ) (r_:(zKJ,∀ H' v cs so ho,dI gg zTl (zfH,cs,[],∃ l c r,(j7,cs,c::r,pY l,si,lm l (.lst ((UZ).map V.str)))) G5))
theorem x0h (T:cT):dB 8 t.f_qd t.d_qd tt (x3q t):=by
 refine T.B_qd.F.okn (k:=7) xq4 (c7 Q E h) (cZ vs Q E hr h)
 .ext cV
 obtain ⟨a,M,R,u,I,h',ps,ss,srt,names,rfl,h⟩:=h;refine⟨_,xb (pS 2 xq4.nd (pC (xl8 T) hr T.B_qb.g T.B_qb.F.kp T.B_qb.b (lC 1)))
  (gq (xcp (xjy (pv 2) iN) (E9 hB) (xa5))),?_⟩
 refine sq2 ?_; intros; ext sI Z z v x y;show(dQ,⟨a,M,R,u,I,h',ps,ss,srt,names,rfl,(iU,Z,z,v,x,y,λ S X U D J N L Y O G C m=>?_)⟩,(sF,zdY O));cases G with
 | nil=>exact ifN cE (q S .non [] J N L m Uv)
 | @cons c q0 D U h r =>
  refine ifP jk (zym,X,Gs,O,q S Gs (c::D) J N L m (.inr (mR,q0,c,D,rfl,rfl,C q0 jb,h)))
meta def xf2 (f:rq) (g:Int):Bool:=match f with
 | none=>true
 | some y=>eA (g<y.1)
meta def look (own:eF) (rent:eB) (asked:cP) (a:Str) (f:rq) (x:Sa):rq :=
 (gV,(zgq).isNone&&xf2 f LB,some (LB,a,cQ),f)
meta def xhc (lens:fZ) (own:eF) (rent:eB) (asked:cP) (f:rq) (askers:cH):rq:=askers.foldl (λ f a=>(Vm).foldl (look own rent asked a) f) f
meta def near (lens:fZ) (own:eF) (rent:eB) (asked:cP) (askers:cH):rq:=xhc lens own rent asked none askers
structure Best (own:eF) (rent:eB) (asked:cP) (P:RY) (f:rq):Prop where
 is_:∀ g a s,(cu f (g,a,s))->∃ l,P a Hx/\g=l-V2-ND/\Rg
 le:∀ a x,P a x->zVl->∃ y,(cu f y)/\y.1<=LB
def Best.congr {own:eF}{rent:eB}{asked:cP}{P P':RY}{f:rq} (b:zga) (h:∀ a x,P a x↔P' a x):zcb P' f :=
 (zUu,(zNM,b.is_ g a s e,(h _ _).mp h1),b.le a x ((h _ _).mpr p))
def Best.look1 {own:eF}{rent:eB}{asked:cP}{P:RY}{f:rq} (b:zga) (a:Str) (x:Sa):znB (a'=a/\x'=x) (look own rent asked a f x):=by
 unfold look;by_cases c:((zgq).isNone&&xf2 f LB)=true
 .rw [kD];rw[Z8] at c;obtain⟨j,d⟩:=c;show(gX,λ g a' s e=>?_,λ a' x' p z=>CF)
  .cases e;show(kP,eP,.inr lQ,rfl,zpS)
  rcases p with p|⟨rfl,rfl⟩
  .show(o9,y,e,h,b.le a' x' p z);rw[e] at d;have d:LB<y.1:=by simpa [xf2] using d
   show LB<=_;lia
  exact Wk _
 rw [ja];show(gX,λ g a' s e=>(zNM,b.is_ g a' s e,.inl h1),fM a' x' p z);rcases p with p|⟨rfl,rfl⟩
 .exact b.le a' x' p z
 rw [z] at c;have c:¬ xf2 f zFV=true:=Bs
 cases f with
 | none=>ext lX c
 | some y =>
  have c:¬ zFV<y.1:=by simpa [xf2] using c
  ext wc y cm
theorem Best.row {own:eF}{rent:eB}{asked:cP} (a:Str):∀(xs:BC) {P:RY}{f:rq},zga->(znB (a'=a/\x'∈xs) (xs.foldl (look own rent asked a) f))
 | [],P,f,b=>zBc kO
 | vZ,P,f,b=>by
  refine (Best.row a xs (b.look1 a x)).congr (cG a' x');constructor
  .rintro ((h|⟨q,j⟩)|⟨q,j⟩)
   .ext eg h
   .show(fe,(sE,cK j jb))
   show(fe,(sE,Zl _ j))
  rintro (h|⟨q,j⟩)
  .ext zfO h
  rcases Zt.mp j with j|j
  .show(zfN,sE j)
  show(fe,sE j)
theorem Best.allF {lens:fZ}{own:eF}{rent:eB}{asked:cP}:∀(as:cH) {P:RY}{f:rq},zga->(znB (a'∈as/\x'∈lens a') (xhc lens own rent asked f as))
 | [],P,f,b=>zBc ro
 | a::as,P,f,b=>by
  refine (Best.allF as (b.row a Vm)).congr (cG a' x');constructor
  .rintro ((h|⟨d,j⟩)|⟨d,j⟩)
   .ext eg h
   .show(NV,cK d jb,cK d j)
   show(NV,Zl _ d,j)
  rintro (h|⟨d,j⟩)
  .ext zfO h
  rcases Gg with d|d
  .show(zfN,⟨d,hV d j⟩)
  ext NV d j
def xmf (lens:fZ) (own:eF) (rent:eB) (asked:cP) (as:cH):zcb (λ a x=>a∈as/\x∈Vm) (near lens own rent asked as) :=
 (Best.allF as (P:=zt) (f:=none) (zUu (nomatch e) p.elim)).congr λ a x=>⟨λ h=>h.elim Yu id,.inr⟩
meta def shO (own:eF) (askers:cH) (g:Int):eF:=λ z=>if z∈askers then own z+g else own z
meta def shR (rent:eB) (asked:cP) (g:Int):eB:=λ z=>(gV,(asked z).isSome,zjg-g,zjg)
meta def setI (own:eF) (nm:Str) (v:Int):eF:=λ z=>(gH,z,nm,v,own z)
meta def xav (lens:fZ):iQ:=λ n=>(C6).map (·.1)
structure xd5 (lens:fZ) (ss:cF):Prop where
 nd:∀ n,(zeE).Nodup
 b:∀ n x,x∈C6->(ur eP 46)
 ins:Pu
 snd:ss.Nodup
def xd5.one {lens:fZ}{ss:cF} (h:BR) {n:Str}{s:Seat}{l l':Int} (h1:Hx∈C6) (h2:(s,l')∈C6):l=l':=by
 have b:=h.nd n;unfold xav at b;show(CQ,m,c,ZQ h1);show(GI,f,a,ZQ h2);have:i=j:=xx9 b (i:=i) (j:=j) (js m) (js f) (by rw[JL,JL,c,a]);ext yp;show(ef,c,a,(Yn.inj a).2)
structure Fit (lens:fZ) (names:cH) (so:dD) (ho:cP) (own:eF) (rent:eB):Prop where
 mt:B0
 dm:OL
 le:∀ n∈names,zmk
 eq:zmE
 rl:ztM
 r0:zmT
 o0:∀ n∈names,0<=Hw
 ob:∀ n∈names,Hw<=1200
structure Grow (lens:fZ) (names:cH) (name:Str) (so:dD) (ho:cP) (crowd:cH) (al:cF) (asked:cP) (own:eF) (rent:eB):Prop where
 bf:PY
 le:UL zmk
 eq:zmE
 rl:ztM
 r0:zmT
 tr:zHO
 o0:(UL,0<=Hw)
 ob:zDl
section
variable {lens:Str->List (Seat × Int)}{names:List Str}{name:Str}{so:Str->Option Seat}{ho:Seat->Option Str}{crowd:List Str}{al:List Seat}{asked:Seat->Option Str}{own:Str->Int}{rent:Seat->Int}{ss:List Seat}
def Fit.grow (f:zek) (lo:BR) (nn:name∉names):Grow lens names name so ho zjC [] im (setI own name 0) rent:=by
 have ne:∀ n∈names,n≠name:=λ n j e=>nn (e▸j);have v:(yw,Nx,n∈names):=λ n s e=>by
  show(nQ,f.dm n,e);ext zrI
 refine⟨Bf.start,fM n j x z,dC n s e l hl,f.rl,f.r0,λ s a e=>(nomatch e),cG n j,λ n j _=>?_⟩
 .unfold setI;rcases Zy.mp j with j|j
  .show(eO,if_neg (ne n j),f.le n j x z)
  rw [if_pos (Zp.mp j)];show(ya,f.rl cQ,(lo.b n x z).1)
 .unfold setI;show(cW,if_neg (ne n (v n s e)),f.eq n s e l hl)
 .unfold setI;split
  .exact Wk _
  rename_i h
  rcases Zy.mp j with j|j
  .exact f.o0 n j
  exact absurd (Zp.mp j) h
 unfold setI;show(cW,if_neg (ne n j),f.ob n j)
def Bf.in_ (b:PY) (mt:B0) (dm:OL) {a:Str} (h:zwH):a∈zss:=by
 obtain⟨k,d,e⟩:=HU;rcases b.at_ mt (k:=k) (a:=a) (nu d e) with⟨_,z⟩|⟨j,s,_,_,z⟩
 .exact Z7 _ (Zp.mpr z)
 .have:=dm a;show(ef,z,this,Z3 _ (by ext zrI))
def Bf.ask (b:PY) (s:Seat):(jT kX)↔NI:=by
 constructor
 .intro h
  by_cases c:NI
  .exact c
  show(ziB,b.no s c)
 intro h;ext GI d e HU;obtain⟨k,a,_,_,f,_⟩:84:=b.ak j s (nu d e);rw[f];rfl
def Bf.asker (b:PY) {s:Seat}{a:Str} (e:uT):zwH:=by
 have h:=(b.ask s).mp ua;ext GI d f HU;obtain⟨k,l,_,i,c,_⟩:84:=b.ak j s (nu d f);ext dP e c c;exact Zn i
def Bf.both (b:PY) (mt:B0) (sn:xA) {n:Str}{s:Seat} (e:Nx):zfl↔(jT kX):=by
 rw[b.ask s];constructor
 .intro h
  obtain⟨k,l,q⟩:=HU;rcases b.at_ mt (k:=k) (a:=n) (nu l q) with⟨_,z⟩|⟨j,t,_,c,z⟩
  .ext zG z sn
  rw [e] at z;cases z;exact Zn c
 intro h;ext GI c u HU;show(cD,x,y,v,b.hd j s (fS uC u));have:=(mt.iff x s).mpr v;rw[mt.inj e this];exact Zn y
structure Gap (lens:fZ) (crowd:cH) (asked:cP) (own:eF) (rent:eB) (g:Int) (a:Str) (s:Seat):Prop where
 g0:0<=g
 ac:zwH
 rm:s∈xav lens a
 na:Rg
 eq:(zuC,Vm,V2+g+ND)
 mn:∀ b∈crowd,∀ x∈lens b,zVl->own b+g+zik<=eP
def Grow.gap (w:On) (lo:BR) (mt:B0) (dm:OL) {g:Int}{a:Str}{s:Seat} (e:zfg):Xr:=by
 have B:=zGG;obtain⟨l,⟨q,d⟩,D,A⟩:63:=B.is_ g a s e;refine(dM,?_,q,Ze.mpr (hX d),A,cG C c,dC b hb x hx z)
 .have:=w.le a (w.bf.in_ mt dm q) Hx d;have:V2+ND<=l:=this;lia
 .show(fj,lo.one d c)
 show(o9,y,u,j,B.le b x ⟨hb,hx⟩ z);ext dP e u u;have j:g<=eP-own b-zik:=j;lia
structure Mid (lens:fZ) (names:cH) (name:Str) (so:dD) (ho:cP) (crowd:cH) (asked:cP) (own:eF) (rent:eB):Prop where
 le:UL zmk
 eq:zmE
 rl:ztM
 r0:zmT
 tr:zHO
 o0:(UL,0<=Hw)
 ob:zDl
def Grow.shift (w:On) (mt:B0) (sn:xA) {g:Int}{a:Str}{s:Seat} (p:Xr):Mid lens names name so ho crowd Ed Em Bu:=by
 show(eK,H,p.g0,(dN,fM n B x C,dC n t e l hl,fL t,zwg,dC t b e l hl,cG n B,c8 n B hc))
 .have y:=w.le n B x C;unfold shO shR;by_cases c1:zfl<;>by_cases c2:jT zgq
  .rw [df c1,df c2]; lia
  .rw [df c1,Ux];show(fj,p.mn n c1 x C (by simpa using c2))
  .rw [Uy,df c2]; lia
  rw [Uy,Ux]; lia
 .show(cB,y,w.eq n t e l hl,A,w.bf.both mt sn e);unfold shO shR;by_cases c1:zfl
  .rw [df c1,if_pos (A.mp c1)]; lia
  rw [Uy,(mE,c1 (A.mpr z))]; exact y
 .have:=w.rl t;unfold shR;ext om
 .have z:¬ (jT (asked t)):=λ z=>by
   have h:=(w.bf.ask t).mp z;ext GI E G HU;show(Fo,x,D,w.bf.hd j t (nu E G));ext gm ht D
  unfold shR;show(sr,z,w.r0 t ht)
 .ext zVb
  .rename_i h
   cases e;subst h;have:=p.eq l hl;unfold shO shR;rw[df p.ac,dz (cK p.na Zv)];lia
  .have:=w.tr t b e l hl;unfold shO shR;rw[if_pos (w.bf.asker e),df ua];lia
 .have:=w.o0 n B;unfold shO;ext om
 unfold shO;show(sr,hc,w.ob n B hc)
def Grow.more (w:On) (mt:B0) (sn:xA) {g:Int}{a h:Str}{s:Seat} (p:Xr) (hh:Rx):Grow lens names name so ho LH tO Ed Em Bu:=by
 have m:=w.shift mt sn p;show(CQ,v,y,ZQ p.ac);have ns:Aw:=λ z=>by
  show(Kg,(w.bf.ask s).mpr z,p.na)
 exact⟨w.bf.add (i:=i) (nu v y) p.rm ns hh,m.le,m.eq,m.rl,m.r0,m.tr,m.o0,λ n j x=>m.ob n j λ z=>x (Z3 _ z)⟩
theorem Grow.nearest (w:On) (lo:BR) (mt:B0) (dm:OL) (sn:xA) {so2:dD}{ho2:cP} (mt2:zvI so2 ho2) (all:UL (jT (so2 n))):∃ g a s,zfg:=by
 cases e:Ig with
 | some y=>exact(dW,101,y.1,dO y,fX y,rfl)
 | none =>
  have B:=zGG;have j:zVJ (ziD,xav lens a):=λ k a ha s hs=>by
   ext gu x A hs;rw[<- w.bf.ask];cases z:zgq with
   | some _=>rfl
   | none =>
    show(fO,y,q,B.le a x ⟨Zn ha,A⟩ z);ext gm e q
  show(cD,hs,C,v,w.bf.done mt sn j);show(cB,E,v.count mt lo.snd lo.ins,D,Kp.hall mt2 lo.ins v.nd (λ a ha=>all a (w.bf.in_ mt dm (cK C ha))));rw[E,Z6] at D;lia
theorem xvz {room:iQ}{s0:Seat}{so':dD}{ho':cP} (h:Bl Bh zNe):(∀ n t,(cu,so' n,t)->(TZ t)\/zpx)/\(zrB (jT (ho' t))):=by
 have B:∀(x y:Kp.KS Str Seat),Kp.Rch Bh x y->x=zNe->(∃ b j q,(y=.hand b j asked q\/y=.fin b j)/\(∀ n t,(cu,b n,t)->(TZ t)\/zpx)/\(zrB (jT (j t)))):=by
  intro x y h
  induction h with
  | refl =>
   intro e;exact(wj,so,ho,s0,zji,λ n t z=>.inl z,λ t z=>z)
  | step _ e ih =>
   intro D;show(NX,b,j,q,C,A,w,ih D);rcases C with rfl|rfl
   .have put:∀ a,(cu,asked q,a)->(∀ n t,(cu,Kp.upd1 b a q n,t)->(TZ t)\/zpx)/\(zrB (jT (Kp.upd1 j q a t))):=λ a ha=>by
     show(AN,wB n t,t,z)
     .unfold Kp.upd1 at z;split at z
      .rename_i hn
       cases z;subst hn;ext fe ha
      exact A n t z
     unfold Kp.upd1;split
     .rfl
     exact w t z
    cases ha:asked q with
    | none=>simp[Kp.kstep,ha] at e
    | some a =>
     cases hl:b a with
     | none =>
      show(dP,Kp.k_fin ha hl,e,e);exact(dN,103,_,_,q,zW,(put a ha).1,(put a ha).2)
     | some l =>
      show(dP,Kp.k_hand ha hl,e,e);exact(dN,103,_,_,l,jF,(put a ha).1,(put a ha).2)
   simp [Kp.kstep] at e
 show(NX,b,j,q,C,A,w,B _ _ h rfl);rcases C with e|e
 .cases e
 cases e;ext cU A w
theorem Grow.last (w:On) (lo:BR) (mt:B0) (sn:xA) (dm:OL) (c12:zpR) {g:Int}{a:Str}{s:Seat} (p:Xr) (hs:Lk) {so':dD}{ho':cP} (mt':zvI so' ho') (dm':Pd (RZ||EG)) (rc:Bl zJf (.hand so ho Ed s)):Fit lens zss so' ho' Em Bu:=by
 have m:=w.shift mt sn p;obtain⟨U,T⟩:=xvz rc
 -- how far the prices of the crowd lie apart
 have v:∀(k:Nat) (b:Str),(Ti b)->(zdA b)<=(zdA name)+46*vL/\(zdA name)<=(zdA b)+46*vL:=by
  intro k
  induction k using Nat.strongRecOn with
  | ind k ih =>
   intro b Q;rcases w.bf.at_ mt Q with⟨rfl,rfl⟩|⟨j,t,rfl,hj,hso⟩
   .ext yG cm cm
   obtain ⟨L,G,kj,e1,e2,e3⟩:84:=w.bf.ak j t hj;obtain⟨i1,i2⟩:=ih L cm G e1;show(Dm,x1,B,E,mt.rm b t hso);ext Dm x2 A D e3;have J:=m.eq b t hso x1.2 (hV E B);have K:¬ t=s:=λ z=>by
    have:=(w.bf.ask t).mpr (Zn hj);rw[z,p.na] at this;cases this
   show(kZ,I,m.tr t G (by unfold Kp.upd1; ext sr K e2) x2.2 (hV D A),y1,lo.b b x1 B,y2,lo.b G x2 A);ext cU cm cm
 refine⟨mt',nY,m.le,dC n t e l hl,m.rl,zwg,m.o0,cG n C⟩
 .rw [dm' z,dm z,JD];simp only[WG,decide_eq_true_iff,Zy,Zp];exact or_comm
 .rcases U n t e with z|z
  .exact m.eq n t z l hl
  exact m.tr t n z l hl
 .refine m.r0 t ?_;cases z:ho t with
  | none=>rfl
  | some _ =>
   show(Kg,T t (fY z),ht)
 by_cases c:zfl
 .obtain ⟨k,N,Y⟩:=ZQ c;show(CQ,P,Z,ZQ p.ac);show(cB,d1,v k n (nu N Y),d2,v i a (nu P Z));show(Dm,x,H,X,p.rm);show(cB,J,m.tr s a zmq eP (hV X H),I,m.r0 s hs);show(fj,lo.b a x H)
 rcases Zy.mp C with C|C
 .exact m.ob n C c
 show(gk,(by rw[Zp.mp C]; exact Zn w.bf.c0),c)
#check _
inductive LS where
 | go (own:eF) (rent:eB) (asked:cP) (crowd:cH)
 | hand (own:eF) (rent:eB) (asked:cP) (s:Seat)
meta def xe2 (lens:fZ) (ho:cP):LS->(gc LS)
 | zKa=>match Ig with
  | none=>none
  | some (g,a,s)=>match ho s with
   | some h=>some zTZ
   | none=>some zSq
 | .hand _ _ _ _=>none
def a_go {lens:fZ}{ho:cP}{own:eF}{rent:eB}{asked:cP}{crowd:cH}{g:Int}{a h:Str}{s:Seat} (e:zfg) (e2:Rx):zWe zTZ:=by
 simp only[xe2,e,e2]
def x5m {lens:fZ}{ho:cP}{own:eF}{rent:eB}{asked:cP}{crowd:cH}{g:Int}{a:Str}{s:Seat} (e:zfg) (e2:Lk):zWe zSq:=by
 simp only[xe2,e,e2]
inductive LRun (lens:fZ):dI cH eF eB (fF dD cP)
 | nil:LRun lens [] Nn Nn im im
 | snoc {ns:cH}{own own':eF}{rent rent':eB}{so so':dD}{ho ho' asked:cP}{nm:Str}{s:Seat} (r:zak ns) (ra:zRQ (xe2 lens ho)) (rk:Bl zJf zvw) (f:Fit lens qJ so' ho' own' rent'):LRun lens qJ own' rent' so' ho'
theorem LRun.fit {lens:fZ}{ns:cH}{own:eF}{rent:eB}{so:dD}{ho:cP} (r:zak ns):zTI ns:=by
 cases r with
 | nil=>exact⟨⟨zPJ,zPz⟩,λ z=>rfl,zpJ,λ n s e=>(nomatch e),λ s=>Wk _,λ s _=>rfl,zpJ,zpJ⟩
 | snoc r ra rk f=>exact f
theorem LRun.det {lens:fZ}{l:cH}{own:eF}{rent:eB}{so:dD}{ho:cP} (r:zak l):∀{own2:eF}{rent2:eB}{so2:dD}{ho2:cP},LRun lens l own2 rent2 so2 ho2->own=own2/\(eX,rent,rent2,so=so2,ho=ho2):=by
 have j:∀{l:cH}{own:eF}{rent:eB}{so:dD}{ho:cP},(zak l)->(cR,l=[],own=Nn,rent=Nn,so=im,ho=im)\/∃ ns nm own0 rent0 so0 ho0 asked s,(j7,l,qJ,LRun lens ns own0 rent0 so0 ho0,zQv (xe2 lens ho0) own0 rent0 own rent,Kp.Rch (Kp.kstep (xav lens) so0 ho0) (zfT so0 ho0) (.fin so ho)):=λ r=>by
  cases r with
  | nil=>show(eg,UY rfl rfl rfl)
  | snoc r ra rk f=>show(fe,UV r ra rk)
 induction r with
 | nil =>
  ext zSa;rcases j r2 with⟨_,rfl,rfl,rfl,rfl⟩|⟨ns,nm,_,_,_,_,_,_,e,_⟩
  .exact zpF
  ext sG
 | @snoc ns own own' rent rent' so so' ho ho' asked nm s r ra rk f ih =>
  ext zSa;rcases j r2 with⟨e,_⟩|⟨ns2,nm2,own0,rent0,so0,ho0,asked0,s0,e,r0,ra0,rk0⟩
  .ext sG
  ext zTJ u;subst u;show(tG,rfl,rfl,rfl,rfl,ih r0);have w:=ra.det rfl ra0 rfl;cases w;have v:=rk.det rfl rk0 rfl;cases v;exact zpF
def xhr {Z:L2.St}{H:Hp}{K:CB} (h:K [] H):tNil Z H K:=h
def xkv {k m:Str}{v:V}{r:o8} (e:V4 m k):(cu,Jw m zyE,v):=by
 rw[ZA,e]
def xdk {k m:Str}{v:V}{r:o8}{o:eV} (e:ou m k) (h:Jw m r=o):Jw m zyE=o:=by
 ext fK ZA e h
meta abbrev pzF (a dl d_o d_r p:Addr):o8:=[zXN,oP "lengths" dl,oP "own" d_o,oP "rent" d_r,oP "seating" p]
def lkZp {a dl d_o d_r p:Addr}:(D8).lookup (gU "picture")=iH:=xkv c9
def lkZl {a dl d_o d_r p:Addr}:(D8).lookup (gU "lengths")=(cX dl):=xdk c9 (xkv c9)
def lkZo {a dl d_o d_r p:Addr}:(D8).lookup (gU "own")=(cX d_o):=zmp
def lkZr {a dl d_o d_r p:Addr}:(D8).lookup (gU "rent")=(cX d_r):=xdk c9 zmp
def lkZs {a dl d_o d_r p:Addr}:(D8).lookup (gU "seating")=(cX p):=xdk c9 (xdk c9 zmp)
def xh1 {a dl d_o d_r p:Addr}{m:Str} (e:((["picture", "lengths", "own", "rent", "seating"]:cH).all λ k=>zwh)=true):(D8).lookup m=none:=by
 ext zls;obtain⟨h,f,d,c,b,_⟩:46:=e;exact xdk h (xdk f (xdk d (xdk c (xdk b rfl))))
theorem valM {α κ:Type} [wL] {k:α->κ} (inj:XJ) {f:N5}{a:α}:(VA,a∈l->zEn=some (f a))
 | x::l,h=>by
  by_cases c:k x=k a
  .rw [Zs,xbt c,inj _ _ c]
  rw [Zs,xbg c];rcases Gk with rfl|h
  .ext lX c
  exact valM inj h
theorem xgn {α κ:Type} [wL] {k:α->κ} (inj:XJ) {f:N5}{a:α}:(VA,a∉l->zEn=none)
 | [],_=>rfl
 | x::l,h=>by
  rw[Zt,not_or] at h;rw[Zs,xbg (λ c=>h.1 (inj _ _ c).symm)];exact xgn inj lE
def putM {α κ:Type} [wL] [Et] {k:α->κ} (inj:XJ) {f:N5}{a:α}{l:eI} (h:a∈l) (v:V):putK zKQ (k a) v=l.map λ n=>(k n,(gH,n,a,v,f n)):=by
 unfold putK;have e:((zKQ).any λ kv=>eA (oM=k a))=true:=JW.mpr (cC,(k a,f a),UE a h,zoF);rw[AB,Zq];refine ZF λ n _=>?_;show (if k n=k a then (k n,v) else (k n,f n))=_;by_cases c:n=a
 .rw [CT c,kD]
 rw [(mE,c (inj _ _ z)),ja]
def inrI (a b:Str) (h:zoZ):mx:=Jk.inj h
def xe7 (a b:Seat) (h:xad a=xad b):mx:=xh3 h
meta def OwD (H:Hp) (d:Addr) (names:cH) (own:eF):Prop:=dA d (.dK (names.map λ n=>((.inr n:Key),V.int (own n))))
meta def RnD (H:Hp) (d:Addr) (ss:cF) (rent:eB):Prop:=dA d (.dT (ss.map λ s=>(jK,V.int (rent s))))
meta def AkD (H:Hp) (d:Addr) (al:cF) (asked:cP):Prop:=dA d (IX,lA jK ((kX).getD (Zg "")))
meta def LnT (xs:BC):fP:=xs.map λ x=>(xad cQ,V.int eP)
meta def LnD (H:Hp) (d:Addr) (bad:cM) (names:cH) (lens:fZ):Prop:=∃ kvs:dR,U6/\kvs.length<=names.length/\∀ nm∈names,∃ q,(eX,Gr,Nw,H q=some (.dT (LnT (lens nm))),q∉bad)
structure Pz (t:Adr) (H:Hp) (pz a dl d_o d_r p d1 d2:Addr) (n:Nat) (names:cH) (ss:cF) (lens:fZ) (so:dD) (ho:cP) (own:eF) (rent:eB):Prop where
 ins:∃ dx,dA pz (we t.C_c D8)
 sg:Mi
 ow:OwD H d_o names own
 rn:RnD H d_r ss rent
 ln:LnD H dl [d_r,d2] names lens
 n1:d_r≠d2
 n2:d_o≠d1
 n3:d_o≠dl
 n4:dl≠d1
def Pz.same {t:Adr}{H H':Hp}{pz a dl d_o d_r p d1 d2:Addr}{n:Nat}{names:cH}{ss:cF}{lens:fZ}{so:dD}{ho:cP}{own:eF}{rent:eB} (z:sX) (s:gg):zpP :=
 (zbm,let ⟨dx,e⟩:=z.ins; Hk xS,z.sg.same s,s _ _ z.ow,s _ _ z.rn,let ⟨kvs,e,l,f⟩:=z.ln; (eE,kvs,xS,l,λ nm h=>let ⟨q,e1,e2,e3⟩:=f nm h; (eE,q,e1,s _ _ e2,e3)))
meta def FndV (H:Hp) (v:V) (f:rq):Prop:=(zfH,f,none,∃(g:Int) (a:Str) (s:Seat) (q qs:Addr),dh (Vq f a) (pY q) (sN [.int g,Vj,.ref qs]) (Bx qs s))
def FndV.tp {H H':Hp}{v:V}{f:rq} (h:FndV H v f) (t:pb):FndV H' v f:=by
 rcases h with h|⟨g,a,s,q,b,o,m,j,d⟩
 .ext eg h
 show(fe,(fJ g a s q (pW,b,o,m,t _ _ j,t _ _ d)))
theorem AkD.get {H:Hp}{d:Addr}{al:cF}{asked:cP} (h:zpw) (ask:wG) {b:Addr}{s:Seat} (hb:Bx b s):zgN ((kX).map V.str):=by
 have g:=F8 jK h hb;cases e:kX with
 | none =>
  show(ef,xgn xe7 (λ z=>zGp),g,g)
 | some x =>
  rw[valM xe7 ((ask s).mp ua),e] at g;exact g
def OwD.get {H:Hp}{d:Addr}{names:cH}{own:eF} (h:OwD H d names own) {x:Str} (hx:x∈names):DGet H d kE (some (.int (own x))):=by
 have g:=tE AA h;show(ef,valM inrI hx,g,g)
def RnD.get {H:Hp}{d:Addr}{ss:cF}{rent:eB} (h:RnD H d ss rent) {s:Seat} (hs:ue) {b:Addr} (hb:Bx b s):zgN (some (.int (rent s))):=by
 have g:=F8 jK h hb;show(ef,valM xe7 hs,g,g)
inductive xlu (t:Adr) (vs:cA) (H:Hp) (Q:VK) (_:XK):Prop
 | mk (pz la da a dl d_o d_r p d1 d2:Addr) (n:Nat) (names crowd:cH) (ss al:cF) (lens:fZ) (so:dD) (ho asked:cP) (own:eF) (rent:eB) (e_:zSl) (r_:dh sX Ib IQ (cR wG LD Pu zka zKO))
def xrj {t:Adr}{H:Hp}{Q E}{pz la da a dl d_o d_r p d1 d2:Addr}{n:Nat}{names crowd:cH}{ss al:cF}{lens:fZ}{so:dD}{ho asked:cP}{own:eF}{rent:eB} (hh:sX/\Ib/\IQ/\wG/\LD/\Pu /\
 zka/\zKO):xlu t (Cq CI la da) H Q E:=⟨pz,la,da,a,dl,d_o,d_r,p,d1,d2,n,names,crowd,ss,al,lens,so,ho,asked,own,rent,rfl,hh⟩
def ok_x (T:cT):dB 1 t.f_x t.d_x Iw (xlu t):=by
 refine T.B_x.F.okn (k:=0) sc_x (c7 Q E h) (cZ vs Q E hr h)
 .ext cV
 obtain ⟨pz,la,da,a,dl,ah,ac,p,d1,d2,n,names,crowd,ss,al,D,so,ho,asked,G,C,rfl,h⟩:=h;refine⟨_,xb (pS 3 sc_x.nd (xa5))
  (xb (xaz Z4 rfl (x9 (pv 1)) (pN 4 sc_x.nd) (xk (xqd (xaz Z4 rfl (xui (tU eZ h8)) (oE (mC 5 sc_x.nd 6 sc_x.nd)) (xb (pS 7 sc_x.nd (x0 xcy (x0 xcy jL (tU eZ h8)) (tU eZ jt)))
  (rO (PW.pt (xf3 (xd7 (xge pH jt (pv 2))) (xfn (PW.pt (xch (zxz gM) (xb4 (NS pV (BY gM)))))))) (xk (pS 3 sc_x.nd (xag (qR 7 4 5))))))))))
  Nf),?_⟩
 refine sq3 ?_; intros; obtain⟨z,aj,av,ask,ax,ao,⟨aq,q⟩⟩:47:=h;refine lH la aj;refine (zbZ,Kk,λ i Z H1=>∃(I:V) (v4 U S R:eV),(M0,zaX I v4 U S R,H1,FndV H1 I (zbl EO)),?_,?_)
 .exact (AI,gS _ i6 Uv)
 .rintro i Z H1 _ (⟨_,_,_,_,⟨_,rfl,s1,_⟩⟩:121);show(qS,s1 _ _ aj)
 .rintro i x Z H1 hx (⟨I,v4,U,S,⟨R,rfl,s1,fv⟩⟩:121);ext rB b hb;show(cB,bin,ax b (Zn hb),z1,z.same s1);obtain⟨dx,ag⟩:=z1.ins;obtain⟨kvs,ak,_,f⟩:63:=(z1.ln)
  show(dG,L,hv,af,ad,f b bin);show(fV,dg,(tE,.inr b,ak),hv,dg);refine K7 ag T.n_bx lkZl (eT,dl,.ref L,rfl,dg,L,_,rfl,af,cG ob nf);rw[Zt,not_or] at ad;have nr:ac≠L:=Z2 ad.1;have nd:da≠L:=Z2 (aq b bin L ⟨kvs,by
   show(fO,k0,e0,z.ln)
   have:=s1 _ _ e0;ext ku ak this e0,hv⟩)
  have M:∀{c:Addr}{u:HO},(cu,H1 c,u)->(∀ k,u≠.dT k)->c≠L:=λ{c u} e n1=>xeo e af (n1 _);refine xrr (Pv:=λ j Z H3=>∃(I:V) (U S R:eV),(j7,Z,zaX I zjw U S R,(ki L (cu,H1 c,u) (cu,H3 c,u)),(cu,H3 L,zmb),FndV H3 I (((D b).take j).foldl (look G C asked b) (zbl EO)))) ?_ ?_ ?_ ?_
  .refine (RG,_,zf,xj,fv.tp (iX c xs));show(mq,xi (M e jC))
  .rintro j Z H3 _ (⟨_,_,_,_,rfl,_,e3,_⟩:124);exact e3
  .rintro j k x qk pa Z H3 hk as au (⟨I,U,S,R,rfl,k3,e3,ab⟩:124);unfold LnT at hk;rw[Zf,Zh] at hk;ext cD y hy ar hk;cases ar;generalize eu:(tH,H3,pa,.ref qk,y.2)=J;ext n8 s4 au g4;show(eY,X,(cu,J qk,.tup (xba y.1)),pX as,ai,y∈D b,Zn hy,k4,zFl,(FQ,pX (k3 c u nc e)));have ae:=k4 _ _ (M ag jC) ag;show(eY,ap,OwD J ah names G,k4 _ _ (M z1.ow jC) z1.ow,am,RnD J ac ss C,k4 _ _ nr z1.rn,ay,AkD J da al asked,k4 _ _ nd (s1 _ _ av));show(kZ,aa,ab.tp (Same.tups s4),e4,pX e3,aw,am.get (ao b y.1 (Ze.mpr (fR y ai))) X);show(ui,pa,g4,zva ae ⟨ah,_,rfl,ap.get bin,pz,_,dx,_,_,rfl,ae,T.c_c,T.n_b0,lkZr,ac,_,rfl,aw,?_⟩);have tk:(D b).take jQ=(D b).take j++[y]:=by
    rw[ZD,hy];rfl
   rw[tk,Yc];generalize ((D b).take j).foldl (look G C asked b) (zbl EO)=f0 at aa;show _;refine(RW,da,ay.get ask X,Lx c1 c1)
   .have an:asked y.1=none:=by
     cases ea:zue with
     | none=>rfl
     | some w=>ext gm ea c1
    have stay:xf2 f0 OU=false->(zHk,(zaX,I,zjw,cX qk,d0 y.2,d0 OU),zFl,(cu,J L,zmb),FndV J v3' ([y].foldl (look G C asked b) f0)):=λ hb=>by
     refine zUg;ext zQZ;show(sr,nT hb,aa)
    have move:xf2 f0 OU=true->∀ O,J O=none->(zHk,[zij,cX la,cX da,Vo,zjw,cX qk,d0 y.2,d0 OU],(ki L (cu,H1 c,u) (sA J O (.tup zal))),oa J O (.tup zal) L zmb,FndV (iP J O zal) v3' ([y].foldl (look G C asked b) f0)):=λ hb O Y=>by
     show(dZ,s5,Same J (iP J O zal),ge Y,(zwU,.ref O,(FQ,nD (k4 c u nc e)),nD e4,?_));show FndV _ _ zMv;unfold look;rw[df (ir hb an)];exact .inr (fJ _ _ _ O (AR,qk,rfl,xj,nD X))
    rcases aa with⟨rfl,rfl⟩|⟨g0,a0,s0,q0,qs0,rfl,rfl,hq0,hqs0⟩
    .refine (qM,ifP rfl (ifP rfl ?_));show(cU,Cb,λ O Y=>move rfl O Y)
    refine Ny (hD zFG);refine(oQ,q0,.int g0,(B6,hq0,VT c2))
    .show(yG,Cb,λ O Y=>move c2 O Y)
    exact stay (Jx.mpr c2)
   refine zUg;ext zQZ;have an:(zue).isNone=false:=by
    cases ea:zue with
    | none=>rw[ea] at c1; ext lX c1
    | some w=>rfl
   show(sr,nT an,aa)
  rintro Z H3 (⟨I,U,S,R,rfl,k3,e3,ab⟩:124);refine(wj,L,ob,_,e3,nf,lY I _ (gS,_,iX c u,?_))
  .have e1:=FZ;by_cases c1:c=L
   .subst c1;ext ku af e1 xj
   show(ww,c1,k3 c u c1 e1)
  show(Hd,hl,LnT (D b),(D b).length,Za _);rw[hl,ZY] at ab;rw[ZD,hb];show FndV _ _ (zbl (EO++[b]));unfold xhc;rw[Yc];refine FndV.tp (H:=H3) ab (iX c xs);show(mq,tW e e3)
 rintro Z H1 (⟨I,v4,U,S,⟨R,rfl,s1,fv⟩⟩:121);ext oS ZY fv;exact (q H1 I s1 fv)
def xxp {own:eF}{as:cH}{b:Str}{g:Int} (nb:b∉as):shO own (as++[b]) g=λ n=>(gH,n,b,shO own as g b+g,shO own as g n):=by
 funext n;unfold shO;by_cases c:n=b
 .ext zNQ
 ext zWA
 .ext zWo
 rw [mE ?_,dz d];rcases Gi with z|z
 .exact d z
 exact c (Zp.mp z)
meta def shS (rent:eB) (as:cF) (g:Int):eB:=λ z=>if z∈as then zjg-g else zjg
def xwz {rent:eB}{as:cF}{b:Seat}{g:Int} (nb:b∉as):shS rent (as++[b]) g=λ n=>(gH,n,b,shS rent as g b-g,shS rent as g n):=by
 funext n;unfold shS;by_cases c:n=b
 .ext zNQ
 ext zWA
 .ext zWo
 rw [mE ?_,dz d];rcases Gi with z|z
 .exact d z
 exact c (Zp.mp z)
def xz1 {rent:eB}{al:cF}{asked:cP}{g:Int} (ask:wG):shS rent al g=Bu:=by
 funext z;unfold shS shR;by_cases c:z∈al
 .rw [kD,if_pos ((ask z).mpr c)]
 rw [ja,(E6,c ((ask z).mp y))]
def x4k {own:eF}{g:Int}:shO own [] g=own:=by
 funext z;unfold shO;rw[(E6,nomatch y)]
def x5e {rent:eB}{g:Int}:shS rent [] g=rent:=by
 funext z;unfold shS;rw[(E6,nomatch y)]
section
variable {t:Adr}{H H':Hp}{pz a dl d_o d_r p d1 d2:Addr}{n:Nat}{names:List Str}{ss:List Seat}{lens:Str->List (Seat × Int)}{so:Str->Option Seat}{ho:Seat->Option Str}{own own':Str->Int}{rent rent':Seat->Int}
def Pz.move (z:sX) (k:zQs) (ow':OwD H' d_o names own') (rn':RnD H' d_r ss rent'):Ot H' own' rent':=by
 show(cB,o,z.ow,r,z.rn);unfold OwD at o;unfold RnD at r;have tp:pb:=(GM,k _ _ (nB o) (nB r) e);show(hI,N,b,z.ins,A,x,z.sg.ins);show(tL,I,j,L,z.sg.so,G,f,K,z.sg.ho)
 show(ld,E,d,D,J,z.ln,⟨⟨N,k _ _ (ne_f b o) (ne_f b r) b⟩,(NW,A,k _ _ (ne_f x o) (ne_f x r) x,SoD.keep (cC I j L) tp (j9,k _ _ (Z2 z.n2) (ne_f j r) e),(zfL,cC G f K,k _ _ (ne_f f o) (Z2 z.n1) e)),ow',rn',(zfG,E,k _ _ (Z2 z.n3) (ne_f d r) d,D),z.n1,z.n2,z.n3,z.n4⟩);show(dG,q,M,C,B,J nm h);show(kP,q,M,k _ _ (ne_f C o) (λ y=>B (cK y jb)) C,B)
#check _
meta def xgb (H:Hp) (dl da:Addr) (names:cH):Prop:=zka
inductive xp6 (t:Adr) (vs:cA) (H:Hp) (Q:VK) (_:XK):Prop
 | mk (pz la da a dl d_o d_r p d1 d2:Addr) (n:Nat) (names crowd:cH) (ss al:cF) (lens:fZ) (so:dD) (ho asked:cP) (own:eF) (rent:eB) (g:Int) (e_:vs=[CI,.ref la,.ref da,.int g]) (r_:dh sX Ib IQ (ma wG LD crowd.Nodup al.Nodup zcD ED Bt zgf zGu))
def xw3 {t:Adr}{H:Hp}{Q E}{pz la da a dl d_o d_r p d1 d2:Addr}{n:Nat}{names crowd:cH}{ss al:cF}{lens:fZ}{so:dD}{ho asked:cP}{own:eF}{rent:eB}{g:Int} (h:sX/\Ib/\IQ/\wG/\LD/\crowd.Nodup/\al.Nodup/\zcD/\ED/\Bt/\zgf /\
 zGu):xp6 t [CI,.ref la,.ref da,.int g] H Q E:=⟨pz,la,da,a,dl,d_o,d_r,p,d1,d2,n,names,crowd,ss,al,lens,so,ho,asked,own,rent,g,rfl,h⟩
inductive xxz (t:Adr) (vs:cA) (H:Hp) (Q:VK) (_:XK):Prop
 | mk (pz la da a dl d_o d_r p d1 d2:Addr) (n:Nat) (names crowd:cH) (ss al:cF) (lens:fZ) (so:dD) (ho asked:cP) (own:eF) (rent:eB) (g:Int) (b:Str) (s:Seat) (e_:zSl) (r_:ma sX Ib IQ wG LD crowd.Nodup al.Nodup zcD (ma,ED,Bt,zgf,Pu,zoY,da≠d2,Vq Ig b,Aw,zAd))
def xs9 {t:Adr}{H:Hp}{Q E}{pz la da a dl d_o d_r p d1 d2:Addr}{n:Nat}{names crowd:cH}{ss al:cF}{lens:fZ}{so:dD}{ho asked:cP}{own:eF}{rent:eB}{g:Int}{b:Str}{s:Seat} (hh:sX/\Ib/\IQ/\wG/\LD/\crowd.Nodup/\al.Nodup/\zcD/\ED/\Bt/\zgf/\Pu/\zoY/\da≠d2/\(Vq Ig b)/\Aw /\
 zAd):xxz t (Cq CI la da) H Q E:=⟨pz,la,da,a,dl,d_o,d_r,p,d1,d2,n,names,crowd,ss,al,lens,so,ho,asked,own,rent,g,b,s,rfl,hh⟩
def AkD.add {H:Hp}{d:Addr}{al:cF}{asked:cP} (h:zpw) {s:Seat}{b:Str} (ns:Aw):(cu,upd H d (.dT (putK (SS,lA jK ((kX).getD (Zg ""))) jK (.str b))) d,(.dT ((tO).map λ z=>(lA,xad z,(zoa).getD (Zg ""))))):=by
 rw[xj,xdh _ (xgn xe7 ns),Zu]
 congr 2
 have c:(SS,lA jK ((kX).getD (Zg "")))=al.map λ z=>(lA,xad z,(zoa).getD (Zg "")):=ZF λz hz=>by
  unfold Kp.upd1;rw[dz (λ y:z=s=>ns (hV y hz))]
 rw[c]
 ext iJ
 show [(jK,V.str b)]=[lA jK ((Kp.upd1 asked s b s).getD (Zg ""))]
 unfold Kp.upd1;rw[fH];rfl
def ok_o (T:cT):dB 1 t.f_o t.d_o zkP (xp6 t):=by
 refine T.o.F.okn (k:=0) sc_o (c7 Q E h) (cZ vs Q E hr h)
 .ext cV
 obtain ⟨pz,la,G,a,dl,l,C,p,d1,d2,n,names,crowd,ss,al,aj,so,ho,asked,R,I,g,rfl,h⟩:=h;refine⟨_,xb (nO 1 (pN 4 sc_o.nd) (zNO h8 x21))
  (xk (xqd (qO (xw5 (pv 2)) (pN 5 sc_o.nd) (zNO jt x2k)))),?_⟩
 refine sq2 ?_; intros; ext ztz; obtain⟨z,ad,X,ask,av,au,⟨am,aw,ax,ay,ac,q⟩⟩:47:=h;show(Df,N,z.ow,aa,z.rn,an,zMc,λ h=>Jp h cE,lH la ad);show(cI,ar,la≠l,ne_f ad N,ai,G≠l,ne_f X N);obtain⟨dx,O⟩:=z.ins;show(eY,ag,pz≠l,ne_f O N,ap,pz≠C,ne_f O aa,af,C≠l,ne_f aa N)
 show(zMb,∃(v4 v5:eV),(eX,Z,zFw,(ki l Cn (cu,Y c,u)),OwD Y l names (shO R EO g)))
 show(wE,Kk,?_)
 .exact (nH,_,zsG,tP WU x4k N)
 .rintro i Z Y _ (⟨_,_,rfl,k1,_⟩:83);show(qS,k1 _ _ ar ad)
 .rintro i x Z Y hx (⟨v4,v5,rfl,k1,M⟩:83);ext rB b hb;have bin:=av b (Zn hb);have nb:b∉EO:=λ zz=>by
   show(mL,hi,Zk.mp hb);have:=xde id (ps:=crowd) (cK JQ au) hi b zz;exact this e.symm
  show(dQ,(zva,k1 _ _ ag O,(sO,M.get bin,zWd (M3,.inr b,M,zMt))),zgK (gs,nc,k1 c u nc e));rw[ZD,hb];show OwD _ l names (shO R (EO++[b]) g);rw[xxp nb];unfold OwD;show(zGo,putM inrI bin,b)
  .rw [kD,kD]
  rw [ja,ja]
 rintro Z Y (⟨v4,v5,rfl,k1,M⟩:83);ext oS ZY M;show(ia,ak,(cu,Y G,(IX,lA jK ((kX).getD (Zg "")))),k1 _ _ ai X,ao,RnD Y C ss I,k1 _ _ af aa,⟨83,G,_,rfl,ak,cG ob nf⟩);show(cI,aq,pz≠G,ne_f O X,ah,l≠G,Z2 ai)
 let Pv (j:Nat) (Z:L2.St) (J:Hp):Prop:=∃(v5:eV),(cR,Z=zFw,(∀ c u,(zvv,l,C,c≠G,(cu,J c,u))),(cu,J G,(.frz ob (IX,lA jK ((kX).getD (Zg ""))))),OwD J l names (shO R crowd g),RnD J C ss (shS I zwL g))
 refine xu0 (Pv:=Pv) ?_ ?_ ?_ ?_
 .refine (zGE,n3,k1 c u n1 e,xj)
  .show upd Y G _ l=_;ext oI ah M
  rw [WU,x5e];show upd Y G _ C=_;ext Dq ac ao
 .rintro j Z J _ (⟨_,rfl,_,e2,_⟩:64);exact e2
 .rintro j k x qk Z J hk U (⟨v5,rfl,k2,e2,ab,L⟩:65);rw[Zf,Zh] at hk;ext cD s hs as hk;cases as;have U:(cu,J qk,zdu):=U;have ae:=aw s (Zn hs);have nb:s∉zwL:=λ zz=>by
   show(mL,hi,Zk.mp hs);have:=xde id (ps:=al) (cK JQ am) hi s zz;exact this e.symm
  show(dQ,(K7,k2 _ _ ag ap aq O,T.n_b0,lkZr,(nH,C,L.get ae U,(zWd,VG jK L U zMt))),(zGE,n2,k2 c u n1 n2 n3 e,gs ac e2))
  .show upd J C _ l=_;ext Dq af ab
  rw [ZD,hs];show RnD _ C ss (shS I (zwL++[s]) g);rw[xwz nb];unfold RnD;show(zGo,putM xe7 ae,s)
  .rw [kD,kD]
  rw [ja,ja]
 rintro Z J (⟨v5,rfl,k2,e2,ab,L⟩:65);rw[Za,ZY,xz1 ask] at L;refine wj G ob _ e2 nf ?_;have fr:II l C Cn (sA J G (IX,lA jK ((kX).getD (Zg "")))):=λc u n1 n2 e=>by
  by_cases c1:c=G
  .subst c1;ext ku X e xj
  show(ww,c1,k2 c u n1 n2 c1 e)
 refine q _ fr (z.move fr ?_ ?_)
 .show upd J G _ l=_;ext oI ah ab
 show upd J G _ C=_;ext Dq ac L
theorem ok_ae (T:cT):dB 2 t.f_ae t.d_ae Iw (xxz t):=by
 refine T.ae.F.okn (k:=1) sc_ae (c7 Q E h) (cZ vs Q E hr h)
 .ext cV
 obtain ⟨pz,la,J,a,dl,am,ak,p,d1,d2,n,names,crowd,ss,al,ae,so,ho,asked,as,aa,g,b,s0,rfl,h⟩:=h;refine⟨_,xb (xbk (iD dU T.c_c T.B_x.m (ok_x T) eG T.B_x.b Cj) (xai rfl (xo (pN 3 sc_ae.nd) (xo (pN 4 sc_ae.nd) (xo (pN 5 sc_ae.nd) (xac))))))
  (xb (xap (iD dU T.c_c T.o.m (ok_o T) eG T.o.b zuY))
  (xb (vq hB jt h8)
  (w6 5))),?_⟩
 refine sq4 ?_; intros; obtain⟨z,ai,X,ask,an,a0,⟨O,ao,Z,aw,R,ar,ad,au,nr,av,q⟩⟩:47:=h;show(TD,dx,af,z.ins,zbY dx af);ext T5;refine xrj (yr,z,ai,X,ask,an,ar,ad,fM H1 v L fv);rw[nr] at fv;rcases fv with⟨e,_⟩|⟨g',b',s',q1,qs,e,rfl,hq1,hqs⟩
 .cases e
 cases e;show(ui,q1,hq1,(zbY,dx,L _ _ af));ext T5;refine xw3 (ib,z.same L,L _ _ ai,L _ _ X,ask,an,a0,(iU,O,ao,Z,aw,R,c8 Y k2 C));show(cB,ac,L _ _ z.ow,aq,L _ _ z.rn);show(yF,N,VU J (IX,lA jK ((kX).getD (Zg ""))),L _ _ X,I,AkD Y J al asked,k2 _ _ (ne_f N ac) R N,G,k2 _ _ (ne_f hqs ac) (ne_f hqs aq) hqs);show(dZ,a1,al.length<=32,Z1 (xj7 O ao) Z,(AZ,J,VG ziW I G qi));have j:(cu,Y J,(IX,lA jK ((kX).getD (Zg "")))):=I;have fr:(II,am,ak,c≠J,Cn->(sA Y J (.dT (putK (SS,lA jK ((kX).getD (Zg ""))) ziW (.str b))))):=λ c u n1 n2 n3 e=>by
  show(oI,n3,k2 c u n1 n2 (L _ _ e))
 refine q _ qs fr (cK,tW G j,G) ?_ (I.add av)
 -- the dict of those who asked is none of the prices'
 have y:ki J (cu,Y c,u) (sA Y J (.dT (putK (SS,lA jK ((kX).getD (Zg ""))) ziW (.str b)))):=λ c u n3 e=>by
  show(mq,xi n3)
 show(hI,az,M,C.ins,ay,ag,C.sg.ins);show(tL,m1,ah,f1,C.sg.so,m2,ax,f2,C.sg.ho)
 show(dG,ml,S,ll,fl,C.ln)
 show(Df,ab,C.ow,ap,C.rn,tp,Tups Y (j3 Y J (putK (SS,lA jK ((kX).getD (Zg ""))) ziW (.str b))),(GM,y _ _ (nB j) e),(eT,⟨az,zeH M⟩,(NW,ay,zeH ag,SoD.keep (cC m1 ah f1) tp (j9,y _ _ (ne_f ah j) e),(zfL,cC m2 ax f2,y _ _ (Z2 au) e)),zeH ab,y _ _ (Z2 R) ap,(zfG,ml,zeH S,ll),C.n1,C.n2,C.n3,C.n4));show(ld,qq,e1,e2,e3,fl nm h,(eE,qq,e1,y _ _ ?_ e2,e3));show(fO,k0,U,z.ln)
 have aj:=k2 _ _ (Z2 z.n3) (ne_f U z.rn) (L _ _ U);ext dP S aj aj;exact ad nm h qq (cC ml U e1)
meta def xaa (w:Nat) (ps:cJ) (srt:cF) (nm:Str):BC:=match zaf nm with
 | some p=>(zaM).map λ s=>(s,IB)
 | none=>[]
theorem xhf {w:Nat}{ps:cJ}{srt:cF}:xav o7=zI:=by
 funext nm;unfold xav xaa xa6;cases zaf nm with
 | none=>rfl
 | some p =>
  show Wb _ (Wb _ _)=_;rw[Zq];exact JQ _
def xqy {w h:Nat}{ps:cJ}{ss srt:cF} (w30:jJ) (h16:j8) (pok:vb) (sok:LE) (pm:R4):xd5 o7 srt:=by
 show(dZ,q,srt.Nodup,pm.nodup_iff.mpr sok.1,(du,fL n,c8 n x hx,c8 n s hs,q))
 .rw [xhf];unfold xa6;split
  .exact JZ.filter _ q
  exact Y3
 .unfold xaa at hx;split at hx
  .rename_i p hf
   ext gu s hs hx;show(cB,b,pok.ok p (ZR hf),j,sok.2.2 s (pm.mem_iff.mp zsX));have:=b.x1;have:=b.x2;have:=b.y1;have:=b.y2;have:=j.1;have:=j.2;show ur IB 46;unfold lenI;ext zcL
  exact nomatch hx
 rw [xhf] at hs;unfold xa6 at hs;split at hs
 .exact zsX
 ext zxv
theorem xk7 {d:Addr}:∀(L:NM Sa) {H:Hp}{kvs:fP},M9->zMT->(L.map (·.2.1)).Nodup->(∀ x∈L,(zvY dY)=none)->zPU ->
    ∃ H2,(zuH zOr)/\H2 d=some (.dT (kvs++LnT (L.map (·.2))))/\zKs
  | [],H,kvs,e,_,_,_,_=>(eE,H,.nil,by rw[e]; simp[LnT],EK)
  | uA,H,kvs,e,f,nd,nv,hn=>by
    rw[Z6] at hn;ext Fj;have C:=f x jb;have up:o4 d qK (cu,upd H d (.dT zmF) b,u):=λ b u j q=>by
      ext oI j q
    have put:DPut H d (.ref cQ) (.int kH) (j3 H d zmF):=by
      show(zeO,DPut.t (k:=xad dY) (v:=.int kH) e C GZ,zUj)
    obtain⟨H2,w,D,B⟩:63:=xk7 L (H:=j3 H d zmF) xj (HI,up _ _ (ne_f (f y (Zl _ hy)) e) (f y (Zl _ hy))) lB (λy hy=>by
      have A:¬ xad (dO y)=xad dY:=λ z=>nd.1 (zpO,xe7 _ _ z,fR y hy);have z:=xcx kvs (xad dY) (xad (dO y)) (.int kH);rw[zUj,dz A,nv y (Zl _ hy)] at z;ext gD) PJ
    refine(eE,H2,.cons put w,?_,λ b u j q=>B _ _ j (up _ _ j q));rw[D,JG];rfl
theorem xjr {H:Hp}:∀{tgt:BC}{ys:cA},(vC tgt.length)->(IR (zkg tgt)) ->
    ∃(ps:KF) (L:NM Sa),ys=ps.map (λ p=>zhZ)/\zsm/\ps.map (·.2)=(vg zOr)/\L.map (·.2)=tgt/\zMT
  | [],[],_,_=>m8 [] [] rfl zbx rfl rfl zbx
  | [],fh,h,_=>ij
  | fh,[],h,_=>ij
  | x::tgt,pK,h,f=>by
    obtain⟨q,qs,s,l,rfl,j,d,c⟩:124:=f 0 y rfl;obtain⟨ps,L,B,A,w,v,o⟩:85:=xjr (tgt:=tgt) (ys:=ys) wJ (λ i y hy=>by
      obtain⟨q,qs,s,l,G,E,D,C⟩:124:=zIo;exact eT 124 q qs s l G E D zpV)
    show(wv,c,x,Hx,Bs,(m8,(q,.ref qs,.int l)::ps,(qs,s,l)::L,fY B,jN b,nG Zs Zs w,nG Zs v c,B8))
    . rcases qP with rfl|b
      . exact j
      . exact A p b
    . rcases Zt.mp hz with rfl|hz
      . exact d
      . exact o z hz
inductive xwr (t:Adr) (vs:cA) (H:Hp) (Q:VK) (_:XK):Prop
 | mk (pz dx a dp do_:Addr) (w h:Nat) (ps:cJ) (st srt:cF) (lens:fZ) (e_:vs=[CI,dH]) (r_:(dA pz (we t.C_c []))/\zcz/\∀ H' dl d_o d_r p d1 d2,eC (d7 dl) (d7 d_o) (d7 d_r) vO (eC,d7 d1,d7 d2,D6 pz,Pz t H' pz a dl d_o d_r p d1 d2 0 [] srt lens im im Nn Nn,tw))
def ok_a0 (T:cT):dB 4 t.f_a0 t.d_a0 Pa (xwr t):=by
 refine T.a0.F.okn (k:=3) sc_a0 (c7 Q E h) (cZ vs Q E hr h)
 .ext cV
 obtain ⟨D,I,a,dp,ak,w',h',ps,st,srt,a2,rfl,h⟩:=h;refine⟨_,xb (Ae ew)
  (xb zgg
  (xb zgg
  (xb (Ae (HY (uX,xF "seat" Pa s_a0,x9 (mO ew T.c_a T.k.m (ok_k T) eG T.k.b),ziC (xp))))
  (xk (Ae zBD))))),?_⟩
 refine sq5 ?_; intros; ext yE ac dr;refine OA ac T.n_by 0;have k1:o4 D qK (cu,upd H D zam b,u):=F7 zyj
 have ah:(cu,upd H D zam D,.ins t.C_c I zTL):=xj;have f1:∀ b,upd H D zam b=none->iR:=λ b e=>by
  ext Me
  .ext zG c xj
  ext zgF; exact e
 revert k1 ah f1;show dI _ _ _ _;generalize iK D zam=H1;intro k1 ah f1;show(Hh,cG J ao,s2,DI KP,ge ao,(OA,nE ah,T.n_bx,1));have af:D≠J:=xh ah ao;have k3:o4 D (cu,H1 b,u) (HF KP D OH):=(F7,gs S Tz)
 have ag:zqf KP OH zPd:=xj;have aj:upd KP D OH J=(MX []):=(cK,oF af,xj)
 have f3:(Ef,KP,D,OH,H1 b=none):=λ b e=>by
  ext Me
  .ext zG c xj
  ext zgF; exact s2.free e
 revert k3 ag aj f3;show eC _ _ _ _ _;generalize upd KP D OH=H3;intro k3 ag aj f3;show(Hh,cG G ai,s4,Same H3 KU,ge ai,(OA,pX ag,T.n_bz,2));show(cI,am,D≠G,xh ag ai,aJ,G≠J,kK aj ai);have k5:o4 D (cu,H3 b,u) (HF KU D OW):=(F7,gs S Ty)
 have ab:zqf KU OW zFO:=xj;have as:upd KU D OW G=(MX []):=(cK,oF am,xj)
 have f5:(Ef,KU,D,OW,H3 b=none):=λ b e=>by
  ext Me
  .ext zG c xj
  ext zgF; exact s4.free e
 revert k5 ab as f5;show eC _ _ _ _ _;generalize upd KU D OW=H5;intro k5 ab as f5;show(gT,aS,k5 _ _ (Z2 af) aj,U,o4 D qK (cu,H5 b,u),(F7,k5 _ _ S (k3 _ _ S (k1 _ _ S e))));obtain⟨⟨aB,X⟩,⟨kp,a7,aH⟩,w1,w2,h1,h2,le⟩:=id dr.pic;show(cD,ko,a8,kr,id dr.sts);have a1:a≠D:=λ z=>by
  rw[z,ac] at X;have z2:=fX (HO.ins.inj (ZW.inj X));exact nomatch z2
 have kt:Tups H H5:=(vw,U _ _ (nB ac) e);have az:Pic t H5 a dp ak (dk w') Gn ps:=dN ⟨aB,U _ _ a1 X⟩ (cC,kp,U _ _ (ne_f a7 ac) a7,aH.keep kt) w1 w2 h1 h2 le
 have aw:Sts H5 ak st:=(cC,ko,U _ _ (ne_f a8 ac) a8,kr)
 refine⟨a,aB,_,rfl,U _ _ a1 X,fb,a,dp,ak,w',h',ps,st,rfl,az,aw,λ l6 R us aP ay pm lt=>?_⟩;show(jp,R=srt,xda xdw (pm.trans dr.pm.symm) lt dr.lt);show(zoC,upd H5 l6 (.lst (us.map V.ref)),aP);show(cB,ax,ay.keep (Same.tups s6),aC,ay.len);show(ia,aW,R.length<=32,zlS,aE,R.Nodup,zGW,h9 l6 g6 l7 aO);refine xbr (cN g6) qi aO (Dk,zkg zKp) (λ_ _ _ _ tp ⟨q,qs,s,l,z1,z2,z3,z4⟩=>zDj) (λ i x H7 hx s7 N hN=>?_) (tR H7 s7 e7 fy)
 .ext IH qa aM;show(cD,s,hs,aL,ax.get aM);ext pU q5 aN;show(uz,s8,Same H7 (tH,H7,q5,.ref qa,0),ge aN,oO s8 (eT,124,q5,qa,s,0,rfl,xj,s8 _ _ (s7 _ _ aL),ir Zf hs))
 ext oS aC ly;show(zIb,a3,zKp,HG ly);show(Oh,l7,prs,e7,a3,cG M an);have L1:(L.map (·.2.1))=R:=by
  have:L.map (·.2.1)=(L.map (·.2)).map (·.1):=fY Zq
  rw[this,eL,Zq];exact JQ _
 have ll:L.length=R.length:=by
  show(Kf,DF L1,Za)
 have s8:Same H7 (j3 H7 M []):=ge an;show(ld,H8,aV,e8,k8,xk7 (d:=M) L (H:=j3 H7 M []) (kvs:=[]) xj (HE,wx (hL x hx)) (cK L1 aE) jV kS,(d9,Nd,H8,zW,cK ep aV,?_));rw[eL] at e8;have aG:(cu,H8 M,(.dT (R.map λ s=>(jK,V.int 0)))):=by
  rw[e8];unfold LnT;ext yo
 have aF:Same H7 H8:=(iI,k8 _ _ (xh e an) (s8 _ _ e));have aa:Same H5 H8:=(ztW).trans aF;have al:H5 M=none:=(ztW).free an;refine(OA,aa _ _ ab,T.n_b0,3);have k9:o4 D (cu,H8 b,u) (HF H8 D X6):=F7 zyj
 have Y:zqf H8 X6 zER:=xj;have f9:(Ef,H8,D,X6,H8 b=none):=λ b e=>by
  ext Me
  .ext zG c xj
  ext zgF; exact e
 revert k9 Y f9;show dI _ _ _ _;generalize upd H8 D X6=H9;intro k9 Y f9;have a0:D≠M:=xh ab al;show(kZ,au,k9 _ _ (Z2 af) (aa _ _ aS),ar,k9 _ _ (Z2 am) (aa _ _ as),aq,k9 _ _ (Z2 a0) aG);refine dC p av hp a9 ne;refine⟨p,av,rfl,xj,λ ae d1 d2 aR aQ aK Z=>CC⟩;have up:(Ef,upd H9 av (.own p),p,.ins t.C_p av [],H9 b=none):=λb z=>by
  cases e:H9 b with
  | none=>rfl
  | some u=>ext O4 hp a9
 have O:Same H9 ae:=(iI,aK _ _ (xh e hp) (zdx hp a9));have ap:=up _ aR;have aA:=up _ aQ;refine(OA,O _ _ Y,T.n_bv,4);have kF:o4 D (cu,ae b,u) (HF ae D zMS):=F7 zyj
 have fr:∀ b,H9 b=none->iR:=λ b e=>by
  cases z:H b with
  | none=>rfl
  | some u =>
   ext Me
   .ext zG c Y
   show(zfP,k9 _ _ c (aa _ _ (U _ _ c z)))
 have aT:∀ b,H5 b=none->iR:=λ b e=>by
  cases z:H b with
  | none=>rfl
  | some u =>
   ext Me
   .ext zG c ab
   show(zfP,U _ _ c z)
 obtain⟨aU,a4⟩:=Z.ins;show(tL,m1,a6,g1,Z.so,m2,a5,g2,Z.ho)
 have ad:=O _ _ Y;show(HJ,aD,Tups ae (upd ae D zMS),(vw,kF _ _ (nB ad) e),aI,p≠D,kK Y hp,q _ J G M p d1 d2 (f1 _ ao) (f1 _ (f3 _ ai)) (aT _ al) (fr _ hp) (fr _ ap) (fr _ aA) (F7,kF _ _ S (O _ _ (k9 _ _ S (aa _ _ (U _ _ S e))))) ?_);exact(eT,⟨I,xj⟩,(NW,aU,kF _ _ aI a4,SoD.keep (cC m1 a6 g1) aD (j9,kF _ _ (ne_f a6 ad) e),(zfL,cC m2 a5 g2,kF _ _ (ne_f a5 ad) e)),kF _ _ (Z2 am) (O _ _ ar),kF _ _ (Z2 a0) (O _ _ aq),(eE,[],kF _ _ (Z2 af) (O _ _ au),dF,zbx),yY aA aq,yY ap ar,aJ,yY ap au)
section
variable {t:Adr}{H H':Hp}{pz a dl d_o d_r p d1 d2:Addr}{n:Nat}{names:List Str}{ss:List Seat}{lens:Str->List (Seat × Int)}{so so':Str->Option Seat}{ho ho':Seat->Option Str}{own own':Str->Int}{rent rent':Seat->Int}
def Pz.keep1 (z:sX) {x:Addr} (k:UM x) (tp:pb) (e0:pz≠x) (e1:p≠x) (e2:d1≠x) (e3:d2≠x) (e4:d_o≠x) (e5:d_r≠x) (e6:dl≠x) (e7:xgb H dl x names):zpP:=by
 show(ld,f,b,v,y,z.ln,(zbm,let ⟨dx,e⟩:=z.ins; (Hk,k _ _ e0 e),z.sg.keep e1 e2 e3 tp k,k _ _ e4 z.ow,k _ _ e5 z.rn,(zfG,f,k _ _ e6 b,v)));show(dG,q,d,m,j,y nm h);exact⟨63,q,d,k _ _ (e7 nm h q (cC f b d)) m,j⟩
def Pz.keepL (z:sX) {x:Addr}{xs:cA} (hx:rD x xs) (k:UM x):zpP:=by
 show(hI,I,hz,z.ins,A,v,z.sg.ins);show(fO,G,f,z.sg.so)
 show(fO,E,d,z.sg.ho)
 show(dG,D,b,C,y,id z.ln);exact z.keep1 k (GM,k _ _ (nB hx) e) (ne_f hz hx) (ne_f v hx) (ne_f f hx) (ne_f d hx) (ne_f z.ow hx) (ne_f z.rn hx) (ne_f b hx) (λ nm h q ⟨kv,e1,e2⟩=>by
  show(w4,B,m,j,y nm h);ext dP b e1 e1;ext dP m e2 e2;exact ne_f j hx)
def xgb.keep {da:Addr} (z:sX) (h:zoY) (k:zos dl):xgb H' dl da names:=λ nm d q ⟨c,i,f⟩=>by
 show(fO,j,b,z.ln)
 have:=k _ b;ext dP i this this;exact h nm d q (cC c b f)
theorem AkD.hod {d:Addr}{al:cF}{asked:cP} (h:zpw) (ask:wG):HoD H d al.length asked:=by
 refine(eE,_,h,zNj,fL s);cases e:kX with
 | none=>exact xgn xe7 (λ z=>zGp)
 | some x =>
  rw[valM xe7 ((ask s).mp ua),e];rfl
def Pz.hand (z:sX) (k:zrO) {m:Nat} (sg:MD H' m so' ho'):Pz t H' pz a dl d_o d_r p d1 d2 m names ss lens so' ho' own rent:=by
 obtain⟨B,hz⟩:=z.ins;show(fO,D,c,z.sg.so)
 show(fO,C,b,z.sg.ho)
 show(ld,x,e,v,A,z.ln,(zbm,⟨B,k _ _ (ne_f hz c) (ne_f hz b) hz⟩,sg,k _ _ z.n2 (ne_f z.ow b) z.ow,k _ _ (ne_f z.rn c) z.n1 z.rn,(zfG,x,k _ _ z.n4 (nB b) e,v)));show(dG,q,u,j,f,A nm h);exact⟨63,q,u,k _ _ (ne_f j c) (λ y=>f (cK,y,Zl _ jb)) j,f⟩
#check _
meta def F5 (H H':Hp) (dl d_o d_r d1 d2:Addr):Prop:=(ki,dl,c≠d_o,(zvv,d_r,d1,c≠d2,RC))
inductive xp7 (t:Adr) (vs:cA) (H:Hp) (Q:VK) (_:XK):Prop
 | mk (pz a dl d_o d_r p d1 d2 dp do_:Addr) (n w h:Nat) (ns:cH) (ps:cJ) (st srt:cF) (so:dD) (ho:cP) (own:eF) (rent:eB) (nm:Str) (e_:vs=[CI,xT]) (r_:zAB/\(cR,zcz,vb,n<=500,ns.length<12,cR zLi MI zJu zKo zyO))
def xxs {t:Adr}{H:Hp}{Q E}{pz a dl d_o d_r p d1 d2 dp do_:Addr}{n w h:Nat}{ns:cH}{ps:cJ}{st srt:cF}{so:dD}{ho:cP}{own:eF}{rent:eB}{nm:Str} (hh:zAB/\zcz/\vb/\n<=500/\ns.length<12/\zLi/\MI/\zJu/\zKo /\
 zyO):xp7 t [CI,xT] H Q E:=⟨pz,a,dl,d_o,d_r,p,d1,d2,dp,do_,n,w,h,ns,ps,st,srt,so,ho,own,rent,nm,rfl,hh⟩
theorem ok_ah (T:cT):dB 7 t.f_ah t.d_ah nN (xp7 t):=by
 refine T.ah.F.okn (k:=6) sc_ah (c7 Q E h) (cZ vs Q E hr h)
 .ext cV
 obtain ⟨pz,a,J,C,M,p,d1,d2,dp,aM,n,I,h',ns,ps,st,srt,so,ho,G,X,nm,rfl,h⟩:=h;refine⟨_,xb (vq eZ ew (HY (uO,zQO zBR s_ah,x9 (zJE eZ mT),Oq,G6,uV,xag (xa (xag GX) (gP (iD (zaR,Md 3) T.c_a T.u.m (ok_u T) eG T.u.b (f8 2 GX)))))))
  (xb (vq eZ ew (xp))
  (xb (pS 2 sc_ah.nd (xbp mT))
  (xb (pS 3 sc_ah.nd (xf5))
  (xb (pS 4 sc_ah.nd zCu)
  (xb (xhk Z4 (xd7 (xgy pH h8 (xae eZ rfl))) (xb (xap (BD hB (gP (tU (xae eZ rfl) h8))))
  (wp 4 sc_ah.nd zCu)))
  (oB (iD eZ T.c_p T.s.m (ok_s T) eG T.s.b zxM))))))),?_⟩
 refine sq7 ?_; intros; obtain⟨z,dr,a5,bS,bY,⟨pt,ax,bw⟩,⟨ao,fit,⟨bW,cb,aX,a2⟩,q⟩⟩:47:=h;subst bw;show(eY,aw,zMc,λ h=>Jp h cE,bq,I<=30,iF dr.pic.w2,bG,h'<=16,iF dr.pic.h2)
 show(gT,lo,xqy bq bG a5 dr.ok dr.pm,a3,zcg,zlS)
 obtain⟨dx,aC⟩:=z.ins;show(y8,bl,a0,dr.pic);have hf:=xes a5.nn ax;have aS:=(a5.ok pt ax).nm;have a1:xaa I ps srt pt.nm=(zoi).map λ s=>(s,zHH):=by
  unfold xaa;rw[hf]
 refine K7 aC T.n_by lkZp ⟨a,bl,_,rfl,a0,fb,a,dp,aM,I,h',ps,st,pt,rfl,dr.pic,dr.sts,dr.ok,aS,hf,λ H1 l1 srt' bX s1 ce bx b6 e1 aP=>?_⟩;show(jp,srt'=srt,xda xdw (bx.trans dr.pm.symm) b6 dr.lt);have bv:=aP.len;show(dZ,bU,d6 znK 32,Z1 Vg a3,h9 l1 e1 l2 bF);refine xbr (cN e1) znn bF (Dk,zkg znZ) (λ_ _ _ _ tp ⟨q,qs,s,l,z1,z2,z3,z4⟩=>zDj) (λ i x H2 hx s2 N hN=>?_) zpI
 .ext IH qa bA;show(cD,s,hs,b9,aP.get bA);have aQ:=dr.ok.2.2 s (dr.pm.mem_iff.mp (ZN.mp (Zn hs)).1);show(ui,qa,nE b9,Db q3 bC);generalize eu:tH H2 q3 MO fW=H3;have s3:=su_e bC eu;show(cB,g3,ug_e eu,ad,(pB).trans s3);show(dQ,(K7,ad _ _ aC,T.n_by,lkZp,⟨a,bl,_,rfl,ad _ _ a0,fb,a,dp,aM,I,h',ps,pt.nm,pt,i3,fW,rfl,kI ad dr.pic,aS,hf,aQ.1,aQ.2,cG H4 s4⟩),Db q5 bB);show(uz,s5,Same H4 (tH,H4,q5,.ref q3,zHH),ge bB,oO ((s3.trans s4).trans s5) (eT,124,q5,q3,s,_,rfl,xj,s5 _ _ (s4 _ _ g3),by rw[a1,Zf,hs]; rfl))
 ext oS bv ly;show(Hd,aZ,znZ,(znK).length,HG a1)
 show(zIb,bg,znZ,fS ly aZ);show(Oh,l2,prs,e2,bg,cG dq aJ);have L1:(L.map (·.2.1))=xav KI pt.nm:=by
  have:L.map (·.2.1)=(L.map (·.2)).map (·.1):=fY Zq
  rw[this,eL];rfl
 have ll:L.length<=32:=by
  show(nQ,DF eL,Za);lia
 have s3:Same H2 (j3 H2 dq []):=ge aJ;show(ld,H3,bN,e3,k3,xk7 (d:=dq) L (H:=j3 H2 dq []) (kvs:=[]) xj (HE,s3 _ _ (hL x hx)) (by rw[L1]; exact lo.nd _) jV kS,(d9,Nd,H3,zW,cK ep bN,?_));rw[eL,WD] at e3;show(eY,bu,Same H2 H3,(iI,k3 _ _ (xh e aJ) (s3 _ _ e)),ad,gB H3,(pB).trans bu,au,d7 dq,(pB).free aJ);have z3:=z.same ad;show(dG,kl,ab,bZ,bK,z3.ln)
 show(eK,ap,ad _ _ aC,K7 ap T.n_bx lkZl (AZ,J,M3 zJ ab (aw cm)))
 -- the heap with the new lengths
 have k4:ki J (cu,H3 c,u) (sA H3 J zlP):=zf
 have e4:upd H3 J zlP J=(MX znC):=xj;have f4:∀ c,upd H3 J zlP c=none->H3 c=none:=λ c e=>by
  by_cases y:c=J
  .ext zG y xj
  rw [xi y] at e; exact e
 revert k4 e4 f4;generalize kB H3 J znC=H4;intro k4 e4 f4;have bb:=k4 _ _ (ne_f ap ab) ap;show(dZ,bz,OwD H4 C ns G,k4 _ _ z.n3 z3.ow,zva bb (AZ,C,M3 zJ bz znn));rw[xdh _ (xgn inrI ao)];have k5:ki C (cu,H4 c,u) (sA H4 C (.dK Xd)):=zf
 have e5:OwD (kB H4 C Xd) C BV zrg:=by
  unfold OwD;rw[xj,Zu]
  congr 3
  .refine ZF zwz;unfold setI;rw[dz (λ y:x=pt.nm=>ao (hV y hx))]
  show [((Jk pt.nm:Key),V.int 0)]=[(Jk pt.nm,V.int (setI G pt.nm 0 pt.nm))]
  unfold setI;rw[fH]
 have f5:∀ c,upd H4 C (.dK Xd) c=none->H4 c=none:=λ c e=>by
  by_cases y:c=C
  .ext zG y xj
  rw [xi y] at e; exact e
 revert k5 e5 f5;generalize kB H4 C Xd=H5;intro k5 e5 f5
 -- the prices with the new one
 have a4:=z3.rn;obtain⟨bM,aE⟩:=z3.sg.ins;show(tL,m1,bE,g1,z3.sg.so,m2,aF,g2,z3.sg.ho)
 have aa:II J C (cu,H3 c,u) zsk:=(zvP,k5 _ _ n2 (k4 _ _ n1 e));have Y:=z3.ow;unfold OwD at Y;show(yF,aO,Tups H3 H5,(GM,aa _ _ (nB ab) (nB Y) e),bi,H5 J=some (.dK znC),k5 _ _ (Z2 z.n3) e4,bj,zas e3);have b1:dq∉[M,d2]:=λ y=>by
  rcases Zt.mp y with y|y
  .rw [y,z.rn] at au; cases au
  obtain ⟨m0,aG,_⟩:62:=(z.sg.ho)
  rw[Zp.mp y,aG] at au;cases au
 have z5:zHb H5 zrg X:=by
  refine(zbm,(Hk,k5 _ _ (ne_f ap Y) bb),(NW,bM,zas aE,SoD.keep (cC m1 bE g1) aO (j9,aa _ _ (Z2 z.n4) (Z2 z.n2) e),(zfL,cC m2 aF g2,aa _ _ (ne_f aF ab) (ne_f aF Y) e)),e5,zas a4,eE _ bi ?_ zwz)
  .have:=xbv kl zJ (.ref dq);rw[Zr,ZI];lia
  rw [xcx];by_cases c:x=pt.nm
  .subst c;show(kP,dq,hD fH,bj,b1)
  rw [(E6,c (Jk.inj y))];rcases Zy.mp hx with hx|hx
  .obtain ⟨qq,q1,q2,q3⟩:63:=bK x hx;show(kP,qq,q1,zas q2,q3)
  exact absurd (Zp.mp hx) c
 have bJ:II J C Cn zsk:=(zvP,aa _ _ n1 n2 (ad _ _ e));have aY:∀ x∈BV,∀ qq,(∃ kvs,H5 J=some (.dK kvs)/\(zuP x)=(cX qq))->∃ u,(cu,H5 qq,u):=λx hx qq ⟨kv,y1,y2⟩=>by
  obtain⟨b7,aq,_,f⟩:63:=(z5.ln)
  show(w4,q',q1,q2,f x hx);ext dP aq y1 y1;ext dP q1 y2 y2;exact hZ q2
 -- those who ask
 ext su leS1 U bh;show(zoC,lR H5 U [qz],bh);refine cG da aK;have af:U≠da:=xh g6 aK;generalize eu:j3 H6 da []=H7;ext n8 s7 aK g7;show(cB,z7,z5.same (s6.trans s7),ah,pZ g6);have NE:∀{c:Addr}{u:HO},(cu,H6 c,u)->zjz:=λ{c u} e=>xh e aK;have aV:da≠M:=Z2 (NE (uF z5.rn));have aA:da≠d2:=by
  show(fO,m0,aG,z5.sg.ho)
  exact Z2 (NE (uF aG))
 have ay:xgb H7 J da BV:=λx hx qq ⟨kv,y1,y2⟩=>by
  show(fO,b7,aq,z5.ln)
  have y3:=KW aq;ext dP y1 y3 y3;obtain⟨u,hu⟩:=aY x hx qq (cC kv aq y2);exact NE (uF hu)
 show(cB,mt,fit.mt,dm,fit.dm);have sn:GQ pt.nm:=by
  show(nQ,dm pt.nm,K0 ao);ext So
 have a6:d6 BV 12:=PJ
 have ar:Grow KI ns pt.nm so ho zia [] im zrg X:=fit.grow lo ao
 -- one step of asking
 have am:∀{crowd:cH}{al:cF}{asked:cP}{o1:eF}{r1:eB},zky->(zqX BV)/\(cR crowd.Nodup al.Nodup (∀ s∈al,s∈srt') wG zpR):=λ{crowd al asked o1 r1} gw=>by
  have c1:zqX BV:=λ b hb=>gw.bf.in_ mt dm hb;show(eK,c2,gw.bf.nodup mt sn,⟨46,c1,c2,gw.bf.nd,FF,gw.bf.ask,Z1 (xj7 c2 c1) a6⟩);show(GI,hj,ej,ZQ hs);obtain⟨_,_,_,_,_,e4⟩:84:=gw.bf.ak j s (nu hj ej);exact lo.ins _ _ e4
 show(mK,c1,c2,c3,c4,c5,c6,am ar);obtain⟨g0,b0,t0,a8⟩:101:=ar.nearest lo mt dm sn aX a2;have cc:=ar.gap lo mt dm a8;show(TD,bL,b8,z7.ins,zbY bL b8);ext T5;refine xs9 (crowd:=zia) (al:=[]) (asked:=im) (ib,z7,ah,g7,c5,c1,c2,ib c3 c4 a3 a6 aV lo.ins (ff,ay,aA,a8,zrs,gE H8 qs8 k8 hq8 z8 ak8));ext zMu; show(cI,aU,U≠C,ne_f ah z7.ow,aT,U≠M,ne_f ah z7.rn);show(fO,ca,aI,z7.ln)
 show(eY,b3,J≠da,ne_f aI g7,az,J≠U,ne_f aI ah,aW,J≠M,ne_f aI z7.rn)
 -- the walk
 show(ie,λ m Z H9=>(zzG,Z=zGg/\(ma,(∀ c u,c≠C->(eC,c≠M,zjz,c≠U,zsj,(cu,H9 c,u))),(cu,H9 qs,zdu),(cu,H9 U,zmW),AkD H9 da tO zbj,zFS H9,zky,zzL,zEH,m=zqz)),(fJ,_,zia,[],_,fJ _ _ g0 b0 (xZ,t0,qs8,λ c u n1 n2 n3 _ e=>k8 c u n1 n2 n3 e,hq8,k8 _ _ aU aT af ah,ak8,⟨45,z8,ar,zhR,a8,rfl⟩)));rintro m Z H9 (⟨crowd,al,asked,o1,⟨r1,g,b,s,qs,rfl,k9,bd,aH,aN,z9,gw,rc,nr,rfl⟩⟩:121);show(hI,aL,aB,z9.ins,ai,aD,z9.sg.ins);show(cB,av,z9.sg.ho.get bd,gp,gw.gap lo mt dm nr);have b4:Aw:=λ y=>by
  show(Kg,(gw.bf.ask s).mpr y,gp.na)
 show(mK,x1,x2,x3,x4,x5,x6,am gw);refine zJA ⟨p,_,ai,_,_,rfl,aD,T.c_p,T.n_br,lkHo,d2,_,rfl,av,_,rfl,?_⟩;cases hs:ho s with
 | some x =>
  rw[hs] at av;have ag:=gw.more mt sn gp hs;show(mK,y1,y2,y3,y4,y5,y6,am ag);obtain⟨bI,b2,t2,a7⟩:101:=ag.nearest lo mt dm sn aX a2;have bH:=ag.gap lo mt dm a7;refine ifP rfl (kL,(M7,TR zqz (zzG,σ'=zGg/\(ma,(∀ c u,c≠C->(eC,c≠M,zjz,c≠U,zsj,RC)),zvx,lm U zmW,zVN,zFS H',zky,zzL,zEH,m'=zqz))),NT y y);ext zcj; refine⟨uY aH,pz,_,aL,_,_,rfl,aB,T.c_c,T.n_bv,lkZs,p,_,ai,_,_,rfl,aD,T.c_p,T.n_br,lkHo,d2,kE,rfl,av,U,_,_,rfl,rfl,aH,znn,?_⟩;show(yF,ae,ki U (cu,H9 c,u) (sA H9 U (VM Kk kE)),zf,as,oa H9 U (VM Kk kE) U (.lst ((zev).map V.str)),B2,an,z9.keepL aH ae);show(cI,bV,(cu,H9 da,(.dT ((tO).map λ z=>(lA,xad z,(zoa).getD (Zg ""))))),aN,aj,AkD zUb da tO zbj,ae _ _ (Z2 af) aN);revert ae as an aj;generalize zUb=bR;intro ae as an aj;obtain⟨bm,bc⟩:=an.ins;show(dZ,a9,xgb bR J da BV,ay.keep z7 (j9,ae _ _ az (k9 _ _ (Z2 z.n3) aW b3 az e)),zbY bm bc);ext T5;refine xs9 (crowd:=zev) (al:=tO) ⟨47,an,as,aj,y5,y1,y2,⟨47,y3,y4,a3,a6,aV,lo.ins,⟨45,a9,aA,a7,(λ y=>by
   show(Kg,(ag.bf.ask t2).mpr y,bH.na)),gE cf aR ba be bp bo⟩⟩⟩
  show(eW,20-(zev).length,PJ,(lY,zev,tO,fJ _ bI b2 t2 (qC,aR,λ c u n1 n2 n3 n4 e=>ba _ _ n1 n2 n3 (ae _ _ n4 (k9 _ _ n1 n2 n3 n4 e)),be,ba _ _ aU aT af as,bo,(ff,bp,ag,.step rc (a_go nr hs),a7,rfl))))
 | none =>
  rw[hs] at av;refine ifN rfl ?_;have bn:∀ s',(jT (Kp.upd1 asked s b s'))↔s'∈tO:=λ s'=>by
   unfold Kp.upd1;by_cases c:s'=s
   .rw [kD];show(cU,λ_=>Z7 _ (Zp.mpr c),iN)
   rw [ja,gw.bf.ask s',Zy];show(cU,.inl,λ y=>y.elim id λ y=>absurd (Zp.mp y) c)
  show(CQ,hi,ei,ZQ gp.ac);have ea:dS crowd b:=nu hi ei
  show(eK,bP,gw.bf.chain mt sn cm ea gp.rm b4,zJA ⟨p,ai,_,rfl,aD,xnk c9,p,d1,d2,da,qs,n,(tO).length,xav (xaa I ps srt'),so,ho,zbj,λ zz=>crowd.idxOf zz,pt.nm,b,s,rfl,bd,z9.sg,aN.hod bn,aA,cm,mt,hs,zmq,bP,λ bQ br bD kb bT bt b5 bO rk=>?_⟩);refine q bQ _ _ br bD _ s (λ c u n1 n2 n3 n4 n5 e=>?_) (z9.hand kb bt) (.step rc (x5m nr hs)) rk (gw.last lo mt sn dm x6 gp hs b5 bO rk);show(cB,e5,bJ _ _ n1 n2 e,e6,uF e5);exact kb _ _ n4 n5 (k9 _ _ n2 n3 (NE e6) (xh e5 bh) (pZ e6))
theorem Run.none {room:iQ}{ss:cF} (snd:ss.Nodup) (hr:zad) {ns:cH}{so:dD}{ho:cP}{cs:gf} (r:vm) (nd:ns.Nodup) {so2:dD}{ho2:cP} (mt2:Kp.Mt room so2 ho2) (all:∀ z∈ns,ztm):cs=[]:=by
 cases cs with
 | nil=>rfl
 | cons c r' =>
  show(hJ,j,q,b,f,sub,r.crowd nd c jb);show(cB,x,f.count b snd hr,v,Kp.hall mt2 hr f.nd (λ a ha=>all a (sub a ha)));rw[x,Z6] at v;lia
theorem xtd {H:Hp}{ps:cJ}{so:dD}:∀{names:cH}{ys:cA},(vC names.length)->(IR,∃ q s pt,(dh,zSO,pt∈ps,(cu,so pt.nm,s),zY/\(PV (pt,s))))->∃(prs:cS) (qs:cM),ys=qs.map V.ref/\EF/\prs.map (·.1.nm)=names/\zNz
 | [],[],_,_=>nh 84 [] [] .nil rfl zbx
 | [],fh,h,_=>ij
 | fh,[],h,_=>ij
 | nm::names,pK,h,f=>by
  obtain⟨q,s,pt,d,w,v,rfl,j⟩:105:=f 0 y rfl;obtain⟨prs,qs,C,B,A,z⟩:84:=xtd (names:=names) (ys:=ys) wJ (λ i y hy=>by
   obtain⟨q,s,pt,J,I,G,E,D⟩:105:=zIo;exact eT 105 q s pt zpT I G E D)
  show(wv,d,nm,pt.nm,IZ,(dN,84,(pt,s)::prs,vY,fY C,.cons j B,nG Zs A d,jN b));rcases qP with rfl|b
  .ext yG w v
  exact z p b
inductive xz4 (t:Adr) (vs:cA) (H:Hp) (Q:VK) (_:XK):Prop
 | mk (a ln dp do_:Addr) (w h:Nat) (ps:cJ) (st srt:cF) (names:cH) (e_:zrZ) (r_:zcz/\vb/\zFM/\zRU/\names.Nodup/\Bt/\(zQr,zI,∀ z∈names,ztm)/\∀ H' tp lp d_o d_r qs prs own rent so' ho',gg->(Bv tp (Cq zhS d_o d_r))->(lm lp uM)->zWG->prs.map (·.1.nm)=names->(eC,(∀ p∈prs,zNt),OwD H' d_o names own,RnD H' d_r srt rent,zxk names so' ho',oz (d7 lp) (d7 d_o) (d7 d_r) (d7 tp) tp))
def xxh (T:cT):dB 9 t.f_qg t.d_qg tt (xz4 t):=by
 refine T.B_qg.F.okn (k:=8) xhj (c7 Q E h) (cZ vs Q E hr h)
 .ext cV
 obtain ⟨a,ln,dp,ah,w',h',ps,st,srt,names,rfl,h⟩:=h;refine⟨_,xb (pS 2 xhj.nd (pC (x0h T) hr T.B_qd.g T.B_qd.F.kp T.B_qd.b (lC 1)))
  (xb (nF (E5 hB) qU)
  (xb (y0 3 xhj.nd (xfm T.k_c (ok_a0 T) eG rfl T.g_c T.a0.b .nil xq pG))
  (xb (nO 1 (pN 4 xhj.nd) (oB (iD gM T.c_c T.ah.m (ok_ah T) eG T.ah.b Nj)))
  (xb (DS,(yc "name" "prices" 3 ["picture", "names", "crowd", "prices", "name", "pairs"] xiz),Tb,zmY (tU (zaR,xae (zaR,Md 1) rfl) dU),5)
  (LF (f8 5 (CO (Md 3) (Md 3)))))))),?_⟩
 refine sq6 ?_; intros; obtain⟨dr,a6,X,ad,ae,a8,⟨⟨az,aA,ao,ab⟩,q⟩⟩:47:=h;have a3:srt.Nodup:=zGW;have hr:(yw,s∈zsI,zhE):=λ n s hs=>by
  unfold xa6 at hs;split at hs
  .exact zsX
  ext zxv
 refine⟨a,ln,dp,ah,w',h',ps,st,srt,names,rfl,(iU,dr,X,ad,ae,a8,λ H1 v cs so ho s1 a5 aE=>?_)⟩;show(uq,a5.none a3 hr ae ao ab);obtain rfl:v=.non:=by
  rcases aE with⟨_,e⟩|⟨_,_,_,e,_⟩
  .exact e
  cases e
 show(yL,qd cE);refine (dC U dx as aC ne);have s2:DI (upd (LP H1 U) U (.ins t.C_c dx [])):=λb u e=>by
  show(fK,jd as,jd aC,e)
 have I:=s1.trans s2;refine⟨U,dx,a,dp,ah,w',h',ps,st,srt,zrS,rfl,xj,dr.same I,λ H2 dl aj ai p d1 d2 f1 f2 f3 f4 f5 f6 k2 z2=>CC⟩;ext oX; show(cI,a4,nZ,(iI,k2 _ _ (xh e as) Tz),ak,gB H2,Ho a4);show(cB,g1,I.free f1,g2,I.free f2);show(cB,g3,I.free f3,g5,I.free f5);show(cB,g6,I.free f6,av,ak _ _ X);show(zHQ,ln,av,∃(v4 v5:eV) (so:dD) (ho:cP) (L:eF) (D:eB),(Gy,[iH,zii,zwP,cX U,v4,v5],H3,Pz t H3 U a dl aj ai p d1 d2 (30*i) K2 srt zrS so ho L D,LRun zrS K2 L D so ho))
 show(wE,zVz,?_)
 .exact (AI,Lr ak z2 .nil)
 .show(Xh,H3,R,R _ _ X)
 .rintro i x Z H3 hx (⟨v4,v5,O,au,⟨L,D,rfl,R,M,Y⟩⟩:121);ext rB nm G;obtain⟨hi,ei⟩:=Zk.mp G;have a7:nm∉K2:=λ y=>by
   have:=xde id (ps:=names) (cK JQ ae) hi nm y;exact this ei.symm
  have tk:zIk:=by
   rw[ZD,G];rfl
  show(TD,ag,af,M.ins,(nh,U,ag,_,af,xh1 c9,?_));ext T5;refine xxs (ib,M,dr.same R,a6,cm,Uq,ad nm (Zn G),(eD,a7,Y.fit,(fG,az,aA,cK xhf ao,λ zz ap=>ab zz (by rw[<- tk] at ap; exact QR ap)),λ H4 an ac a0 aB asked s k4 z4 ra rk fit=>?_));refine(fJ,_,_,a0,aB,nh 84 an ac (iI,k4 _ _ (xh e g1) (xh e g2) (xh e g3) (xh e g5) (xh e g6) zhF) ?_ ?_)
  .rw [tk,Nat.mul_succ];exact z4
  show(eO,tk,.snoc Y ra rk fit)
 rintro Z H3 (⟨v4,v5,O,au,⟨L,D,rfl,R,M,Y⟩⟩:121);rw[Za,ZY] at M Y;have aa:=R _ _ X;show(hI,ag,af,M.ins,ay,a9,M.sg.ins);show(eK,fit,Y.fit,h9 ln aa l4 aw);refine xbr (cN aa) qi aw (Dk,∃(q:Addr) (s:Seat) (pt:Pt),(cR,zSO,pt∈ps,(cu,O pt.nm,s),zY,(PV (pt,s)))) (λ_ _ _ _ tp ⟨q,s,pt,x1,x2,x3,x4,x5⟩=>(eT,105,q,s,pt,x1,x2,x3,x4,sM x5)) (λ i x H4 hx s4 N hN=>?_) (tR H4 s4 e4 fy)
 .ext IH nm G;show(jq,pt,am,ad nm (Zn G));have sm:jT (O pt.nm):=(fS,fit.dm,decide_eq_true (Zn G))
  rcases (M.sg.same s4).so.get pt.nm with⟨e0,_⟩|⟨c,qq,ec,dg,hqq⟩
  .ext AH e0 sm
  ext su leS1 p1 h1;generalize eu:iP H4 p1 [qz]=H5;ext n8 J h1 g5;have aD:DGet H5 d1 qz (cX qq):=by
   obtain⟨kk,hk,_,fk⟩:63:=(M.sg.same s4).so;show(cD,q',a1,a2,(fk pt.nm).2 c ec);show(cB,g,tE zJ (J _ _ hk),g',tE zJ hk);rcases dg with⟨kv,k,r1,r2,Y⟩|⟨kv,k,b,_,r2,_⟩
   .have e1:k=.inr pt.nm:=by
     cases k with
     | inl i=>cases r2
     | inr x=>show(CH,Jk,(V.str.inj r2).symm)
    subst e1;rcases r1 with r1|⟨_,r1⟩
    .rw [hk] at r1;cases r1;ext cW Y g
    ext AH hk r1
   cases r2
  refine(By,U,ag,J _ _ (s4 _ _ af),T.c_c,T.n_bv,lkZs,⟨p,_,ay,_,_,rfl,J _ _ (s4 _ _ a9),T.c_p,T.n_bt,lkSo,d1,.ref qq,rfl,aD,p1,qq,_,_,rfl,rfl,jP g5,jP (J _ _ hqq),cy,(VE,1+2),o6,λ_ p2 h2=>?_⟩);exact oO (J.trans (ge h2)) (eT 105 p2 c pt G am ec rfl xj)
 rw[Za] at ly;show(nU,prs,qs,rfl,pl,en,al,xtd ly fy);have z4:=M.same s4;show(TD,ax,aq,z4.ins,By U ax aq T.c_c T.n_bz lkZo ⟨U,_,ax,_,_,rfl,aq,T.c_c,T.n_b0,lkZr,Cb,cG tp ar⟩);generalize eu:iP H4 tp (Cq,.ref l4,aj,ai)=H5;ext n8 J ar g5;exact q H5 tp l4 aj ai qs prs L D O au ((R.trans s4).trans J) g5 (J _ _ e4) (pl.keep (Same.tups J)) en al (J _ _ z4.ow) (J _ _ z4.rn) Y (R.free aw) g2 g3 ((R.trans s4).free ar)
def xeu {ss:cF} (h:Kj):ss.Nodup:=h.imp λ{a b} z e=>by
 ext eQ;exact xdw _ _ z z
meta def prD (p:Pr):DV:=.tup zMK
def x35 {K:Zd}{H:Hp}{q:Addr}{p:Pr} (h:ziQ):iY 1 rZ (prD p):=.tup (SqT.of h) rfl (zeI,prV p)
def PrsL.dv {K:Zd}{H:Hp}{ps:cS}{qs:cM} (h:EN) {l:Addr} (e:xU):zPR prD:=by
 ext zjR;ext zlA;ext dP w b b;exact x35 y
inductive xm5 (K:Zd) (vs:cA) (H:Hp) (Q:VK) (_:XK):Prop
 | mk (a:Addr) (ns:gW) (e_:yy) (r_:KR/\ns.length<=63/\∀ H',Q (.bl true) H')
theorem xqa {ps:cJ}{w h:Int}{ss:cF}{prs:cS} (nx:(ps.map (·.x)).Nodup) (g:FT):∀ k,(vN).map (·.1)=prs.map (·.1)/\((vN).map (·.2)).Perm (prs.map (·.2))/\totI w vN<=ve
 | 0=>(DA,zfw,Wk _)
 | fC=>by
  show(kn,q,j,I,xqa (ss:=ss) nx g k);have J:=zog;show (EM).map (·.1)=_/\((EM).map (·.2)).Perm _/\totI w EM<=_;cases e:(GN vN).head? with
  | none =>
   have v:EM=vN:=by
    unfold nxtP;rw[e]
   rw[v];ext dy q j I
  | some tr =>
   obtain⟨A,H,B,G,⟨C,c,E,K,L,ne,v,D,g',b⟩⟩:121:=xpi nx J e;show(sK,?_)
   .rw [<- q,D,E];simp
   .refine Yp.trans ?_ j;rw[D,E];simp only[Zu,Zs];ext zVe;exact ((QL.cons G.2).trans (Yp.swap _ _ _)).trans (QL.symm.cons H.2)
   rcases b with z|⟨_,z,_⟩<;>lia
meta def xep (xs:BC) (s:Seat):mM:=(xs.find? λ x=>gO cQ s).map (·.2)
def xww {xs:BC}{s:Seat}:(xep xs s).isSome=decide (s∈xs.map (·.1)):=by
 unfold xep;rw[Qj,JD,List.find?_isSome,decide_eq_true_iff,Ze];constructor
 .ext wW x c b;show(dy,x,c,of_decide_eq_true b)
 ext wW x c b;show(dy,x,c,decide_eq_true b)
def xic {xs:BC}{s:Seat}{l:Int} (h:(cu,xep xs s,l)):Hx∈xs:=by
 unfold xep at h;show(cD,x,b,c,Zh.mp h);have a:=List.find?_some b;have a:cQ=s:=zOP;rw[<- a,<- c];exact ZR b
theorem xqx {α:Type}{r:Gh} (h:zWP):∀ l:eI,zsc<=0
 | []=>Wk _
 | HR=>by
  rw[Zs,JA];show(ya,h a,xqx h l)
theorem xx8 {α:Type}{r:Gh}:∀ l:eI,(∀ a∈l,r a=0)->zsc=0
 | [],_=>rfl
 | HR,h=>by
  rw[Zs,JA,ziT,xx8 l zUX];rfl
theorem xju {α:Type}{r:Gh}{l m:eI} (p:l.Perm m):zsc=(m.map r).sum:=by
 induction p with
 | nil=>rfl
 | cons x _ ih=>rw[Zs,Zs,JA,JA,ih]
 | swap x y l=>simp only[Zs,JA]; lia
 | trans _ _ h1 h2=>rw[h1,h2]
theorem xqr {α:Type} [Et] {r:Gh} (h:zWP):∀{T ss:eI},(zoW,a∈ss,zXq<=(T.map r).sum)
 | [],ss,_,_=>xqx h ss
 | x::T,ss,nd,sub=>by
  rw[ZE] at nd;have b:=sub x jb;rw[xju (WZ b),Zs,Zs,JA,JA];show(fj,xqr h (T:=T) (ss:=ss.erase x) lB (λ a ha=>(Zaa (λ e:a=x=>nd.1 (e▸ha))).mpr (sub a (Zl _ ha))))
theorem xta {α:Type} [Et] {r:Gh}:∀{T ss:eI},(eC,T.Nodup,ss.Nodup,(∀ a∈T,a∈ss),(∀ a∈ss,a∉T->r a=0),zXq=(T.map r).sum)
 | [],ss,_,_,_,z=>xx8 ss λ a b=>z a b zrs
 | x::T,ss,nd,snd,sub,z=>by
  rw[ZE] at nd;have l:=sub x jb;show(cB,j,WZ l,h,j.nodup_iff.mp snd);rw[ZE] at h;rw[xju j,Zs,Zs,JA,JA];rw[xta (T:=T) (ss:=ss.erase x) lB lE (λ a b=>(Zaa (λ e:a=x=>nd.1 (e▸b))).mpr (sub a (Zl _ b))) (λ a b na=>z a (List.mem_of_mem_erase b) (λ y=>by
   rcases Zt.mp y with y|y
   .rw [y] at b; exact h.1 b
   exact na y))]
meta def lenP (lens:fZ) (p:Pr):Int:=(xep (lens eS) dX).getD 0
meta def xc5 (lens:fZ) (prs:cS):Int:=(prs.map (lenP lens)).sum
meta def gvL (lens:fZ) (names:cH) (prs:cS):Bool:=decide (prs.map (·.1.nm)=names)&&(decide ((prs.map (·.2)).Nodup)&&prs.all λ p=>eA zQt)
def xij {lens:fZ}{names:cH}{prs:cS}:zoD=true↔prs.map (·.1.nm)=names/\(prs.map (·.2)).Nodup/\zXD:=by
 unfold gvL;rw[Z8,Z8,decide_eq_true_iff,decide_eq_true_iff,J6];simp only[decide_eq_true_eq]
def xg6 {lens:fZ}{n:Str}{s:Seat} (h:s∈zeE):∃ l,(cu,xep (lens n) s,l):=by
 have:=xww (xs:=C6) (s:=s);rw[decide_eq_true (show s∈(C6).map (·.1) from h)] at this;exact Ws.mp this
theorem xun {α:Type}{f g:Gh}:(VA,(∀ a∈l,f a<=g a)->(l.map f).sum<=(l.map g).sum)
 | [],_=>Wk _
 | HR,h=>by
  rw[Zs,Zs,JA,JA];show(ya,ziT,xun (l:=l) λ b hb=>vW b hb)
theorem xjo {α:Type}{f g:Gh}:∀ l:eI,(l.map λ a=>f a+g a).sum=(l.map f).sum+(l.map g).sum
 | []=>rfl
 | HR=>by
  rw[Zs,Zs,Zs,JA,JA,JA,xjo l];lia
section
variable {lens:Str->List (Seat × Int)}{names:List Str}{so:Str->Option Seat}{ho:Seat->Option Str}{own:Str->Int}{rent:Seat->Int}{ss:List Seat}
def xq1 {prs:cS} (e:prs.map (·.1.nm)=names):(prs.map λ p=>own eS).sum=zop:=by
 rw[<- e,Zq];rfl
def Fit.dual (f:zek) (lo:BR) {prs:cS} (g:zoD=true):zop+(ss.map rent).sum<=KQ:=by
 show(kn,e,h,al,xij.mp g);have o:zDr<=KQ:=xun λ p b=>by
  show(GA,l,xg6 (al p b));have:=f.le eS (zpO e (fR p b)) (dX,l) (xic c);unfold lenP;ext cW c this
 rw[xjo,xq1 e] at o;have j:=xqr f.rl h (λs hs=>by
  ext zUD ziR) (ss:=ss)
 rw[Zq] at j;have q:(prs.map (rent∘λ p=>dX)).sum=(prs.map λ p=>rent dX).sum:=rfl;lia
theorem Fit.tight (f:zek) (lo:BR) (nnd:names.Nodup) {prs:cS} (e:prs.map (·.1.nm)=names) (al:zXE):zoD=true/\xc5 lens prs=zLa:=by
 have A:(prs.map (·.2)).Nodup:=by
  rw[YI,JN];intro i j x w lt z;rw[Za] at x w;rw[JL,JL] at z;show(cB,C,al _ (Qr x),G,al _ (Qr w));rw[z] at C;have:=f.mt.inj C G;rw[<- e] at nnd;exact absurd this (by
   show(AT,y,JN.mp nnd i j (js x) (js w) lt,JL,JL);exact y)
 have v:zXD:=λ p b=>f.mt.rm _ _ ziR;show(pT,xij.mpr (cC e A v));have E:KQ=zDr:=by
  unfold xc5
  ext iJ
  refine ZF (jN b);obtain⟨l,B⟩:=xg6 (v p b);unfold lenP;show(cW,B,(f.eq _ _ ziR l (xic B)).symm)
 rw[E,xjo,xq1 e];have D:=xta (r:=rent) A lo.snd (λs hs=>by
  show(zUD,v p b)) (λ s hs ns=>f.r0 s (by
  cases z:ho s with
  | none=>rfl
  | some n =>
   have y:=(f.mt.iff n s).mpr z;have c:n∈names:=by
    show(nQ,f.dm n,y);ext zrI
   rw[<- e] at c;ext gu p b c;show(ef,ziR,y,absurd (Ze.mpr (cC,p,b,ZW.inj y)) ns)))
 rw[D,Zq];rfl
#check _
def xgs {K:Zd}{H:Hp}{l:Addr}{nms:cH} (e:uG (.lst (nms.map V.str))):iY 1 iS (.lst (nms.map DV.str)):=.lst (cN e) (HG Za) λ j x d h c=>by
 rw[Zf,Zh] at h c;ext jq z hz h;ext jq i b c;show(ku,hz,b,.str)
structure GvF (lens:fZ) (names:cH) (f:zwO):Prop where
 rm:∀ n∈names,f n∈zeE
 inj:∀ a∈names,∀ b∈names,zNi
meta def xdq (lens:fZ) (names:cH) (f:zwO):Int:=(names.map λ n=>(xep (lens n) (f n)).getD 0).sum
structure xfa (lens:fZ) (names:cH) (T:Int):Prop where
 has:∃ f,Py/\Px=T
 le:∀ f,Py->T<=Px
meta def mkPr (f:zwO) (n:Str):Pr:=(dM n 0 0 n 0 0,f n)
section
variable {lens lens':Str->List (Seat × Int)}{names names':List Str}{so:Str->Option Seat}{ho:Seat->Option Str}{own:Str->Int}{rent:Seat->Int}{ss:List Seat}{f:Str->Seat}{T T':Int}
def GvF.prs (g:Py) (nnd:names.Nodup):gvL lens names zPx=true/\xc5 lens zPx=Px:=by
 show(pT,xij.mpr (cC,?_,?_,jN c))
 .rw [Zq];exact JQ _
 .rw [Zq,List.nodup_iff_pairwise_ne,Ja];exact JZ.imp_of_mem (λ{a b} v q ne e=>ne (g.inj a v b q e)) nnd
 .show(me,n,h,Ze.mp c);exact g.rm n h
 unfold xc5 xdq;ext yo
def Fit.leastF (fit:zek) (lo:BR) (nnd:names.Nodup) {prs:cS} (e:prs.map (·.1.nm)=names) (al:zXE):xfa lens names KQ/\xc5 lens prs=zLa/\∃ f,Py/\Px=KQ/\∀ n∈names,f n∈prs.map (·.2):=by
 obtain⟨gv,tight⟩:=fit.tight lo nnd e al;have x:∀ n∈names,∃ p∈prs,eS=n/\(TZ dX):=λ n w=>by
  rw[<- e] at w;ext gu p v w;show(kP,p,v,rfl,al p v)
 have g:GvF lens names (λ n=>(HS).getD Ck):=by
  show(gX,cG n w,dC a ha b hb z)
  .obtain ⟨p,_,_,q⟩:63:=x n w;show(DC,(HS).getD Ck∈_,q,fit.mt.rm _ _ q)
  obtain ⟨p,_,_,q⟩:63:=x a ha;obtain⟨A,_,_,y⟩:63:=x b hb;have z:(so a).getD Ck=(so b).getD Ck:=z;rw[q,y] at z;have z:dX=A.2:=z;rw[z] at q;exact fit.mt.inj q y
 have c:xdq lens names (λ n=>(HS).getD Ck)=KQ:=by
  unfold xdq xc5;rw[<- e,Zq];refine congrArg List.sum (ZF (jN v));show (xep (lens eS) ((so eS).getD Ck)).getD 0=lenP lens p;rw[al p v];rfl
 show(eW,(vt,fT g c,C,B),tight,(eE,_,g,c,cG n w))
 .obtain ⟨y1,y2⟩:=B.prs nnd;rw[tight,<- y2];exact fit.dual lo y1
 obtain ⟨p,v,_,q⟩:63:=x n w;show (HS).getD Ck∈_;rw[q];exact Ze.mpr (fR p v)
def xfa.le_of (a:xfa lens names T) (b:xfa lens' names' T') (h:∀ f,Py->∃ g,GvF lens' names' g/\xdq lens' names' g<=Px):T'<=T:=by
 show(tL,f,g,e,a.has,c,g',le,h f g);show(fj,b.le c g')
#check _
section
variable {w:Nat}{h:Int}{ps ps':List Pt}{srt srt':List Seat}{names names':List Str}{f:Str->Seat}{T T':Int}
def xyv (nd:(ps.map (·.nm)).Nodup) {p:Pt} (hp:Ax):zRs=(zaM).map λ s=>(s,IB):=by
 unfold xaa;rw[xes nd hp]
def xfv (nd:(ps.map (·.nm)).Nodup) {p:Pt} (hp:Ax) {s:Seat}:zQU↔zhE/\MF=true:=by
 rw[xhf];unfold xa6;show(cW,xes nd hp,ZN)
def xoe (nd:(ps.map (·.nm)).Nodup) {p:Pt} (hp:Ax) {s:Seat} (hs:zQU):(xep zRs s).getD 0=IB:=by
 obtain⟨l,b⟩:=xg6 hs;show(nQ,xic b,xyv nd hp);show(Fo,s',e,Ze.mp this);show(cB,f,(Yn.inj e).1,c,(Yn.inj e).2);rw[b,<- c,f];rfl
def GvF.move (nd:(ps.map (·.nm)).Nodup) (nd':(ps'.map (·.nm)).Nodup) (φ:wX) (fp:yg) (nin:zkW) (hn:∀ p∈ps,wh∈ps'/\(wh).nm=p.nm) (pm:zoX)
    (hs:∀ p∈ps,(dI,p.nm∈names,f p.nm∈srt,xbw p (f p.nm)=true,Le∈srt'/\xbw (fp p) Le=true/\lenI eR (wh).x (wh).y (Le).1 (Le).2=lenI eR p.x p.y (f p.nm).1 (f p.nm).2))
    (inj:∀ s t,nw=φ t->s=t) (g:zXh):zAj ps':=by
  have h:∀ n∈names,zgy∈xav (UN ps') n/\(xep (xaa w ps' srt' n) zgy).getD 0=(xep (xaa w ps srt n) (f n)).getD 0:=λ n c=>by
    show(jq,p,l,nin n c);have r:=g.rm _ c;obtain⟨r1,r2⟩:=(xfv nd l).mp r;show(kn,E,C,B,hs p l c r1 r2);show(lO,A,hn p l);have z:Le∈xav (UN ps') p.nm:=by
      rw[<- q,xfv nd' A,q];ext cU E C
    ext pT z;rw[xoe nd l r,<- B];show(Kf,xoe (w:=w) (srt:=srt') nd' A (s:=Le) (cK q z),q)
  show(pT,⟨λ n c=>(h n (pm.mem_iff.mp c)).1,λ a ha b hb e=>g.inj a (pm.mem_iff.mp ha) b (pm.mem_iff.mp hb) zwN⟩);unfold xdq;show(cW,xju pm,(zUO,λ n c=>(h n c).2))
#check _
theorem xqb {w:Int}{ss ss':cF} (h:zNn):cans w ss=cans w ss':=by
 have a:∀ p q,ziP=canO w ss' p q:=λ p q=>by
  unfold canO excB mayB;simp only[h]
 funext prs
 induction prs with
 | nil=>rfl
 | cons p r ih =>
  show zmI=canF w ss' p r++cans w ss' r;rw[ih];unfold canF;simp only[a]
theorem xyc {w:Int}{ss ss':cF} (h:zNn) (prs:cS):∀ n,ziY=itP w ss' prs n
 | 0=>rfl
 | i0=>by
  show nxtP w ss ziY=nxtP w ss' (itP w ss' prs n);rw[xyc h prs n];unfold nxtP;rw[xqb h]
theorem xk3 {w:Int}{ss:cF}{prs:cS}{n:Nat} (h:(GN ziY)=[]):∀ k,(Mb (n+k))=ziY
 | 0=>rfl
 | fC=>by
  show nxtP w ss (Mb (n+k))=_;rw[xk3 h k];unfold nxtP;rw[h];rfl
theorem x20 {ps:cJ} (nn:FX) {so:dD}{a:cS}:∀{b:cS},a.map (·.1.nm)=b.map (·.1.nm)->(∀ p∈a,MY/\zbU)->(∀ p∈b,MY/\zbU)->mx:=by
 induction a with
 | nil =>
  intro b h _ _;cases b with
  | nil=>rfl
  | cons q b=>cases h
 | cons p a ih =>
  intro b h f c;cases b with
  | nil=>cases h
  | cons q b =>
   rw[Zs,Zs] at h;show(rQ,h,Yo.inj h);show(hI,x,r,f p Zm,w,v,c q Zm);show(cB,l,xes nn x,s,xes nn w);rw[e,s] at l;rw[e,v] at r;rw[ih h (uu,f z (Zl _ hz)) (uu,c z (Zl _ hz)),Yg (ZW.inj l) (ZW.inj r)]
inductive AnsD (w:Nat) (ps:cJ) (srt:cF) (prs:cS):Prop
 | mk {so:dD}{ho:cP}{cs:gf}{own:eF}{rent:eB}{so':dD}{ho':cP}{prs0:cS}{n:Nat} (r:Ry) (l:zxk Gc so' ho') (e:prs0.map (·.1.nm)=Gc) (al:∀ p∈prs0,zNt) (ep:prs=itP eR srt prs0 n) (cn:cans eR srt prs=[])
theorem AnsD.det {w:Nat}{ps:cJ}{srt:cF}{prs prs':cS} (nn:FX) (a:zRr) (b:AnsD w ps srt prs'):prs'=prs:=by
 cases a with
 | mk r l e al ep cn =>
  cases b with
  | mk r2 l2 e2 al2 ep2 cn2 =>
   show(RX,r.det r2);show(tG,rfl,rfl,rfl,rfl,l.det l2);show(uq,x20 nn (e.trans e2.symm) al al2)
   rename_i n1 n2
   subst ep ep2;rcases Nat.le_total n1 n2 with h|h
   .ext zgU k zJp;exact xk3 cn k
   ext zgU k zJp;exact (xk3 cn2 k).symm
meta def MayA (srt:cF) (prs:cS):Prop:=∀ p∈prs,dX∈srt/\xbw cO dX=true
theorem xs8 {ps:cJ}{w h:Int}{ss:cF}{prs:cS} (nx:(ps.map (·.x)).Nodup) (g:FT) (m:ztY):∀ k,MayA ss vN
 | 0=>m
 | fC=>by
  show(cB,q,xs8 nx g m k,v,zog);show MayA ss EM;generalize vN=b at *;unfold nxtP;split
  .rename_i tr ht
   obtain⟨A,l,B,j,⟨C,c,e,y,P⟩⟩:121:=xk5 (List.mem_of_head? ht);have K:l∈b:=AD
   have J:j∈b:=AD
   have z:excB ss l j=true:=by
    unfold canO at y;split at y
    .ext gR
    cases y
   unfold excB mayB at z;obtain⟨x1,x2⟩:=ziu z;show(hI,H,G,ziu x1,E,D,ziu x2);subst P;show(cI,O,(cu,b.find? (nmF (jO l)),l),xi1 v.nn K,M,(cu,b.find? (nmF (jO j)),j),xi1 v.nn J);simp only[O,M];rw[(xt0 v.nn e).1];intro p L;have I:p∈A\/p=(l.1,j.2)\/p∈B\/p=(j.1,l.2)\/p∈C:=by simpa using L
   rcases I with k|k|k|k|k
   .ext znu
   .rw [k];show(cU,of_decide_eq_true H,G)
   .ext znu
   .rw [k];show(cU,of_decide_eq_true E,D)
   ext znu
  exact q
def xmh {w:Nat}{h:Int}{ps:cJ}{srt:cF}{prs:cS} (nd:(ps.map (·.nm)).Nodup) (ok:zaI eR h) (m:zdg):xc5 o7 prs=ve:=by
 unfold xc5 totI;refine congrArg List.sum (ZF (jN c));have b:=ZR (ok p c).fd;unfold lenP;rw[xoe nd b ((xfv nd b).mpr (m p c))];rfl
inductive x5c (t:Adr) (vs:cA) (H:Hp) (Q:VK) (_:XK):Prop
 | mk (a dp do_:Addr) (w h:Nat) (ps:cJ) (ss srt:cF) (e_:yy) (r_:EE/\vb/\jJ/\j8/\∀ H' tp ln qs prs cs so ho,gg->(Bv tp [Gm,.int ve])->(lm ln uM)->zWG->Ry->xfa o7 Gc ve->prs.map (·.1.nm)=Gc->(oz,zSY,zdg,cans eR ss prs=[],zRr,tp))
def xp9 {ps:cJ}{cs:gf}:∀ nm∈Gc,znR:=λ nm b=>by
 show(cD,p,a,e,Ze.mp (ZN.mp b).1);ext dy p a e
def xtl {room:iQ}{ns:cH}{so:dD}{ho:cP}{cs:gf} (r:vm) (nd:ns.Nodup):∀ z∈FB,(jT (so z)):=λz hz=>by
 have a:=ZN.mp hz;rw[r.dom nd,decide_eq_true a.1,Qv];exact a.2
def xu9 {w h:Nat}{ps:cJ}{ss srt:cF}{names:cH}{prs:cS}{own:eF}{rent:eB}{so:dD}{ho:cP} (pok:vb) (sok:LE) (pm:R4) (en:prs.map (·.1.nm)=names) (nnd:names.Nodup) (n12:Bt) (al:zNz) (run:zxk names so ho):zSY/\zdg:=by
 have mt:=run.fit.mt;have z:zdg:=λ p c=>by
  obtain⟨q,A⟩:=al p c;exact (xfv pok.nn q).mp (mt.rm _ _ A)
 show(gX,(du,jN c,cK en nnd,?_,?_),z)
 .obtain ⟨q,A⟩:=al p c;show(cB,o,pok.ok _ q,b,sok.2.2 dX (pm.mem_iff.mp (z p c).1));show(zGj,xes pok.nn q)
 .rw [<- en] at nnd;rw[YI,Ja] at nnd ⊢;exact nnd.imp_of_mem λ{a b} C B ne e=>ne (mt.inj (s:=b.2) (e▸(al a C).2) (al b B).2)
 .show(nQ,DF en,Za);lia
def xf8 (T:cT):dB 10 t.f_qh t.d_qh R9 (x5c t):=by
 refine T.B_qh.F.okn (k:=9) xef (c7 Q E h) (cZ vs Q E hr h)
 .ext cV
 ext zlF I v;refine⟨_,xb (xbk (pC (xxh T) hr T.B_qg.g T.B_qg.F.kp T.B_qg.b (f8 0 (gP zBS))) (uh (pN 1 xef.nd) 2 xef.nd 3))
  (xb (Ez (pC (xpa T) hr T.B_cy.g T.B_cy.F.kp T.B_cy.b (lC 1)) 4 xef.nd 5)
  (LF (NU 4 (pC (xn5 T) hr T.B_c8.g T.B_c8.F.kp T.B_c8.b (lC 4))))),?_⟩
 refine sq3 ?_; intros; ext CU J j ab ah q h;show(dZ,M,FX,j.nn,⟨a,dp,I,v,h',ps,ss,srt,rfl,J,M,λ H1 l1 R so ho s1 f1 e1 L=>?_⟩);have aa:=J.same s1;have knd:(U5).Nodup:=JZ.filter _ M;have kl:d6 U5 12:=by
  refine Z1 Vg ?_;unfold xat;show(cW,Za,j.le)
 show(dQ,⟨a,l1,dp,I,v,h',ps,ss,srt,U5,rfl,(yr,aa,j,e1,xp9,knd,kl,(fG,so,ho,L.mt,xtl L M),λ H2 tp lp as ar qs prs an aj am ap s2 ae ag pl en al ow rn C _ _ _ _=>?_)⟩,fU tp ae);have O:=aa.same s2;obtain⟨Y,my⟩:=xu9 j J.ok J.pm en knd kl al C;have ad:ztY:=qY (AX,J.pm.mem_iff.mp (my p hp).1,my p hp)
 show(dQ,⟨a,dp,I,lp,v,h',ps,ss,prs,qs,rfl,(ib,O.pic,O.sts,ag,pl,Y,j.nx,λ H3 ac ln ls n S sq s3 f3 g3 e3 U aq ak ne D cn ao=>?_)⟩,fU ac g3);have ai:=O.same s3;show(dQ,⟨a,dp,I,ln,v,h',ps,_,S,rfl,(iU,ai.pic,e3,U,(D n).ok,(D n).le,cG H4 s4)⟩,Db qt af);have lo:=xqy ab ah j J.ok J.pm;show(kn,k1,k2,k3,xqa (ss:=ss) j.nx Y n);show(gT,X,xs8 j.nx Y ad n,G,MayA srt Mj,qY (AX,J.pm.mem_iff.mpr (X p hp).1,X p hp))
 have Z:(Mj).map (·.1.nm)=U5:=by
  rw[<- en];show(Cd,congrArg (Wb λ p:Pt=>p.nm) k1,Zq,Zq);ext gD
 have gv:gvL (xaa v ps srt) U5 Mj=true:=xij.mpr (cC,Z,k2.nodup_iff.mpr Y.ns,(qY,(xfv j.nn (ZR ((D n).ok p hp).fd)).mpr (G p hp)));have dual:=C.fit.dual lo gv;show(Fm,lf,tight,C.fit.leastF lo knd en (qY,(al p hp).2));rw[xmh j.nn (D n).ok G] at dual;rw[xmh j.nn Y.ok my] at lf tight;show(HJ,et,totI v Mj=totI v prs,cm,sf,Same H3 (tH H4 qt Gm (totI v Mj)),s4.trans (ge af),q _ qt ln S Mj R so ho (((pB).trans s3).trans sf) xj (sf _ _ e3) (U.keep (Same.tups sf)) L ?_ Z (D n) G cn (.mk L C en al (xyc (λ s=>J.pm.mem_iff.symm) prs n) (cK,xqb (λ s=>J.pm.mem_iff),cn)));ext cW et lf
meta abbrev Cl:=jE
meta def SD (H:Hp) (d:Addr) (n:Nat) (m:gG):Prop:=∃ kvs,M9/\zsg/\(kvs.map (·.1)).Nodup/\(∀ kv∈kvs,∃ c,oM=ck c)/\∀ c,zUT=(m c).map V.str
theorem xmk {κ:Type} [wL] (kvs:iB) (k:κ) (v:V):(rG).map (·.1)=kvs.map (·.1)\/(Pk/\(rG).map (·.1)=kvs.map (·.1)++[k]):=by
 cases e:rH with
 | none =>
  rw[xdh v e,Zu];ext fe lQ
 | some y =>
  left;unfold putK;rw[df (ir xee e),Zq]
  ext iJ
  funext kv;show (gH oM k (oM,v) kv).1=oM;split<;>rfl
theorem xjm {κ:Type} [wL]:∀{kvs:iB}{k:κ},Pk->k∉kvs.map (·.1)
 | [],_,_,h=>nomatch h
 | AU,k,e,h=>by
  by_cases z:cQ=k
  .show(zfP,xbt z)
  rw [xbg z] at e;rcases Gk with h|h
  .exact z h.symm
  exact xjm e h
def xqv {κ:Type} [wL] {kvs:iB}{k:κ}{v:V} (h:(kvs.map (·.1)).Nodup):((rG).map (·.1)).Nodup:=by
 rcases xmk kvs k v with e|⟨i,e⟩
 .ext eO e h
 rw [e,ZH];show(eW,h,cy,λ a f b c z=>xjm i ?_);show(ef,Zp.mp c,z,z▸f)
def xoj {κ:Type} [wL] {kvs:iB}{k:κ}{v:V}{P:κ->Prop} (hk:P k) (h:zVI):∀ kv∈rG,zgw:=λ kv c=>by
 have m:oM∈(rG).map (·.1):=UE kv c;rcases xmk kvs k v with e|⟨_,e⟩
 .rw [e] at m;ext Dm z hz d m;rw[<- d];exact h z hz
 rw [e] at m;rcases Zy.mp m with m|m
 .show(o9,z,hz,d,Ze.mp m);rw[<- d];exact h z hz
 show(eO,Zp.mp m,hk)
def SD.put {H:Hp}{d:Addr}{n:Nat}{m:gG} (s:Fc) (hn:ziZ) {b:Addr}{c:Cl} (eb:ji b LJ) (x:Str) :
    ∃ H',(dh,zQW,SD H' d i0 (Drw.set1 m c x),zoB,zpy):=by
  ext tJ kvs e l j o vs s;refine(pW,_,VG AV e eb GZ,(dN,65,_,xj,?_,xqv j,xoj (P:=zOw) (lS c) o,nY),zMw,zBO)
  . show(fj,xbv kvs AV (.str x))
  . rw[xcx]
    unfold Drw.set1;by_cases zc:z=c
    . rw[CT zc,df zc]
      rfl
    . rw[(E6,zc (xs2 y)),dz zc]
      exact vs z
def SD.get {H:Hp}{d:Addr}{n:Nat}{m:gG} (s:Fc) {b:Addr}{c:Cl} (eb:ji b LJ):zgN ((m c).map V.str):=by
 ext tJ kvs e l h j vs s;show(kC,vs c,F8 AV e eb)
def SD.keep {H H':Hp}{d:Addr}{n:Nat}{m:gG} (s:Fc) (h:zxD):SD H' d n m:=by
 ext zPi
def SD.le {H:Hp}{d:Addr}{n k:Nat}{m:gG} (s:Fc) (h:n<=k):SD H d k m:=by
 ext zlo
def SD.new {H:Hp}{d:Addr} (e:H d=some (.dT [])):SD H d 0 Drw.no:=⟨65,[],e,dF,Y3,jC,iN⟩
meta def lsS (x r:Int) (c:Cl):Str:=Drw.ls (Zg "+") (Zg "|") Vn x r c
meta def ledS (w:Int) (p:Pr):E0:=zpl "|" uD yK mU jI
meta def hsS:Str:=Zg "#"
def xvo {w x y:Int}{b:Bool}{r:Int} (h1:DQ) (h2:x<=w) (h3:jJ) (h4:1<=y) (h5:y<=16) (h6:DK) (h7:r<=16):d6 RI 50:=by
 unfold Geo.cells Geo.upL Geo.lvL Geo.upN Geo.lvN;rw[Zr,Za,Za,Z9,Z9];ext zcL
def x0i (c d:Cl):DV.tup LJ=DV.tup (i8 d.1 d.2)↔c=d:=by
 constructor
 .intro h
  show(cB,a,Yo.inj (DV.tup.inj h),b,Yo.inj a.2);exact Yg (DV.int.inj a.1) (DV.int.inj b.1)
 intro h;rw[h]
inductive xzb (vs:cA) (H:Hp) (Q:VK) (_:XK):Prop
 | mk (q:Addr) (c:Cl) (x r:Int) (e_:De rZ C5 r) (r_:Um/\(zrF LU))
inductive xv2 (t:Adr) (vs:cA) (H:Hp) (Q:VK) (_:XK):Prop
 | mk (a l dp do_:Addr) (pw ph:Int) (ps:cJ) (prs:cS) (qs:cM) (e_:Fe) (r_:zmv (zKL 600 (zqg (prs.flatMap (ledS pw)))))
def ok_a2 (T:cT):mr t.f_a2 t.d_a2 zao (xzb):=by
 refine T.a2.F.okn (k:=0) sc_a2 (c7 Q E h) (cZ vs Q E hr h)
 .ext cV
 ext EH q c x r;refine⟨_,xb (VP (xu (xhv (xb0 hr)) dU (xag Cj) nA) (xan))
  (gq (xcp (tV Ud ew) (xan) (xan))),?_⟩
 refine sq2 ?_; intros; ext wK; obtain⟨G,h⟩:=h;ext pU D C;generalize I:iP H D zxI=m;ext jS l C I M I;show(ia,O,Dv K m 1 rZ (.tup LJ),.tup (jP (l _ _ G)) rfl (zeI LJ),N,Dv K m 1 (.ref D) (.tup zxI),.tup (jP M) rfl (zeI zxI),(dM,1,1,_,_,O,zq N ?_));rw[xgl (x:=c) (y:=Hu) rfl rfl (x0i c Hu)];have J:LU=(gH,c,Hu,Zg "+",(gH,jw,x,Zg "|",Vn)):=rfl
 refine ite2 nY nY
 .have e:=h m l;rw[J,if_pos (of_decide_eq_true z)] at e;exact e
 show(dZ,L,¬ c=Hu,λ y=>z (decide_eq_true y),(oQ,q,.int jw,B5 (l _ _ G) CF));have e:=h m l;rw[J,dz L] at e;refine ite2 (fL y) (fL y)
 .have y1:jw=x:=V.int.inj (of_decide_eq_true y);show(ef,df y1,e,e)
 have y1:¬ jw=x:=λ w=>y (decide_eq_true (hD w));show(ef,dz y1,e,e)
def ok_af (T:cT):dB 7 t.f_af t.d_af iM (xv2 t):=by
 refine T.af.F.okn (k:=6) sc_af (c7 Q E h) (cZ vs Q E hr h)
 .ext cV
 obtain ⟨a,l,dp,U,C,ph,ps,prs,qs,rfl,h⟩:=h;refine⟨_,xb (pS 2 sc_af.nd (xf5))
  (xb (xaz Z4 rfl (x9 (pv 1)) (uh (pN 3 sc_af.nd) 4 sc_af.nd 5) (xb (Ez (Xu Nq) 6 sc_af.nd 7)
  (xk (qO (x9 zke) (pN 8 sc_af.nd) (xk (vq hB wg (xcp (xd7 (xgy pH wg (pv 2))) (xan) (pC (ok_a2 T) hr T.a2.g T.a2.F.kp T.a2.b (f8 8 (lq 6 5))))))))))
  (w6 2)),?_⟩
 refine sq3 ?_; intros; ext sI N hl ac ah av;have au:=ac.len;refine S5;generalize eu:j3 H d []=H1;ext oX; show(iG,s1,hd,eu,g1,⟨63,l,rfl,(hZ,cN zfp),?_⟩)
 show(zMb,∃(v3 v4 v5 v6 v7 X:eV),(M0,[iH,mV,Vi,v3,v4,v5,v6,v7,X],Y,SD Y d (50*i) (zqg ((SF).flatMap (ledS C)))))
 show(zvS,(AI (nH,_,s1,SD.new g1)))
 .show(Xh,Y,L,L _ _ hl)
 .rintro i x Z Y hx (⟨v3,v4,v5,v6,⟨v7,X,rfl,L,sd⟩⟩:121);ext rB qa al;obtain⟨⟨pt,b,r⟩,hp,an⟩:62:=ac.get al;show(gT,ok,ah _ (Zn hp),ax,i<12,Nh hp)
  show(cB,w2,N.w2,h2,N.h2);show(eY,xy,(zHg,pt.x<=C),ok.xy,r1,DK,ok.r1,r2,VN,ok.r2);show(zaW,fU qa (L _ _ an)); have D:=kI L N;show(vM,dx,ao,D,⟨tX,rfl,ao,fb,a,dp,U,C,ph,ps,pt.nm,pt,rfl,D,ok.nm,ok.fd,λ H6 q6 s6 am=>fU q6 am⟩);ext zMs; refine⟨a,dp,U,C,ph,ps,pt.nm,pt,b,r,rfl,(ib,kI s6 D,ok.nm,ok.fd,ok.r1,ok.r2,ok.xy,λ H7 l7 cq s7 R af ar=>lH l7 R)⟩;have J:=sd.keep (H':=H7) (j9,pZ (s6 _ _ e));have aj:l7≠d:=by
   ext fO kvs e J;exact ne_f R e
  show(cB,ap,af.len,ay,xvo (b:=b) xy.1 (dO xy) w2 (ug xy) cm r1 cm);have ll:(Ek).length=cq.length:=by
   unfold ledS Drw.ledP;rw[Za,ap]
  let Pv (j:Nat) (Z:L2.St) (H8:Hp):Prop:=∃(X:eV),(eX,Z,[iH,mV,Vi,zvC,zib,d0 r,d0 pt.x,d0 pt.y,X],(ki d (cu,H7 c,u) (cu,H8 c,u)),SD H8 d (50*i+j) (Drw.marks hsS (zqg ((SF).flatMap (ledS C))) ((Ek).take j)))
  show(wE,cq.map V.ref,gS _ zsG J)
  .rintro j Z H8 _ (⟨_,rfl,O,_⟩:63);show(qS,O _ _ aj R)
  .rintro j x Z H8 hx (⟨X,rfl,O,v⟩:63);ext rB qc ad;show(cD,c,hc,ae,af.get ad);have aw:j<50:=Nh ad
   have ai:qc≠d:=by
    ext fO kvs e J;exact ne_f ae e
   have I:=O _ _ ai ae;have aa:∀ m:gG,Drw.marks hsS m ((Ek).take jQ)=Drw.mark1 hsS (Drw.marks hsS m ((Ek).take j)) c zte:=λ m=>by
    have e:gC Ek (c,zte):=by
     unfold ledS Drw.ledP;rw[Zf,hc];rfl
    rw[ZD,e];unfold Drw.marks;rw[Yc];rfl
   refine(RW,d,v.get I,ite2 nY nY)
   .rw [Qj] at z;show(UX,H9,G,ag,k9,v.put cm I hsS);refine(oC,d,H9,G,gS _ (FQ,k9 _ _ nc (O _ _ nc e)) ?_);rw[aa];unfold Drw.mark1;show(cW,df z,ag)
   rw [Qj] at z;refine(dN,qc,c,pt.x,r,rfl,I,cG H9 s9);show(UX,aq,G,ab,ak,(v.keep (H':=H9) (j9,s9 _ _ e)).put cm (s9 _ _ I) zte);refine⟨83,d,aq,rfl,G,gS _ (FQ,ak _ _ nc (s9 _ _ (O _ _ nc e))) ?_⟩;rw[aa];unfold Drw.mark1;ext sr z ab
  ext zdy H8 as O v;rw[Za] at v;refine(AI,AZ _ (mZ,O _ _ (xh e hd) (KW (L _ _ e))));rw[ZZ (l:=Ek) cm] at v;have e:(prs.take dc).flatMap (ledS C)=(SF).flatMap (ledS C)++Ek:=by
   rw[ZD,hp,Ji];exact congrArg _ (Ju _)
  rw[e];refine SD.le ?_ (fD,50*i+cq.length<=50*dc);unfold Drw.marks at v ⊢;ext cW Yc v
 rintro Z Y (⟨v3,v4,v5,v6,⟨v7,X,rfl,L,sd⟩⟩:121);refine (q Y d L hd ?_);show(oS,ZZ cm,sd);exact sd.le cm
def xnu {lo:Int}{m n:Nat}{g:TG}{Z:L2.St}{fr:de}{te:TE}{l:Addr}{H1:Hp}{Q:VK} (hlen:sv m) (hl:qv) (f:Nat->V)
    (step:∀(i:Nat) H2,i<m->nZ->∀(N:ud),(∀ H',LL->N (f i) H')->(XM Li))
    (fin:zmw (.lst ((Zz m).map f))):Tf (Itr lo m):=by
  refine xrb hlen hl (Hm,y=f i) wI (λ i H2 hi s N h=>step i H2 hi s N λ H' s'=>h _ H' s' rfl) (λ ys H2 s e ly fy=>fin H2 s ?_);rw[e]
  congr 2
  refine QM (UH Z9) (c8 i b c);rw[fy i _ (Zc b),JL,Qy]
meta def rimC (w:Int) (s:Seat):Cl:=(GO i3,fW)
meta def xcr (w:Int) (ss:cF):E0:=ss.map λ s=>(rimC w s,zjy)
meta def xb8 (w:Int) (prs:cS):E0:=prs.map λ p=>(rimC w dX,eS)
meta def ptsS (ps:cJ):E0:=ps.map λ p=>(zwi,p.nm)
meta def xrp (w:Int) (ss:cF) (prs:cS):gG:=Drw.sets zIF (xb8 w prs)
meta def rowT (w:Nat) (r:Int) (m:gG):Str:=zir ((Zz (w+2)).map (fE,j,(zgb).getD (Zg " ")))
meta def xh4 (w h:Nat) (m:gG):cA:=(Zz h).map (fE,i,V.str (rowT w DJ m))
meta def xyh (m:gG):Prop:=∀ c s,zto->s.length<=5
inductive x2z (t:Adr) (vs:cA) (H:Hp) (Q:VK) (_:XK):Prop
 | mk (a l dp do_:Addr) (pw ph:Int) (ps:cJ) (ss srt:cF) (prs:cS) (qs:cM) (e_:Fe) (r_:(uE,i5,qp,ED,R4,PB,xU,EF/\Ev/\(zKL 50 (xrp pw srt prs))))
inductive x4l (vs:cA) (H:Hp) (Q:VK) (_:XK):Prop
 | mk (d:Addr) (n w:Nat) (r:Int) (m:gG) (e_:(De,uf,.int eR,r)) (r_:(dh,Fc,xyh m,jJ,zrF (rowT w r m)))
def xm6 {o:zoV}{k:V->Prop}{v:V} (e:o=(pi v)) (z:k v):oV o k:=by
 ext rh z
def xxx {t:Adr}{Z:L2.St}{H:Hp}{Q:VK}{i j:Nat}{b:Bool}{w:Int} (hi:Dy=(pi lu)) (hj:gC Z zjh) (h:Ej (GO b)) :
    (zzF t.C_q (sp1 (V.int 0))) \/
    (zzF t.C_e (xyg t)):=by
  cases b
  . show(lW,zGe false)
    show(zS,f,id a);exact⟨p,f,_,rfl,hs,Vt,p,w,rfl,a,h o c⟩
  . show(AO,zGe true)
    show(zS,f,id a);exact(zbN,f,hs,h o c)
theorem SD.puts {d:Addr}:∀(L:(NM,Cl × Str)) {H:Hp}{n:Nat}{m:gG},Fc->(jA,n+L.length)->(∀ x∈L,(ji cQ (i8,(dY).1,(dY).2))) ->
    ∃ H2,(zuH (lA,V.ref cQ,kH))/\SD H2 d (n+L.length) (Drw.sets m (L.map λ x=>(dY,kH)))/\(zVS (cu,H2 a,u))
  | [],H,n,m,s,_,_=>eE H .nil s EK
  | uA,H,n,m,s,hn,hk=>by
    rw[Z6] at hn;show(UX,C,B,w,q,s.put cm (hk x jb) kH);obtain⟨H2,b,v,z⟩:63:=SD.puts L w cm (λ y hy=>by
      have e:=hk y (Zl _ hy);ext fO kvs A s;exact q _ _ (nB A) e)
    show(kP,H2,.cons B b,v.le (pA Z6),λ a u j e=>z _ _ j (q _ _ j e))
theorem xlx {H:Hp}{w:Int}:∀{ss:cF}{ys:cA},(vC ss.length)->(IR,∃ p kp s,dh zyo (dS ss s) (ji p [.ref kp,zyp]) (ji kp (i8 (GO i3) fW))) ->
    ∃ L:Sh Seat,zlT/\L.map (·.2.2)=ss/\∀ x∈L,(ji cQ [.ref dY,zyp])/\(ji dY (i8 (GO Gv) HV))
  | [],[],_,_=>gS [] rfl jC
  | NZ,pK,hl,h=>by
    obtain⟨p,kp,s',rfl,es,d,c⟩:104:=h 0 y rfl;cases es;show(ld,L,q,o,j,xlx (ss:=ss) (ys:=ys) (by simpa using hl) (λ i z hz=>h dc z hz),(eE,(p,kp,s)::L,fY q,zeP o,cG x b));rcases qP with rfl|b
    . ext cU d c
    . exact j x b
  | [],fh,hl,_=>nomatch hl
  | fh,[],hl,_=>nomatch hl
def xmo {m:gG}{L:E0}{i:Nat}{c:Cl}{x:Str} (h:dS L (c,x)):Drw.sets m (L.take dc)=Drw.set1 (Drw.sets m (L.take i)) c x:=by
 rw[ZD,h];unfold Drw.sets;rw[Yc];rfl
def ok_a4 (T:cT):dB 7 t.f_a4 t.d_a4 iM (x2z t):=by
 refine T.a4.F.okn (k:=6) sc_a4 (c7 Q E h) (cZ vs Q E hr h)
 .ext cV
 obtain ⟨a,l,dp,ag,v,ph,ps,ss,srt,prs,qs,rfl,h⟩:=h;refine⟨_,xb (y0 2 sc_a4.nd eZ)
  (xb (pS 3 sc_a4.nd (HY (uO,(Ra,["width"],[2],SG "pairs" "width" "signs" "name" "side" "row",s_a4),Xp,Oq,G6,uV,xag (xa (xag (xa (xfr (mO (pC (ok_ab T) hr T.ab.g T.ab.F.kp T.ab.b (lC 2)) T.c_q T.an.m (ok_an T) eG T.an.b) (mO (pC (ok_ab T) hr T.ab.g T.ab.F.kp T.ab.b (lC 2)) T.c_e T.ad.m (ok_ad T) eG T.ad.b)) mT)) (gP (xan))))))
  (xb (nO 1 (uh (pN 4 sc_a4.nd) 5 sc_a4.nd 6) (xk (vq gM (xag (xa (xfr (mO (pC (ok_ab T) hr T.ab.g T.ab.F.kp T.ab.b zyc) T.c_q T.an.m (ok_an T) eG T.an.b) (mO (pC (ok_ab T) hr T.ab.g T.ab.F.kp T.ab.b zyc) T.c_e T.ad.m (ok_ad T) eG T.ad.b)) zjn)) h8)))
  Nf)),?_⟩
 refine sq4 ?_; intros; obtain⟨ab,ah,aw,pm,al,hl,⟨aa,ax,q⟩⟩:47:=h;ext y8 dx ad ab;show(cB,av,aa.len,au,pm.length_eq);show(dQ,rF _ ad ?_,⟨a,dx,_,rfl,ad,fb,a,dp,ag,v,ph,ps,ss,rfl,ab,ah,λ l1 ss' rs ar sl am ak=>?_⟩);show(jp,ss'=srt,xda xdw (am.trans pm.symm) ak al);ext zOB zol ar;show(cB,ai,zqT s1,aj,sl.len);refine h9 l1 g1 l2 aq;refine xbr (cN g1) qi aq (λ i y X=>∃ p I s,(dh,zyo,dS ss' s,X p=some (.tup [NB,zyp]),X I=some (.tup (i8 (Drw.rim v i3) fW)))) ?_ ?_ ?_
 .rintro i y X H6 tp (⟨p,I,s,e1,e2,e3,e4⟩:104);exact(mR,p,I,s,e1,e2,sM e3,sM e4)
 .intro i x X G s5 N hN
  rw[Zf,Zh] at G;ext jq qa J G;obtain⟨⟨b,r⟩,hs,ao⟩:62:=ai.get J;refine fU qa (nD ao);show(zIP,0,cG H6 s6);show(gX,tz,λ I O=>(Hq,jN M));exact oO (s6.trans (xw (ge O) M)) (mR,p,I,oD,rfl,hs,xj,Dh xj M)
 intro ys X s5 e5 ly fy;show(dG,L,rfl,e2,e3,xlx (ss:=ss') (UH aj) fy);have lL:L.length=ss'.length:=by rw[<- e2,Za]
 show(Oh,l2,vg (cQ,V.ref dY,UP "."),cK Zq e5,?_,S5)
 .intro p M
  ext gu x G M;exact (e3 x G).1
 have fd:zjl:=s1.free (s5.free hd);obtain⟨H6,af,D,k6⟩:63:=SD.puts (d:=d) zKP (SD.new (H:=j3 X d []) xj) CA (λ x G=>by
  ext gu z hz G;show(DB,(e3 z hz).2,hd))
 refine d9 Nd H6 zW ?_ ?_
 .rw [Zq] at af ⊢;exact af
 ext oX; have ac:gB H6:=(mZ,k6 _ _ (xh e fd) (Dd,fd,nD FZ));have ed:(zKP).map (λ x=>(dY,kH))=xcr v ss':=by
  unfold xcr;rw[<- e2,Zq,Zq];rfl
 rw[ed] at D;show(eK,D,D.le (k:=32) CA,lH l (ac _ _ hl))
 show(zMa,∃(v4 v5 v6:eV),(M0,[iH,mV,d0 v,Vi,v4,v5,v6],U,SD U d (32+i) (Drw.sets (Drw.sets Drw.no (xcr v ss')) ((xb8 v prs).take i))))
 show(zvS,dN 103 _ _ _ rfl ac D)
 .show(zln,U,R,R _ _ hl)
 .rintro i x Z U G (⟨v4,v5,v6,rfl,R,C⟩:103);rw[Zf,Zh] at G;ext jq qa J G;obtain⟨⟨pt,b,r⟩,M,ap⟩:62:=aa.get J;show(dZ,ay,i<12,Nh M,fU qa (R _ _ ap));show(zIP,5,cG H8 s8);ext pU I O;generalize eu:iP H8 I (i8 (Drw.rim v b) r)=H9;ext n8 s9 O g9;show(UX,as,ae,Y,an,(C.keep (H':=H9) (j9,s9 _ _ (s8 _ _ e))).put (c:=rimC v oD) cm g9 pt.nm);refine(oC,d,as,ae,dN 103 _ _ _ rfl (mZ,an _ _ (xh e fd) (s9 _ _ (s8 _ _ zhF))) ?_);rw[xmo (c:=rimC v oD) (x:=pt.nm)]
  .exact Y
  unfold xb8;rw[Zf,M];rfl
 rintro Z U (⟨v4,v5,v6,rfl,R,C⟩:103);refine (q U d R fd ?_);show(oS,ZZ (l:=xb8 v prs) (by unfold xb8; rw[Za]; lia),C);exact C.le cm
def ok_bm (T:cT):mr t.f_bm t.d_bm OM (x4l):=by
 refine T.bm.F.okn (k:=0) sc_bm (c7 Q E h) (cZ vs Q E hr h)
 .ext cV
 obtain ⟨d,n,y,r,m,rfl,h⟩:=h;show(zR,(zDP (uX,(sS ["column"] ["signs", "row"] [0,2] OM s_bm),xsu rfl T.n_range (gP (vA ew)),xne pH ew (xag (lC 2)) (xan) zpz)));ext uw J U S;refine d4 (pW,(hU,y+2),fY Int.natCast_add,cm,cm,cG X G);refine xnu GZ G (fE,j,V.str ((zgb).getD (Zg " "))) ?_ ?_
 .intro i I hi v N Z
  simp only[Int.zero_add];show(fO,kvs,ed,id J);refine(pW,d,rfl,.inr ⟨kvs,.inl (v _ _ ed)⟩,tz,jN Y);generalize M:iP I p (i8 fc r)=R;show(iG,L,Y,M,g3,(sF,(J.keep (H':=R) (j9,L _ _ (v _ _ e))).get (c:=(fc,r)) g3));have e:((zxY).map V.str).getD (UP " ")=V.str ((zxY).getD (Zg " ")):=zed zxY
  show(rh,Z R L)
 intro I v O;rw[JT] at O;refine(iT,Zg "",X,(Zz (y+2)).map (fE,j,(zgb).getD (Zg " ")),5,(ff,rfl,ir O Zq,FF,?_,q I v))
 .obtain ⟨j,_,rfl⟩:62:=zgn;cases e:zgb with
  | none=>exact (c9:d6 Ay 5)
  | some x=>exact U _ _ e
 rw [Za,Z9,(j4,(Zg "").length,0,c9)];ext UW
theorem xkk {κ:Type} [wL]:∀(more kvs:iB) (k:κ),(more.map (·.1)).Nodup->valV zhh k=(valV more k).or rH
 | [],kvs,k,_=>rfl
 | AU,kvs,k,nd=>by
  ext Fj;show valV zOh k=_;rw[xkk r _ k lB,xcx];by_cases e:cQ=k
  .ext eQ;rw[xbt rfl,fH];have:valV r cQ=none:=by
    cases z:valV r cQ with
    | none=>rfl
    | some y =>
     show(GA,i,xlh z);show(zrA,(hX,Zn c))
   rw[this];rfl
  rw [AK,(mE,e z.symm)]
theorem xj8 {κ:Type} [wL] {P:κ->Prop}:∀(more kvs:iB),(∀ kv∈more,zgw)->((kvs.map (·.1)).Nodup/\zVI)->((zhh).map (·.1)).Nodup/\(∀ kv∈zhh,zgw)/\(zhh).length<=zTk
 | [],kvs,_,h=>cC lD lE dF
 | AU,kvs,hm,h=>by
  have z:=xj8 r (ziL kvs) (λ kv hkv=>hm kv (Zl _ hkv)) ⟨xqv h.1,xoj (hm x jb) lE⟩;ext ie ro Vl;have:=zjA;have:=xbv kvs cQ eP;rw[Z6];show d6 zOh _;lia
meta def xiy (w:Int) (c:Cl):Prop:=(jw=0\/jw=w+1)/\1<=nJ/\nJ<=16
theorem xof {α β:Type}{f:C2}:(VA,Ki->∀ a∈l,∀ b∈l,zNi)
 | [],_,_,ha,_,_,_=>nomatch ha
 | x::l,nd,a,ha,b,hb,e=>by
  ext Fj;rcases Zt.mp ha with n|i<;>rcases Zt.mp hb with j|h
  .rw [n,j]
  .subst n;show(zrA,cC b h e.symm)
  .subst j;show(zrA,cC a i e)
  exact xof lB a i b h e
meta def xg8 (w:Nat):List Cl:=((VS).map (fE r (dk 0,Vc)))++((VS).map (fE r (eR+1,Vc)))
def xpd {w:Nat}{c:Cl} (h:xiy w c):c∈xg8 w:=by
 ext RH;ext kn b f d h;show(cI,f,1<=v,f,d,v<=16,d);unfold xg8;rw[Zy,Ze,Ze];have e:(rg ztR)=v:=cm
 rcases b with b|b
 .have b:u=0:=b;show(eg,(cC,ztR,zfr,fS e b))
 have b:u=eR+1:=b;show(fe,(cC,ztR,zfr,fS e b))
def xxw {w:Nat} (w1:sL) (w2:jJ) {a b:Cl} (ha:xiy w a) (hb:xiy w b) (e:th a.1 a.2=th sR b.2):mx:=by
 have z:=xy8 w cm w1;have y:((xg8 w).map λ c:Cl=>th jw nJ).Nodup:=by
  unfold xg8;rw[Zu,Zq,Zq];ext gD
 exact xof y a (xpd ha) b (xpd hb) e
def SD.hash {X:Cx}{H:Hp}{d:Addr}{n w:Nat}{m:gG}{kvs:fP} (s:Fc) (e:M9) (w1:sL) (w2:jJ) (hm:∀ c,(yM,m c)->xiy w c):(kvs.map λ x=>zfY).Nodup:=by
 ext tJ D E l C I vs s;ext dP e E E;have B:∀ kv∈kvs,∃ c,oM=ck c/\xiy w c:=λ kv hkv=>by
  show(lO,c,I kv hkv);show(eW,c,q,hm c nY);have y:=vs c;show(ef,z,y,xjm y (Ze.mpr (cC kv hkv q)))
 rw[YI,Ja];rw[YI,Ja] at C;refine JZ.imp_of_mem ?_ C;intro a b K J ne j;show(tL,c,q,G,B a K,L,A,v,B b J);rw[q,A] at j ne;unfold ck at j;rw[xoa,xoa] at j;exact ne (hD,xxw w1 w2 G v j)
def SD.merge {H:Hp}{a b:Addr}{n k:Nat}{m m2:gG}{kvs more:fP} (s:SD H a n m) (s2:SD H b k m2) (ea:GS) (eb:zKq):SD (j3 H a EL) a (n+k) (λ z=>(m2 z).or (m z)):=by
 ext tJ y j l A B vs s;ext dP ea j j;ext tJ w i C q x p s2;ext dP eb i i;have z:=xj8 (P:=zOw) more kvs x ⟨A,B⟩;refine⟨65,EL,xj,?_,ro,Vl,mX⟩
 .have:=zjA;unfold xdx;lia
 unfold xdx;rw[xkk _ _ _ q,p,vs];show _=W2 V.str ((m2 c).or (m c));cases m2 c<;>rfl
theorem xec {P:Str->Prop}:zzI zWF
 | [],_,hm,_,c,s,e=>hm c s e
 | uA,m,hm,hL,c,s,e=>by
  refine xec (L:=L) (m:=Drw.set1 m cQ eP) zyB zOC c s e;unfold Drw.set1 at e;ext Oe
  .cases e;exact hL x jb
  exact hm c s e
theorem xhu {P:Str->Prop}{hs:Str} (hh:P hs):(zzI,Drw.marks hs m L c)
 | [],_,hm,_,c,s,e=>hm c s e
 | uA,m,hm,hL,c,s,e=>by
  refine xhu hh (L:=L) (m:=Drw.mark1 hs m cQ eP) zyB zOC c s e;unfold Drw.mark1 Drw.set1 at e;ext Oe
  .cases e;split
   .exact hh
   exact hL x jb
  exact hm c s e
def xj5 {L:E0}{m:gG}{c:Cl} (h:yM zWF):(yM,m c)\/∃ x∈L,cQ=c:=by
 by_cases z:c∈L.map (·.1)
 .show(o9,x,d,e,Ze.mp z);show(fe,cC x d e)
 show(kN,Drw.sets_no z);ext eg h
def xo8 {s:Str} (h:qG s):s.length<=5:=by
 ext zxw;rw[Z8] at h;show(fj,zaV h)
def xw4 (x r:Int) (c:Cl):d6 LU 5:=by
 unfold lsS Drw.ls;split
 .ext mH
 .split<;>decide +kernel
meta def xcc (w:Int) (ps:cJ) (ss:cF) (prs:cS):gG:=Drw.drawP hsS zNE Mh FE MU
theorem xry {w:Int}{ps:cJ}{ss:cF}{prs:cS} (h1:znO) (h2:zOR):xyh zbR:=by
 show(zGL,(cu,(Drw.no:gG) c,s)->s.length<=5);have j:=xec (P:=zbE) (L:=Mh) no (λx b=>by
  ext yH z zhY;show d6 zjy 5;ext mH)
 have i:=xec (P:=zbE) (L:=FE) j (λx b=>by
  ext zgE;exact xo8 (h2 z hz))
 have d:=xhu (P:=zbE) (hs:=hsS) (by unfold hsS; decide +kernel) (L:=prs.flatMap (ledS w)) no (λx b=>by
  ext zEo;exact xw4 _ _ _)
 intro c s e;refine xec (P:=zbE) (L:=ptsS ps) (λc s e=>?_) (λx b=>by
  ext zgE;exact xo8 (h1 z hz)) c s e
 cases e1:zSs with
 | some y =>
  show(ku,e1,e,i c _ e1)
 | none =>
  ext zUP;exact d c s e
inductive xzd (t:Adr) (vs:cA) (H:Hp) (Q:VK) (_:XK):Prop
 | mk (a l dp do_:Addr) (w h:Nat) (ps:cJ) (ss srt:cF) (prs:cS) (qs:cM) (e_:Fe) (r_:EE/\(cR xU EF (zaI eR j6) Ev (zmy (xh4 w h (xcc w ps srt prs)))))
def xnv (T:cT):dB 8 t.f_qi t.d_qi iM (xzd t):=by
 refine T.B_qi.F.okn (k:=7) xdy (c7 Q E h) (cZ vs Q E hr h)
 .ext cV
 obtain ⟨a,l,dp,I,v,h',ps,ss,srt,prs,qs,rfl,h⟩:=h;refine⟨_,xb (y0 2 xdy.nd (pC (ok_af T) hr T.af.g T.af.F.kp T.af.b (lC 1)))
  (xb (xap (xck YN PySem.F.slot_dict_update PySem.F.type_dict_update (xva (xa3 hr)) hB (gP (pC (ok_a4 T) hr T.a4.g T.a4.F.kp T.a4.b (lC 1)))))
  (xb (qO DT (oE (EJ (pN 3 xdy.nd) (pN 4 xdy.nd) (pN 5 xdy.nd) (pN 6 xdy.nd) (mC 7 xdy.nd 8 xdy.nd))) (xk (vq hB (xag (lq 4 5)) gM)))
  (gq (uX,(sS ["row"] ["signs", "picture"] [2,0] ["picture", "pairs", "signs", "name", "x", "y", "sides", "low", "high"] xi0),zUG Ue,pC (ok_bm T) hr T.bm.g T.bm.F.kp T.bm.b (f8 1 (xa (zaR,Md 2) pG)))))),?_⟩
 refine sq4 ?_; intros; ext sI L hl ac aa ad;show(kZ,j,L.pic,w1,j.w1,w2,j.w2);show(cB,h2,j.h2,ar,j.len);show(vM,dx,af,j,⟨a,l,dp,I,v,h',ps,prs,qs,rfl,(iU,j,hl,ac,aa,ad,dC H1 D s1 f1 X)⟩);show(fO,kvs,e1,id X);refine⟨.inr (zgT (d4,.inr ⟨kvs,e1⟩)),a,l,dp,I,v,h',ps,ss,srt,prs,qs,rfl,kI s1 j,L.sts.same s1,dO L.ok,L.pm,L.lt,zfp,ac.keep (Same.tups s1),ad,dC H2 d2 s2 f2 G⟩;show(fO,more,e2,id G);have ai:=nE e1;have ne:D≠d2:=xh e1 f2;have al:∀ c,(yM,xrp v srt prs c)->xiy v c:=λ c hc=>by
  rcases xj5 hc with hc|⟨x,hx,rfl⟩
  .rcases xj5 hc with hc|⟨x,hx,rfl⟩
   .ext lX hc
   show(me,z,hz,Ze.mp hx);have o:=L.ok.2.2 z (L.pm.mem_iff.mp hz);show(ie,?_,o.1)
   .ext zDn ro
    .ext vG
    ext vF
   show kO<=16;lia
  show(me,z,hz,Ze.mp hx);show(kZ,o,aa z hz,o1,o.r1,o2,o.r2);show(ie,?_,o1)
  .ext zDn Vl
   .ext vG
   ext vF
  show zjA<=16;lia
 have au:kvs.length<=600:=by
  ext zQG X e1
 have as:more.length<=50:=by
  ext zQG G e2
 refine iT D d2 kvs more (ib,rfl,ne,ai,e2,λ_=>G.hash e2 cm cm al,cm,?_);ext OG; have U:=(X.keep (H':=H2) (j9 Tz)).merge G ai e2;have s3:gB (j3 H2 D EL):=λc u e=>by
  show(cW,jd f1,nE FZ)
 revert U s3;generalize j3 H2 D EL=H3;intro U s3;refine⟨tX,rfl,s3 _ _ af,fb,a,dp,I,v,h',ps,rfl,kI s3 j,gE H4 l4 ds s4 ab J⟩;have dl:=J.len;have R:=U.keep (H':=H4) (j9 Ty);have an:l4≠D:=by
  ext fO kv e R;exact ne_f ab e
 refine lH l4 ab
 show(zLZ,∃(v3 v4 v5 v6 v7 v8:eV),(eX,Z,[iH,mV,cX D,v3,v4,v5,v6,v7,v8],(ki D (cu,H4 c,u) (cu,O c,u)),SD O D (650+i) (Drw.sets (λ z=>(xrp v srt prs z).or (Drw.marks hsS Drw.no (prs.flatMap (ledS v)) z)) ((MU).take i))))
 show(wE,ds.map V.ref,(AI,nH _ zsG R))
 .show(Xh,O,k5,k5 _ _ an ab)
 .rintro i x Z O hx (⟨v3,v4,v5,v6,⟨v7,v8,rfl,k5,C⟩⟩:121);ext rB qa ao;show(cD,p,hp,ae,J.get ao);have av:i<12:=Nh hp
  have am:qa≠D:=by
   ext fO kv e R;exact ne_f ae e
  show(ui,qa,k5 _ _ am ae,Db kp aq);generalize eu:iP O kp (i8 p.x p.y)=H6;ext n8 Y aq g6;show(UX,H7,aj,ak,k7,(zHt).put (c:=zwi) cm g6 p.nm);refine(oC,D,H7,aj,AI (zgK,k7 _ _ nc (Y _ _ (k5 _ _ nc e))));rw[xmo (c:=zwi) (x:=p.nm)]
  .exact ak
  unfold ptsS;rw[Zf,hp];rfl
 rintro Z O (⟨v3,v4,v5,v6,⟨v7,v8,rfl,k5,C⟩⟩:121);show(oS,ZZ (l:=MU) (by unfold ptsS; rw[Za]; lia),C);show(cI,s5,gB O,(mZ,k5 _ _ (xh e f1) (pX (s3 _ _ e))),C,SD O D (650+ds.length) zSy,C);show(eK,ag,nD af,ztF ag (oC,1,Uk,zpC,cG l6 ah));refine xnu GZ ah (fE,i,V.str (rowT v DJ zSy)) ?_ ?_
 .intro i H6 hi Y N hN
  have ap:=Y _ _ ag;exact rF _ ap (jB,D,_,v,DJ,_,rfl,zHt,xry L.nm (qY,(aa p hp).nm),cm,hN)
 intro H6 Y e6;refine q H6 l6 (s5.trans Y) (s5.free ah) ?_;rw[e6,(fD,(Uk-1).toNat=h')];rfl
def xvt {x d:Int} (h:0<d) (h2:d<=4294967296):-uc<x % d/\x % d<uc:=by
 show(cB,a,Int.emod_nonneg x (fD,d≠0),b,Zal x h);ext cU cm cm
def xfx (x:Int) {d:Int} (h:0<d):0<=x % d/\x % d<d:=⟨Int.emod_nonneg _ cm,Zal _ h⟩
inductive x12 (K:Zd) (vs:cA) (H:Hp) (Q:VK) (_:XK):Prop
 | mk (a:Addr) (ns:gW) (k:Int) (e_:vs=[dH,.int k]) (r_:(dh,KR,0<=k,k<kG,∀ c:Int,rR c))
inductive x4m (vs:cA) (H:Hp) (Q:VK) (_:XK):Prop
 | mk (c k:Int) (e_:vs=(i8 c k)) (r_:∀ m:Int,0<=m->m<2147483587->(rR m))
inductive xy0 (K:Zd) (vs:cA) (H:Hp) (Q:VK) (_:XK):Prop
 | mk (a:Addr) (ns:gW) (e_:yy) (r_:KR/\∀(w h:Nat) H' p,sL->jJ->(oz DL j8 gg (Bv p (i8 eR j6)) p))
inductive xwo (K:Zd) (vs:cA) (H:Hp) (Q:VK) (_:XK):Prop
 | mk (a:Addr) (ns:gW) (h:Nat) (e_:vs=[dH,.int j6]) (r_:KR/\j8/\∀(ss:cF) (qs:cM) H' l,dI ED Kj (zuN j6) (zgJ,Td,xao H' ss qs))
def xgu (a m d:Int) (h:0<d) (ha:0<=a):∃ x:Nat,(eX,a+m % d,dk x,a<=x,(dk x)<a+d):=by
 have z:=xfx m h;show(kP,(a+m % d).toNat,cm,cm,cm)
def ok_ac (T:cT):mr t.f_ac t.d_ac XY (x12 K):=by
 refine T.ac.F.okn (k:=0) sc_ac (c7 Q E h) (cZ vs Q E hr h)
 .ext cV
 ext zi a ns k;refine⟨_,xb (VP (NS ew Lp) (xas xa7 dU ew jV))
  (gq (xp)),?_⟩
 refine sq2 ?_; intros; ext wK; ext uw hs m p;refine(nH,a,.inl hs,CF);refine ite2 mX mX
 .have r:k<(dk ns.length):=Bs
  show(kT,j,Ys m);have lt:j<ns.length:=cm
  exact iZ a _ _ (wb,hs,xcv zvk,q _)
 exact q _
def ok_al (T:cT):mr t.f_al t.d_al zmH (x4m):=by
 refine T.al.F.okn (k:=0) sc_al (c7 Q E h) (cZ vs Q E hr h)
 .ext cV
 ext sY c k;refine⟨_,xb (zfM 2 sc_al.nd (x0 xgp (vA (x0 xa0 (Av dU) (wu xgp (xp) 1))) (xp)))
  (xb (zfM 2 sc_al.nd (wu xgp hB 2))
  (gq (Av (x0 xgp hB (x0 xa0 hB (xp)))))),?_⟩
 refine sq3 ?_; intros; refine(ff,rM 2147483629,.inl K9,.inr K9,rM 2147483647,?_);show(ie,.inl (xvt cE cE),rM 2147483629);show(ie,.inl (xvt cE cE),rM 2147483587);exact h _ (xfx _ cE).1 (xfx _ cE).2
def ok_a8 (T:cT):dB 2 t.f_a8 t.d_a8 ["_law_script"] (xy0 K):=by
 refine T.a8.F.okn (k:=1) sc_a8 (c7 Q E h) (cZ vs Q E hr h)
 .ext cV
 ext sY j ns;refine⟨_,xb (pS 1 sc_a8.nd zkj)
  (xb (FK (DG (Av ew)) (LF (CO zOq zOq)))
  (xb zSI
  (xb (pS 3 sc_a8.nd zut)
  (xb (xb1 (xaf (DG (Av (zkr 1))) (xb zSI
  (wp 3 sc_a8.nd zut)) (xz)))
  (LF xK))))),?_⟩
 refine sq6 ?_; intros; ext lO hs h;refine(lv,j,ns,0,Gx hs mX)
 show(zKn,H=H1/\Z=[cX j,zjD,none,none])
 .ext mz; refine zoK lQ;show(ie,K9,rM 30);show(dG,v,I,u,m,ziv (c / 2) 30);show(ie,K9,rM 16);show(dG,D,L,C,z,ziv (c / 60) 16);show(cU,tz,λ p x=>q v D _ p cm cm cm cm (ge x) (zuL I L xj))
 rintro Z _ ⟨rfl,rfl⟩;refine Pe 1 m1 30;show(ld,v,I,u,m,ziv m1 30,Pe 2 Y 16);show(dG,D,L,C,z,ziv Y 16)
 show(zKn,H=H1/\∃ w h:Nat,(cR,sL,jJ,DL,j8,Z=[cX j,zjD,d0 eR,d0 j6]))
 .ext mz; show(zaW,(jo,c,3,λ m3 _ _=>(zoK,d4 (m8,v,D,cm,cm,cm,cm,by rw[<- I,<- L]; rfl)))); refine Pe 1 X 19;show(ld,R,G,O,N,xgu 12 X 19 cE cE,Pe 2 U 5);show(dG,h2,J,ab,aa,xgu 12 U 5 cE cE);exact d4 (m8,R,h2,cm,cm,cm,cm,by rw[<- G,<- J]; rfl)
 rintro Z _ ⟨rfl,w,h,a1,a2,a3,a4,rfl⟩;show(cU,tz,λ p x=>q w h _ p a1 a2 a3 a4 (ge x) xj)
def ok_a1 (T:cT):dB 2 t.f_a1 t.d_a1 zlr (xwo K):=by
 refine T.a1.F.okn (k:=1) sc_a1 (c7 Q E h) (cZ vs Q E hr h)
 .ext cV
 ext zi O ns G;refine⟨_,xb (pS 2 sc_a1.nd zkj)
  (xb (pS 3 sc_a1.nd zMi)
  (xb (zfM 4 sc_a1.nd (zkr 2))
  (xb (F2 5 sc_a1.nd)
  (xb (xaz Z4 rfl (xf1 rfl T.n_enumerate (xa (xbp zdr) (xg))) (xai rfl (xo (pN 6 sc_a1.nd) (xo (pN 7 sc_a1.nd) (xac)))) (xk (xaz Z4 rfl (zUG (vA ew)) (pN 8 sc_a1.nd) (xb (FK (PW.pt (xch (PW.pt (xf3 zvl (xfn (DG (Av hB))))) (xb4 (PW.pt (xf3 (xb3 zvl) (xfn (NS (Av (zDk 2 (wu xa0 (wu xgp (xp) 8) 6))) h8))))))) (oB (BD jt (zgL (lq 7 8)))))
  (xk (xb1 (nF zvl (wp 2 sc_a1.nd (x0 xit hB (xp))))))))))
  (w6 5))))),?_⟩
 refine sq6 ?_; intros; ext yE hs am;show(dQ,(lv,O,ns,1,Gx hs mX),(lv,O,ns,0,Gx hs zMg));generalize zFc=U;show(dQ,Pe 1 m1 7,vt (vT leS0) l hl);generalize D:sH H l=H1;ext oX; ext jS s1 hl D g1 D;ext pU le ad;generalize D:lR H1 le OI=H2;show(iG,s2,ad,D,g2,(AZ,le,cN g2));have af:le≠l:=kK g1 ad;have an:=s1.free ad
 let Pv (k:Nat) (Z:L2.St) (X:Hp):Prop:=∃(c:Int) (ss:cF) (v:cM) (v5 v6 v7:eV),Z=(XH Vo v5 v6 v7)/\(ma,gB X,X le=some (.lst OI),(cu,X l,.lst (v.map V.ref)),xao X ss v,Kj,ztT,v.length<=16*k,k=0->ss=[],(k=1->∀ s∈ss,Gw))
 show(zVC,OI,?_)
 .exact fJ c [] [] _ (LM,pB,g2,Uj,.nil,ff .nil jC dF iN o6)
 .rintro i Z X _ (⟨_,_,_,_,⟨_,_,rfl,_,e,_⟩⟩:121);exact SqL.of e
 .rintro k x p Z X hx hp (⟨c,ss,v,v5,⟨v6,v7,rfl,s5,e5,ae,N,aa,b5,n5,z0,z1⟩⟩:121);have k2:k<2:=oh hx;obtain⟨b,rfl,hb⟩:∃ b,x=lu/\((G1/\k=0)\/(b=false/\k=1)):=by
   match k,k2,hx with
   | 0,_,hx=>cases hx; show(wc,true,Uv)
   | 1,_,hx=>cases hx; show(wc,false,.inr lQ)
  generalize D:(mw,X,p,.int vL,lu)=H6;ext jS s6 hp D g6 D;show(zqU,fU p g6); refine(oC,1,rg G,zpC,?_)
  let Pv (j:Nat) (Z:L2.St) (I:Hp):Prop:=∃(c:Int) (ss:cF) (v:cM) (v7:eV),(ma,Z=(XH,Vo,vE k,zib,v7),gB I,zKx,(cu,I l,.lst (v.map V.ref)),xao I ss v,Kj,ztT,v.length<=16*k+j,∀ s∈ss,(zno,fW<=mY))
  refine xud (Pv:=Pv) ?_ ?_ ?_
  .refine ⟨126,c,ss,v,_,rfl,s5.trans s6,uF e5,uF ae,N.keep (Same.tups s6),eD aa b5 cm (jr,.inl ?_)⟩;rcases hb with⟨_,rfl⟩|⟨_,rfl⟩
   .rw [z0 rfl] at hs;ext zxv
   show(yG,z1 rfl s hs,o6)
  .rintro j Z I hj (⟨c,ss,v,v7,rfl,s7,e7,C,J,⟨L,b7,n7,Y⟩⟩:126);ext zlX; have jh:j<G:=cm
   have up:zLM:=λs hs=>by
    rcases Na with⟨a,b⟩|⟨a,b,c⟩
    .show(eg,(gY,λ z=>(iF,b z)))
    show(fe,cC a b cm)
   let Pm (Z:L2.St) (H9:Hp):Prop:=∃(ss:cF) (v:cM),M0 zmd H9 (cR,H9 le=some (.lst OI),(cu,H9 l,.lst (v.map V.ref)),xao H9 ss v,Kj,ztT/\v.length<=16*k+jQ/\zLM)
   ext sK Pm
   .ext mz; have no:∃(ss':cF) (qs':cM),(ma,(XH,some (V.ref O),vE k,zib,d0 wm)=zmd,gB I,zKx,(cu,I l,.lst (qs'.map V.ref)),xao I ss' qs',zpQ,(∀ s∈ss',(Sk (dk G))),qs'.length<=16*k+jQ,∀ s∈ss',(zno zdU)):=(xZ,ss,v,s7,e7,C,J,eD L b7 cm up)
    show(ie,U,rfl);cases U with
    | true =>
     refine ifP rfl (zoK (vX,true,ifN cE (ifN cE no)));refine ifP rfl ?_;ext zzp
     .ext Km
     show(zCT,⟨86,ss++[(b,wm)],v++[qa],rfl,zLR,zSN,B2,((zNl).keep kt).snoc (kt _ _ g8),zSi⟩)
     .ext zCE;rcases hb with⟨rfl,rfl⟩|⟨rfl,rfl⟩
      .rcases Na with⟨a,b⟩|⟨a,_⟩
       .ext zJP
       cases a
      rcases Na with⟨a,b⟩|⟨_,a,b⟩
      .show(eg,gY rfl)
      show(fe,(gY (hO,fW<wm)))
     .rcases zgo with hs|hs
      .exact b7 s hs
      ext zIQ
     rcases zgo with hs|hs
     .exact up s hs
     rw [Zp.mp hs];rcases hb with⟨rfl,rfl⟩|⟨rfl,rfl⟩
     .show(eg,(d4,λ_=>SI))
     show(fe,Hg SI)
    | false =>
     refine ifN cE (ifN cE (vX,false,ifP cE (lv,.inl K9,c,_,λ m _ _=>(jo,rM 6,_,P9 no))));ext zzp
     .ext Km
     show(zCT,(xZ,ss++[(b,wm)],v++[qa],zLR,zSN,B2,((zNl).keep kt).snoc (kt _ _ g8),zSi))
     .ext zCE;rcases hb with⟨rfl,rfl⟩|⟨rfl,rfl⟩
      .rcases Na with⟨a,b⟩|⟨a,_⟩
       .ext zJP
       cases a
      rcases Na with⟨a,b⟩|⟨_,a,b⟩
      .show(eg,gY rfl)
      show(fe,(gY (hO,fW<wm)))
     .rcases zgo with hs|hs
      .exact b7 s hs
      ext zIQ
     rcases zgo with hs|hs
     .exact up s hs
     rw [Zp.mp hs];rcases hb with⟨rfl,rfl⟩|⟨rfl,rfl⟩
     .show(eg,(d4,λ_=>SI))
     show(fe,Hg SI)
   rintro Z H9 (⟨ag,aj,rfl,ai,e9,al,ah,⟨ak,b9,n9,z9⟩⟩:86)
   let Pm (Z:L2.St) (H10:Hp):Prop:=H9=H10/\∃ c:Int,Z=zmd
   ext sK Pm
   .ext mz; show(ut,U,(P9,fR rfl c));exact du K9 rfl _ rfl
   rintro Z _ ⟨rfl,c',rfl⟩;exact⟨126,c',ag,aj,_,rfl,ai,e9,al,ah,eD ak b9 cm z9⟩
  rintro Z I (⟨c,ss,v,v7,rfl,s7,e7,C,J,⟨L,b7,n7,Y⟩⟩:126);refine(fJ,c,ss,v,_,LM s7 e7 C J (ff,L,b7,cm,λ z=>cm,c8 z s hs));rcases Na with⟨a,_⟩|⟨a,_⟩
  .exact a
  lia
 rintro Z X (⟨_,ss,v,v5,⟨v6,v7,rfl,s5,e5,ae,N,aa,b5,n5,_⟩⟩:121);exact (q ss v X l (by show(gT,e,N.len,n6,v.length<=16*2,n5); lia) aa b5 s5 hl ae N)
inductive xve (K:Zd) (vs:cA) (H:Hp) (Q:VK) (_:XK):Prop
 | mk (c:Int) (dg:Bool) (lb:Addr) (bs:gW) (e_:vs=[.int c,.bl dg,.ref lb]) (r_:(dh,dA lb (.lst (bs.map V.int)),(∀ b∈bs,0<b/\b<1000),bs.length<=20,∀ H' l (ns:gW),(zgJ,lm l zok,ns.length=bs.length)))
inductive x07 (vs:cA) (H:Hp) (Q:VK) (_:XK):Prop
 | mk (ln:Addr) (ns:gW) (nm:Str) (x y:Int) (h:Nat) (e_:vs=(NQ Gm xT C5 y j6)) (r_:(dh,zOH ln,7<=ns.length,DL,∀ H' q (sd:Str) (lo hi:Int),Ru->1<=lo->(oz,lo<=hi,hi<=j6,gg,(Bv q (xT::ptV zMX)),q)))
def x1w (c:Int):∃ sd:Str,atI zOe (c % 3)=(tD sd)/\Ru:=by
 have b:=xfx c (BO,(dk 0)<3);have:c % 3=0\/c % 3=1\/c % 3=2:=cm
 rcases this with e|e|e
 .exact cC "both" ua zVj
 .exact cC "left" ua jF
 exact (cC,"right",ua,zgT rfl)
def xh5 {α:Type}{ls:eI}{k:Nat}{y:α} (nd:ls.Nodup) (h:ix ls k y):(dh,(zsi).Nodup,y∉zsi,(∀ z∈zsi,z∈ls),y∈ls):=by
 obtain⟨G,v⟩:=Zk.mp h;have e:ls.take k++y::ls.drop fC=ls:=by
  ext zSK v
 have A:ls.eraseIdx k=ls.take k++ls.drop fC:=List.eraseIdx_eq_take_drop_succ ls k;have i:=nd;rw[<- e,ZH,ZE] at i;obtain⟨D,⟨C,B⟩,j⟩:43:=i;refine(eD,?_,?_,(uu,List.mem_of_mem_eraseIdx hz),v▸Qr G)
 .rw [A,ZH];show(dy,D,B,λ a J b H=>j a J b (Zl _ H))
 rw [A,Zy];rintro (z|z)
 .exact j _ z _ Zm rfl
 exact C z
def xo5 {α:Type} (m:Int) {xs:eI} (h:xs≠[]) (h2:jA xs.length):∃ j y,(cR,gC xs y,-AF<=m % Ks,m % Ks<AF,(cu,seqIndex? (m % Ks) xs.length,j),0<Ks):=by
 show(cI,u,0<xs.length,List.length_pos_iff.mpr h,a,(dk 0)<Ks,cm)
 show(hI,c,b,xfx m a,j,d,Ys c);have q:j<xs.length:=by
  ext zL b d;lia
 exact(m8,j,Ht,Zc q,cm,cm,(ir,seqIndex_of c b,d),a)
meta def abcS:Str:="abcdefghijklmnopqrstuvwxyz"
def x2w:∀ c∈abcS.cps.toList,(qG qT):=c9
def x2c:abcS.cps.toList.Nodup:=c9
def x1f:(sgnL abcS).Nodup:=by
 unfold sgnL;exact Drw.nd_map (λ a b e=>by
  have:=zSL e;exact List.head_eq_of_cons_eq this) x2c
def xtp (n:Nat):(rngL 1 (iu+1)).Nodup:=by
 unfold rngL;exact Drw.nd_map (λ a b e=>by
  show(fj,V.int.inj e)) Wx
def xqw {n:Nat}{v:V} (h:v∈rngL 1 (iu+1)):(zmg,x<=n):=by
 unfold rngL at h;ext jq i a zhL;rw[ZO] at a;exact gS DJ cm cm
structure PI (w h:Nat) (cols rows lts:cA) (ps:cJ) (i:Nat):Prop where
 cn:cols.Nodup
 ci:∀ v∈cols,(zmg,x<=w)
 rn:rows.Nodup
 ri:∀ v∈rows,(zmg,x<=h)
 ln:lts.Nodup
 li:∀ v∈lts,v∈sgnL abcS
 ll:lts.length+ps.length=26
 cl:cols.length<=100
 rl:rows.length<=100
 pl:ps.length<=i
 ok:RA
 nx:(ps.map (·.x)).Nodup
 ny:(ps.map (·.y)).Nodup
 nn:(ps.map (·.nm)).Nodup
 ox:(zyx,V.int p.x,cols)
 oy:(zyx,V.int p.y,rows)
 on:(zyx,V.str p.nm,lts)
def xk6 {α β:Type}{f:C2}{l:eI}{x:α} (h:Ki) (hx:∀ y∈l,f y≠f x):((l++[x]).map f).Nodup:=by
 rw[Zu,ZH];show(eW,h,cy,dC a j b c e);ext gu y i j;have c:b∈[f x]:=c;rw[Zp.mp c] at e;exact hx y i e
def PI.up {w h:Nat}{cols rows lts:cA}{ps:cJ}{i:Nat} (g:zaq i):zaq dc:={ g with pl:=Nat.le_succ_of_le g.pl }
theorem PtsL.snoc1 {H:Hp}{ps:cJ}{qs:cM} (h:tf) {p:Pt}{q:Addr} (e:MK):PtsL H Ak MJ:=by
 induction h with
 | nil=>ext KL
 | cons h _ ih=>ext E3
def PI.add {w h:Nat}{cols rows lts:cA}{ps:cJ}{i jx jy jn:Nat}{p:Pt} (g:zaq i) (hx:cols[jx]?=(d0 p.x)) (hy:rows[jy]?=(d0 p.y)) (hn:lts[jn]?=(tD p.nm)) (ok:Fg):PI w h (cols.eraseIdx jx) (rows.eraseIdx jy) (lts.eraseIdx jn) Ak dc:=by
 show(tG,L,K,B,J,xh5 g.cn hx);show(tG,r1,r2,u,C,xh5 g.rn hy);show(tG,H,G,A,E,xh5 g.ln hn);show(eK,D,oh hn,⟨L,λ v j=>g.ci v (B v j),r1,λ v j=>g.ri v (u v j),H,λ v j=>g.li v (A v j),?_,?_,?_,?_,zgj,xk6 g.nx (iX y hy),xk6 g.ny (iX y hy),xk6 g.nn (iX y hy),zgj,zgj,zgj⟩)
 .rw [List.length_eraseIdx_of_lt D,Zr,ZI];show(fj,g.ll)
 .exact Z1 zHU g.cl
 .exact Z1 zHU g.rl
 .rw [Zr,ZI];show(fj,g.pl)
 .rcases MR with b|b
  .exact g.ok q b
  ext eO zhJ ok
 .exact g.ox y hy (e▸J)
 .exact g.oy y hy (e▸C)
 .exact g.on y hy (e▸E)
 .rcases MR with b|b
  .exact λ z=>g.ox q b (B _ z)
  ext eO zhJ K
 .rcases MR with b|b
  .exact λ z=>g.oy q b (u _ z)
  ext eO zhJ r2
 rcases MR with b|b
 .exact λ z=>g.on q b (A _ z)
 ext eO zhJ G
inductive xws (K:Zd) (vs:cA) (H:Hp) (Q:VK) (_:XK):Prop
 | mk (lc:Addr) (ns:gW) (dg:Bool) (w h:Nat) (e_:vs=[.ref lc,.bl dg,.int eR,.int j6]) (r_:(uE,zOH lc,ns.length<=12,sL,jJ,DL,j8,∀ H' l ps qs,vb->ps.length<=ns.length->(zgJ Td zrU)))
theorem xuh {K:Zd}{H:Hp}{l l2:Addr}{xs:cA} (h:FD) (h2:rD l2 []) (f:zRz):∃(n m:Nat) (d e:DV),(cR,iY n iS d,iY m (.ref l2) e,n<=9,m<=9,(! Cu)=!(gO xs [])):=by
 refine⟨125,1,1,.lst (xs.map scD),.lst [],.lst (cN h) (hD Za) (xg1 f),.lst (cN h2) rfl (zeI []),cE,cE,?_⟩;cases xs with
 | nil=>rfl
 | cons x r=>rfl
meta def IPt (H:Hp) (lcell lc lr ll lp:Addr) (dg:Bool) (w h:Nat) (i:Nat) (Z:L2.St) (H5:Hp):Prop:=∃(cols rows lts:cA) (ps:cJ) (qs:cM) (v7 v8 v9 v10 v11:eV),Z=[cX lcell,Af dg,d0 eR,d0 j6,cX lc,cX lr,cX ll,xX,v7,v8,v9,v10,v11] /\
 (uE,Aq,Ri lc cols,Ri lr rows,Ri ll lts,(cu,H5 lp,uM),PtsL H5 ps qs,zaq i)
def xet {ns:gW}{i:Nat} (h:i<ns.length):∃ n,atI (ns.map V.int) fc=(d0 n):=⟨ns[i],xcv (ir,Zf,Zc h)⟩
def ok_at (T:cT):dB 2 t.f_at t.d_at zCQ (xve K):=by
 refine T.B_at.F.okn (k:=1) sc_at (c7 Q E h) (cZ vs Q E hr h)
 .ext cV
 ext EH c dg O bs;refine⟨_,xb (F2 3 sc_at.nd)
  (xb (xaz Z4 rfl (xf1 rfl T.n_enumerate Vh) (xai rfl (xo (pN 4 sc_at.nd) (xo (pN 5 sc_at.nd) (xac)))) (xk (xaf (xbe (pv 1)) (xb (xap (BD gM (gP (wu xbi dU 5))))
  (wp 0 sc_at.nd (wu xit dU 5))) (zsy (zDk 0 (wu xa0 (xp) 4))))))
  Nf),?_⟩
 refine sq3 ?_; intros; ext uw C bp aa;ext su leS0 l R;generalize G:sH H l=H1;ext oX; show(iG,s1,R,G,g1,⟨83,O,_,rfl,cN (s1 _ _ C),?_⟩)
 let Pv (k:Nat) (Z:L2.St) (v:Hp):Prop:=∃(c:Int) (ns:gW) (M L:eV),(Gy,[zjD,Af dg,Vo,mV,M,L],v,(cu,v l,zok),ns.length=k)
 show(zVC,bs.map V.int,zfI c [] s1 g1 rfl)
 .show(zJx,v,z,z _ _ C)
 .rintro k x p Z v hx hp (⟨c,ns,M,L,rfl,z,e5,I⟩:124);ext rB b hb;show(cB,bb,bp b (Zn hb),kl,oh hb);show(zXB,iP v p (i8 vL b),hp);show(cB,N,z.trans s6,J,uF e5);have D:∀ n:Int,∃(c':Int) (j:gW),(gB (yk,H6,l,ER,.int n))/\(oa H6 l (VM,ER,.int n) l (.lst (j.map V.int)))/\j.length=fC:=λ n=>(d9,c,ns++[n],λ a u e=>(Dd,R,N _ _ e),B2,ir Zr I)
  refine fU p g6;refine io ?_; intros; ext ut dg zxG
  .ext zcj; refine(jB,uY J,bb.1,l,_,_,rfl,rfl,J,?_,?_)
   .ext Km
   obtain⟨_,j,Y,X,U⟩:83:=D (c % b);show(cU,Oc bb.1,zfI _ j Y X U)
  refine (lv,uY J,c,_,λ m _ _=>P8 l J)
  .ext Km
  obtain⟨_,j,Y,X,U⟩:83:=D m;exact zfI c j Y X U
 rintro Z v (⟨c,ns,M,L,rfl,z,e5,I⟩:124);show(ef,Za,I,q v l ns z R e5 I)
def ok_a9 (T:cT):dB 2 t.f_a9 t.d_a9 zjT (x07):=by
 refine T.a9.F.okn (k:=1) sc_a9 (c7 Q E h) (cZ vs Q E hr h)
 .ext cV
 obtain ⟨z,ns,nm,x,y,j,rfl,h⟩:=h;refine⟨_,xb (pS 5 sc_a9.nd (xas xa7 (xbp (xa (xan) zdr)) (Av (Av vp)) jV))
  (xb (pS 6 sc_a9.nd (x0 xa0 (xp) (wu xbi vp 4)))
  (xb (pS 7 sc_a9.nd (x0 xa0 jL (x0 xbi vp (x0 xa0 (vV h8 6) (xp)))))
  (xb (zfM 8 sc_a9.nd vp)
  (xb ((by (with_reducible refine' xb1 ?m47); (case m47=>((with_reducible refine' xaf ?c29 ?a30 ?b31); (case c29=>exact DG wg); (case a30=>((with_reducible refine' xk ?c32); (case c32=>((with_reducible refine' xt ?e33); (case e33=>((with_reducible refine' xag ?p34); (case p34=>((with_reducible show(i9,?e35,?q36)); (case e35=>((exact pv 1))); (case q36=>((with_reducible show(i9,?e37,?q38)); (case e37=>((exact pv 2))); (case q38=>((with_reducible show(i9,?e39,?q40)); (case e39=>((exact pv 3))); (case q40=>((with_reducible show(i9,?e41,?q42)); (case e41=>((exact pv 5))); (case q42=>((with_reducible show(i9,?e43,?q44)); (case e43=>((exact xp))); (case q44=>((with_reducible show(i9,?e45,?q46)); (case e45=>((exact pv 4))); (case q46=>((exact xg))))))))))))))))))))); (case b31=>((exact xz)))))))
  (xb (FK (DG wg) (wp 7 sc_a9.nd (xaj (xt5 rfl) rfl T.n_min boot_min (xa (vA jL) Nj))))
  (xk ((by (with_reducible refine' xt ?e15); (case e15=>((with_reducible refine' xag ?p16); (case p16=>((with_reducible show(i9,?e17,?q18)); (case e17=>((exact pv 1))); (case q18=>((with_reducible show(i9,?e19,?q20)); (case e19=>((exact pv 2))); (case q20=>((with_reducible show(i9,?e21,?q22)); (case e21=>((exact pv 3))); (case q22=>((with_reducible show(i9,?e23,?q24)); (case e23=>((exact pv 5))); (case q24=>((with_reducible show(i9,?e25,?q26)); (case e25=>((exact pv 6))); (case q26=>((with_reducible show(i9,?e27,?q28)); (case e27=>((exact pv 7))); (case q28=>((exact xg))))))))))))))))))))))))),?_⟩
 refine sq7 ?_; intros; ext uw N n7 h1;show(hI,m6,aa,zbp 3,v,Y,zbp 4);show(hI,L,X,zbp 5,J,U,zbp 6);ext su leS3 l0 O;generalize eu:wD l0 zOe=H1;show(KO,I,O,eu,g1,u,I _ _ N);show(cD,C,R,D,x1w (m6 % 4));show(dQ,(iZ,z,3,.int m6,(iU,rfl,cN u,aa,rM 4,rM 3,(eT,l0,_,_,.str C,rfl,rfl,cN g1,R,?_))),⟨z,_,4,.int v,rfl,zsQ Y (hO,(dk 0)<mY)⟩);have b7:=xfx v (fD,(dk 0)<mY);show(dZ,p8,(dk 0)<mY-SH+1,cm,(iZ,z,5,.int L,zsQ X p8));show(eK,b8,xfx L p8,⟨z,_,6,.int J,rfl,zsQ U (rM 3)⟩)
 show(zJe,H1=H5/\Z=(zAu,d0 (SH+L % (mY-SH+1))))
 .ext mz; show(yL,P9 lQ);show(cU,zfB,λ p M=>q _ p C 1 mY D cm cm cm zWz xj)
 rintro Z _ ⟨rfl,rfl⟩
 show(zJe,H1=H5/\∃ G:Int,SH<=G/\G<=mY/\Z=(zAu,d0 G))
 .ext mz; show(dQ,(qM,P9 (d4,eE _ cm cm rfl)),(SR,eE _ ?_ ?_ rfl))
  .ext om
  .ext om
 rintro Z _ ⟨rfl,G,a1,a2,rfl⟩;show(cU,zfB,λ p M=>q _ p C _ G D cm a1 a2 zWz xj)
def ok_ar (T:cT):dB 3 t.f_ar t.d_ar (zMd "_law_cells" "_law_digits") (xws K):=by
 refine T.ar.F.okn (k:=2) sc_ar (c7 Q E h) (cZ vs Q E hr h)
 .ext cV
 obtain ⟨U,ns,dg,w',h',rfl,h⟩:=h;refine⟨_,xb (pS 4 sc_ar.nd (zjQ (HL (vA hB))))
  (xb (pS 5 sc_ar.nd (zjQ (HL (vA gM))))
  (xb (pS 6 sc_ar.nd (xbh (xmu rfl) rfl T.n_list boot_list (gP (xan))))
  (xb (F2 7 sc_ar.nd)
  (xb (nO 0 (pN 8 sc_ar.nd) (xk ((by (with_reducible refine' xb1 ?m66); (case m66=>((with_reducible refine' xaf ?c48 ?a49 ?b50); (case c48=>exact PW.pt (xf3 (Bo h8 zju) (xfn (Bo jt zju)))); (case a49=>((with_reducible refine' xb ?a51 ?b52); (case a51=>((with_reducible refine' xdr (i:=9) ?n53 ?i54 ?x55 ?e56 ?s57 ?f58); (case n53=>exact sc_ar.nd); (case i54=>rfl); (case x55=>ext UU); (case f58=>ext UU); (case e56=>((exact pC (ok_at T) hr T.B_at.g T.B_at.F.kp T.B_at.b (f8 8 (f8 1 (xa (xbp (xv (xp) (SM (xp) (xp) (xp) (xp) (xp) (xp)) rfl)) (xg))))))); (case s57=>rfl))); (case b52=>((with_reducible refine' xb ?a59 ?b60); (case a59=>((show(zkd,10,h8,Nj)))); (case b60=>((with_reducible refine' xb ?a61 ?b62); (case a61=>((show(zkd,11,jt,C3)))); (case b62=>((with_reducible refine' xb ?a63 ?b64); (case a63=>((show(zkd,12,jL,zjn)))); (case b64=>((with_reducible refine' xk ?c65); (case c65=>((exact xap (BD pV (gP (pC (ok_a9 T) hr T.a9.g T.a9.F.kp T.a9.b (f8 9 (f8 12 (qR 10 11 3))))))))))))))))))); (case b50=>((exact xz)))))))))
  (w6 7))))),?_⟩
 refine sq6 ?_; intros; obtain⟨hc,bn,w1,w2,h1,h2,q⟩:47:=h;refine(fG,1,rg w',rfl,cG pr aY);generalize G:iK pr (.rng 1 (rg w'))=H1;show(iG,s1,aY,G,g1,(zuS,pr,g1,zpC,cG lc aB));generalize G:lR H1 lc (rngL 1 (rg w'))=H2;show(iG,s2,aB,G,g2,(fG,1,Uk,rfl,cG az aA));generalize G:upd H2 az (.rng 1 Uk)=H3;show(iG,s3,aA,G,g3,(zuS,az,g3,⟨44,cE,cE,cm,cm⟩,cG lr ar));generalize G:lR H3 lr (rngL 1 Uk)=H4;show(iG,s4,ar,G,g4,(gS,abcS,c9,cG ll aj));generalize G:upd H4 ll (.lst (sgnL abcS))=H5;ext jS s5 aj G g5 G;ext su leS0 lp ad;generalize G:sH H5 lp=H6;ext oX; ext jS s6 ad G g6 G;show(cB,ax,(((pB).trans s3).trans s4).trans (s5.trans s6),f2,s1.free aB);show(cB,f4,((pB).trans s3).free ar,f5,(((pB).trans s3).trans s4).free aj);show(cB,f6,((((pB).trans s3).trans s4).trans s5).free ad,e2,s6 _ _ (s5 _ _ zoy));show(cB,e4,s6 _ _ (s5 _ _ g4),e5,uF g5);show(cI,a9,lc≠lr,xh zwC ar,a8,lc≠ll,xh zoy aj);show(fw,a7,lc≠lp,xh (nD zoy) ad,n45,lr≠ll,xh g4 aj,n46,lr≠lp,xh (nD g4) ad,a6,ll≠lp,xh g5 ad);refine lH U (ax _ _ hc);refine (zbZ,ER,IPt H U lc lr ll lp dg w' h',(fJ,_,_,_,[],lY [] _ (LM,ax,e2,e4,e5,cC g6 .nil ⟨xtp _,λ v hv=>xqw hv,xtp _,λ v hv=>xqw hv,x1f,λ v hv=>hv,c9,?_,?_,dF,jC,.nil,.nil,.nil,jC,jC,jC⟩)),?_)
 .ext zXC
 .ext zXC
 .rintro i Z H7 _ (⟨_,_,_,_,⟨_,_,_,_,_,_,rfl,s7,_⟩⟩:121);show(qS,pZ hc)
 .rintro i x Z H7 hx (⟨D,C,N,ps,⟨qs,v7,v8,v9,aJ,aI,rfl,s7,ac,aa,ab,ae,Y,L⟩⟩:121);ext rB c bb;have bo:i<12:=Nh bb
  refine(fT,?_,Dl z);refine io ?_; intros; have aL:D.all scV=true:=J6.mpr λ v hv=>by
   show(fO,x,rfl,L.ci v hv);rfl
  have aK:C.all scV=true:=J6.mpr λ v hv=>by
   show(fO,x,rfl,L.ri v hv);rfl
  ext su leS0 z1 aW;generalize G:sH H7 z1=H8;ext jS s8 aW G g8 G;obtain⟨n,m,d,e,d1,d2,n9,m9,ev⟩:125:=xuh (K:=K) (wx ac) g8 aL;refine dM n m d e d1 (eD,d2,n9,m9,eJ ?_);rw[ev];refine ite2 (fL y1) (λ y1=>(fJ,D,C,N,ps,lY qs _ ⟨86,_,_,rfl,s7.trans s8,wx ac,wx aa,wx ab,(cC,wx ae,zrG s8,L.up)⟩));ext su leS0 z2 aV;generalize G:sH H8 z2=H9;have s9:=su_e aV G;show(cB,g9,ug_e G,j,s8.trans s9);obtain⟨n',m',d',e',bl,bj,aR,aS,bd⟩:125:=xuh (K:=K) zyg g9 aK;refine dM n' m' d' e' bl (eD,bj,aR,aS,eJ ?_);rw[bd];refine ite2 (fL y2) (λ y2=>(fJ,D,C,N,ps,lY qs _ (LM,s7.trans j,j _ _ ac,zyg,zyh,(cC,j _ _ ae,zrG j,L.up))));refine sq5 ?_; intros; have cne:D≠[]:=λ z=>by rw[z] at y1; ext gk y1 cE
  have aO:C≠[]:=λ z=>by rw[z] at y2; ext gk y2 cE
  have aT:N≠[]:=λ z=>by
   have l0:N.length=0:=fY z
   show(ya,L.ll,L.pl)
  ext su leS7 lb aZ;generalize G:lR H9 lb [.int 30,zhQ,.int 26,.int 4,zhQ,zhQ,.int 3]=bp;show(iG,ai,aZ,G,bc,iT c dg lb [30,16,26,4,16,16,3] (Gx,bc,λ ah S nms aM M al a5=>?_));have j:=j.trans (ai.trans aM);have bm:nms.length=7:=a5;obtain⟨m3,bg⟩:=zpp 0;show(hI,m4,bf,zpp 1,m5,be,zpp 2);show(tK,ak,j _ _ ac,aC,zyg,bi,zyh,bh,j _ _ ae);show(cB,p9,zrG j,aN,s7.trans j);show(eY,aq,S≠lc,(yY,ai _ _ (s9 _ _ (wx ac)),M),a0,S≠lr,zIv aa,aQ,S≠ll,zIv ab)
  refine zmu ak 0 m3 al bg;obtain⟨jx,vx,gx,a1,a2,a3,a4⟩:85:=xo5 m3 cne (Z1 L.cl cE);show(ld,x,rfl,x1,x2,L.ci vx (Zn gx),(Fl,lc,ak,a4,fJ lc _ _ jx (qC,_,rfl,ak,a1,a2,kL a3 gx)));show(cI,J,ki lc (cu,ah c,u) (sA ah lc znI),zf,av,oa ah lc znI lc znI,xj);revert J av;generalize upd ah lc (.lst (D.eraseIdx jx))=an;intro J av;show(eK,ag,J _ _ (Z2 a9) aC,zmu ag 1 m4 (J _ _ aq al) bf);obtain⟨jy,vy,gy,b1,b2,b3,b4⟩:85:=xo5 m4 aO (Z1 L.rl cE);show(ld,y,rfl,y3,y4,L.ri vy (Zn gy),(Fl,lr,ag,b4,fJ lr _ _ jy (qC,_,rfl,ag,b1,b2,kL b3 gy)));show(cI,O,ki lr (cu,an c,u) (sA an lr znH),zf,au,oa an lr znH lr znH,xj);revert O au;generalize upd an lr (.lst (C.eraseIdx jy))=am;intro O au;show(cB,af,O _ _ (Z2 n45) (J _ _ (Z2 a8) bi),aF,O _ _ a9 av);refine zmu af 2 m5 zKH be;obtain⟨jn,vn,gn,c1,c2,c3,c4⟩:85:=xo5 m5 aT (iF L.ll);show(gu,cc,ba,L.li vn (Zn gn));show(eK,aU,x2w cc ba,(Fl,ll,af,c4,fJ ll _ _ jn (qC,_,rfl,af,c1,c2,kL c3 gn)));show(cI,R,ki ll (cu,am c,u) (sA am ll znG),zf,as,oa am ll znG ll znG,xj);revert R as;generalize upd am ll (.lst (N.eraseIdx jn))=aH;intro R as;show(kZ,aE,R _ _ a8 aF,aD,R _ _ n45 au,ap,R _ _ (Z2 a6) (O _ _ (Z2 n46) (J _ _ (Z2 a7) bh)));show(ia,ay,gB aH,(mZ,R _ _ (xh e f5) (O _ _ (xh e f4) (J _ _ (xh e f2) (aN _ _ e)))),aw,Tups ah aH,(GM,R _ _ (nB zyh) (O _ _ (nB aC) (J _ _ (nB ak) e))),⟨uY ap,S,nms,sw cc,x,y,h',rfl,R _ _ aQ zKH,cm,h1,λ aG qa sd lo hi aP o1 o2 o3 X aX=>?_⟩);show(eK,ao,X _ _ ap,P8 lp ao)
  .rw [Za,Y.len];exact Jp (iF L.pl:G9) cE
  show(dZ,kt,Tups aG (yk,aG,lp,KY,.ref qa),zrL ao,⟨121,_,_,_,ps++[⟨sw cc,x,y,sd,lo,hi⟩],(lY,qs++[qa],_,(LM,mZ (Dd,f6,X _ _ (ay _ _ e)),(gs,a7,X _ _ aE),(gs,n46,X _ _ aD),(gs,a6,X _ _ as),(cC,B2,PtsL.snoc1 (((p9.keep aw).keep (Same.tups X)).keep kt) (kt _ _ aX),L.add (p:=(dM,sw cc,x,y,sd,lo,hi)) gx gy gn (eT aU x1 x2 y3 y4 aP o1 o2 o3))))⟩)
 rintro Z H7 (⟨D,C,N,ps,⟨qs,v7,v8,v9,aJ,aI,rfl,s7,ac,aa,ab,ae,Y,L⟩⟩:121);have:=L.pl;show(ef,Za,this,q H7 lp ps qs (dW L.ok L.nn L.nx L.ny cm) cm s7 f6 ae Y)
inductive x3j (t:Adr) (vs:cA) (H:Hp) (Q:VK) (_:XK):Prop
 | mk (a q dp do_:Addr) (pw ph:Int) (ps:cJ) (p:Pt) (e_:vs=(qe dH q)) (r_:i5/\(cR,MK,PtOk pw ph p,(∀ z∈ps,z.nm≠p.nm/\z.x≠p.x/\z.y≠p.y),ztd,znj (D6 dp) Ak))
inductive x1e (t:Adr) (vs:cA) (H:Hp) (Q:VK) (_:XK):Prop
 | mk (lp ls:Addr) (w h:Nat) (ps:cJ) (ss:cF) (qs rs:cM) (e_:vs=[.int eR,.int j6,zhS,zhT]) (r_:dh sL jJ DL (ma,j8,zej,tf,vb,zhi,R0,LE,Kj,∀ H' a dp do_,gg->(PX H' ss.reverse ss)->(HP a)))
def xbf.at_ {w h:Int}{ps:cJ} (o:SA) {i:Nat}{p:Pt} (e:FC):Fg/\(∀ q∈xC,zCW)/\i<12:=by
 show(kT,b,Zk.mp e);refine⟨o.ok _ (Qr b),λ q c=>⟨xde (·.nm) o.nn b q c,xde (·.x) o.nx b q c,xde (·.y) o.ny b q c⟩,iF o.le⟩
def x1x {α:Type}{l:eI}{i:Nat} (h:i<l.length) {x:α} (e:FM l l.length x):uI l.reverse:=by
 show(mq,WM h)
meta def xdi (b:Bool) (h:Nat):cF:=(Zz h).map (fE i (b,DJ))
def ok_bk (T:cT):dB 4 t.f_bk t.d_bk zkI (x3j t):=by
 refine T.bk.F.okn (k:=3) sc_bk (c7 Q E h) (cZ vs Q E hr h)
 .ext cV
 obtain ⟨a,q,N,z,L,J,ps,p,rfl,h⟩:=h;refine⟨_,xb (yt 1 (oE (EJ (pN 2 sc_bk.nd) (pN 3 sc_bk.nd) (pN 4 sc_bk.nd) (pN 5 sc_bk.nd) (mC 6 sc_bk.nd 7 sc_bk.nd))))
  (xk (xaf (PW.pt (xf3 (tV jt (xan)) (xf3 (DG jL) (xfn (tV pV eZ))))) (oB (xam dU T.c_a T.m_b (ok_b T) eG T.b_b5.choose_spec.2 T.b_b5.choose_spec.1 xq (qR 2 3 4))) (oB (iD dU T.c_a T.m_b (ok_b T) eG T.b_b (xv hB (wQ gM h8 (wQ jt jL (xv pV (xg) rfl))) rfl))))),?_⟩
 refine sq2 ?_; intros; ext mK u Z ok un D S h;ext y8 Y G u;obtain⟨nm,x,y,O,R,I⟩:=p;refine fU q Z;refine nx ?_; refine io ?_; intros; have B:∀(hv:V) (sd':Str) (lo':Int),(dI,sd'=O,lo'=R,znT I J,xya t [dH,xT,C5,Vp,.str sd',.int lo',hv] H (λ_ H'=>tw) Kt):=λ hv sd' lo' X M U=>by
  subst X M;exact⟨a,N,z,L,J,ps,nm,x,y,sd',lo',I,hv,rfl,⟨47,u,U,ok.nm,ok.x1,ok.x2,ok.y1,yr ok.y2 ok.sd ok.l1 ok.l2 ok.l3 un D S⟩⟩
 have C:∀ Q':ud,(∀ v H',tw->Q' v H')->True:=λ_ _=>trivial;refine(qM,ite2 (λ y1=>(qM,ite2 (λ y2=>zvs _ (iU,G,T.c_a,T.n_bb,lkH,rfl,VT y3)) (fL y2))) (fL y1))
 .have X:O=Zg "both":=zLt y1;show(ia,M,R=1,zmh y2,U,I=J,zmh y3,Sq Y G);exact⟨a,N,z,L,J,ps,nm,x,y, "both",1,I,.non,rfl,(ib,u,tS U,ok.nm,ok.x1,ok.x2,ok.y1,(yr,ok.y2,zVj,cE,M▸ok.l2,ok.l3,un,D,λ H' k pc=>S H' k (tP X M pc)))⟩
 all_goals
  refine Sq Y G;exact⟨a,N,z,L,J,ps,nm,x,y,O,R,I,.int I,rfl,(ib,u,zW,ok.nm,ok.x1,ok.x2,ok.y1,yr ok.y2 ok.sd ok.l1 ok.l2 ok.l3 un D S)⟩
def ok_au (T:cT):dB 6 t.f_au t.d_au zzZ (x1e t):=by
 refine T.au.F.okn (k:=5) sc_au (c7 Q E h) (cZ vs Q E hr h)
 .ext cV
 obtain ⟨lp,ls,M,h',ps,ss,qs,rs,rfl,h⟩:=h;refine⟨_,xb (zkq sc_au.nd GX)
  (xb (qO (xpn rfl T.n_reversed Nq) (oE (mC 5 sc_au.nd 6 sc_au.nd)) (oB (zGk Tq)))
  (xb (nO 2 (pN 7 sc_au.nd) (oB (pC (ok_bk T) hr T.bk.g T.bk.F.kp T.bk.b (lq 4 7))))
  U9)),?_⟩
 refine sq4 ?_; intros; obtain⟨w1,w2,h1,h2,aj,af,⟨ag,ai,ac,L,ad,q⟩⟩:47:=h;have ae:=ac.len;show(cB,am,af.len,nd,xeu ad);refine (dC a dx ha ak ne);refine iT a dx M h' (iU,xj,cm,cm,cm,cm,λ H5 dp D ax ay k5 ah aw=>CC);ext oX; have up:zLB:=λb z=>by
  cases e:H b with
  | none=>rfl
  | some u=>ext O4 ha ak
 have s5:Aq:=(iI,k5 b u (xh e ha) (zdx ha ak));have az:=up _ ax;have a0:=up _ ay;have al:Sts H5 D []:=AR [] aw Y3 cE
 have rnd:(ss.reverse.map id).Nodup:=by
  rw[JQ];exact (Qk ss).nodup_iff.mpr nd
 refine(AZ,ls,zxu ai)
 let Pv (i:Nat) (Z:L2.St) (H6:Hp):Prop:=∃(X U R:eV),(Gy,[vE M,zih,xX,As,iH,X,U,R],H6,Pic t H6 a dp D M h' [],Sts H6 D (ss.reverse.take i))
 refine xzu (xs:=ztk) (Pv:=Pv) (BX s5 ah al) ?_ ?_ ?_
 .show(zln,H6,Y,Y _ _ ai)
 .rintro i x Z H6 hi hx (⟨X,U,R,rfl,Y,G,J⟩:104);rw[Za] at hi hx;ext rB qa aa;obtain⟨⟨b,r⟩,hs,aq⟩:62:=ac.get aa;rw[ae] at hs hi;show(cB,hr,x1x hi hs,mem,Zn hs);ext y8 a1 as G;show(fO,ko,ab,id J);have av:i<ss.reverse.length:=cK Yx hi
  have ap:oD∉zRH:=λ z=>by
   show(nQ,xde id rnd av oD z,(Zk.mp hr).2);exact this rfl
  have a2:=dO L;show(ui,qa,Y _ _ aq,⟨a,a1,_,rfl,as,fb,a,dp,D,M,h',[],zRH,b,r,rfl,G,J,(L.2.2 _ mem).1,(L.2.2 _ mem).2,ap,Uq,λ O k7 ao I=>BX (mZ,k7 _ _ (xh e a0) (Y _ _ e)) ao ?_⟩);ext fK ZD hr I
 rintro Z H6 (⟨X,U,R,rfl,Y,G,J⟩:104);ext OG; rw[Za,ae,ZZ (by rw[Yx]; exact Zj _)] at J;refine lH lp (Y _ _ aj)
 show(zLZ,∃(X U R:eV),(Gy,[vE M,zih,xX,As,iH,X,U,R],O,Pic t O a dp D M h' xC,Sts O D ss.reverse))
 show(zvS,BX Y G J)
 .show(zln,O,s7,pZ aj)
 .rintro i x Z O hx (⟨X,U,R,rfl,s7,j,I⟩:104);ext rB qa aa;show(cD,p,hp,ar,af.get aa);show(kn,o1,o2,o3,ag.at_ hp);show(cD,ko,ab,kr,id I);obtain⟨_,⟨kp,au,_⟩,_⟩:=id j;refine jB a qa dp D M h' xC p rfl (iU,j,pZ ar,o1,o2,Uq,λ H8 k8 an=>BX (mZ,k8 _ _ (xh e az) zyJ) ?_ (cC,ko,k8 _ _ (ne_f ab au) ab,kr));ext fK ZD hp an
 rintro Z O (⟨X,U,R,rfl,s7,j,I⟩:104);rw[Za,am,Fx] at j;exact (q O a dp D s7 ⟨j,I,⟨(Qk ss).nodup_iff.mpr nd,VY Yx L,(jr,L.2.2 s (Qq.mp hs))⟩,(Qk ss).symm,ad,(qY,(ag.ok p hp).nm)⟩)
def xze {w:Nat} (w1:sL) {a b:Seat} (e:rimC w a=rimC w b):mx:=by
 ext hI h u a d q b;show(cI,c,Drw.rim w h=(GO d),(Yn.inj e).1,o,u=q,(Yn.inj e).2);subst o;unfold Drw.rim at c;cases h<;>cases d
 .rfl
 .ext yC c
 .ext yC c
 .rfl
def x05 {h:Nat}{s:Seat} (o:Sk j6):s∈zlE:=by
 ext Gz r s;show(eY,f,DK,o.1,d,r<=h,o.2,z,∀ b,oD∈xdi b h,λ b=>Ze.mpr (cC,(r-1).toNat,zfr,hD (fD,1+(dk,(r-1).toNat)=r)));cases b
 .exact Z7 _ (z false)
 exact Z3 _ (z true)
def x1u {c:Nat} (h:48<=c):¬ ([c]<[48]):=by
 ext zXJ;rintro (z|⟨_,z⟩)
 .lia
 cases z
def x27 {c:Nat} (h:c<=57):¬ ([57]<[c]):=by
 ext zXJ;rintro (z|⟨_,z⟩)
 .lia
 cases z
inductive x32 (vs:cA) (H:Hp) (Q:VK) (_:XK):Prop
 | mk (n:Nat) (e_:vs=[xG n]) (r_:pL/\(Ej n))
inductive x3l (vs:cA) (H:Hp) (Q:VK) (_:XK):Prop
 | mk (l:Addr) (ns:de) (e_:Gd) (r_:dh (uG (.lst (ns.map (fE,n,V.str (numT n))))) (∀ n∈ns,pL) zXv (zny (lm l' (.lst (ns.map L4)))))
def xul (ns:de):(ns.map (fE n zgD)).all xeq=true:=by
 ext X2 J6;rfl
def xzi (ns:de):(je,inV .non (ns.map L4)):=by
 unfold inV;ext X2 Wn;exact Zv
def ok_bf (T:cT):mr t.f_bf t.d_bf ["word"] (x32):=by
 refine T.bf.F.okn (k:=0) sc_bf (c7 Q E h) (cZ vs Q E hr h)
 .ext cV
 ext Rt n;refine⟨_,xb (qO (x3z (pv 0)) (pN 1 sc_bf.nd) (rO (xb3 (xno xgf xgf (xan) ew (xan))) xN))
  (xb (nF (zit (xu xcz ztH (xag (HL (xp))) jk) (xb4 (PW.pt (xf3 (DG ztH) (xfn (tV (xas x3x dU (xp) jV) (xan))))))) xN)
  (gq (xbh xmz rfl T.n_int boot_int pG))),?_⟩
 refine sq3 ?_; intros; ext ztz; ext lO M h;have hd:=xjc M;refine gS vP ?_ ?_
 .rw [<- Array.all_toList,J6];intro c U;have:=hd c U;simp;lia
 show(zlB,∃ N:eV,Z=[some (xG n),N]/\H=H5)
 refine x0p (Pv:=Pv) FY ?_ ?_
 .rintro i c Z _ U (⟨N,rfl,rfl⟩:62);ext XU; show(eK,G,hd c (Zn U),SR (eJ,ifP ?_ (SR,zgP FY)))
  .exact YG _ |>.mpr (decide_eq_false (x1u G.1))
  rw [(j4,(Zg "9").cps.toList,[57],c9),decide_eq_false (x27 G.2)];rfl
 ext zot N;refine nx ?_; refine iq ?_; intros; have D:=xha M;show(dZ,C,d6 vP 2,(by rcases D with z|z<;>lia),(pW,_,rfl,zhs,tz,cG Y R));generalize eu:iP H Y (i8 1 2)=H1;show(iG,X,R,eu,g1,(Iu,Y,g1,qd ?_))
 .rw [fH];rcases D with z|⟨z,_⟩<;>rw[z]<;>rfl
 refine iZ 64 rfl zhs Gj
 .have l2:(vP).length=2:=by
   have:(dk LZ)=2:=Bs
   lia
  obtain⟨J,I⟩:∃ J,ix zcE 0 J:=by
   have lz:0<zNy:=by
    have:zNy=LZ:=Ur
    lia
   exact(hZ,Zc lz)
  have O:J≠48:=λ z=>by
   rcases D with y|⟨_,y⟩
   .lia
   exact y (nG List.head?_eq_getElem? I z)
  refine lv vP 0 J (UY,zhs,xcv (j:=0) I,GP ?_)
  .refine decide_eq_false λ z=>O ?_;have e:=zSL z;have e2:[J]=[48]:=e.trans c9;exact List.head_eq_of_cons_eq e2
  exact zHA
 exact ifN rfl zHA
def ok_aj (T:cT):LR 2 t.f_aj t.d_aj (x3l):=by
 refine T.aj.F.okn (k:=1) sc_aj (c7 Q E h) (cZ vs Q E hr h)
 .ext cV
 ext sY l ns;refine⟨_,xb (DS,xF "word" zNm s_aj,zfA,pC (ok_bf T) hr T.bf.g T.bf.F.kp T.bf.b pG,1)
  (zKT (xa5) (xa5)),?_⟩
 refine sq2 ?_; intros; ext uw v I len;refine h9 l v u e;refine xbr (cN v) (js,Jp len cE) e (Hm,∃ n:Nat,(dS ns n)/\y=.int iu) wI (λ i z H2 hz s2 N hN=>?_) zQM
 .rw [Zf] at hz;ext qw n c hz;exact(du,n,rfl,I n (Zn c),λ O C=>oO C (fR n c))
 have J:ys=ns.map L4:=by
  refine xfi (HG ly) (dC i y p D G);show(cD,M,x,L,f1 i y D);ext ku G x L
 subst J;exact jo u _ (Tn,wV el1,xul _,ifN (by rw[Gq]; exact xzi _) (q H1 u s1 e el1))
inductive x0b (vs:cA) (H:Hp) (Q:VK) (_:XK):Prop
 | mk (ws:cH) (e_:vs=[.str (ZS (sw 32) ws)]) (r_:dh MM (∀ p∈ws,zkH) (d6 (tI ws) 1000) (Vv (ST (.lst (ws.map V.str)))))
def xw2 {ws:cH} (h:∀ p∈ws,p.cps.toList≠[]):(je,inV (NK "") (ws.map V.str)):=by
 unfold inV;rw[Wn];intro z hz;ext gu p b hz;intro e;have d:p=Zg "":=zLh
 exact h p b (by rw[d]; ext mH)
def x3y (zs:cH):(zs.map V.str).all xeq=true:=by
 ext X2 J6;rfl
def ok_be (T:cT):mr t.f_be t.d_be ["line"] (x0b):=by
 refine T.be.F.okn (k:=0) sc_be (c7 Q E h) (cZ vs Q E hr h)
 .ext cV
 ext Rt ws;refine⟨_,xb (nF (CY zlD) zpA)
  (xb (pS 1 sc_be.nd zzY)
  (zKT (xan) zju)),?_⟩
 refine sq3 ?_; intros; ext wK; ext uw ne fr len;show(dQ,(A6,jG,qd cE),d4 (m8,_,_,rfl,rfl,c9,zEM,cG l m));rw[(Ma,Zg " "=zdb),xj9 ne λ p j=>(fr p j).1];exact jo l _ (Tn,wV xj,x3y _,ifN (by rw[Gq]; exact xw2 λ p j=>(fr p j).2) (q l m))
inductive x2p (vs:cA) (H:Hp) (Q:VK) (_:XK):Prop
 | mk (es:de) (a b:Nat) (e_:vs=[.str zJW]) (r_:(cR,(es=nK/\b=a)\/es=Ds,a<100,b<100,d6 zJW 1000,zEO (rngL zjt (rg b))))
def ok_bn (T:cT):dB 3 t.f_bn t.d_bn ["word"] (x2p):=by
 refine T.bn.F.okn (k:=2) sc_bn (c7 Q E h) (cZ vs Q E hr h)
 .ext cV
 ext zi es a b;refine⟨_,xb (pS 1 sc_bn.nd (zkK zzY))
  (xb (D0 zhj (xu xkw (Ep xay mT) (xp) nA) zpA)
  (gq (zjQ (CO (E9 ew) (vA (xas xa7 ew zuX jV)))))),?_⟩
 refine sq3 ?_; intros; ext CU u ha hb len q h;have L:∀ n∈es,pL:=by
  rcases u with⟨rfl,rfl⟩|rfl<;>intro n z<;>simp at z<;>lia
 have l2:es.length<=2:=by
  rcases u with⟨rfl,rfl⟩|rfl<;>simp
 have ne:es.map numT≠[]:=by
  rcases u with⟨rfl,rfl⟩|rfl<;>simp
 refine d4 ⟨85,_,_,rfl,rfl,c9,zEM,cG J C⟩;rw[(Ma,Zg "-"=(gU,sw 45)),xj9 ne λ p S=>by
  ext gu n z S;exact xdt (L n z) cE,Zq]
 generalize N:iK J (.lst (es.map (V.str∘numT)))=H1;show(iG,I,C,N,U,jo J es (eD,U,L,cm,dC H2 v G X c));ext zmi; show(yL,ifN cy (nH,v,wV c,GP kS));have Z:atI (es.map L4) 0=(vE a):=by
  rcases u with⟨rfl,rfl⟩|rfl<;>rfl
 have Y:atI (es.map L4) (-1)=(vE b):=by
  rcases u with⟨rfl,rfl⟩|rfl<;>rfl
 refine oQ v _ (wb,cN c,Z,⟨1,rfl,v,_,_,_,rfl,rfl,cN c,Y,_,_,rfl,cG R x⟩);show(eK,D,xw (o:=.rng zjt (rg b)) i6 x,(zuS,R,xj,PN,cG l M));have O:=xw (o:=.lst (rngL zjt (rg b))) i6 M;exact q _ l (((I.trans G).trans D).trans O) (((I.trans G).trans D).free M) xj
inductive xw0 (vs:cA) (H:Hp) (Q:VK) (_:XK):Prop
 | mk (l:Addr) (a b:Nat) (e_:Gd) (r_:(dh,(rD l [.str "frame",xG a,xG b]),a<100,b<100,zmy (Lw a b)))
def ok_bp (T:cT):LR 3 t.f_bp t.d_bp (xw0):=by
 refine T.bp.F.okn (k:=2) sc_bp (c7 Q E h) (cZ vs Q E hr h)
 .ext cV
 ext zi l a b;refine⟨_,xb (D0 (Dc Lp (xp)) (Dc vp (xan)) xN)
  (gq (zkK zbi)),?_⟩
 refine sq2 ?_; intros; ext wK; ext uw m I G;refine Fl l m rfl (eJ,ifN cy (oQ l _ ⟨45,rfl,cN m,rfl,rfl,GP c9⟩));show(ut,1,(sO,cN m,jN z));have v:=xw (o:=.lst [xG a,xG b]) i6 z;exact jo p Ds (eD,xj,λ n C=>(Ad C),cy,λ D y x u c=>q D y (v.trans x) (v.free u) c)
structure Wd where
 a:Nat
 b:Nat
 two:Bool
meta def Wd.es (w:Wd):de:=if w.two then [w.a,w.b] else [w.a]
meta def Wd.tq (w:Wd):Str:=zIx
structure Wd.Ok (w:Wd):Prop where
 a1:w.a<30
 b1:w.b<30
 le:w.a<=w.b
 one:(je w.two)->w.b=w.a
meta def Wd.rs (w:Wd):gW:=(Zz (w.b+1-w.a)).map (fE,i,zyw+fc)
def Wd.rng (w:Wd):rngL zyw (rg w.b)=w.rs.map V.int:=by
 unfold rngL Wd.rs;rw[Zq,(fD,((dk w.b)+1-zyw).toNat=w.b+1-w.a)];rfl
theorem Wd.shape {w:Wd} (o:w.Ok):(w.es=[w.a]/\w.b=w.a)\/w.es=[w.a,w.b]:=by
 unfold Wd.es;cases h:w.two with
 | true=>ext vF
 | false=>show(eg,(d4,o.one h))
def Wd.es_lt {w:Wd} (o:w.Ok):∀ n∈w.es,pL:=by
 show(cB,f,o.a1,d,o.b1);rcases SB with⟨e,_⟩|e<;>rw[e]<;>intro n c<;>simp at c<;>lia
def Wd.len {w:Wd} (o:w.Ok):w.tq.length<=6:=by
 have h:=xf6 (c:=45) (k:=2) (ws:=w.es.map numT) λp hp=>by
  ext gu n b hp;rcases xha (Wd.es_lt o n b) with z|⟨z,_⟩<;>lia
 have d:w.es.length<=2:=by
  rcases SB with⟨e,_⟩|e<;>rw[e]<;>simp
 rw[Za] at h;show d6 zIx 6;lia
def xii {n:Nat} (h:pL):zcE≠[]:=λ e=>by
 show(zL,xdd (numT n),e);rcases xha h with y|⟨y,_⟩<;>rw[y] at z<;>cases z
def Wd.ne {w:Wd} (o:w.Ok):w.tq.cps.toList≠[]:=by
 have d:=o.a1;unfold Wd.tq;rcases SB with⟨e,_⟩|e<;>rw[e]
 .exact xii cm
 show zAR≠[];rw[xc9];simp
def Wd.free {w:Wd} (o:w.Ok):32∉w.tq.cps.toList:=by
 show(cB,j,o.a1,d,o.b1);unfold Wd.tq;rcases SB with⟨e,_⟩|e<;>rw[e]
 .exact xdt cm cE
 show 32∉zAR;rw[xc9];intro z;rcases Gi with y|y
 .exact xdt (fD,w.a<100) cE y
 rcases Zt.mp y with x|x
 .cases x
 exact xdt (fD,w.b<100) cE x
def Wd.rs_ne {w:Wd} (o:w.Ok):w.rs≠[]:=λ e=>by
 have z:=zrV;unfold Wd.rs at z;rw[Za,Z9] at z;have:=o.le;change w.b+1-w.a=0 at z;lia
def Wd.rs_len {w:Wd} (o:w.Ok):w.rs.length<=30:=by
 unfold Wd.rs;rw[Za,Z9];show(fj,o.b1)
theorem xoq:∀{ws:tM},zqK->(d6,uR,ws.length*30)
 | [],_=>cy
 | w::ws,h=>by
  show(cB,c,Wd.rs_len (h w Zm),b,xoq (ws:=ws) zRe);rw[Yr,Zr,Z6];lia
meta def wdsV (ws:tM):cA:=ws.map λ w=>V.str w.tq
meta def RimW (H:Hp) (l:Addr) (b:Bool) (ws:tM):Prop:=(dh,(rD l (lu::wdsV ws)),MM,zqK,ws.length<=12)
inductive x1t (vs:cA) (H:Hp) (Q:VK) (_:XK):Prop
 | mk (l:Addr) (b:Bool) (ws:tM) (e_:Gd) (r_:zrM/\(zny (lm l' (.lst ((uR).map V.int)))))
inductive xwt (vs:cA) (H:Hp) (Q:VK) (_:XK):Prop
 | mk (l:Addr) (b:Bool) (ws:tM) (e_:Gd) (r_:zrM/\zht)
meta def x4n (l1:Addr) (ws:tM) (i:Nat) (ys:cA) (H:Hp):Prop:=∃ rs:cM,ys=rs.map V.ref/\rs.length=i/\(zkR,q≠l1/\zGv)
def xxj {K:Zd}{H:Hp}{l1:Addr}{ws:tM}{rs:cM} (h:zng l1) (el:rs.length=ws.length) (f:zkR zGv):iY 2 (.ref l1) (.lst (ws.map λ w=>.lst (w.rs.map DV.int))):=by
 refine .lst (cN h) (nG Za Za el) (dC j x d c b);rw[Zf] at c b;ext qw q v c;ext qw w u b;refine .lst (cN (f j q w v u)) (HG Za) (dC k x d c b);rw[Zf] at c b;ext qw i y c;show(ku,y,b,.int)
def xwm {ws:tM} (ok:zqK):(ws.map λ w=>DV.lst (w.rs.map DV.int)).any (λ z=>dEq z (.lst []))=false:=by
 rw[Wn];intro z hz;ext gu w b hz;intro e;have:(je,dEqs (w.rs.map DV.int) []):=xji λ z=>by
  show(ef,Za,z,Wd.rs_ne (ok w b) (Q3.mp z))
 change dEqs (w.rs.map DV.int) []=true at e;ext HD this
def ok_ba (T:cT):LR 4 t.f_ba t.d_ba (x1t):=by
 ext zBL
 .ext cV
 ext zi l b ws;refine⟨_,xb zCK
  (xb zzD
  (xb zEa
  (xb zUL
  (xb zzn
  (w6 2))))),?_⟩
 refine sq6 ?_; intros; show(zId,hl,(sO,wV hl,zgP (oQ l lu (FO,cN hl,Eu,tz,q1,ad))))
 .have:ws.length≠0:=λ z=>ne (Q3.mp z);simp[wdsV];lia
 generalize L:mw H q1 R7 RO=H1;show(iG,s1,ad,L,g1,(Iu,q1,g1,qd OF));have U:=zfp;show(ut,1,(sO,cN U,Gf));rw[xrc];generalize L:upd H1 p (.lst (wdsV ws))=H2;show(iG,s2,hp,L,g2,h9 p g2 l1 U);refine xhg (cN g2) (by rw[wdsV,Za]; exact Jp len cE) U (x4n l1 ws) (λ_ _=>(gS,[],rfl,λ j q w h=>BE)) ?_ (zKf hx) zJv
 .rintro i ys zs X H6 _ k (⟨rs,e,lr,f⟩:63);show(kP,rs,e,lr,λ j q w D G=>⟨(zdL).1,k _ _ (zdL).1 (zdL).2⟩)
 .rw [wdsV,Zf] at hx;ext qw w Y hx;show(kZ,o,ok w (Zn Y),D,o.a1,G,o.b1);have h6:=Wd.len o;refine lv w.es w.a w.b (ff,SB,cm,cm,Z1 h6 cE,λ H4 l4 O ag ab=>oO O ?_);rw[Wd.rng] at ab;show(ld,rs,rfl,lr,f,f3,(eE,rs++[l4],cy,gK lr,dC j q v D G));rcases Yy j rs.length with z|z
  .rw [Jd z] at D;show(cU,(f j q v D G).1,O _ _ (f j q v D G).2)
  rw [J8 z] at D;have e0:j-rs.length=0:=by
   rcases Nat.eq_zero_or_pos (j-rs.length) with y|y
   .exact y
   show(AH,Jg kS,D)
  ext dP e0 D D;ext sJ ej j i cm;ext dP Y G G;show(cU,kK el3 ag,ab)
 ext zmi; show(dG,rs,rfl,lr,f,f3);have lw:rs.length=ws.length:=nG lr wdsV Za
 ext AN zmc q0 ae;generalize L:sH H3 q0=H4;ext jS O ae L g4 L;have f4:zkR (cu,H4 q,.lst (w.rs.map V.int)):=λ j q w D G=>O _ _ (zdL).2;show(dQ,(dM,1,2,.lst [],_,.lst (cN g4) rfl (λ j x d h=>BE),(zq,xxj (O _ _ el3) lw f4,qd (by rw[Gq]; exact xwm ok))),vt zmc I C);ext oX; have R:gB H4:=((pB).trans s3).trans O;show(cB,af,R.free C,J,O _ _ el3);refine lH l1 (Dh J C)
 let Pv (i:Nat) (Z:L2.St) (X:Hp):Prop:=∃ v3:eV,eX Z [mV,cX l1,cX I,v3] (cu,X I,.lst (((zfu).flatMap Wd.rs).map V.int)) (o4 I (cu,H4 b,u) (cu,X b,u))
 show(wE,rs.map V.ref,gS _ xj zMr)
 .rintro i Z X _ (⟨v3,_,_,k⟩:63);show(qS,k _ _ (xh J C) J)
 .rintro i x Z X hx (⟨v3,rfl,h5,k⟩:63);ext FI hx q2 aa;have ac:i<ws.length:=by
   show(kC,lw,oh aa)
  have Y:(dS,ws,ws[i]):=Zc ac;have G:=f4 i q2 _ aa Y;have h3:=k _ _ (xh G C) G;show(cB,b1,xoq (ws:=zfu) λ v hv=>ok v (QR hv),b2,Wd.rs_len (ok _ (Zn Y)));show(dZ,b3,d6 zfu 12,Uq,⟨uY h5,I,q2,_,_,rfl,rfl,h5,h3,?_,_,rfl,?_,Rj⟩)
  .rw [Za,Za];ext UW
  .have tk:ws.take dc=zfu++[ws[i]]:=ir WV Y
   rw[xj,tk,Ji,Zu,Jy]
  show(ww,nb,k b u nb e)
 ext zdy X v3 h5 k;rw[Za,lw,ZY] at h5;exact (q X I (iI,k b u (xh zhF C) zhF) af h5)
def ok_am (T:cT):LR 3 t.f_am t.d_am (xwt):=by
 ext zBN
 .ext cV
 ext zi l b ws;refine⟨_,xb zAL
  (xb zFh
  (xb (nF zhj xN)
  (xb zAr
  (xb zGB
  (xb zzc
  (xk ((by (with_reducible refine' xt ?e1); (case e1=>((with_reducible refine' xag ?p2); (case p2=>((with_reducible show(i9,?e3,?q4)); (case e3=>((exact vp))); (case q4=>((with_reducible show(i9,?e5,?q6)); (case e5=>((exact pv 2))); (case q6=>((with_reducible show(i9,?e7,?q8)); (case e7=>((exact pv 3))); (case q8=>((with_reducible show(i9,?e9,?q10)); (case e9=>((exact pv 4))); (case q10=>((with_reducible show(i9,?e11,?q12)); (case e11=>((exact pv 5))); (case q12=>((with_reducible show(i9,?e13,?q14)); (case e13=>((exact pv 6))); (case q14=>((exact xg))))))))))))))))))))))))),?_⟩
 refine sq7 ?_; intros; show(zId,z,⟨84,l,_,rfl,zbW,Cb,cG y x⟩);generalize C:iP H y zLx=G;show(cB,v,su_e x C,D,ug_e C);refine(Iu,y,D,ite2 (λ c=>q _ v) mX);exact oQ l lu (UY,cN (v _ _ z),Eu,(eJ,ifP OF (q _ v)))
structure TxT (s:Str):Prop where
 len:s.length<=10
 fr:32∉s.cps.toList
 ne:s.cps.toList≠[]
inductive Way where
 | a
 | b
 | c
structure Pw where
 nm:Str
 x:Nat
 y:Nat
 sd:Str
 lo:Nat
 hi:Nat
 way:Way
structure Pw.Ok (p:Pw):Prop where
 nm:TxT p.nm
 x:p.x<100
 y:p.y<100
 sd:TxT p.sd
 lo:p.lo<100
 hi:p.hi<100
meta def Pw.ws (p:Pw):cH:=match p.way with
 | .a=>["point",p.nm,zyr,zyq]
 | .b=>["point",p.nm,zyr,zyq,p.sd]
 | .c=>["point",p.nm,zyr,zyq,p.sd,numT p.lo,numT p.hi]
meta def Pw.tq (p:Pw):Str:=tI p.ws
meta def Pw.res (p:Pw):cA:=match p.way with
 | .a=>[pd,Ms,Mr,R8,.int 1,.non]
 | .b=>[pd,Ms,Mr,zQ,.int 1,.non]
 | .c=>zIr
meta def PtW (H:Hp) (l:Addr) (p:Pw):Prop:=(uG (.lst (p.ws.map V.str)))/\p.Ok
inductive xzq (vs:cA) (H:Hp) (Q:VK) (_:XK):Prop
 | mk (l:Addr) (p:Pw) (e_:Gd) (r_:zvZ/\zht)
inductive xwx (vs:cA) (H:Hp) (Q:VK) (_:XK):Prop
 | mk (l:Addr) (p:Pw) (e_:Gd) (r_:zvZ/\(zKW p.res))
def xw9 (p:Pw):∃ r,p.ws.map V.str=K3::r/\3<=r.length:=by
 show(zVa,eJ cy)
def xqe {x y:Nat} (hx:x<100) (hy:y<100):∀ n∈[x,y],pL:=λ n a=>Ad a
def xxt {x y z u:Nat} (hx:x<100) (hy:y<100) (hz:z<100) (hu:u<100):∀ n∈[x,y,z,u],pL:=λ n a=>Ad a
def okD_ba (T:cT):LR 4 t.f_ba t.d_ba (xzq):=by
 ext zBL
 .ext cV
 ext sY l p;refine⟨_,xb zCK
  (xb zzD
  (xb zEa
  (xb zUL
  (xb zzn
  (w6 2))))),?_⟩
 refine sq6 ?_; intros; ext wK; ext zcO v ok;show(cD,r,I,J,xw9 p);rw[I] at v;refine(sO,wV v,zgP ⟨l,_,0,K3,rfl,(FO,cN v,Eu,tz,z,c)⟩)
 .simp;lia
 generalize C:mw H z R7 RO=L;ext jS D c C G C;exact(Iu,z,G,ifP c9 (q _ D))
theorem okD_am (T:cT):LR 3 t.f_am t.d_am (xwx):=by
 ext zBN
 .ext cV
 ext sY l p;refine⟨_,xb zAL
  (xb zFh
  (xb (nF zhj xN)
  (xb zAr
  (xb zGB
  (xb zzc
  (xk ((by (with_reducible refine' xt ?e1); (case e1=>((with_reducible refine' xag ?p2); (case p2=>((with_reducible show(i9,?e3,?q4)); (case e3=>((exact vp))); (case q4=>((with_reducible show(i9,?e5,?q6)); (case e5=>((exact pv 2))); (case q6=>((with_reducible show(i9,?e7,?q8)); (case e7=>((exact pv 3))); (case q8=>((with_reducible show(i9,?e9,?q10)); (case e9=>((exact pv 4))); (case q10=>((with_reducible show(i9,?e11,?q12)); (case e11=>((exact pv 5))); (case q12=>((with_reducible show(i9,?e13,?q14)); (case e13=>((exact pv 6))); (case q14=>((exact xg))))))))))))))))))))))))),?_⟩
 refine sq7 ?_; intros; ext wK; ext zcO D ok;show(tK,ox,ok.x,oy,ok.y,ab,ok.lo,ac,ok.hi);unfold Pw.ws at D;unfold Pw.res at q;cases hw:p.way with
 | a =>
  show(zkx,[K3,pd,Aa,z6]);show(zjJ,⟨q1,_,rfl,(Tn,.inr (SqT.of g1),rfl,qd jk)⟩);show(zjM,[RB,pd,Aa,z6]);show(zeM,[RB,pd,Aa,z6],some 5,[]);generalize v:sH H2 p2=H3;show(iG,Y,R,v,g3,(zlv,2+0,p3,O));rw[yx (Ar++[]:cA) Ar];ext zqh Ar;show(iG,s4,O,v,g4,(zlj,zfb,xqe ox oy));ext zmi; have G:=(((Ho Z).trans Y).trans s4).trans s5;refine zhm;ext zmZ N;ext zjI zfb;show(zDC,zVQ,.non);show(AO,fU p7 g7);ext zkD;exact q _ p8 ((zwo).trans (X.trans (ge L))) xj
 | b =>
  show(zkx,[K3,pd,Aa,z6,zQ]);ext zjJ zPS;ext zjM zSU;show(zeM,zSU,some 5,[]);generalize v:sH H2 p2=H3;show(iG,Y,R,v,g3,(zlv,2+0,p3,O));rw[yx (Ar++[]:cA) Ar];ext zqh Ar;show(iG,s4,O,v,g4,(zlj,zfb,xqe ox oy));have G:=(((Ho Z).trans Y).trans s4).trans s5;refine zhm;ext zmZ N;ext zjI zfb;show(zDC,zBs,.non);show(AO,fU p7 g7);ext zkD;exact q _ p8 ((zwo).trans (X.trans (ge L))) xj
 | c =>
  show(zkx,zqO K3);ext zjJ zPS;show(zjM,zqO RB);show(zeM,zqO RB,some 5,[L6,L5]);generalize v:lR H2 p2 [L6,L5]=H3;show(iG,Y,R,v,g3,(zlv,2+2,p3,O));rw[yx (Ar++[L6,L5]:cA) [Aa,z6,L6,L5]];show(zqh,[Aa,z6,L6,L5]);show(iG,s4,O,v,g4,(zlj,zNS,xxt ox oy ab ac));have G:=(((Ho Z).trans Y).trans s4).trans s5;refine zhm;ext zmZ N;have I:Ri l5 (zKj,VD p.x):=I;ext zjI zNS;show(dQ,zBs,(sO,zbW,eJ LT));show(ut,2,(nH,l5,cN (U _ _ I),cG p7 M));show(zeM,(zKj,V.int (dk p.x)),some 2,zWE);show(zQq,lR H6 p7 zWE);show(lW,zvE p7 g7);ext zkD;exact q _ p8 ((zwo).trans (X.trans (ge L))) xj
structure Ln where
 b:Bool
 ws:tM
meta def Ln.tq (n:Ln):Str:=tI Ij
structure Ln.Ok (n:Ln):Prop where
 ne:n.ws≠[]
 ok:∀ w∈n.ws,w.Ok
 len:n.ws.length<=12
meta def Ln.ss (n:Ln):cF:=(n.ws.flatMap Wd.rs).map λ i=>(n.b,i)
def xmd (b:Bool):d6 (xab b) 6:=OF
def xrg (b:Bool):32∉zQo:=OF
def xvu (b:Bool):zQo≠[]:=OF
def Ln.len1 {n:Ln} (o:n.Ok):jA n.tq.length:=by
 have h:=xf6 (c:=32) (k:=6) (ws:=Ij) λ p d=>by
  rcases Gg with rfl|d
  .exact xmd _
  ext me w f zhy;exact Wd.len (o.ok w f)
 have l:=o.len;rw[Z6,Za] at h;show d6 (tI Ij) 1000;lia
theorem Ln.free {n:Ln} (o:n.Ok):∀ p∈Ij,zkH:=λ p d=>by
 rcases Gg with rfl|d
 .show(yG,xrg _,xvu _)
 ext me w h zhy;show(cU,Wd.free (o.ok w h),Wd.ne (o.ok w h))
meta def Pw.pt (ph:Int) (p:Pw):Pt:=match p.way with
 | .a=>⟨p.nm,p.x,p.y, "both",1,ph⟩
 | .b=>zuG p.y 1 ph
 | .c=>zuG p.y p.lo p.hi
def Pw.res_eq (p:Pw) (ph:Int):∃ hv,p.res=[.str (mP).nm,.int (mP).x,.int (mP).y,.str (mP).sd,.int (mP).lo,hv]/\(znT,(mP).hi,ph):=by
 unfold Pw.res Pw.pt;cases p.way
 .exact eJ Uv
 .exact eJ Uv
 exact eJ zW
meta def xr8 (b:Bool) (ws:tM):cF:=(uR).map λ i=>(b,i)
meta def DoR (t:Adr) (H:Hp) (Q:VK) (a l:Addr):Prop:=∃(dp do_:Addr) (pw ph:Int) (ps:cJ) (ss:cF) (b:Bool) (ws:tM),i5/\qp/\zrM/\SsOk ph zrd /\
 (zBP zrd)
def SsOk.part {h:Int}{ss r:cF} (o:SsOk h (ss++r)):S9:=(cC,(ZH.mp o.1).1,by show(nQ,dO o,Zr); lia,(jr,o.2.2 s (Z3 _ hs)))
meta def frT (w h:Nat):Str:=tI zUr
def xzn {w h:Nat} (w1:w<100) (h1:h<100):∀ p∈[EQ,AE,Nr],zkH:=λ p b=>by
 rcases qP with rfl|b
 .ext yG c9 c9
 rcases qP with rfl|b
 .show(yG,xdt w1 cE,xii w1)
 rcases qP with rfl|b
 .show(yG,xdt h1 cE,xii h1)
 cases b
def xdf {n:Nat} (h:pL):d6 vP 5:=by rcases xha h with z|⟨z,_⟩<;>lia
def x2f {w h:Nat} (w1:w<100) (h1:h<100):d6 (frT w h) 18 :=
 xf6 (c:=32) (k:=5) (ws:=zUr) λ p b=>by
  rcases qP with rfl|b
  .ext mH
  rcases qP with rfl|b
  .exact xdf w1
  rcases qP with rfl|b
  .exact xdf h1
  cases b
def TxT.num {n:Nat} (h:pL):TxT (numT n):=(cC,Z1 (xdf h) cE,xdt h cE,xii h)
def Pw.words {p:Pw} (o:p.Ok):∀ s∈p.ws,TxT s:=by
 have b:TxT "point":=cC c9 c9 c9
 unfold Pw.ws;cases p.way<;>intro s hs<;>simp only[Zt,Je,or_false] at hs
 .rcases hs with rfl|rfl|rfl|rfl
  .exact b
  .exact o.nm
  .exact .num o.x
  exact .num o.y
 .rcases hs with rfl|rfl|rfl|rfl|rfl
  .exact b
  .exact o.nm
  .exact .num o.x
  .exact .num o.y
  exact o.sd
 rcases hs with rfl|rfl|rfl|rfl|rfl|rfl|rfl
 .exact b
 .exact o.nm
 .exact .num o.x
 .exact .num o.y
 .exact o.sd
 .exact .num o.lo
 exact .num o.hi
def Pw.ws_len (p:Pw):p.ws.length<=7/\p.ws≠[]:=by
 show(zVa,⟨cy,cy⟩)
def Pw.len {p:Pw} (o:p.Ok):p.tq.length<=77:=by
 have h:=xf6 (c:=32) (k:=10) (ws:=p.ws) (jr,(zqt).len);show(Ag,p.ws_len.1,d6 (tI p.ws) 77)
meta def DoQ (t:Adr) (H:Hp) (Q:VK) (a l:Addr):Prop:=∃(dp do_:Addr) (pw ph:Int) (ps:cJ) (p:Pw),i5/\zvZ/\PtOk pw ph (p.pt ph)/\(∀ q∈ps,q.nm≠(mP).nm/\q.x≠(mP).x/\q.y≠(mP).y)/\ztd /\
 (znj (UM dp) (ps++[mP]))
inductive x1o (t:Adr) (vs:cA) (H:Hp) (Q:VK) (_:XK):Prop
 | mk (a l:Addr) (nv:V) (e_:vs=[dH,nv,iS]) (r_:(DoR t H Q a l\/DoQ t H Q a l))
inductive Itm where
 | rim (n:Ln)
 | pt (p:Pw)
meta def Itm.tq:Itm->Str
 | .rim n=>n.tq
 | .pt p=>p.tq
meta def Itm.Ok:Itm->Prop
 | .rim n=>n.Ok
 | .pt p=>p.Ok
meta def Itm.ss:Itm->cF
 | .rim n=>n.ss
 | .pt _=>[]
meta def Itm.ps (h:Int):Itm->cJ
 | .rim _=>[]
 | .pt p=>[p.pt h]
meta def itV (its:FV):cA:=its.map λ i=>V.str i.tq
inductive x1a (t:Adr) (vs:cA) (H:Hp) (Q:VK) (_:XK):Prop
 | mk (ll:Addr) (w h:Nat) (its:FV) (e_:vs=[.ref ll]) (r_:dh (rD ll (zSe its)) (1<=w/\w<=30) (1<=h/\h<=16) (cR,(∀ i∈its,i.Ok),jA its.length,SsOk h (its.flatMap Itm.ss),xbf w h zLs,∀ H' a dp do_,gg->Nv->(oz,d7 do_,d7 dp,vd H' w h zLs,Sts H' do_ (its.flatMap Itm.ss),a)))
def xbf.pre {w h:Int}{r s:cJ}{p:Pt} (o:xbf w h (r++p::s)):Fg/\(∀ q∈r,zCW)/\r.length<12:=by
 show(eW,o.ok p cy,λ q b=>kL ?_ ?_,by have:=o.le; ext yC this)
 .show(Cd,o.nn,Zu,ZH);exact (kO).2 _ zxF _ cy
 .show(Cd,o.nx,Zu,ZH);exact (kO).2 _ zxF _ cy
 show(Cd,o.ny,Zu,ZH);exact (kO).2 _ zxF _ cy
meta def IPc (t:Adr) (H6:Hp) (ll l2 a dp do_:Addr) (w h:Nat) (its:FV) (i:Nat) (Z:L2.St) (H7:Hp):Prop:=∃(v5 v6:eV),(j7,Z,[cX ll,cX l2,zjh,d0 h,iH,v5,v6],(II do_ dp (cu,H6 c,u) zsj),vd H7 w h ((zey).flatMap (Itm.ps h)),Sts H7 do_ ((zey).flatMap Itm.ss))
theorem Itm.len {i:Itm} (o:i.Ok):jA i.tq.length:=by
 cases i with
 | rim n=>exact Ln.len1 o
 | pt p=>exact Z1 (Pw.len o) cE
def ok_bg (T:cT):dB 6 t.f_bg t.d_bg zlq (x1o t):=by
 refine T.bg.F.okn (k:=5) sc_bg (c7 Q E h) (cZ vs Q E R h)
 .ext cV
 ext zi a l nv;refine⟨_,xb (pS 3 sc_bg.nd (xk1 ((ok_ba T).or (okD_ba T)) (hmm R) rfl T.ba.g T.ba.F.kp T.ba.b .nil xq Vh))
  (xb (pS 4 sc_bg.nd (xk1 ((ok_am T).or (okD_am T)) (hmm R) rfl T.am.g T.am.F.kp T.am.b .nil xq Vh))
  (xk (xaf (E5 gM) (xk (nO 3 (pN 5 sc_bg.nd) (oB (iD dU T.c_a T.n.m (ok_n T) (hmm R) T.n.b (xa (E9 hB) C3))))) (xk (xaf (E5 h8) (xb (yt 4 (oE (EJ (pN 6 sc_bg.nd) (pN 7 sc_bg.nd) (pN 8 sc_bg.nd) (pN 9 sc_bg.nd) (mC 10 sc_bg.nd 11 sc_bg.nd))))
  (oB (iD dU T.c_a T.m_b (ok_b T) (hmm R) T.b_b (xv jL (wQ pV wg (xv (pv 9) (wQ (pv 10) (pv 11) (xg)) rfl)) rfl)))) (xk (xbu))))))),?_⟩
 refine sq3 ?_; intros; rcases h with⟨dp,do_,pw,ph,ps,ss,b,ws,pic,st,rim,sok,q⟩|⟨dp,do_,pw,ph,ps,p,pic,ptw,pok,unl,l12,q⟩
 .show(AO,(dM,l,b,ws,rfl,rim,dC H1 l1 Y am ai));have aa:RimW H1 l b ws:=(AX,Y _ _ rim.1,rim)
  show(AO,(dM,l,b,ws,rfl,aa,cG H2 s2));ext XV; show(zqU,qM LT); show(cB,v,Y.trans s2,L,nE ai);show(fO,ko,ad,id (st.same v));show(ia,n1,l1≠do_,ne_f L ad,n2,l≠do_,ne_f (v _ _ rim.1) ad,lH l1 L)
  let Pv (i:Nat) (Z:L2.St) (N:Hp):Prop:=∃(v5 v6 v7 v8 v9 X U:eV),(j7,Z,[iH,some nv,mV,cX l1,zwP,v5,v6,v7,v8,v9,X,U],(ki do_ (cu,H2 c,u) (cu,N c,u)),vd N pw ph ps,Sts N do_ (ss++((uR).take i).map λ i=>(b,i)))
  show(wE,(uR).map V.int,(AI (BX,EK,zWJ,by rw[WU,YW,Ju]; exact st.same v)))
  .rintro i Z N _ (⟨_,_,_,_,⟨_,_,_,_,k,_⟩⟩:121);show(qS,k _ _ n1 L)
  .rintro i x Z N hx (⟨v5,v6,v7,v8,⟨v9,X,U,rfl,k,D,G⟩⟩:121);ext FI hx r R;ext y8 aj ag D;have tk:(((uR).take dc).map λ i=>Oa)=(((uR).take i).map λ i=>(b,i))++[oD]:=by
    rw[WV,R,Zu];rfl
   have al:zrd=(ss++(((uR).take dc).map λ i=>(b,i)))++(((uR).drop dc).map λ i=>(b,i)):=by
    rw[JG,<- Zu,Y7];rfl
   ext fV I sok al I;have C:=I.part;rw[tk,<- JG] at C;have rr:=C.2.2 oD (Z7 _ Zm);have af:oD∉ss++(((uR).take i).map λ i=>(b,i)):=λ z=>(ZH.mp C.1).2.2 _ z _ Zm rfl;have lt:(ss++(((uR).take i).map λ i=>(b,i))).length<32:=by
    have:=dO C;rw[Zr,ZI] at this;lia
   show(dQ,⟨a,aj,_,rfl,ag,fb,l,_,0,lu,rfl,rfl,cN (k _ _ n2 (v _ _ rim.1)),Eu,a,dp,do_,pw,ph,ps,_,b,r,rfl,D,G,rr.1,rr.2,af,lt,fM H6 k6 ab ae⟩,AI (BX,λ c u O e=>k6 c u O (k c u O e),ab,?_));rw[tk,<- JG];exact ae
  rintro Z N (⟨_,_,_,_,⟨_,_,_,rfl,k,D,G⟩⟩:121);ext oS ZY G;exact q N zHp D G
 show(lW,(dW,l,p,rfl,ptw,cG H1 Y));show(lW,(dW,l,p,rfl,(AX,Y _ _ ptw.1,ptw),fM H2 q2 s2 ac));show(zaW,(qM,ifN jk (qM LT))); show(cD,hv,er,hh,p.res_eq ph);rw[er] at ac;refine fU q2 ac;show(cB,v,Y.trans s2,J,zWJ);show(vM,ak,ah,J,Sq ak ah);exact⟨a,dp,do_,pw,ph,ps,(mP).nm,(mP).x,(mP).y,(mP).sd,(mP).lo,(mP).hi,hv,rfl,ib J hh pok.nm pok.x1 pok.x2 pok.y1 (yr,pok.y2,pok.sd,pok.l1,pok.l2,pok.l3,unl,l12,λ H' k pc=>q H' zHp pc)⟩
def ok_av (T:cT):dB 7 t.f_av t.d_av ["lines"] (x1a t):=by
 refine T.av.F.okn (k:=6) sc_av (c7 Q E h) (cZ vs Q E hr h)
 .ext cV
 ext EH ll N h' its;refine⟨_,xb (D0 (CY (XI "list" T.n_list boot_list)) (DG Lp) qU)
  (xb (pS 1 sc_av.nd (pC (ok_bp T) hr T.bp.g T.bp.F.kp T.bp.b (gP (pC (ok_be T) hr T.be.g T.be.F.kp T.be.b (gP vp)))))
  (xb (nF zhj qU)
  (xb (yt 1 (xgr rfl (mC 2 sc_av.nd 3 sc_av.nd)))
  (xb (zkq sc_av.nd xK)
  (xb (qO (xwd rfl T.n_enumerate (gP zbi) (xp)) (oE (mC 5 sc_av.nd 6 sc_av.nd)) (oB (pC (ok_bg T) hr T.bg.g T.bg.F.kp T.bg.b (f8 4 (NU 5 (pC (ok_be T) hr T.be.g T.be.F.kp T.be.b zjn))))))
  U9))))),?_⟩
 refine sq7 ?_; intros; obtain⟨hl,⟨w1,w2⟩,⟨h1,h2⟩,ok,len,ah,⟨aj,q⟩⟩:47:=h;show(ia,O,N<100,cm,S,h'<100,cm,(A6,.lst hl,ifN cE (Fl,ll,hl,rfl,GP kS)));show(eK,fl,x2f O S,(zym,ll,.str (frT N h'),hl,(dM,zOo,rfl,cy,xzn O S,Z1 fl cE,cG lw am)));rw[show ((zOo).map V.str)=zBT from rfl];generalize L:wD lw zBT=H1;show(iG,s1,am,L,g1,lv lw N h' (eD,g1,O,S,dC H2 l2 s2 au an));show(dQ,zhm,zvE l2 an);have J:=s1.trans s2;refine (dC a dx ha ab ne);refine iT a dx N h' (iU,xj,cm,cm,cm,cm,λ H5 Y I ar as k5 U ac=>CC);ext oX; have s5:Aq:=(iI,k5 b u (xh zhG ha) (tP,oH zhG ha,oH zhG ab,zhG));have up:(Ef,LP H2 a,a,zsp,H2 b=none):=λb z=>by
  cases e:H2 b with
  | none=>rfl
  | some u=>ext O4 ha ab
 have ae:d7 I:=J.free (up _ as);have ad:d7 Y:=J.free (up _ ar);show(ut,1,(nH,ll,zxu hl,Gf));rw[xrc];generalize L:upd H5 p (.lst (itV its))=H6;have s6:=su_e hp L;show(cB,g6,ug_e L,ai,s5.trans s6);show(fO,kd,ap,id U.pl);show(ia,np,p≠I,kK ac hp,ak,p≠Y,kK ap hp,(nh,84,p,_,rfl,cN g6,?_));refine xs7 (xs:=itV its) (Pv:=IPc t H6 ll l2 a Y I N h' its) (Lr,λ_ _ _ _ e=>e,kI s6 U,(AR,[],uF ac,Y3,jM)) ?_ ?_ ?_
 .rintro i Z H7 _ (⟨_,_,_,k,_⟩:83);show(qS,k _ _ np ak g6)
 .rintro i x p2 Z H7 hx al (⟨v5,v6,rfl,k,D,R⟩:84);unfold itV at hx;ext FI hx d hd;have o:=ok d (Zn hd);have tk:its.take dc=zey++[d]:=ir WV hd
  have af:its=zey++d::its.drop dc:=by
   ext LN y1 y2 hd;have e:=(Y7 i its).symm;rw[Y8 y1,y2] at e;exact e
  generalize L:(mw,H7,p2,MS,.str d.tq)=H8;show(iG,s8,al,L,g8,fU p2 g8);have dl:=Itm.len o;cases d with
  | rim n =>
   show(ut,Ij,(eD,cy,Ln.free o,dl,cG l9 X));rw[show ((Ij).map V.str)=zLL by unfold wdsV; rw[Zs,Zq]; rfl];generalize L:lR H8 l9 zLL=H9;have s9:=su_e X L;show(cB,g9,ug_e L,G,s8.trans s9);refine(lv,a,l9,MS,.inl (fJ Y I N h' (jB,125,_,_,n.b,n.ws,zxX,R.same G,eD g9 o.ne o.ok o.len,?_,fM H' kz pc ag)))
   .have z:=ah;rw[af,Ji,Yr,<- JG] at z;exact z.part
   refine (zPj,kz c u nc zLC)
   .ext zim;show(DC,Pic t H' a Y I N h' (_++[]),Ju,pc)
   ext zim;exact ag
  | pt p =>
   show(ut,p.ws,(eD,p.ws_len.2,jr ⟨(zqt).fr,(zqt).ne⟩,dl,cG l9 X));generalize L:upd H8 l9 (.lst (p.ws.map V.str))=H9;ext jS s9 X L g9 L;show(cB,G,s8.trans s9,z,aj);rw[af,Ji,Yr] at z;show(kn,z1,z2,z3,xbf.pre (p:=p.pt h') (s:=(its.drop dc).flatMap (Itm.ps h')) z);refine(lv,a,l9,MS,.inr (fJ Y I N h' (eT,86,_,p,zxX,⟨g9,o⟩,z1,z2,z3,c8 H' kz pc)));show(cD,ko,aa,aq,id (R.same G));show(fO,kp,ao,(zxX).pl);refine(zPj,kz c u nd zLC)
   .ext zim;exact pc
   ext zim;show Sts H' I (_++[]);rw[Ju];show(dy,ko,kz _ _ (ne_f aa ao) aa,aq)
 rintro Z H7 (⟨v5,v6,rfl,k,D,R⟩:84);rw[(j4,(itV its).length,its.length,Za _),ZY] at D R;exact (q H7 a Y I (λ b u eb=>k b u (xh eb ae) (xh eb ad) (ai _ _ eb)) (J.free ha) ae ad D R)
def xdg {n:Nat} (h:pL):(iu).natAbs.log2<1920:=by
 show(Ag,Nat.log2_le_self n,n.log2<1920)
meta def xff (R:de):cA:=R.map (fE n zgD)
structure xbl (R:de):Prop where
 inc:zvt
 le:∀ r∈R,r<=16
def xbl.len {R:de} (o:pP):R.length<=16:=by
 have b:R.Nodup:=o.inc.1.imp λ h=>ZM h;have z:=xj7 (l:=R) (m:=(VS).map (·+1)) b λ r hr=>by
  show(cB,j,o.inc.2 r hr,f,o.le r hr);exact Ze.mpr (cC,r-1,zfr,cm)
 ext My
meta def runW (p:B3):Wd:=(cC,cO,dX,eA (cO≠dX))
meta def xc1 (R:de):tM:=(zum).map runW
def xys {p:B3} (h:cO<=dX) (h2:dX<=16):(runW p).Ok:=by
 refine(du,(hO,cO<30),(hO,dX<30),h,fL e);have z:BM (cO≠dX):=e;have:=of_decide_eq_false z;show dX=cO;lia
def xpe {R:de} (o:pP):∀ w∈AJ,w.Ok:=λ w b=>by
 ext gu p d b;have a:=Runs.runs_all o.inc p d;exact xys a.1 (o.le _ (fX a))
def xj2 {R:de} (o:pP):(AJ).flatMap Wd.rs=R.map (fE n iu):=by
 have h:=congrArg (Wb λ n:Nat=>iu) (Runs.runs_flat o.inc);rw[<- h,List.map_flatMap];unfold xc1;rw[Wy]
 ext iJ
 funext p;unfold Runs.rng Wd.rs;rw[Zq];show (zWB).map _=_
 ext iJ
theorem xwc {R:de} (o:pP) (h:R≠[]):AJ≠[]:=λ e=>by
 have z:=xj2 o;rw[e] at z;cases R with
 | nil=>exact h rfl
 | cons a r=>cases z
def xxv {R:de} (o:pP):d6 AJ 16:=by
 have:=Runs.runs_len o.inc;have:=o.len;unfold xc1;rw[Za];lia
def xbs (x:Str):QH++x=x:=xdl (fY xb5)
def xc3 (a b:Str):(pJ,a++b,a.length+b.length):=by rw[xdd,xb5,Zr,<- xdd,<- xdd]
def xyu (a b:Nat):zjq++Vn++zjm=Wd.tq zsa:=by
 have d:=xcu (c:=45) (w:=zjm) (ws:=[zjq]) cy;rw[show Wd.tq zsa=ZS (sw 45) ([zjq]++[zjm]) from rfl,<- d];rfl
inductive x0r (vs:cA) (H:Hp) (Q:VK) (_:XK):Prop
 | mk (a b:Nat) (e_:vs=(Lw a b)) (r_:a<100/\b<100/\Q (.str zUZ) H)
inductive xuc (vs:cA) (H:Hp) (Q:VK) (_:XK):Prop
 | mk (l:Addr) (R:de) (e_:Gd) (r_:(uG (.lst (xff R)))/\pP/\(zmy (wdsV (xc1 R))))
def xnl (R:de) (k:Nat):(um,inV (.int vL) (xff R),k∈R):=by
 unfold inV xff;rw[List.any_map,JD,JW,decide_eq_true_iff];constructor
 .ext wW x b e;change zMO (dk x) at e;have:(dk x)=vL:=zLh
  show(cW,(fD,k=x),b)
 intro h;ext ie k h;change zMO vL;exact beq_self_eq_true _
def xmn (R:de):(xff R).all xeq=true:=by
 ext X2 J6;rfl
def ok_bh (T:cT):mr t.f_bh t.d_bh zba (x0r):=by
 refine T.bh.F.okn (k:=0) sc_bh (c7 Q E h) (cZ vs Q E hr h)
 .ext cV
 ext sY a b;show(zR,xcp (tV dU ew) (xbh xox rfl T.n_str boot_str pG) (xgw (BW 0 (Tg 1))));ext yE m p;ext yL Fh
 .have e:a=b:=by
   show(fj,zmh c)
  subst e;refine(gS,zjt,xdg m,?_);show(ef,(show runW (a,a)=(cC a a false) by unfold runW; simp),q,q)
 have e:a≠b:=λ z=>zrD (hD z);show(cB,y,xdf m,x,xdf p);show(wv,u,(Vn).length,1,c9,(vv,zjq,(zdH,xdg m),eE zjm (zdH,xdg p) ?_ ?_))
 .rw [xbs];ext UW
 .rw [xbs,xc3,u];ext UW
 .rw [xbs,xc3,xc3,u];ext UW
 rw[xbs,xyu];show(ef,(show runW (a,b)=zsa by unfold runW; simp[e]),q,q)
def ok_bi (T:cT):dB 2 t.f_bi t.d_bi ["rows"] (xuc):=by
 refine T.bi.F.okn (k:=1) sc_bi (c7 Q E h) (cZ vs Q E hr h)
 .ext cV
 ext sY l R;refine⟨_,xb (zAF (x0 xcy dU (xp)) 1)
  (xb (zAF (vA dU) 2)
  (gq (uO,(sS ["first", "last"] [] [] zlK s_bi),x2y rfl T.n_zip Cj,zCH,G6,uV,pC (ok_bh T) hr T.bh.g T.bh.F.kp T.bh.b (lC 1)))),?_⟩
 refine sq3 ?_; intros; ext yE I ok;have len:=ok.len;show(dZ,C,sv R.length,Jp len cE,h9 l I Y O);refine xhz (as:=R) (f:=La) (gv:=La) (q:=λ r=>!(eA zfo)) (cN I) C O zUw (c8 H1 s1 el1)
 .show(eK,r1,ok.inc.2 r (Zn hr),zIY I);have e:inV (.int ((dk r)-1)) (xff R)=decide zfo:=by
   show(cW,(fD,((dk r)-1)=(hU,r-1)),xnl R _)
  refine ite2 (λc=>?_) (λc=>?_)
  .ext zNU
  ext zHh
 show(eK,D,s1 _ _ I,h9 l D X L);refine xhz (as:=R) (f:=La) (gv:=La) (q:=λ r=>!(eA Va)) (cN D) C L zUw (c8 H2 s2 el2)
 .refine zIY D;show(zEX,Vc,Va,xnl R oW)
  .ext zNU
  ext zHh
 have J:=Runs.runs_zip ok.inc;show(eY,e1,(cu,H2 Y,.lst ((Runs.firsts R).map La)),nE el1,e2,(cu,H2 X,.lst ((Runs.lasts R).map La)),el2,Z,d6 (Runs.firsts R) R.length,Vg);refine(zfI,Y,X,cN e1,cN e2,cG l3 G);refine xu8 (gv:=λ a b:Nat=>V.str zUZ) (cN e1) (cN e2) J.2 cm G (λ i x y p H4 hx hy s4 hp N hN=>?_) (c8 H3 s3 el3)
 .have hz:(x,y)∈zum:=by
   rw[<- J.1];refine Zn (i:=i) ?_;exact List.getElem?_zip_eq_some.mpr ⟨hx,hy⟩
  show(Df,az,Runs.runs_all ok.inc _ hz,ay,ok.le _ (fX az),ax,x<=y,az.1,fU p xj);exact(dM,x,y,rfl,cm,cm,hN _ i6)
 refine q H3 l3 ((pB).trans s3) ((pB).free G) ?_;rw[el3,J.1];unfold wdsV xc1;ext yo
meta def dotV (p:Pt):cA:=E1
meta def pwOf (h:Int) (p:Pt):Pw:=(dN,p.nm,p.x.toNat,p.y.toNat,p.sd,p.lo.toNat,p.hi.toNat,if p.lo=1/\p.hi=h then (gH p.sd "both" .a .b) else .c)
def xtc {s:Str} (h:qG s):TxT s:=by
 ext zxw;rw[Z8,Z8,YG,decide_eq_true_iff,decide_eq_false_iff_not] at h;ext Fm j d h;show(fV,b,xdd s,j,b);obtain⟨c,a⟩:=List.length_eq_one_iff.mp b.symm;rw[a] at d;show(eW,cm,?_,nT a);rw[a,Zp];ext Of;exact d cE
def xtg {s:Str} (h:zmA s):TxT s:=by
 rcases h with rfl|rfl|rfl<;>exact cC c9 c9 c9
def xzc {w h:Int}{p:Pt} (w30:jJ) (h16:j8) (o:Fg):(zxU).Ok:=by
 show(kZ,r,o.x1,q,o.x2,j,o.y1);show(tK,f,o.y2,e,o.l1,c,o.l2,b,o.l3);exact(dM,xtc o.nm,(hO,p.x.toNat<100),(hO,p.y.toNat<100),xtg o.sd,(hO,p.lo.toNat<100),(hO,p.hi.toNat<100))
def x03 {w h:Int}{p:Pt} (o:Fg):(zxU).pt h=p:=by
 show(tK,n,o.x1,m,o.y1,j,o.l1,i,o.l2);obtain⟨nm,x,y,f,b,e⟩:=p
 dsimp only at n m j i
 unfold pwOf Pw.pt
 dsimp only
 by_cases c:b=1/\e=h
 .rw [kD];by_cases d:f="both"
  .rw [df d]
   dsimp only
   rw[zrf,zre,jw,nJ,d]
  ext sQ d
  dsimp only
  rw[zrf,zre,jw,nJ]
 rw [ja]
 dsimp only
 rw[zrf,zre,V0 b.toNat b,V0 e.toNat e]
def xki:Zg " "=zdb:=c9
def pt_a (nm:Str) (x y:Nat):Zg "point "++nm++Ay++r8++Ay++r6=zKt:=by
 show(kZ,d,xcu (c:=32) (w:=nm) (ws:=[vc]) cy,b,xcu (c:=32) (w:=r8) (ws:=[vc,nm]) cy,a,xcu (c:=32) (w:=r6) (ws:=zuU) cy);rw[SW [vc,nm,r8,r6] zuU r6,<- a,SW zuU [vc,nm] r8,<- b,SW [vc,nm] [vc] nm,<- d,xki];rw[(Ma,(tI [vc])++zdb=Zg "point ")]
def pt_b (nm sd:Str) (x y:Nat):zKt++Ay++sd=(tI zLF):=by
 show(cW,xki,xcu (c:=32) (w:=sd) (ws:=[vc,nm,r8,r6]) cy)
def pt_c (nm sd:Str) (x y lo hi:Nat):(tI zLF)++Ay++zhC++Ay++numT hi=(tI ["point",nm,r8,r6,sd,zhC,numT hi]):=by
 show(cB,b,xcu (c:=32) (w:=zhC) (ws:=[vc,nm,r8,r6,sd]) cy,a,xcu (c:=32) (w:=numT hi) (ws:=[vc,nm,r8,r6,sd,zhC]) cy);ext fK xki b a
def xs6 (a b c d:Int):(um,dEq (.tup zxJ) (.tup (i8 c d)),((a,b)=(c,d))):=xgl rfl rfl (by
 constructor
 .intro h
  show(zJK,DV.tup.injEq,DV.int.injEq)
 intro h;rw[zta,zsV])
inductive xxk (vs:cA) (H:Hp) (Q:VK) (_:XK):Prop
 | mk (q:Addr) (w h:Nat) (p:Pt) (e_:vs=[rZ,.int j6]) (r_:cR (dA q (.tup (dotV p))) Fg jJ j8 (zrF,(zxU).tq))
def ok_aw (T:cT):mr t.f_aw t.d_aw zod (xxk):=by
 refine T.aw.F.okn (k:=0) sc_aw (c7 Q E h) (cZ vs Q E hr h)
 .ext cV
 ext EH u w' h' p;refine⟨_,xb (yt 0 (oE (EJ (pN 2 sc_aw.nd) (pN 3 sc_aw.nd) (pN 4 sc_aw.nd) (pN 5 sc_aw.nd) (mC 6 sc_aw.nd 7 sc_aw.nd))))
  (xb (VP (Bo (xag (lq 6 7)) (xag (xa (xp) mT))) (zov (BW 4 (BW 5 (BW 6 (Tg 7))))))
  (xb (VP (Dc jt (xan)) (zov (BW 4 (Tg 5))))
  (gq (zov (Tg 4))))),?_⟩
 refine sq4 ?_; intros; ext CU hu ok aa ab q h;obtain⟨nm,px,py,D,N,O⟩:=p;show(kZ,a1,ok.x1,a2,ok.x2,a3,ok.y1);show(tK,a4,ok.y2,a5,ok.l1,a6,ok.l2,a7,ok.l3)
 dsimp only at a1 a2 a3 a4 a5 a6 a7
 ext zfE x px;ext zfE y py;ext zfE L N;ext zfE M O;show(fw,x1,x<100,cm,y1,y<100,cm,G,L<100,cm,I,M<100,cm)
 show(cB,tn,(xtc ok.nm).len,ts,(xtg ok.sd).len)
 dsimp only at tn ts
 show(cB,lx,xdf x1,ly,xdf y1);show(cB,ll,xdf G,lh,xdf I);show(fw,X,pJ (Zg "point ") 6,c9,Y,pJ Ay 1,c9,R,fA nm.length,Z1 tn cE,sz,fA D.length,Z1 ts cE);unfold pwOf Pw.tq Pw.ws at q
 dsimp only at q
 rw[JT,JT,JT,JT] at q;refine fU u hu;refine nx ?_; refine iq ?_; intros; ext pU q1 U;generalize J:iP H q1 (Lw L M)=H1;ext jS s1 U J g1 J;ext pU q2 S;generalize J:iP H1 q2 (i8 1 (dk h'))=Z;have s2:=su_e S J;show(cB,g2,ug_e J,C,s1.trans s2);refine(dM,1,1,_,_,xs0 Uj,(zq,xs0 g2,Fh))
 .rw [xs6,YG,decide_eq_false_iff_not] at c;have c':¬ ((dk L)=1/\(dk M)=h'):=λ z=>c (fS ro kO);show(znF,dz c',zKi (vv,r6,Dj y1,(vv,D,tS sz,(vv,numT L,(zdH,xdg G),(eE,numT M,Dj I,?_,?_)))))
  .have z:=q Z C;rw[xbs,pt_a,pt_b,pt_c];ext gD
  all_goals (ext zkJ)
 rw [xs6,Bool.not_eq_true,Bool.not_eq_false',decide_eq_true_iff] at c;rw[df (AX,(Yn.inj c).1,Yn.inj c)] at q;show(yL,Lx d d)
 .have d':D≠"both":=λ z=>by
   rw[z] at d;have d2:(!(gO zuw zuw))=true:=d;ext gk d2 c9
  show(znF,dz d',(vv,nm,tS R,(vv,r8,Dj x1,(vv,r6,Dj y1,(eE,D,tS sz,?_,?_)))))
  .have z:=q Z C;rw[xbs,pt_a,pt_b];ext gD
  all_goals (ext zkJ)
 have d':D="both":=by
  by_cases z:D="both"
  .ext gD
  show(gk,(fY,decide_eq_false λ y=>z (V.str.inj y)),d)
 show(znF,df d',zKi (eE,r6,Dj y1,?_,?_))
 .have z:=q Z C;ext fK xbs pt_a z
 all_goals (ext zkJ)
meta def lrSs (L R:de):cF:=(L.map (fE n zwE))++R.map (fE n zvi)
meta def xcb (b:Bool) (R:de):FV:=gH R [] [] [.rim ⟨b,AJ⟩]
meta def xe3 (h:Int) (L R:de) (ps:cJ):FV:=SK++zdR++ps.map λ p=>.pt (pwOf h p)
def x0f {L R:de} (hL:N2) (hR:pP):(Ci).Pairwise xb2:=by
 unfold lrSs;rw[JX];show(sK,?_)
 .rw [Ja];exact hL.inc.1.imp λ{a b} h=>zPH
 .rw [Ja];exact hR.inc.1.imp λ{a b} h=>zPH
 intro s hs u d;ext yH a zgn;ext yH b zhy;ext eg lQ
inductive xue (t:Adr) (vs:cA) (H:Hp) (Q:VK) (_:XK):Prop
 | mk (a dp do_:Addr) (w h:Nat) (ps:cJ) (ss:cF) (L R:de) (e_:yy) (r_:(uE,zrR,qp,ss.Perm (lrSs L R),N2,pP,RA,zEO (zSe RK)))
def x2h (w h:Nat):Zg "frame "++AE++Ay++Nr=frT w h:=by
 show(cB,z,xcu (c:=32) (w:=Nr) (ws:=["frame",AE]) cy,y,xcu (c:=32) (w:=AE) (ws:=["frame"]) cy);unfold frT;rw[SW [EQ,AE,Nr] [EQ,AE] Nr,<- z,SW [EQ,AE] [EQ] AE,<- y,xki];rw[(Ma,(tI [EQ])++zdb=Zg "frame ")]
theorem xpj (q:Seat->Bool):(zEN,(((ss.zip qs).filter λ p=>q cO).map λ p=>V.int (cO).2)=(ss.filter q).map λ s=>V.int fW)
 | [],_,_=>rfl
 | fh,[],h=>ij
 | NZ,u::qs,h=>by
  have b:=xpj q ss qs wJ;by_cases c:q s=true
  .rw [Zak,Jj (p:=λ p:Seat × Addr=>q cO) (a:=(s,u)) c,Jj (p:=q) c,Zs,Zs,b]
  rw [Zak,Jo (p:=λ p:Seat × Addr=>q cO) (a:=(s,u)) c,Jo (p:=q) c,b]
theorem xom:(zEN,((ss.zip qs).map λ p=>V.ref dX)=qs.map V.ref)
 | [],[],_=>rfl
 | fh,[],h=>ij
 | [],fh,h=>ij
 | NZ,u::qs,h=>by
  rw[Zak,Zs,Zs,xom ss qs wJ]
meta def lrB (L R:de):Bool->de
 | true=>L
 | false=>R
theorem xy1 (L R:de) (b:Bool):(((Ci).filter λ s=>zxg).map λ s=>V.int fW)=xff (lrB L R b):=by
 unfold lrSs xff;rw[Jq,QX,QX,Zu,Zq,Zq];cases b
 .rw [show (L.filter ((Sf zid)∘(fE n zwE)))=[] from QB.mpr λ a _=>cy,show (R.filter ((Sf zid)∘(fE n zvi)))=R from Zae.mpr λ a _=>cy];rfl
 rw [show (L.filter ((Sf Gw)∘(fE n zwE)))=L from Zae.mpr λ a _=>cy,show (R.filter ((Sf Gw)∘(fE n zvi)))=[] from QB.mpr λ a _=>cy,YW,Ju];rfl
meta def xft (L R:de):Nat->FV
 | 0=>[]
 | 1=>SK
 | _=>SK++zdR
def xja (L R:de) {i:Nat} (hi:i<2):xft L R dc=xft L R i++zni:=by
 have:i=0\/i=1:=cm
 rcases this with rfl|rfl<;>rfl
def xfl (b:Bool) (R:de):d6 zhd 1:=by unfold xcb; split<;>simp
def xg0 (a b:FV):itV (a++b)=itV a++itV b:=by unfold itV; rw[Zu]
def x10 {L R:de} (hL:N2) (hR:pP) (b:Bool):xbl (lrB L R b):=by cases b<;>assumption
def xy2 (b:Bool) (R:de):ZS (Zg " ") ([xab b]++(AJ).map Wd.tq)=Itm.tq (.rim ⟨b,AJ⟩):=fY xki
def ok_bc (T:cT):dB 3 t.f_bc t.d_bc R9 (xue t):=by
 refine T.bc.F.okn (k:=2) sc_bc (c7 Q E h) (cZ vs Q E hr h)
 .ext cV
 obtain ⟨a,dp,ak,O,h',ps,ss,L,R,rfl,h⟩:=h;refine⟨_,xb (pS 1 sc_bc.nd eZ)
  (xb (y0 2 sc_bc.nd eZ)
  (xb (pS 3 sc_bc.nd (xbp (gP (xgw (xbz (BW 1 (Tg 2)))))))
  (xb (xaz Z4 rfl (x25 (xag zdr)) (zar sc_bc.nd) (xb (xbo rfl (Ra ["rim"] [4] zki s_bc) Xp Oq G6 (RE (tV dU hB)) (λ_ _ _ _ _=>ew) (j:=5) rfl Hb)
  (rO (xjy (pv 5) iN) (zsy (zDP (x0 xh0 (xbp Nj) (pC (ok_bi T) hr T.bi.g T.bi.F.kp T.bi.b C3)))))))
  (gq (x0 xh0 gM (uX,yc "point" "height" 2 zki s_bc,DT,pC (ok_aw T) hr T.aw.g T.aw.F.kp T.aw.b (lC 1))))))),?_⟩
 refine sq5 ?_; intros; obtain⟨D,az,pm,af,ae,a5,q⟩:47:=h;show(tK,w2,D.w2,h2,D.h2,w1,D.w1,h1,D.h1);show(cI,aa,O<100,cm,ac,h'<100,cm)
 ext y8 dx hp D;show(cB,wl,xdf aa,hl,xdf ac);show(ia,e6,pJ (Zg "frame ") 6,c9,e1,pJ Ay 1,c9,rF _ hp ?_);show(dQ,ztF hp ?_,⟨?_,(vv,numT O,Dj aa,(pW,numT h',Dj ac,?_,zwM,cG ll av))⟩)
 .show(wa,(by rw[xbs,e6]; decide:G9))
 .show(wa,(by rw[xbs,xc3,e6]; lia:G9))
 .show(wa,(by rw[xbs,xc3,xc3,e6,e1]; lia:G9))
 .show(wa,(by rw[xbs,xc3,xc3,xc3,e6,e1]; lia:G9))
 rw[xbs,x2h];generalize G:wD ll [.str (frT O h')]=H1;ext oX; ext jS s1 av G g1 G;ext pU tq ar;generalize G:mw H1 tq R7 RO=H2;ext jS s2 ar G g2 G;show(cB,ao,s1.trans s2,ay,av);refine gS tq (hZ,jP g2) ?_
 show(zlB,∃(v4 v5:eV),eX Z [iH,vE O,zih,cX ll,v4,v5] (ki ll (cu,H2 c,u) (cu,H5 c,u)) (Ri ll (.str (frT O h')::zTQ)))
 refine x04 (xs:=[R7,RO]) (Pv:=Pv) (nH _ EK Uj) ?_ ?_ ?_
 .rintro i Z H5 _ (⟨v4,v5,_,k,_⟩:83);exact SqT.of (k _ _ (kK g1 ar) g2)
 .rintro i x Z H5 hx (⟨v4,v5,rfl,k,h5⟩:83);ext zlX; obtain⟨i2,ex⟩:i<2/\x=.str Pf:=by
   match i,hx with
   | 0,hx=>show(Og,hx,cE,rfl)
   | 1,hx=>show(Og,hx,cE,rfl)
   | i+2,hx=>simp at hx
  subst ex;ext zBB;show(vM,aj,ah,C,⟨a,aj,_,rfl,ah,fb,a,dp,ak,O,h',ps,ss,rfl,C,az.same I,λ l6 a0 J aB am a6 a4=>?_⟩);show(jp,a0=lrSs L R,xda xdw (a6.trans pm) a4 (x0f af ae));show(zXB,upd H5 l6 (.lst (J.map V.ref)),aB);show(tK,al,am.keep (Same.tups s6),ql,am.len,Ll,af.len,Rl,ae.len);have aD:d6 Ci 32:=by
   unfold lrSs;rw[Zr,Za,Za];lia
  have zl:d6 ((Ci).zip J) 32:=pA List.length_zip
  have a9:(cu,H6 l6,.lst (((Ci).zip J).map λ p=>V.ref dX)):=(cK,xom _ _ ql.symm,g6)
  refine h9 l6 g6 l7 ai;refine xhz (as:=(Ci).zip J) (f:=λ p=>V.ref dX) (gv:=λ p=>V.int (cO).2) (q:=λ p=>eA (um,(cO).1,i=0)) (cN a9) (Jp zl cE) ai (λ j z H7 hz s7 N M hN hM=>?_) (c8 H7 s7 el7)
  .obtain ⟨z1,z2⟩:=List.getElem?_zip_eq_some.mp hz;show(cD,s8,au,e8,al.get z2);ext dP z1 au au;show(ui,kO,pZ e8,qM Fh)
   .exact (hN _ i6 (decide_eq_true (xfd (zLt c))))
   exact hM _ i6 (decide_eq_false λ y=>zrD (hD y))
  ext XV; rw[xpj (λ s=>eA (um i3 (i=0))) _ _ ql.symm,xy1] at el7;show(cB,ag,x10 af ae (decide (i=0)),U,s6.trans s7);show(eW,!(xff yT).isEmpty,zdY el7,Fh)
  .have ne:yT≠[]:=λ z=>by
    ext gm z c
   show(eK,h7,U _ _ h5,(eD,uY h7,rfl,zwM,cG l8 Y));generalize G:lR H7 l8 [.str Pf]=H8;show(iG,s8,Y,G,g8,(dM,l7,_,rfl,wx el7,ag,dC H9 l9 s9 aF a7));have aE:=xxv ag;refine iT l8 l9 _ _ (FO,s9 _ _ g8,a7,?_,aq,ax)
   .unfold wdsV;show(cW,Za,Z1 (hO (jA,1+_)) cE)
   have aC:([V.str Pf]++wdsV (xc1 yT))=([Pf]++(xc1 yT).map Wd.tq).map V.str:=by
    unfold wdsV;rw[Zu,Zq];rfl
   rw[aC];generalize G:upd H9 aq (.lst (([Pf]++(xc1 yT).map Wd.tq).map V.str))=aG;ext jS a3 ax G aA G;show(cB,ab,(s8.trans s9).trans a3,a8,ab _ _ h7);refine(iT,_,aq,_,6,ff rfl aA ?_ ?_ ⟨ll,_,_,rfl,rfl,a8,?_,?_⟩)
   .intro z hz
    rcases zgm with y|y
    .rw [Zp.mp y];exact xmd _
    show(me,v,hv,Ze.mp y);exact Wd.len (xpe ag v hv)
   .rw [Zr,Za,e1];show(wa,(hO (jA,(1+_)*_)))
   .rw [Z6];have:d6 zTQ 2:=by
     ext zlw;unfold itV;rw[Za]
     match i with
     | 0=>exact ZP _
     | 1=>ext wa r1
     | i+2=>ext zMM
    exact xbj cm
   refine zgK ?_
   .show(ww,nc,ab _ _ (U _ _ (k c u nc e)))
   rw [xj,xy2,xja L R i2,xg0,(j4,zni,[.rim ⟨gO i 0,xc1 yT⟩],dz ne)];rfl
  have ne:yT=[]:=by
   cases z:yT with
   | nil=>rfl
   | cons r rs =>
    rw[z] at c;ext lX c
  refine(zgK,U _ _ (k c u nc e));rw[xja L R i2,xg0,(j4,zni,[],df ne),U _ _ h5];unfold itV;rw[YW,Ju]
 rintro Z H5 (⟨v4,v5,rfl,k,h5⟩:83);ext zBB;ext y8 aj ah C;show(dQ,⟨a,aj,_,rfl,ah,fb,a,dp,ak,O,h',ps,rfl,C,gE H6 l6 J s6 aw ad⟩,h9 l6 aw l7 ai);have ap:=D.len;refine xbr (cN aw) (by rw[Za,ad.len]; exact Jp ap cE) ai (Hm,∃ p:Pt,(ziK,FC,(pwOf h' p).tq)) wI (λ i z H7 hz s7 N hN=>?_) (tR H7 s7 el7 f7)
 .rw [Zf] at hz;ext qw u hu hz;show(cD,p,X,ep,ad.get hu);exact iT u O h' p (ff,pZ ep,a5 p (Zn X),cm,cm,λ H8 s8=>oO s8 (fR p X))
 have ey:ys=itV (ps.map λ p=>.pt (pwOf h' p)):=by
  unfold itV;rw[Zq];refine xfi (UH ad.len) (dC i y p hy X);show(cD,p',a1,a2,f7 i y hy);ext ku X a1 a2
 subst ey;show(eK,h7,KW h5,(iT,ll,l7,_,_,FO h7 el7 ?_ l8 Y))
 .ext zlw;unfold itV;rw[Z6,Za,Za,Za];have:d6 (xft L R 2) 2:=by ext zMM
  show(wa,(hO (jA,(xft L R 2).length+1+ps.length)))
 have an:=(I.trans s6).trans s7;refine q _ l8 (xw an Y) (an.free Y) ?_;rw[xj];unfold xe3;rw[xg0,xg0];rw[(yx,xft L R ([V.str "left",V.str "right"]:cA).length,SK++zdR),xg0];rfl
section
variable {w:Nat}{h:Int}{ps ps':List Pt}{srt srt':List Seat}{names names':List Str}{f:Str->Seat}{T T':Int}
structure Sym (w:Nat) (h:Int) (fp:yg) (φ:wX):Prop where
 nm:zPO
 pp:∀ p,fp (fp p)=p
 ss:∀ s,φ (φ s)=s
 wt:∀ p s,PtOk eR h p->xbw (fp p) nw=MF
 ln:∀(p:Pt) (s:Seat),lenI eR (wh).x (wh).y (nw).1 (nw).2=IB
def Sym.inj {fp:yg}{φ:wX} (y:EB) (s t:Seat) (e:nw=φ t):s=t:=by rw[<- y.ss s,e,y.ss]
def Sym.to {fp:yg}{φ:wX} (y:EB) (pok:K8) (pok':zsx fp) (ms:zqj nw) (nin:zkW) (pm:zoX) (g:zXh):zAj L0 :=
 g.move pok.nn pok'.nn φ fp nin (λ p b=>⟨No,y.nm p⟩) pm (λ p b _ r1 r2=>(cC,ms _ r1,(cK,y.wt _ _ (pok.ok p b),r2),y.ln p _)) y.inj
def Sym.same {fp:yg}{φ:wX} (y:EB) (pok:K8) (pok':zsx fp) (ms:zqj nw) (ms':∀ s∈srt',nw∈srt) (nin:zkW) (pm:zoX) (a:xfa o7 names T) (b:xfa (UN L0) names' T'):T'=T:=by
 have v:=a.le_of b λ f g=>(fT,(zIM).1,Int.le_of_eq (zIM).2)
 have e:(L0).map fp=ps:=by
  show(XW,fp,fp,y.pp)
 have u:=b.le_of a λ f g=>by
  have z:=y.to (ps:=L0) (srt:=srt') (srt':=srt) pok' (cK e pok) ms' (λ n d=>by
   show(qL,p,c,j,nin n (pm.mem_iff.mp d),wh,zeT c,fS y.nm j)) pm.symm g
  rw[e] at z;exact(fT,ro,Int.le_of_eq kO)
 lia
def x14:Sym w h (λ p=>p) (λ s=>s):=(dW,iN,iN,iN,λ_ _ _=>rfl,jV)
def xz7:Sym w h (turP h) (turS h):=by
 show(zPo,λ p s _=>?_)
 .unfold turP;rcases p with⟨_,_,_,_,_,_⟩;simp only[Pt.mk.injEq];refine iU trivial trivial ?_ trivial ?_ ?_<;>lia
 .unfold turS;exact Yg rfl (ziE,h+1-Tw,fW)
 .unfold xbw turP turS;simp only;rw[Bool.and_comm (decide (zex<=_))]
  congr 2<;>exact decide_eq_decide.mpr cm
 unfold lenI turP turS;simp only;have e:zfs-Tw=-(p.y-fW):=cm
 rw[e];ext znW
def xvv {sd:Str} (h:Ru) (b:Bool):((eA (xeb sd="both"))||(eA (xeb sd=xab (! b))))=(zXd||(eA (sd=xab b))):=by
 rcases h with rfl|rfl|rfl<;>cases b<;>decide +kernel
def xzh:Sym w h (mirP eR) mirS:=by
 show(zPo,c8 p s ok)
 .unfold mirP xeb;rcases p with⟨_,_,_,sd,_,_⟩;simp only[Pt.mk.injEq];refine iU trivial cm trivial ?_ trivial trivial;by_cases c:sd="left"
  .subst c;ext mH
  rw [ja];by_cases c2:sd="right"
  .subst c2;ext mH
  rw [Ux,ja,Ux]
 .unfold mirS;exact Yg (Bool.not_not i3) rfl
 .unfold xbw mirP mirS;simp only
  ext iJ
  exact xvv ok.sd i3
 unfold lenI mirP mirS;simp only;cases i3<;>simp<;>lia
#check _
meta def okP (room:iQ) (ss:cF) (keep:cH) (nm:Str):Bool:=(zNp).all λ S=>eA (S.length+1<=ss.countP (Kp.tog room N3))
meta def xed (room:iQ) (ss:cF) (keep:cH) (nm:Str):cH:=if zOi then keep++[nm] else keep
meta def xex (room:iQ) (ss:cF) (ns:cH):cH:=ns.foldl (xed room ss) []
def xie (room:iQ) (ss:cF) (ns:cH) (nm:Str):xex room ss qJ=xed room ss zrk nm:=by
 unfold xex;rw[Yc];rfl
theorem Run.keeps {room:iQ}{ss:cF} (snd:ss.Nodup) (hr:zad) {ns:cH}{so:dD}{ho:cP}{cs:gf} (r:vm) (nd:ns.Nodup):xa4 ns cs=zrk:=by
 induction r with
 | nil=>rfl
 | @inn ns so so' ho ho' cs nm r mt dm rc ih =>
  ext Cv;have A:MI:=λ h=>(lB).2 nm h nm wZ rfl;have D:nm∉cs.map (·.1):=λ h=>A (r.outs.1 nm h);have B:xa4 qJ cs=FB++[nm]:=by
   unfold xa4;rw[Jq,Jj (fY,decide_eq_false D),QW]
  ext zUf;rw[if_pos];unfold okP;rw[J6];intro S y;have knd:(FB).reverse.Nodup:=(Qk _).nodup_iff.mpr (JZ.filter _ AY);show(cB,C,(Kp.subs_mem y).1,j,Kp.subs_nd knd y);refine decide_eq_true (Kp.hall mt hr (T:=N3) (ZE.mpr ⟨nY,j⟩) (cG a x))
  .have:=Qq.mp (C nm z);exact A (ZN.mp this).1
  rw [dm a];rcases Zt.mp x with rfl|x
  .simp
  have k:=ZN.mp (Qq.mp (C a x));rw[r.dom AY a,decide_eq_true k.1,k.2];simp
 | @out ns so ho cs nm hs r c rc ih =>
  ext Cv;have A:MI:=λ h=>(lB).2 nm h nm wZ rfl;have B:xa4 qJ zrT=FB:=by
   unfold xa4;rw[Jq,Jo cy,QW,Ju];refine Ql B8;have:z≠nm:=λ e=>A (e▸hz);simp[this]
  ext zUf;rw[if_neg];intro ok;unfold okP at ok;rw[J6] at ok;obtain⟨S,y,pS⟩:62:=Kp.subs_all (l:=(FB).reverse) zXi (λ a x=>by
   show(AT,k,c.has a x,r.dom AY a,Z8);exact Qq.mpr (ZN.mpr (AX,zaV k,k)))
  have k:=of_decide_eq_true (ok S y);have E:ss.countP (Kp.tog room N3)=ss.countP (Kp.tog room (nm::hs)):=by
   ext iJ
   funext s;exact Kp.tog_perm (pS.cons nm) s
  rw[E,c.count r.mt snd hr,pS.length_eq] at k;lia
def xv0 {room room':iQ}{ss ss':cF}{φ:wX} (pm:ss'.Perm (ss.map φ)) (e:yw ue (nw∈room' n↔zdm)) (ns:cH):xex room' ss' ns=zrk:=by
 have d:∀(T:cH),∀ s∈ss,Kp.tog room' T (φ s)=Kp.tog room T s:=λ T s hs=>by
  unfold Kp.tog;show(zsY,λ f=>T.any f,λ n=>decide_eq_decide.mpr ?_);exact e n s hs
 have ok:∀ keep nm,okP room' ss' keep nm=zOi:=λ keep nm=>by
  unfold okP;show(zsY,λ f=>(zNp).all f,fL S);rw[pm.countP_eq,List.countP_map];rw[List.countP_congr (l:=ss) (p:=Kp.tog room' N3∘φ) (q:=Kp.tog room N3) λs hs=>by
   show Kp.tog room' N3 (φ s)=true↔_;rw[d _ s hs]]
 unfold xex;rw[show xed room' ss'=xed room ss from funext λ keep=>funext λ nm=>by unfold xed; rw[ok]]
def xq7 {ps:cJ}{srt:cF} (n:Str) (s:Seat) (k:s∈zsI):zhE:=by
 unfold xa6 at k;split at k
 .exact (ZN.mp k).1
 exact nomatch k
section
variable {w:Nat}{h:Int}{ps:List Pt}{srt srt':List Seat}{fp:Pt->Pt}{φ:Seat->Seat}
def Sym.nms (y:EB):zqB=xat ps:=by
 unfold xat;show(zix,λ p _=>y.nm p)
theorem Sym.room (y:EB) (pok:K8) (pm:PP φ) (n:Str) (s:Seat):nw∈xa6 (ps.map fp) srt' n↔s∈zsI:=by
 have b:nw∈srt'↔zhE:=by
  rw[pm.mem_iff];show(cU,(λ k=>by ext Dm t ht e k; show(kC,y.inj _ _ e,ht)),λ k=>Ze.mpr (fR s k))
 unfold xa6;rw[List.find?_map];rw[(j4,((λ p:Pt=>gO p.nm n)∘fp),λ p=>gO p.nm n,funext λ p=>by show decide ((wh).nm=n)=_; rw[y.nm])];cases e:zaf n with
 | none=>show(cU,λ k=>(nomatch k),λ k=>(nomatch k))
 | some p =>
  show nw∈srt'.filter (xbw (fp p))↔s∈zaM;rw[ZN,ZN,b,y.wt p s (pok.ok p (ZR e))]
def Sym.kept (y:EB) (pok:K8) (nd:srt.Nodup) (nd':srt'.Nodup) (pm:PP φ) {so so':dD}{ho ho':cP}{c c':gf} (r:Hr zI Ha c) (r':Run (xa6 (ps.map fp) srt') zqB so' ho' c'):xa4 zqB c'=(Tj c):=by
 rw[r.keeps nd xq7 pok.nn,r'.keeps nd' xq7 (cK y.nms pok.nn),y.nms];exact xv0 pm (λ n s _=>y.room pok pm n s) _
#check _
def xsz {room room':iQ}{ns:cH}{so so':dD}{ho ho':cP}{cs cs':gf} (r:vm) (r':Run room' ns so' ho' cs') (nd:ns.Nodup) (e:xa4 ns cs'=FB):cs'.map (·.1)=cs.map (·.1):=by
 rw[r.gone nd,r'.gone nd,e]
structure SymC (w:Nat) (h:Int) (fp:yg) (φ:wX):Prop extends EB where
 mt:∀(p q:Pt) (s t:Seat),1<=p.x->(eC,p.x<=w,1<=q.x,q.x<=w,p.x≠q.x,(Geo.meet (Ah,(wh).x,(wh).y,(nw).1,(nw).2) (Ah,(fp q).x,(fp q).y,(φ t).1,(φ t).2)=none↔Geo.meet (Ah p.x p.y i3 fW) (Ah q.x q.y t.1 t.2)=none))
 pt:∀ p,PtOk eR h p->PtOk eR h (fp p)
 st:∀ s:Seat,(Sk h)->1<=(nw).2/\(nw).2<=h
def x0d {w:Nat}{h:Int}:zsO p s:=(du,x14,λ_ _ _ _ _ _ _ _ _=>Iff.rfl,λ_ o=>o,λ_ o=>o)
def xhl {w:Nat}{h:Int}:HC (mirP eR) mirS:=by
 refine(du,xzh,λ p q s t A r j i ne=>?_,jN o,λ s o=>o)
 .unfold mirP mirS;simp only;rw[Geo.meet_mc cm cm cm cm cm,Geo.meet_mc A r j i ne];refine not_congr ?_;unfold Geo.Mc Geo.hz;cases i3<;>cases t.1<;>simp<;>lia
 show(cB,a,o.x1,b,o.x2);exact⟨o.nm,(hO,1<=Sw),(hO,Sw<=w),o.y1,o.y2,by
  show xeb p.sd="left"\/xeb p.sd="right"\/xeb p.sd="both";rcases o.sd with e|e|e<;>rw[e]<;>decide +kernel,o.l1,o.l2,o.l3⟩
def xoo {w:Nat}{h:Int}:HC (turP h) (turS h):=by
 refine(du,xz7,λ p q s t B A z j ne=>?_,jN o,cG s o)
 .unfold turP turS;simp only;rw[Geo.meet_mc B A z j ne,Geo.meet_mc B A z j ne];refine not_congr ?_;unfold Geo.Mc Geo.vr;refine or_congr (and_congr_right CN) (or_congr (and_congr_right CN) (and_congr_left CN))<;>lia
 .show(kZ,a,o.y1,b,o.y2,c,o.l1);show(cB,d,o.l2,e,o.l3);exact⟨o.nm,o.x1,o.x2,(hO,1<=zfs),(hO,zfs<=h),o.sd,(hO,1<=zex),(hO,zex<=zvq),(hO,zvq<=h)⟩
 show 1<=Tw/\Tw<=h;lia
def SymC.comp {w:Nat}{h:Int}{f g:yg}{φ ψ:wX} (a:HC f φ) (b:HC g ψ) (cp:∀ p,f (g p)=g (f p)) (cs:∀ s,φ (ψ s)=ψ (φ s)) (bx:∀ p:Pt,1<=p.x->p.x<=eR->1<=(g p).x/\(g p).x<=eR) (ne:∀ p q:Pt,p.x≠q.x->(g p).x≠(g q).x):(zsO,f (g p),φ (ψ s)) :=
 ⟨⟨λ p=>(a.nm _).trans (b.nm p),λ p=>by show f (g (f (g p)))=p; rw[<- cp (g p),b.pp,a.pp],λ s=>by show φ (ψ (φ (ψ s)))=s; rw[<- cs (ψ s),b.ss,a.ss],λ p s o=>(a.wt _ _ (b.pt p o)).trans (b.wt p s o),λ p s=>(a.ln _ _).trans (b.ln p s)⟩,
  λ p q s t j i e d n=>(a.mt _ _ _ _ (bx p j i).1 (bx p j i).2 (bx q e d).1 (bx q e d).2 (ne p q n)).trans (b.mt p q s t j i e d n),λ p o=>a.pt _ (b.pt p o),λ s o=>a.st _ (b.st s o)⟩
def xt4 {w:Nat}{h:Int}:(zsO,turP h (mirP eR p),turS h (mirS s)) :=
 xoo.comp xhl iN iN (λ p a b=>⟨(hO,1<=Sw),(hO,Sw<=w)⟩) λ p q n=>by
  show Sw≠(jz q.x);lia
theorem xlb {w:Int}{ss:cF}:∀{prs:cS},(GN prs)=[]↔(zpq,ziP=none)
 | []=>⟨λ_=>.nil,iN⟩
 | wf=>by
  show zmI=[]↔_;rw[List.append_eq_nil_iff,Wi,xlb (prs:=r)];refine and_congr_left CN;unfold canF;rw[List.filterMap_eq_nil_iff];refine forall_congr' λ q=>imp_congr_right CN;cases ziP<;>simp
meta def xb7 (fp:yg) (φ:wX) (p:Pr):Pr:=(fp cO,φ dX)
theorem SymC.cans {w:Nat}{h:Int}{fp:yg}{φ:wX} (y:Fd) {ss ss':cF} (ms:∀ s,nw∈ss'↔ue) {prs:cS} (po:zIu) (nx:zpq ztG):cans w ss' (prs.map SZ)=[]↔S93.cans w ss prs=[]:=by
 rw[xlb,xlb,Ja];have b:∀ p∈prs,∀ q∈prs,ztG->(canO w ss' (xb7 fp φ p) (xb7 fp φ q)=none↔ziP=none):=λ p l q j ne=>by
  show(cB,v,po p l,u,po q j);have A:excB ss' (xb7 fp φ p) (xb7 fp φ q)=excB ss p q:=by
   unfold excB mayB xb7;simp only;rw[y.wt _ _ v,y.wt _ _ u];simp only[ms]
  unfold canO;rw[A];cases excB ss p q with
  | false=>ext cU iN iN
  | true =>
   show(fK,fH,fH,y.mt cO rp dX q.2 v.x1 v.x2 u.x1 u.x2 ne)
 constructor
 .intro k
  exact (k.and nx).imp_of_mem λ l j z=>(b _ l _ j kO).mp z.1
 intro k;exact (k.and nx).imp_of_mem λ l j z=>(b _ l _ j kO).mpr z.1
meta def sdF (ac b:Bool):Bool:=bif ac then ! b else b
meta def rwF (dn:Bool) (h r:Int):Int:=bif dn then Ap else r
meta def seG (ac dn:Bool) (h:Int) (s:Seat):Seat:=(sdF ac i3,rwF dn h fW)
meta def ptF (ac dn:Bool) (w:Nat) (h:Int) (p:Pt):Pt:=bif dn then turP h zHj else zHj
def xng {w:Nat}{h:Int} (ac dn:Bool):HC zcI Sb:=by
 ext ztw
 .exact x0d
 .exact xoo
 .exact xhl
 exact xt4
def xnr (w:Nat) (h:Int) (ps:cJ):ps.map zOn=ps:=JQ _
def xuv (h:Int) (ss:cF):ss.map zRj=ss:=JQ _
def xns (w:Nat) (h:Int) (ps:cJ):ps.map zRa=(zxq eR).map (turP h):=by
 ext yo
def xuj {w:Nat}{h:Int}{ps:cJ} (o:K8) (ac dn:Bool):zsx zcI:=by
 ext ztw
 .ext eO xnr o
 .exact xgv o
 .exact xev o
 show(eO,xns,xgv (xev o))
section
variable {w:Nat}{h:Int}{ps:List Pt}{srt srt':List Seat}{fp:Pt->Pt}{φ:Seat->Seat}{prs:List Pr}
def SymC.mem (y:Fd) (g:zUv):∀ p∈prs,fp cO∈ps:=λ p b=>by
 show(cD,z,hz,e,Ze.mp (ZR (g.ok p b).fd));rw[<- e,y.pp];exact hz
def SymC.gpr (y:Fd) (pok:K8) (g:zUv):GPr ps eR h zvb:=by
 refine(du,jN u,?_,?_,?_)
 .show(me,q,c,Ze.mp u);show(tK,k,g.ok q c,m,y.mem g q c,o,pok.ok _ m,b,y.st q.2 ⟨k.r1,k.r2⟩);show(zGj,xes pok.nn m)
 .rw [Zq];show(cW,(j4,zuW∘SZ,zuW,funext λ p=>y.nm cO),g.nn)
 .rw [Zq];show(zeO,Drw.nd_map (f:=φ) y.inj g.ns,Zq)
 show(eO,Za,g.le)
def SymC.may (y:Fd) (ok:zIu) (pm:PP φ) (m:MayA srt' prs):MayA srt (prs.map SZ):=λ p j=>by
 ext gu q b j;show(GA,d,m q b);show(cD,s,hs,e,Ze.mp (pm.mem_iff.mp d));show(gX,?_,(y.wt _ _ (ok q b)).trans c);show φ q.2∈srt;rw[<- e,y.ss];exact hs
def SymC.tot (y:Fd) (prs:cS):totI eR (prs.map SZ)=totI eR prs:=by
 unfold totI;show(cW,Zq,(zUO,λ p _=>y.ln cO dX))
def SymC.nmP (y:Fd) (prs:cS):(zvb).map (·.1.nm)=prs.map (·.1.nm):=by
 show(zix,λ p _=>y.nm cO)
def SymC.back (y:Fd) (prs:cS):(zvb).map SZ=prs:=by
 rw[Zq];refine (ZF λ p _=>?_).trans (JQ _);exact Yg (y.pp cO) (y.ss dX)
#check _
def x45 {w h:Int}{ps:cJ}{prs:cS} (pok:SA) (g:FT):zpq ztG:=by
 show(AT,c,g.nn,YI,Ja);refine c.imp_of_mem λ{a b} l j ne e=>ne ?_;rw[xof pok.nx a.1 (ZR (g.ok a l).fd) sR (ZR (g.ok b j).fd) e]
inductive xz2 (vs:cA) (H:Hp) (Q:VK) (_:XK):Prop
 | mk (l:Addr) (us:cM) (prs:cS) (h:Int) (ac dn:Bool) (fp:yg) (e_:vs=[iS,.int h,.bl ac,.bl dn]) (r_:(cR,uG (.lst (us.map V.ref)),zct,Ev,zPO,∀ H' l' us',(T8,lm l' (.lst (us'.map V.ref)),PrsL H' (zfR fp Sb) us',l')))
meta def nmEq (ps:cJ) (nm:Str) (i:Nat):Bool:=((zje).map λ z=>zdh).getD false
theorem xyo {ps:cJ} (nn:(ps.map (·.nm)).Nodup) {p:Pt} (h:Ax):ps.filter (λ z=>zXO)=[p]:=by
 induction ps with
 | nil=>exact nomatch h
 | cons x r ih =>
  rw[Zs,ZE] at nn;rcases Gk with rfl|h
  .rw [Jj (p:=zve) zoF,QB.mpr λ z hz e=>nn.1 (Ze.mpr (cC z hz zom))]
  rw [Jo (p:=zve) (λ e=>nn.1 (Ze.mpr (cC p h zIy))),ih nn.2 h]
def xx6 (a b:Str):zIR:=zBK
def xg4 {ps:cJ}{nm:Str}{z:Pt}{i:Nat} (h:dS ps z):(um,nmEq ps nm i,z.nm=nm):=by
 unfold nmEq;rw[h];rfl
def xvn {H:Hp}{ps:cJ}{ys:cA}{p:Pt} (nn:(ps.map (·.nm)).Nodup) (h:Ax) (ly:(vC,((zdl).filter (nmEq ps p.nm)).length)) (f:∀(j:Nat) (y:V) (k:Nat),Hl ((zdl).filter (nmEq ps p.nm)) k (zEy (ix ps k z))):∃ o,ys=[V.ref o]/\(ji o E1):=by
 show(fV,b,xin zve (as:=ps) (p:=nmEq ps p.nm) (λ i s hs=>xg4 hs),xyo nn h,b);show(kT,y,List.length_eq_one_iff.mp (ly.trans sR));have c:ix ((zdl).filter (nmEq ps p.nm)) 0 _:=Zc (cK sR Nat.zero_lt_one);show(hJ,z,q,v,x,w,f 0 y _ rfl c);show(dP,b.2 0 _ c,v,v);show(dy,q,hD x,w)
def xr4 {l:cF} (nd:l.Nodup):(l.map xad).Nodup:=Drw.nd_map (λ s t h=>by
 unfold xad at h;simp only[Yo.injEq,Jk.injEq,Q4.injEq,and_true] at h;exact Yg (xfd lD) lE) nd
inductive xyy (vs:cA) (H:Hp) (Q:VK) (_:XK):Prop
 | mk (q0 ls:Addr) (p:Pt) (ss:cF) (rs:cM) (s:Seat) (e_:vs=[Gs,zhT,MO,.int fW]) (r_:(ji q0 E1)/\(cR,zhi,R0,ue,MF=true,zwr))
inductive xy7 (vs:cA) (H:Hp) (Q:VK) (_:XK):Prop
 | mk (q0:Addr) (w:Int) (p:Pt) (s:Seat) (e_:vs=[Nl,Gs,MO,.int fW]) (r_:(ji q0 E1)/\(rR (xbm w (p,s))))
inductive xzz (vs:cA) (H:Hp) (Q:VK) (_:XK):Prop
 | mk (lp ls lk lb:Addr) (ps:cJ) (ss:cF) (prs:cS) (qs rs us:cM) (e_:vs=[zhS,zhT,.ref lk,.ref lb]) (r_:zej/\tf/\(ps.map (·.nm)).Nodup/\Rz/\zhi/\R0/\H lk=some (.lst ((prs.map (·.1.nm)).map V.str))/\(znf lb)/\zct/\Ev/\(prs.map (·.2)).Nodup/\zXF/\ztY/\zwr)
inductive x0e (vs:cA) (H:Hp) (Q:VK) (_:XK):Prop
 | mk (lp lb:Addr) (w:Int) (ps:cJ) (prs:cS) (qs us:cM) (e_:vs=(Cq Nl lp lb)) (r_:zej/\tf/\(ps.map (·.nm)).Nodup/\(cR Rz (znf lb) zct zXF (Ej ve)))
def ok_bd (T:cT):mr t.f_bd t.d_bd zAC (xz2):=by
 refine T.bd.F.okn (k:=0) sc_bd (c7 Q E h) (cZ vs Q E hr h)
 .ext cV
 obtain ⟨l,us,prs,h',y,dn,fp,rfl,h⟩:=h;refine⟨_,xb (F2 4 sc_bd.nd)
  (xb (xaz Z4 rfl (x9 (pv 0)) (uh (pN 5 sc_bd.nd) 6 sc_bd.nd 7) (xb (zec 2 (wp 6 sc_bd.nd (tU (zQC (xan) (xan)) jL)))
  (xb (zec 3 (wp 7 sc_bd.nd (vV (vA ew) 7)))
  (oB (BD h8 (zgL (qR 5 6 7)))))))
  U9),?_⟩
 refine sq3 ?_; intros; ext CU hl J ad fn q h;have ul:=J.len;ext su leS0 C N;generalize O:sH H C=H1;ext oX; show(iG,s1,N,O,g1,lH l zfp)
 let Pv (i:Nat) (Z:L2.St) (j:Hp):Prop:=∃(X U R:eV) (rs:cM),(Gy,zTB X U R,j,(cu,j C,.lst (rs.map V.ref)),PrsL j ((SF).map (xb7 fp (seG y dn h'))) rs)
 show(zvR,RG [] s1 g1 .nil)
 .show(zJx,j,G,G _ _ hl)
 .rintro i x Z j hx (⟨X,U,R,rs,rfl,G,e5,v⟩:124);ext rB qa aa;obtain⟨⟨pt,b,r⟩,M,ep⟩:62:=J.get aa;have ae:i<12:=Nh M
  have rl:=v.len;ext oS Jm rl;refine fU qa (G _ _ ep);refine sq3 ?_; intros; show(sK,λ Z HX=>SO j (zMW,d0 r))
  .ext mz; cases y with
   | false=>show(qg,iteF (lS i6))
   | true =>
    show(dQ,(eJ,iteT (jN M)),zMV znQ);show(cI,e,upd (kB j p []) p (.dK (xd9 [] znQ)) p=(MX (zJt (zTK:Key) zdt)),xj,D,Same j zGq,λ c u z=>(tP,oH z M,oH z M,z))
    revert e D;generalize zGq=H6;intro e D;have g:=(tE,UJ b,e);have g':DGet H6 p lu (some (qN (! b))):=by
     cases b
     .exact g
     exact g
    exact dM p _ rfl g' D rfl
  ext zC H6 D
  show(Ia,SO H6 (zMW,d0 (rwF dn h' r)))
  .ext mz; cases dn with
   | false=>show(qg,iteF (lS i6))
   | true=>show(qg,iteT (lS i6))
  ext zC H7 s7;have e7:=s7 _ _ (D _ _ e5);show(eW,uY e7,Cb,cG Y ab);generalize O:iP H7 Y [qz,qN (sdF y b),.int (rwF dn h' r)]=H8;show(KO,s8,ab,O,g8,e8,wx e7);refine P8 C e8
  .ext Km
  show(dZ,I,Same j H8,D.trans (s7.trans s8),(RG,rs++[Y],mZ (Dd,N,I _ _ (G _ _ e)),B2,?_));rw[ZD,M,Option.toList_some,Zu];have kt:Tups H8 (yk,H8,C,ztk,.ref Y):=zrL e8
  refine ((v.keep (Same.tups I)).keep kt).snoc (kt _ _ ?_);rw[g8];unfold prV xb7;rw[fn];rfl
 rintro Z j (⟨X,U,R,rs,rfl,G,e5,v⟩:124);rw[Za,ul,Fx] at v;exact (q j C rs G e5 v)
def ok_bs (T:cT):mr t.f_bs t.d_bs zAn (xyy):=by
 refine T.bs.F.okn (k:=0) sc_bs (c7 Q E h) (cZ vs Q E hr h)
 .ext cV
 obtain ⟨q0,ls,p,ss,rs,s,rfl,h⟩:=h;refine⟨_,xb (nF (zit (xu (xmp (xb0 hr)) (xag xK) ew jk) (xb4 (xb3 (xno xim xim Ud gM Ud)))) TQ)
  (gq (x4c (xd1 xb6 Ud (xan) nA) (xgo (xd1 xb6 Ud hB nA)))),?_⟩
 refine sq2 ?_; intros; ext wK; ext sI I J D G m;ext pU u M;generalize L:tH H u MO fW=O;show(KO,y,M,L,N,C,y _ _ I);unfold xbw at m;rw[Z8,Z8] at m;refine(dM,1,2,xe5 s,_,xqq N,(zq,(D.keep (Same.tups y)).dv (y _ _ J),qd (by rw[fH,xwe,decide_eq_true G]; rfl)));show(dQ,(iZ,q0,4,.int p.lo,B6 C (eJ,ifP (dO m) (iZ q0 5 zxe (B6,C,GP (fY,fX m))))),(iZ,q0,3,zQ,B5 C CF));by_cases hb:p.sd=Zg "both"
 .exact ifP (decide_eq_true (hD hb)) (q _ y)
 have hs:p.sd=xab i3:=by
  show(Cd,m.1,decide_eq_false hb,Bool.false_or);exact of_decide_eq_true z
 refine ifN (decide_eq_false λ e=>hb (V.str.inj e)) (iZ,q0,3,zQ,B5 C ?_);show(cW,Sj (hD hs),q _ y)
theorem ok_a6 (T:cT):mr t.f_a6 t.d_a6 ["_law_width", "_law_point_here", "_law_side", "_law_row"] (xy7):=by
 refine T.a6.F.okn (k:=0) sc_a6 (c7 Q E h) (cZ vs Q E hr h)
 .ext cV
 ext EH q0 l p s;refine⟨_,xb (pS 4 sc_a6.nd (BY ew))
  (xb (nF (tV hB (xan)) (wp 4 sc_a6.nd (x0 xcy (vA dU) (BY ew))))
  (gq (wu xa0 (zlx (vV (BY ew) 3)) 4))),?_⟩
 refine sq3 ?_; intros; ext hI e q h b r s;refine(iZ,q0,1,Ms,B5 e CF);have j:=q;unfold xbm lenI at j;rw[Int.add_comm] at j;cases b with
 | true=>exact ifN (zvW,BM (V.str (xab true)=zdt)) (iZ q0 2 Mr (B6,e,eJ j))
 | false=>exact ifP (zvW,decide (V.str (xab false)=zdt)=true) (iZ q0 1 Ms ⟨44,rfl,jP e,rfl,⟨q0,_,2,Mr,rfl,rfl,jP e,rfl,_,rfl,j⟩⟩)
def ok_ax (T:cT):dB 2 t.f_ax t.d_ax ["_law_points_here", "_law_seats_here", "_law_keep", "_law_pairs"] (xzz):=by
 refine T.ax.F.okn (k:=1) sc_ax (c7 Q E h) (cZ vs Q E hr h)
 .ext cV
 obtain ⟨lp,ls,lk,L,ps,ss,prs,qs,rs,us,rfl,h⟩:=h;refine⟨_,xb (OT (Bo (zEF yP) hB) (Dc (xrv (xb0 hr) rfl rfl T.n_len rfl T.n_set (gP (zEF,xbq (r:=rSlT K) xs1 dU C8 xcm))) (Ep xay Nq)))
  (xb (nO 3 (uh (zar sc_ax.nd) 5 sc_ax.nd 6) (xk (xb1 (nF (CY (pC (ok_bs T) hr T.bs.g T.bs.F.kp T.bs.b (xa (E9 (uO (yc "_law_point_here" "_law_name" 4 zjU s_ax) zfA (pM 0) NL (RE (xu (r:=rEqV K) ztp yP ew nA)) dU)) (qR 1 5 6)))) TQ))))
  TQ),?_⟩
 refine sq3 ?_; intros; obtain⟨al,ac,nn,as,ak,af,⟨am,I,J,ar,ag,ai,my,q⟩⟩:47:=h;show(cB,ul,J.len,ah,ac.len)
 show(Ia,(gB HX)/\Z=[xX,As,UC,cX L,none,none,none])
 .ext mz; refine h9 L I l1 ap;refine xbr (cN I) qi ap (λ j y _=>∃ p,ziK (gC prs p) eS) wI (λ j x H5 O v N hN=>?_) (gE ys H1 U e1 ly1 fy1)
  .ext zHy;exact UT C (v _ _ hq) zTj
  have aq:ys=(prs.map (·.1.nm)).map V.str:=xfi (by rw[ly1,Za,Za,ul]) λ i y b hy hb=>by
   show(jq,p,Y,fy1 i y hy);ext zbn Y
  rw[aq] at e1;refine(dM,1,1,_,_,xgs e1,(zq,xgs (U _ _ am),qd Ts));show(eK,G,U _ _ I,h9 L G l2 ao);refine xbr (cN G) qi ao (λ j y H=>∃ p C,(gC prs p)/\(jv y C)/\(Bx C dX)) (λ_ _ _ _ tp ⟨p,C,z1,z2,z3⟩=>(d9,p,C,z1,z2,sM z3)) (λ j x H5 O v N hN=>?_) (gE ys2 H2 s2 e2 ly2 fy2)
  .ext zHy;show(ut,1,(nh,84,C,_,jP (v _ _ (U _ _ hq)),(λ z=>wC ro (Lq,¬ ((1:Nat)=0))),cG q3 aj));exact oO (ge aj) (gZ p q3 Y xj)
  obtain⟨ae,rfl,ab⟩:62:=xao.pick (H:=H2) (ss:=prs.map (·.2)) (ys:=ys2) (by rw[ly2,Za,Za,ul]) (λj y s hy hs=>by
   show(hJ,p,C,z1,z2,z3,fy2 j y hy);rw[Zf,z1] at hs;cases hs;ext dy C z2 z3)
  show(fV,aa,ab.len,Za,aa);refine⟨106,l2,ae,(prs.map (·.2)).map xad,rfl,cN e2,nG Za Za aa,dC i q ks h1 h2,cm,(Fl,L,nE G,rfl,zgP (lS,U.trans s2))⟩
  .show(o9,s,hs,e,ab.get h1);rw[Zf,hs] at h2;cases h2;exact e
  rw [xr5.mpr (xr4 ag),Za,Za,Za,ul];simp
 ext zC H1 U;ext OG; refine lH L (U _ _ I)
 show(zlB,∃(v4 v5 v6:eV),Z=[xX,As,UC,cX L,v4,v5,v6]/\Aq)
 show(zvR,iZ 102 _ _ U)
 .show(zMF,H5,v,v _ _ I)
 .rintro i x Z H5 O (⟨v4,v5,v6,rfl,v⟩:102);rw[Zf,Zh] at O;ext jq C D O;show(cD,p,Y,hq,J.get D);have pm:=Zn Y;refine fU C (v _ _ hq)
  show(Ia,Z=[xX,As,UC,cX L,tD eS,some (qN mU),d0 jI]/\(gB HX))
  .ext mz; show(eK,R,v _ _ al,h9 lp R l6 an);ext zzK R an
   .rw [Zf] at hy;ext vQ hy;show(cD,z,hz,ez,ac.get ho);show(eK,ad,s7 _ _ (v _ _ ez),UT o ad ⟨0,0,jG,jG,.str,.str,cE,cE,_,rfl,Fh⟩)
    .rw [xx6] at c;exact (hN _ _ i6 (cK ziX c) (gZ z o hz ad))
    rw [xx6] at c;exact hM _ i6 (by rw[ziX]; exact Jx.mpr c)
   rw[Za,ah] at ly f7;show(cD,o,rfl,eo,xvn nn (ai p pm) ly f7);have X:=v.trans s7;refine zym l6 zjB e7 ⟨o,ls,cO,ss,rs,dX,rfl,eo,X _ _ ak,af.keep (Same.tups X),(my p pm).1,(my p pm).2,λ H8 s8=>(eJ,ifN cE (d4,X.trans s8))⟩
  rintro Z H6 ⟨rfl,s6⟩;exact iZ 102 _ _ s6
 rintro Z H5 (⟨v4,v5,v6,rfl,v⟩:102);exact q _ v
def ok_bl (T:cT):dB 2 t.f_bl t.d_bl ["_law_width", "_law_points_here", "_law_pairs"] (x0e):=by
 refine T.bl.F.okn (k:=1) sc_bl (c7 Q E h) (cZ vs Q E hr h)
 .ext cV
 obtain ⟨lp,lb,G,ps,prs,qs,us,rfl,h⟩:=h;refine⟨_,xb (pS 3 sc_bl.nd (xp))
  (xb (nO 2 (uh (zar sc_bl.nd) 5 sc_bl.nd 6) (wp 3 sc_bl.nd (x0 xa0 gM (pC (ok_a6 T) hr T.a6.g T.a6.F.kp T.a6.b (f8 0 (xa (E9 (uO (yc "_law_point_here" "_law_name" 4 zAo s_bl) Tb (pM 0) NL (RE (tV yP ew)) dU)) Tq))))))
  Nf),?_⟩
 refine sq3 ?_; intros; obtain⟨ad,I,nn,af,O,J,⟨ab,q⟩⟩:47:=h;show(cB,ul,J.len,aa,I.len);refine lH lb O
 show(zMa,∃(v4 Y X:eV),Z=[d0 G,xX,cX lb,d0 zNY,v4,Y,X]/\(gB U))
 show(zvR,iZ 102 _ _ i6)
 .show(zMF,U,C,C _ _ O)
 .rintro i x Z U hx (⟨v4,Y,X,rfl,C⟩:102);ext rB qa ac;show(cD,p,hp,hq,J.get ac);have pm:=Zn hp;have tk:totI G (prs.take dc)=zNY+xbm G p:=by
   unfold totI;rw[ZD,hp,Option.toList_some,Zu,List.sum_append];simp
  refine fU qa (C _ _ hq);show(eK,D,C _ _ ad,h9 lp D l6 ae);ext zzK D ae
  .rw [Zf] at hy;ext vQ hy;show(cD,z,hz,ez,I.get ho);show(eK,R,s7 _ _ (C _ _ ez),(oQ,o,_,B5 R Gj))
   .have c:=V.str.inj (of_decide_eq_true c);exact (hN _ _ i6 (by rw[ziX]; exact decide_eq_true c) (gZ z o hz R))
   exact hM _ i6 (by rw[ziX]; exact decide_eq_false λ e=>zrD Vf)
  rw[Za,aa] at ly f7;show(cD,o,rfl,eo,xvn nn (ab p pm) ly f7);refine oQ l6 zjB ⟨44,rfl,cN e7,Eu,dN o G cO dX rfl eo ?_⟩;exact(dM,102,_,_,_,fY tk,C.trans s7)
 rintro Z U (⟨v4,Y,X,rfl,C⟩:102);rw[Za,ul,Fx];exact (q _ C)
meta def GV (G:zT):cA:=G.map λ r=>V.str (ofL r)
def xpx (l:de):pJ (ofL l) l.length:=yu ofL Qn
def x3h (G:zT):pJ (GV G) G.length:=by unfold GV; rw[Za]
def x4f {G:zT}{i:Nat}{r:de} (h:zxN):dS (GV G) (V.str (ofL r)):=by unfold GV; rw[Zf,h]; rfl
theorem xk2:∀ cs:de,(zir (cs.map λ n=>ofL [n]))=ofL cs
 | []=>rfl
 | [c]=>rfl
 | c::d::r=>by
  apply xdl;have b:=xk2 (d::r);show (ofL [c]++Zg ""++(zir ((d::r).map λ n=>ofL [n]))).cps.toList=_;rw[b,xb5,xb5,xg3,xg3,xg3];rfl
meta def One (m:gG):Prop:=∀ c s,zto->s.length=1
meta def cd (m:gG) (c:Cl):Nat:=match m c with
 | zjk=>zMe
 | none=>32
theorem x5g {m:gG} (o:One m) (c:Cl):(m c).getD (Zg " ")=ofL [cd m c]:=by
 unfold cd;cases e:m c with
 | none=>rfl
 | some s =>
  have l:=o c s e;show s=ofL [zMe];apply xdl;rw[xg3];have b:s.cps.toList.length=1:=by simpa [Qn] using l
  cases h:s.cps.toList with
  | nil=>ext gm h b
  | cons x r =>
   rw[h] at b;have:r=[]:=PL
   rw[this];rfl
meta def rowC (w:Nat) (r:Int) (m:gG):de:=(Zz (w+2)).map (fE,j,cd m (mY,r))
def xyz {m:gG} (o:One m) (w:Nat) (r:Int):rowT w r m=ofL (rowC w r m):=by
 unfold rowT rowC;rw[<- xk2,Zq]
 ext iJ
 exact ZF λ j _=>x5g o _
meta def xdj (w h:Nat) (m:gG):zT:=(Zz h).map (fE,i,rowC w DJ m)
def xpf {m:gG} (o:One m) (w h:Nat):xh4 w h m=GV ziU:=by
 unfold xh4 GV xdj;rw[Zq];exact ZF λ i _=>by
  show V.str (rowT w DJ m)=V.str (ofL (rowC w DJ m));rw[xyz o]
meta def xrd (w:Int) (p:Pr):Pr:=(mirP w cO,! mU,jI)
meta def xrs (h:Int) (p:Pr):Pr:=(turP h cO,mU,h+1-jI)
def xwi (r:de):(zir (xe4 (ofL r)))=ofL r.reverse:=by
 unfold xe4;rw[xg3];exact xk2 r.reverse
def xv3 (w:Int) (ss:cF):xcr w (ss.map mirS)=Drw.go (Drw.mirC w) Mh:=by
 unfold xcr Drw.go;ext zNh;ext Gz r s;ext zKU
 rw[show Drw.rim w (! b)=zuy by cases b<;>(unfold Drw.rim; simp)]
def xuu (w:Int) (prs:cS):xb8 w zqD=Drw.go (Drw.mirC w) FE:=by
 unfold xb8 Drw.go;ext zNh;obtain⟨p,b,r⟩:=s;ext zKU
 rw[show Drw.rim w (! b)=zuy by cases b<;>(unfold Drw.rim; simp)];rfl
def xzm (w:Int) (ps:cJ):ptsS zqv=Drw.go (Drw.mirC w) MU:=by
 ext zXA
def xwl (w h:Int) (ss:cF):xcr w zqy=Drw.go (Drw.turC h) Mh:=by
 unfold xcr Drw.go;ext zio
def xtb (w h:Int) (prs:cS):xb8 w zVi=Drw.go (Drw.turC h) FE:=by
 unfold xb8 Drw.go;ext zio
def xyr (h:Int) (ps:cJ):ptsS zqx=Drw.go (Drw.turC h) MU:=by
 ext zXA
def xx0 {m m':gG}{c c':Cl} (e:m' c'=m c):cd m' c'=cd m c:=by
 unfold cd;rw[e]
def xz8 {w:Nat}{r:Int}{m m':gG} (e:zFU):rowC w r m'=(rowC w r m).reverse:=by
 unfold rowC;show(zzy,w+2);refine xx0 ?_;rw[<- e]
 ext iJ
 show _=(eR+1-_,r)
 show(cW,Z9,Yg (ziE,mY,eR+1-(hU,w+2-1-j)) rfl)
def xoh {w h:Nat}{m m':gG} (e:zFU):(HK m')=(ziU).map YV:=by
 unfold xdj;show(zix,λ i _=>xz8 e)
def xow {w h:Nat}{m m':gG} (e:∀ c,m' (Drw.turC h c)=m c):(HK m')=(ziU).reverse:=by
 unfold xdj;ext zzy h;unfold rowC;show(Sm,xx0 ?_);rw[<- e]
 ext iJ
 show(cW,Z9,Yg rfl (ziE,wm,j6+1-(1+(hU,h-1-j))))
def x08 (h:Nat):(zlE).Pairwise xb2:=by
 have one:∀ b,(xdi b h).Pairwise xb2:=λ b=>by
  unfold xdi;rw[Ja];exact List.pairwise_lt_range.imp λ z=>(NH,by dsimp only; lia)
 rw[JX];show(eW,one _,one _,fM a d b c);ext yH i zhy;show(yH,j,Ze.mp c);ext eg lQ
meta def srtO (h:Nat) (ss:cF):cF:=(zlE).filter λ s=>eA ue
def xq8 (h:Nat) (ss:cF):(zwD).Pairwise xb2:=(x08 h).filter _
def xik {h:Nat}{ss:cF} (o:LE):(zwD).Perm ss:=(List.perm_ext_iff_of_nodup (xeu (xq8 h ss)) o.1).mpr λ s=>by
 unfold srtO;rw[ZN,decide_eq_true_iff];show(cU,λ z=>kO,λ z=>⟨x05 (o.2.2 s z),z⟩)
def xx7 {K:Zd}{H:Hp}{a:Addr}{G:zT} (e:dA a ztV):iY 1 dH (.lst ((GV G).map scD)):=.lst (cN e) (hD Za) (xg1 (J6.mpr λ v b=>by
 ext yH i zhY;rfl))
def Dr.new {t:Adr}{H:Hp}{a dp do_:Addr}{w h:Nat}{ps:cJ}{ss:cF} (p:zUU) (s:qp) (o:vb) (so:LE):PX H ss zwD:=(dM,p,s,so,xik so,xq8 h ss,λ p b=>(o.ok p b).nm)
def x1h (G:zT):(GV G).reverse=GV G.reverse:=by
 unfold GV;rw[List.map_reverse]
def xeg (w x y:Int) (b:Bool) (r:Int):(Ah mS y (! b) r)=(RI).map (Drw.mirC w):=by
 ext zOy
 .unfold Geo.upL;ext yo
 have e:Geo.lvN w mS (! b)=Geo.lvN w x b:=by
  unfold Geo.lvN;cases b<;>simp<;>lia
 unfold Geo.lvL;rw[Zq,e];show(Sm,Yg ?_ rfl);show mS+fc*Geo.wayI (! b)=(jz (x+fc*Geo.wayI b))
 cases b
 .show (CV mS)=zUW
  lia
 show mS+fc*1=(jz (CV x))
 lia
def xte (w h x y:Int) (b:Bool) (r:Int):(Ah x xW b Ap)=(RI).map (Drw.turC h):=by
 ext zOy
 .unfold Geo.upL Geo.upN Geo.dn;rw[Zq];by_cases c:y<r
  .rw [kD,kD,zsB Ap,zsB Ap,(fD,(jc xW Ap)=(jc r y))];show(Sm,Yg rfl ?_);show (CV xW)=h+1-(y+fc*1)
   lia
  by_cases d:r<y
  .rw [ja,ja,zUY,zUY,(fD,(jc Ap xW)=(jc y r))];show(Sm,Yg rfl ?_);show xW+fc*1=h+1-(CV y)
   lia
  show(jp,y=r,cm)
  rw[ja,zsB xW,(fD,(jc xW xW)=0),(fD,(jc y y)=0)];simp only[ite_self,List.range_zero,YW]
 unfold Geo.lvL;ext yo
def xub {κ:M5}{w x y x' y' r r':Int}{b b':Bool} (e:(Ah x' y' b' r')=(RI).map κ) (l:∀ c,lsS x' r' (κ c)=LU):(zpl "|" x' y' b' r')=Drw.go κ (zpl "|" x y b r):=by
 unfold Drw.ledP Drw.go;rw[e,Zq,Zq];exact ZF λ c _=>Yg rfl (l c)
def xn9 {κ:M5} (inj:∀ a b,κ a=κ b->a=b) {w:Int}{ps ps':cJ}{ss ss':cF}{prs:cS}{F:Pr->Pr} (hd:xcr w ss'=zNb) (hn:xb8 w (prs.map F)=zLT) (hp:ptsS ps'=Drw.go κ (ptsS ps)) (hl:∀ p,ledS w (F p)=Drw.go κ (ledS w p)) (c:Cl):zox ps' ss' (prs.map F) (κ c):=by
 unfold xcc Drw.drawP;rw[hd,hn,hp,Wy];refine Drw.sets_go inj _ _ _ mX c;show (Drw.sets (Drw.sets Drw.no zNb) zLT (κ c)).or _=_;rw[Drw.sets_go inj FE _ _ (Drw.sets_go inj Mh Drw.no Drw.no iN) c]
 ext iJ
 exact Drw.marks_go hsS (λ p _ c=>(fS,hl p,Drw.at_go inj)) c
def x3k (w x r:Int) (c:Cl):lsS mS r (Drw.mirC w c)=LU:=by
 ext RH;unfold lsS Drw.ls Drw.mirC;have b:((jz u,v)=(mS,r))↔(Dx=Hu):=by
  ext zWI
 have a:((jz u)=mS)↔(u=x):=cm
 simp only[b,a]
def x1s (h x r:Int) (c:Cl):lsS x Ap (Drw.turC h c)=LU:=by
 ext RH;unfold lsS Drw.ls Drw.turC;have a:((u,h+1-v)=(x,Ap))↔(Dx=Hu):=by
  ext zWI
 simp only[a]
def xlo (w:Int) (ps:cJ) (ss:cF) (prs:cS) (c:Cl):zox zqv (ss.map mirS) zqD (Drw.mirC w c) :=
 xn9 (Drw.mirC_inj w) (xv3 w ss) (xuu w prs) (xzm w ps) (λ p=>xub (xeg w uD yK mU jI) λ c=>x3k w uD jI c) c
def xma (w h:Int) (ps:cJ) (ss:cF) (prs:cS) (c:Cl):zox zqx zqy zVi (Drw.turC h c) :=
 xn9 (Drw.turC_inj h) (xwl w h ss) (xtb w h prs) (xyr h ps) (λ p=>xub (xte w h uD yK mU jI) λ c=>x1s h uD jI c) c
def xpr {w:Nat}{ps:cJ}{ss ss':cF}{prs:cS} (w1:sL) (pm:R5) (nd:ss.Nodup):xcc w ps ss' prs=zbR:=by
 unfold xcc Drw.drawP;show(zsY,λ m=>Drw.sets m (ptsS ps),mX);refine congrArg (λ z=>Option.or z _) ?_;refine Drw.sets_base ?_;refine Drw.sets_perm (pm.map _) ?_ _ c;rw[Zq];have nd:=pm.nodup_iff.mpr nd;rw[YI,Ja];exact nd.imp λ ne e=>ne (xze w1 e)
def xvl {s:Str} (h:qG s):s.length=1:=by
 ext zxw;exact of_decide_eq_true (ziu h).1
theorem xoc {w:Int}{ps:cJ}{ss:cF}{prs:cS} (h1:znO) (h2:zOR):One zbR:=by
 show(zGL,(cu,(Drw.no:gG) c,s)->s.length=1);have q:=xec (P:=zbT) (L:=FE) (xec (P:=zbT) (L:=Mh) no (λx b=>by
  ext yH z zhY;show (zjy).length=1;ext mH)) (λx b=>by
  ext zgE;exact xvl (h2 z hz))
 have j:=xhu (P:=zbT) (hs:=hsS) (by unfold hsS; decide +kernel) (L:=prs.flatMap (ledS w)) no (λx b=>by
  ext zEo;show Qn (Drw.ls _ _ _ _ _ _)=1;unfold Drw.ls;split
  .ext mH
  .split<;>decide +kernel)
 intro c s e;refine xec (P:=zbT) (L:=ptsS ps) (λc s e=>?_) (λx b=>by
  ext zgE;exact xvl (h1 z hz)) c s e
 cases e1:zSs with
 | some y =>
  show(ku,e1,e,q c _ e1)
 | none =>
  ext zUP;exact j c s e
meta def xj4 (ac dn:Bool) (G:zT):zT:=bif dn then (zHX).reverse else zHX
def x3i {w h:Nat} (ac dn:Bool) (ps:cJ) (ss:cF) (prs:cS):(HK (xcc w zfk (ss.map (seG ac dn h)) zeB))=xj4 ac dn (HK zbR):=by
 ext ztw
 .rw [xnr,xuv,show prs.map (xb7 zOn zRj)=prs from JQ _];rfl
 .exact xow (xma w h ps ss prs)
 .exact xoh zVv
 rw [xns,show ss.map zUQ=(ss.map mirS).map (turS h) by ext yo,show prs.map (xb7 zRa zUQ)=(zqD).map (xrs h) by ext yo];exact (xow (xma w h _ _ _)).trans (congrArg YV (xoh zVv))
def x26 {w h:Nat}{m:gG}:∀ r∈ziU,r.length=w+2:=λ r a=>by
 show(yH,i,Ze.mp a);unfold rowC;rw[Za,Z9]
def xzf {w h:Nat}{ps:cJ}{srt srt':cF}{prs:cS} (w1:sL) (pok:vb) (nd:srt.Nodup) (ac dn:Bool) (pm:PP Sb) (g:GPr zfk eR j6 prs) (gb:GPr ps eR j6 zeB) :
    xh4 w h (xcc w zfk srt' prs)=GV (xj4 ac dn (HK zqw))/\xh4 w h zqw=GV (HK zqw):=by
  show(cB,l,xuj pok ac dn,y,xng (w:=w) (h:=h) ac dn);constructor
  . rw[xpr w1 pm (Drw.nd_map y.inj nd),xpf (xoc (λ p f=>(l.ok p f).nm) λ p f=>(g.ok p f).nm)]
    show(zL,x3i (w:=w) (h:=h) ac dn ps srt zeB,y.back);ext CH GV z
  . show(CH,id,xpf (xoc (λ p f=>(pok.ok p f).nm) λ p f=>(gb.ok p f).nm) w h)
inductive xwb (vs:cA) (H:Hp) (Q:VK) (_:XK):Prop
 | mk (l:Addr) (G:zT) (W:Nat) (ac dn:Bool) (e_:vs=[iS,.bl ac,.bl dn]) (r_:(uG ztV)/\(cR,G.length<=16,(∀ r∈G,r.length=W),2<=W,W<=40,∀ H' l',gg->(lm l' (.lst (GV (xj4 ac dn G))))->(HP l')))
inductive x4p (t:Adr) (vs:cA) (H:Hp) (Q:VK) (_:XK):Prop
 | mk (a b lp ls dp do_ dp' do':Addr) (w h:Nat) (ps:cJ) (ss srt ss' srt':cF) (qs rs:cM) (T:Int) (ac dn:Bool) (cs:gf) (so:dD) (ho:cP) (e_:vs=[dH,se,zhS,zhT,.int T,.bl ac,.bl dn]) (r_:EE/\Dr t H b dp' do' w h zfk ss' srt'/\(ma,vb,PP Sb,zej,tf,zhi,xao H srt rs,Ry,xfa o7 Gc T,zwr))
def ok_bj (T:cT):mr t.f_bj t.d_bj ["_law_rows_here", "_law_across", "_law_down"] (xwb):=by
 refine T.bj.F.okn (k:=0) sc_bj (c7 Q E h) (cZ vs Q E hr h)
 .ext cV
 obtain ⟨l,G,W,u,dn,rfl,h⟩:=h;refine⟨_,xb (pS 3 sc_bj.nd (xbh xh6 rfl T.n_list boot_list pG))
  (xb (zec 1 (xk (DS,xF "_law_row" zAs s_bj,x9 (pv 3),xrw rfl rfl T.n_reversed (xan) pG,3)))
  (xb (zec 2 (wp 3 sc_bj.nd (xr6 rfl rfl T.n_list rfl T.n_reversed Nq)))
  Nf)),?_⟩
 refine sq4 ?_; intros; ext sI hl ab wd w2 aa;have gl:=x3h G;refine(sO,wV hl,cG O U);generalize eu:iK O ztV=H1;ext n8 s1 U X;show(sK,λ Z J=>∃ C,(zGC,cX C,C,XT))
 .cases u with
  | false=>show(qg,iteF (gS O s1 X))
  | true =>
   refine(eJ,iteT (h9 O X C S));refine xbr (cN X) (by rw[gl]; exact xbj cm) S (Hm,∃ r,zxN/\y=.str (ofL r.reverse)) (λ i y H5 H6 tp z=>z) (λ i x H5 hx s5 N hN=>?_) zSo
   .have ig:i<G.length:=by
     show(fj,oh hx)
    obtain⟨r,D⟩:∃ r,zxN:=(hZ,Zc ig)
    show(dP,x4f D,hx,hx);show(eK,rl,wd r (Zn D),(gS,Zg "",cE,(pW,ofL r,rfl,pA xpx,pA xpx,?_)));show(cW,xwi,oO i6 (fR r D))
   rw[gl] at ly;have:ys=GV (G.map YV):=by
    unfold GV;rw[Zq];exact xfi ly λ j y r hy hr=>by
     show(cD,r',e,e',fy j y hy);ext ku hr e e'
   exact(gS,C,Ho s5,this▸e5)
 ext zdy H2 C Y M;have L:xj4 u dn G=bif dn then (XT).reverse else XT:=rfl;revert M L;generalize XT=G2;intro M L;show(sK,λ Z J=>∃ I,(zGC,cX I,I,xj4 u dn G))
 .cases dn with
  | false =>
   rw[L];show(qg,iteF (gS C Y M))
  | true =>
   rw[L];refine(eJ,iteT (nH,C,cN M,cG I R));rw[x1h];exact(gS,I,xw Y R,xj)
 ext zdy H3 I s3 e3;exact (q H3 I s3 e3)
def xp4 {cs:gf}{ys:cA} (l:vC cs.length) (f:∀(i:Nat) y,L8->(zeJ zfi)):ys=(cs.map (·.1)).map V.str:=xfi (HG l) λ i y b j d=>by
 show(jq,c,o,f i y j);rw[Zf,o] at d;cases d;rfl
def ok_z (T:cT):dB 11 t.f_z t.d_z zjL (x4p t):=by
 refine T.z.F.okn (k:=10) sc_z (c7 Q E h) (cZ vs Q E hr h)
 .ext cV
 obtain ⟨a,b,lp,ls,dp,X,U,Y,C,h',ps,ss,srt,ss',srt',qs,rs,T',G,dn,cs,so,ho,rfl,h⟩:=h;refine⟨_,xb (pS 7 sc_z.nd zBS)
  (xb (DS (xF "_law_row" zjF s_z) zBF yP 8)
  (xb (OT (Bo (pC (xk8 T) hr T.B_qe.g T.B_qe.F.kp T.B_qe.b mT) pV) (Bo (uX (xF "_law_row" zjF s_z) (x9 (pC (ok_a5 T) hr T.a5.g T.a5.F.kp T.a5.b mT)) yP) wg))
  (xb (Ez (zkN mT) 9 sc_z.nd 10)
  (xb (pS 11 sc_z.nd (pC (ok_bd T) hr T.bd.g T.bd.F.kp T.bd.b (f8 9 (xa eZ Tq))))
  (xb (OT (Dc (pv 10) h8) (CY (pC (ok_ax T) hr T.ax.g T.ax.F.kp T.ax.b (f8 2 (qR 3 7 11)))))
  (xb (OT (Dc (pC (ok_bl T) hr T.bl.g T.bl.F.kp T.bl.b (xa eZ (lq 2 11))) (pv 10)) (E5 (pC (xel T) hr T.B_cm.g T.B_cm.F.kp T.B_cm.b (lC 11))))
  (gq (xd1 ztp (pC (xnv T) hr T.B_qi.g T.B_qi.F.kp T.B_qi.b (lq 1 9)) (pC (ok_bj T) hr T.bj.g T.bj.F.kp T.bj.b (xa (pC (xnv T) hr T.B_qi.g T.B_qi.F.kp T.B_qi.b (lC 11)) Tq)) nA)))))))),?_⟩
 refine sq8 ?_; intros; obtain⟨dr,R,D,pm,aA,a1,⟨aS,aI,O,lf,q⟩⟩:47:=h;have y:SymC C Gn zcF (seG G dn h'):=xng G dn;have J:=xuj D G dn;show(cI,ao,FX,D.nn,ai,(zVs).Nodup,J.nn);show(kZ,a4,D.le,ba,dr.pic.w2,bt,dr.pic.h2);show(cB,w1,dr.pic.w1,ak,xeu dr.lt);have aH:∀{room:iQ}{so ho cs},(zfU Ha)->cs.length<=12:=λ r=>by
  have z:=r.outs.2;unfold xat at z;rw[Za] at z;lia
 refine⟨a,dp,X,C,h',ps,ss,srt,rfl,dr,ao,λ H1 lk b0 bf br s1 _ e1 a0=>?_⟩;show(RX,O.det a0);refine⟨a,dp,X,C,h',ps,ss,srt,rfl,dr.same s1,ao,λ H2 lo qo bz be bq s2 _ e2 a6 az _=>?_⟩;show(RX,O.det az);show(cB,aM,a6.len,bm,aH O);refine h9 lo e2 lg aT;refine xbr (cN e2) qi aT (λ j y _=>zeJ (gC cs c)) wI (λ j x H5 hx s5 N hN=>?_) (tR H3 s3 e3 fy)
 .show(zIX,a6.get ap);exact UT qa (nD hq) zoS
 rw[xp4 (UH aM) fy] at e3;have al:=s2.trans s3;show(cB,aX,al _ _ e1,aG,R.same (s1.trans al));have en:zVs=xat ps:=y.nms
 show(Ia,SO H3 [iH,cX b,xX,As,d0 T',Af G,zig,UC,cX lg,none,none,none])
 .ext mz; refine(zIJ,aG,λ H4 bh aZ bd bp s4 _ e4 I=>?_);show(fV,ek,zMC I,ek,e4);show(dQ,(dM,1,1,_,_,xgs e4,(zq,xgs (pX aX),qd Ts)),(zIJ,aG.same s4,λ H5 aO bg bx bc bo s5 _ e5 a5 ay _=>?_));show(RX,I.det ay);rw[en] at I ek;show(cB,o5,a5.len,k5,aH I);refine h9 aO e5 l6 aU;refine xbr (cN e5) qi aU (λ j y _=>zeJ (gC aZ c)) wI (λ j x H6 hx s6 N hN=>?_) (gE ys6 H6 s6 e6 ly6 fy6)
  .show(zIX,a5.get ap);exact UT qa (uF hq) zoS
  rw[xp4 (nG ly6 Za o5) fy6,xsz O I ao ek] at e6;have ar:=s4.trans (s5.trans s6);exact(dM,1,1,_,_,xgs e6,(zq,xgs (ar _ _ e3),ifN Ts (lS ar)))
 ext zC H6 s6;have as:=al.trans s6;show(cB,ax,s1.trans as,aV,as _ _ e1);refine jB b U Y C h' _ ss' srt' rfl (ff,R.same ax,J,cm,cm,λ H7 tp ln us prs bw bb bn s7 e7 aC a2 ag a9 aB gp my cn _=>fU tp e7);have aq:=zMC ag;have a8:∀ s∈srt',seG G dn h' s∈srt:=λs hs=>by
  show(cD,z,hz,e,Ze.mp (pm.mem_iff.mp hs));rw[<- e,y.ss];exact hz
 have ms:(zqj,seG G dn h' s):=(jr,pm.mem_iff.mpr (Ze.mpr (fR s hs)));have et:totI C prs=T':=y.same D J ms a8 xp9 (Yp.of_eq aq) lf a9;have a7:∀ p∈prs,PtOk Nm Gn cO:=(qY,J.ok _ (ZR (gp.ok p hp).fd));show(cB,gb,y.gpr D gp,aN,y.may a7 pm my);show(cB,tb,y.tot prs,nb,(y.nmP prs).trans (aB.trans aq));have cb:=(y.cans (ss:=ss') (ss':=ss) (λ s=>by
  rw[<- dr.pm.mem_iff,<- R.pm.mem_iff];show(cU,(λ k=>by show(zeO,ms _ k,y.ss)),a8 s)) a7 (x45 J gp)).mpr cn
 have sh:=xzf cm D ak G dn pm gp gb;clear y aB aq a9 ag lf;show(cB,aw,ax.trans s7,aY,dr.same aw);show(vM,bv,aR,aY.pic,ztF aR ⟨ln,us,prs,Gn,G,dn,zcF,rfl,aC,a2,gp.le,(xng G dn).nm,gE H8 lb ub s8 e8 an⟩);show(cB,M,aw.trans s8,aJ,s7.trans s8);generalize hb:zfR zcF (seG G dn h')=bk at *;have ah:∀ p∈bk,MY:=(qY,ZR (gb.ok p hp).fd)
 ext zzO H8
 .ext mz; show(dQ,Ny (nT et),⟨lp,ls,lk,lb,ps,srt,bk,qs,rs,ub,rfl,(ib,M _ _ aA,a1.keep (Same.tups M),D.nn,a4,M _ _ aS,aI.keep (Same.tups M),(yr,?_,e8,an,gb.le,gb.ns,ah,aN,Rb H9 s9 s9))⟩);show(cW,nb,aJ _ _ aV)
 ext zC H9 s9;show(cB,am,M.trans s9,aF,dr.same am);show(y8,bu,aQ,aF.pic);show(cB,e9,s9 _ _ e8,a3,an.keep (Same.tups s9))
 ext zzO H9
 .ext mz; refine rF _ aQ ⟨lp,lb,Nm,ps,bk,qs,ub,rfl,am _ _ aA,a1.keep (Same.tups am),D.nn,a4,e9,a3,ah,λ b6 aa=>Ny (nT tb)⟩;have aj:=aF.same aa;refine⟨a,dp,X,lb,Nm,Gn,ps,ss,bk,ub,rfl,(iU,aj.pic,aj.sts,aa _ _ e9,a3.keep (Same.tups aa),gb.ok,fM b5 v aL tv)⟩;rw[cb] at tv;rcases tv with⟨_,rfl⟩|⟨c,_,_,z,_⟩
  .exact (qM,ifN jk (lS,aa.trans aL))
  cases z
 ext zC b4 aK;show(cB,L,s9.trans aK,af,M.trans L);refine⟨b,ln,U,Y,C,h',_,ss',srt',prs,us,rfl,(iU,R.same af,(s8.trans L) _ _ aC,a2.keep (Same.tups (s8.trans L)),gp.ok,gp.le,λ b3 bj ad _ aE=>?_)⟩;show(cB,ae,af.trans ad,ab,L.trans ad);refine⟨a,lb,dp,X,C,h',ps,ss,srt,bk,ub,rfl,(iU,dr.same ae,ab _ _ e8,an.keep (Same.tups ab),gb.ok,gb.le,λ b2 aP av _ aD=>?_)⟩;rw[sh.2] at aD;rw[sh.1] at aE;refine(dN,aP,xdj C h' (xcc C ps srt bk),C+2,G,dn,rfl,(iU,aD,?_,x26,cm,cm,λ b1 bi au aW=>(dM,1,1,_,_,xx7 ((av.trans au) _ _ aE),(Gx,xx7 aW,?_))))
 .unfold xdj;rw[Za,Z9];lia
 show(cW,xcq,q _ (ae.trans (av.trans au)))
def xtx (ps:zcZ) (p:B3) (x:Nat):Runs.step Ak x=(gH,dX+1,x,ps++[(cO,x)],Ak++[v0]):=by
 unfold Runs.step;rw[List.getLast?_concat]
 dsimp only
 rw[List.dropLast_concat]
def xo9 {b:Bool}{R:de} (o:pP):(zhd).flatMap Itm.ss=R.map (fE n (b,iu)):=by
 unfold xcb;by_cases c:R=[]
 .rw [kD,c];rfl
 rw [ja,Jy];show ((AJ).flatMap Wd.rs).map _=_;rw[xj2 o,Zq];rfl
def xn3 (b:Bool) (R:de) (h:Int):(zhd).flatMap (Itm.ps h)=[]:=by
 unfold xcb;split<;>rfl
def xvg {h:Int}{L R:de}{ps:cJ} (oL:N2) (oR:pP):(RK).flatMap Itm.ss=Ci:=by
 unfold xe3 lrSs;rw[Ji,Ji,xo9 oL,xo9 oR,Wy];rw[show (ps.flatMap λ a=>Itm.ss (.pt (pwOf h a)))=[] from List.flatMap_eq_nil_iff.mpr jV,Ju]
theorem xum {w h:Int}{L R:de}{ps:cJ} (ok:RA):(RK).flatMap (Itm.ps h)=ps:=by
 unfold xe3;rw[Ji,Ji,xn3,xn3,Wy];show []++[]++(ps.flatMap λ a=>[(pwOf h a).pt h])=ps;rw[WD,WD]
 induction ps with
 | nil=>rfl
 | cons p ps ih =>
  rw[Yr,ih λ q b=>ok q (Zl _ b),x03 (ok p Zm)];rfl
def xxm:∀ R:de,zvt->R=[]\/∃ m,zSR/\m∈R/\2*(zum).length<=nI:=by
 refine Runs.snocRec (λ_=>jF) λ R x ih inc=>.inr ?_;obtain⟨j,d⟩:=inc;rw[JX] at j;show(eY,x1,DQ,d x cy,lt,zVc,λ r f=>j.2.2 r f x cy,b,zvt,⟨j.1,λ r f=>d r (Z3 _ f)⟩)
 refine(eE,x,cG r f,cy,?_)
 .rcases Zy.mp f with z|z
  .show(fj,lt r z)
  ext yC z
 rcases ih b with rfl|⟨B,D,A,q⟩
 .show 2*1<=x+1;lia
 rcases Runs.main R b with rfl|⟨F,L,a,m,o⟩
 .cases A
 show(sJ,C,B,m,Nat.le_antisymm (o.mem _ A) (D _ o.last));have E:=lt _ A;rw[Runs.runs_snoc,o.rn,xtx];rw[o.rn,Zr] at q;split
 .rw [Zr];simp only[ZI] at q ⊢;lia
 rename_i c
 rw[Zr,Zr];simp only[ZI] at q ⊢;have:B+1≠x:=c;lia
def x16 {R:de} (o:pP):d6 AJ 12:=by
 unfold xc1;rw[Za];rcases xxm R o.inc with rfl|⟨m,_,b,d⟩
 .exact ZP _
 .show(fj,o.le m b)
def x23 {w h:Int}{L R:de}{ps:cJ} (w30:jJ) (h16:j8) (oL:N2) (oR:pP) (ok:RA):∀ i∈RK,i.Ok:=by
 have rim:∀ b R,pP->∀ i∈zhd,i.Ok:=λ b R o i d=>by
  unfold xcb at d;split at d
  .cases d
  rename_i c
  rw[Zp.mp d];show(dy,xwc o c,xpe o,x16 o)
 intro i d;rcases Zy.mp d with z|z
 .rcases Gi with y|y
  .exact rim _ _ oL i y
  exact rim _ _ oR i y
 show(me,p,f,Ze.mp z);exact xzc w30 h16 (ok p f)
def xy4 {h:Int}{L R:de}{ps:cJ} (l:Rz):d6 RK 14:=by
 ext zlw;unfold xe3;rw[Zr,Zr,Za];lia
def xuz {h:Nat}{srt:cF} (lt:PB) (bd:zOQ) (h16:j8) (b:Bool):xbl ((znJ).map λ s=>zyy)/\((znJ).map λ s=>zyy).map (fE n (b,iu))=srt.filter λ s=>zxg:=by
 have mem:∀ s∈znJ,(eX,i3,b,1<=fW,fW<=j6):=λs hs=>by
  show(u0,A,x,ZN.mp hs,of_decide_eq_true x,bd s A)
 show(pT,(vt,vt ?_ r j,r,j))
 .rw [Ja];refine JZ.imp_of_mem (λ{a c} v u z=>?_) (JZ.filter _ lt);show(kn,d,q,C,mem a v);show(kn,B,E,D,mem c u);rcases z with⟨z1,z2⟩|⟨_,z⟩
  .rw [<- B,z2] at d;ext gm z1 d
  lia
 .show(me,s,hs,Ze.mp j);obtain⟨_,q,_⟩:43:=zyk;lia
 .show(me,s,hs,Ze.mp j);obtain⟨_,_,C⟩:43:=zyk;lia
 rw [Zq];refine (ZF FF).trans (JQ _);ext Fm d q zyk;exact Yg d.symm (ziE (dk zyy) fW)
def x5n {h:Nat}{srt:cF} (lt:PB) (bd:zOQ) (h16:j8):∃ L R,srt.Perm (lrSs L R)/\N2/\pP:=by
 show(hI,j,q,xuz lt bd h16 true,b,o,xuz lt bd h16 false);refine d9 _ _ ?_ j b;unfold lrSs;rw[q,o];show(zeO,(List.filter_append_perm (Sf Gw) srt).symm,(j4,(λ s:Seat=>!(eA Gw)),λ s=>eA zid,funext λ s=>zed i3))
def xr9 (ns:gW):∃ ms:gW,cutV ER (some 2) (some 10)=ms.map V.int/\ms.length<=12:=by
 show(sK,(ns.drop (min 2 ns.length)).take (min 10 ns.length-min 2 ns.length))
 .unfold cutV;simp only[HT.sIx,Za];rw[zWM 2,zWM 10,Wo,Wp];rfl
 rw [Jm];lia
theorem xkb {K:Zd}{H:Hp}{tp ln:Addr}{prs:cS}{us:cM}{T:Int} (e:ji tp [Gm,.int T]) (el:znf ln) (pl:zct):iY 3 (.ref tp) (.tup [.lst (prs.map prD),.int T]) :=
 .tup (jP e) rfl λ j x d b c=>by
  match j with
  | 0 =>
   cases b;cases c;exact pl.dv el
  | 1 =>
   cases b;cases c;exact .int
  | j+2=>cases b
def x3p (T:cT):dB 12 t.f_qj t.d_qj ["_law_script"] (xm5 K):=by
 refine T.F_qj.okn (k:=11) xd6 (c7 Q E h) (cZ vs Q E hr h)
 .ext cV
 ext sY sc ns;refine⟨_,xb (Ez (pC (ok_a8 T) hr T.a8.g T.a8.F.kp T.a8.b pG) 1 xd6.nd 2)
  (xb (pS 3 xd6.nd (pC (ok_a1 T) hr T.a1.g T.a1.F.kp T.a1.b (lC 2)))
  (xb (pS 4 xd6.nd (pC (ok_ar T) hr T.ar.g T.ar.F.kp T.ar.b (xa zTE (xa zMi Cj))))
  (xb (pS 5 xd6.nd (pC (ok_au T) hr T.au.g T.au.F.kp T.au.b (f8 1 (qR 2 4 3))))
  (xb (Ez (zkN C3) 6 xd6.nd 7)
  (xb (zCC (wQ jt jt (xv h8 (wQ gM pV (wQ (xcd) (xcd) (xg))) rfl)))
  (xb (zkZ zkO)
  (xb (zkZ (mO jt T.c_a T.B_y.m (ok_y T) eG T.B_y.b))
  (xb (zkZ (mO zkO T.c_a T.B_y.m (ok_y T) eG T.B_y.b))
  (xb (pS 8 xd6.nd (mO zkO T.c_a T.f.m (ok_f T) eG T.f.b))
  (xb (OT (Bo (mO wg T.c_a T.d.m (ok_d T) eG T.d.b) h8) (Bo (mO wg T.c_a T.k.m (ok_k T) eG T.k.b) gM))
  (xb (pS 9 xd6.nd (pC (ok_av T) hr T.av.g T.av.F.kp T.av.b (gP (pC (ok_bc T) hr T.bc.g T.bc.F.kp T.bc.b C3))))
  (gq (xe9 (zHM 8) (xgo (zHM 9))))))))))))))),?_⟩
 refine sq13 ?_; intros; ext yE hs nl;show(dQ,(dW,sc,ns,rfl,hs,λ C h' H1 p1 w1 w2 h1 h2 s1 g1=>fU p1 g1),(nh,sc,ns,h',Same.seqL s1 hs,h2,λ ss rs H2 ls bu ak sb s2 bQ e2 aR=>?_));have aI:=s1.trans s2;have aa:SsOk Gn ss:=(cC,xeu ak,bu,sb)
 show(cD,ms,b4,bt,xr9 ns);refine lv 2 rfl 10 (nH,sc,Same.seqL aI hs,cG lc bz);rw[b4];generalize eu:upd H2 lc (.lst (ms.map V.int))=H3;show(iG,s3,bz,eu,g3,lv sc ns 0 (Gx,Same.seqL (aI.trans s3) hs,zMg));generalize zFc=dg;refine dN lc ms dg C h' rfl (ib,g3,bt,w1,w2,h1,h2,λ H5 lp ps qs j _ s4 bR aL aJ=>?_);show(cB,a4,s3.trans s4,br,aI.trans a4);show(cB,aK,a4 _ _ e2,aH,aR.keep (Same.tups a4));show(dQ,(jB,lp,ls,C,h',ps,ss,qs,rs,rfl,ib w1 w2 h1 h2 aL aJ ⟨46,j,aK,aH,aa,ak,gE H6 a dp M s6 aN⟩),jB a dp M C h' ps ss.reverse ss rfl (ff,aN,j,w2,h2,λ H7 tp ln us prs cs so ho s7 e7 bg aZ a6 lf _ _ _ _ ad=>fU tp e7));show(cB,a1,s6.trans s7,O,aN.same s7);show(tK,ay,a1 _ _ aL,au,aJ.keep (Same.tups a1),ax,a1 _ _ aK,ao,aH.keep (Same.tups a1));show(cI,a7,∀ ss':cF,ss'.Perm ss.reverse->R5,λ_ pm=>pm.trans (Qk _),bb,FX,j.nn);clear aL aJ aK aH e2 aR aN br a4;generalize hT:totI C prs=T' at *
 ext zku H7 none
 .ext mz; exact⟨a,a,lp,ls,dp,M,dp,M,C,h',ps,ss.reverse,ss,ss.reverse,ss,qs,rs,T',false,false,cs,so,ho,rfl,(ib,O,cK xnr O,j,hD xuv,ay,au,(ff,ax,ao,a6,lf,Rb H8 s8 s8))⟩
 ext znd
 .show(zDA,Dr.new (ps:=zqM) (ss:=zds) D I (xev j) zNF);exact⟨a,a',lp,ls,dp,M,ah,ai,C,h',ps,ss.reverse,ss,zds,srtO h' (ss'.map mirS),qs,rs,T',true,false,cs,so,ho,rfl,⟨47,O.same G,ac,j,(zwp).trans (J.map _),G _ _ ay,zbK G,(ff,G _ _ ax,PR G,a6,lf,(Rb,az,af,G.trans af))⟩⟩
 ext znd
 .show(zDA,Dr.new (ps:=ps.map (turP h')) (ss:=zpd) D I (xgv j) (xli (SsOk.perm J aa)));exact⟨a,a',lp,ls,dp,M,ah,ai,C,h',ps,ss.reverse,ss,zpd,srtO h' zpd,qs,rs,T',false,true,cs,so,ho,rfl,(ib,O.same G,ac,j,(zwp).trans (J.map _),G _ _ ay,zbK G,(ff,G _ _ ax,PR G,a6,lf,(Rb,az,af,G.trans af)))⟩
 ext znd
 .ext mz; ext zjH;ext zyZ;have ac:=Dr.new (ps:=(zqM).map (turP h')) (ss:=zbz) aj an (xgv (xev j)) (xli (SsOk.perm a9 a0));have av:(srtO h' zbz).Perm (ss.map (seG true true h')):=by
   refine ((zwp).trans ((zPV).map _)).trans (Yp.of_eq ?_);ext yo
  have X:=s8.trans (s9.trans af);exact⟨a,a2,lp,ls,dp,M,al,am,C,h',ps,ss.reverse,ss,zbz,srtO h' zbz,qs,rs,T',true,true,cs,so,ho,rfl,(ib,O.same X,cK xns ac,j,av,X _ _ ay,zbK X,(ff,X _ _ ax,PR X,a6,lf,(Rb,aO,Y,X.trans Y)))⟩
 ext zC H8 s8;ext zjH;ext zyZ;have b3:(zxq Nm).map (mirP C)=ps:=by
  show(XW,mirP Nm,mirP C,(zQn).pp)
 have av:(ae.map mirS).Perm ss:=by
  refine ((zPV).map _).trans (Yp.of_eq ?_);show(XW,mirS,mirS,(zQn).ss)
 rw[b3] at aj;have aC:Dr t az a2 al am C h' ps (ae.map mirS) ss:=zJC aj an av av.symm
 have X:=s8.trans (s9.trans af)
 show(zku,az,cX a2)
 .ext mz; show(vM,bm,be,aC.pic,⟨a2,bm,_,rfl,be,fb,a2,al,am,_,_,ps,rfl,aC.pic,gE aO bO bL Y b6 aW⟩);have U:=X.trans Y;refine(dM,2,2,_,_,aW.dv b6,(zq,(zbK U).dv (U _ _ ay),qd Ts));have ab:=aC.same Y;refine⟨a2,bm,_,rfl,Y _ _ be,fb,a2,al,am,_,_,ps,_,rfl,ab.pic,ab.sts,λ bv aQ aP bf aS ba bc=>?_⟩;show(jp,aQ=ss,xda xdw (ba.trans av) bc ak);generalize eu:upd aO bv (.lst (aP.map V.ref))=bE;have ar:=su_e bf eu;show(cB,b2,ug_e eu,aF,U.trans ar);exact(dM,2,2,_,_,(aS.keep (Same.tups ar)).dv b2,(zq,(PR aF).dv (aF _ _ ax),ifN Ts (lS,Y.trans ar)))
 ext zC aO Y;show(cB,U,X.trans Y,ab,O.same U);show(hJ,L,R,a8,aB,aA,x5n ak sb h2);have bP:=xy4 (h:=Gn) (L:=L) (R:=R) j.le;show(dQ,⟨a,dp,M,C,h',ps,ss.reverse,L,R,rfl,(ib,ab.pic,ab.sts,(Qk _).trans a8,aB,aA,j.ok,λ bE bd ar _ b5=>?_)⟩,(iT,bd,C,h',xe3 h' L R ps,(yr,b5,⟨w1,w2⟩,⟨h1,h2⟩,x23 (w:=Nm) cm cm aB aA j.ok,cm,?_,?_,λ bD a3 bn bo bq _ _ _ aG aD=>?_)))
 .rw [xvg aB aA];exact SsOk.perm a8.symm aa
 .show(eO,xum j.ok,j)
 rw[xum j.ok] at aG;rw[xvg aB aA] at aD;have b8:Dr t bD a3 bn bo C h' ps Ci ss:=zJC aG aD a8.symm a8
 have as:=ar.trans bq;show(cB,b7,aC.same (Y.trans as),aU,U.trans as);refine jB a2 al am C h' ps _ ss rfl (ff,b7,j,w2,h2,λ bC bK bN bI bG _ _ _ aV bl bj aY _ _ _ _ _ _ bA=>?_);show(uq,ad.det bb bA);have aT:=aU.trans aV;ext pU q5 bx;generalize eu:tH bC q5 Gm T'=bT;have aq:=su_e bx eu;show(cB,b1,ug_e eu,ap,aT.trans aq);rw[hT] at bl;show(dQ,(dM,3,3,_,_,xkb (aq _ _ bl) (aq _ _ bj) (aY.keep (Same.tups aq)),⟨44,xkb b1 (ap _ _ bg) (aZ.keep (Same.tups ap)),cE,cE,(cC,true,hD xcq,ifP rfl ?_)⟩),jB a3 bn bo C h' ps _ ss rfl (ff,b8.same (aV.trans aq),j,w2,h2,λ bB bJ bM bH bF _ _ _ bp bi bh aX _ _ _ _ _ _ b9=>?_));show(uq,ad.det bb b9);ext pU q7 bw;generalize eu:tH bB q7 Gm T'=bS;have a5:=su_e bw eu;show(cB,b0,ug_e eu,aE,(ap.trans bp).trans a5);rw[hT] at bi;refine(dM,3,3,_,_,xkb (a5 _ _ bi) (a5 _ _ bh) (aX.keep (Same.tups a5)),(Gx,xkb b0 (aE _ _ bg) (aZ.keep (Same.tups aE)),?_));rw[xcq];exact q _
#check _
#check S93
-- the names of the twins of whole trees and heaps are xcs here,so that the head makes no such twins (they are what makes its compiled file large); see NOTE.md
namespace PySem.W.Fast
#print"cw_rimnotes_k93_whole_mirrors_holds _47 tree_1 _22 tree_1 _14 tree_1 _21 tree_1 _21 tree_1 _21 tree_1 _21 tree_1 _21 tree_1 _21 tree_1 _14 tree_1 _21 tree_1 _21 tree_1 _21 tree_1 _21 tree_1 _21 tree_1 _21 tree_1 _21 tree_1 _22 tree_1 _42 tree_1 _49 tree_1 _54 tree_1 _53 tree_1 _51 tree_1 _28 tree_1 _141 tree_1 _79 tree_1 _80 tree_1 _79 tree_1 _77 tree_1"
#print"cw_rimnotes_k93_whole_mirrors_holds _43 o_1 _1 o_2 _2 o_1 _1 o_1 _1 o_9 _1 o_9 _1 o_5 _1 o_8 _1 o_5 _1 o_3 _1 o_11 _1 o_5 _1 o_3 _1 o_11 _1 o_5 _1 o_3 _1 o_11 _1 o_5 _1 o_3 _1 o_11 _1 o_5 _1 o_3 _1 o_11 _1 o_5 _1 o_3 _1 o_11 _1 o_5 _1 o_8 _1 o_5 _1 o_3 _1 o_11 _1 o_5 _1 o_3 _1 o_11 _1 o_5 _1 o_3 _1 o_11 _1 o_5 _1 o_3 _1 o_11 _1 o_5 _1 o_3 _1 o_11 _1 o_5 _1 o_3 _1 o_11 _1 o_5 _1 o_3 _1 o_11 _1 o_4 _1 o_3 _1 o_13 _1 o_5 _1 o_3 _1 o_6 _1 o_6 _1 o_6 _1 o_11 _1 o_5 _1 o_3 _1 o_6 _1 o_6 _1 o_6 _1 o_11 _1 o_6 _1 o_1 _1 o_4 _1 o_4 _1 o_4 _1 o_4 _1 o_6 _1 o_6 _1 o_6 _1 o_4 _1 o_6 _1 o_4 _1 o_3 _1 o_6 _1 o_6 _1 o_13 _1 o_4 _1 o_6 _1 o_4 _1 o_1 _1 o_7 _1 o_3 _1 o_4 _1 o_4 _1 o_6 _1 o_6 _1 o_13 _1 o_1 _1 o_4 _1 o_6 _1 o_6 _1 o_6 _2 o_1 _1 o_4 _1 o_3 _1 o_7 _1 o_6 _1 o_6 _1 o_6 _1 o_6 _1 o_6 _1 o_4 _1 o_6 _1 o_6 _1 o_6 _1 o_6 _1 o_4 _1 o_6 _1 o_4 _1 o_4 _1 o_6 _1 o_6 _1 o_4 _1 o_12 _1 o_4 _1 o_3 _1 o_7 _1 o_6 _1 o_6 _1 o_6 _1 o_6 _1 o_6 _1 o_4 _1 o_6 _1 o_6 _1 o_6 _1 o_1 _3 o_1 _1 o_1 _1 o_6 _1 o_4 _1 o_4 _1 o_6 _1 o_6 _1 o_4 _1 o_6 _1 o_6 _1 o_6 _1 o_6 _1 o_4 _1 o_6 _1 o_1 _1 o_6 _1 o_4 _1 o_6 _1 o_4 _1 o_4 _1 o_6 _1 o_6 _1 o_6 _1 o_6 _1 o_6 _1 o_6 _1 o_6 _1 o_1 _1 o_6 _1 o_6 _1 o_6 _1 o_6 _1 o_6 _1 o_6 _1 o_6 _1 o_4 _1 o_4 _1 o_4 _1 o_4 _1 o_5"
#print"cw_rimnotes_k93_whole_mirrors_holds _39 heap_1 _6 heap_1 _1107 heap_1"
#print"cw_rimnotes_k93_whole_mirrors_holds _49 sts_1 _36 sts_1 _21 sts_1 _21 sts_1 _21 sts_1 _21 sts_1 _21 sts_1 _36 sts_1 _21 sts_1 _21 sts_1 _21 sts_1 _21 sts_1 _21 sts_1 _21 sts_1 _21 sts_1 _22 sts_1 _42 sts_1 _49 sts_1 _54 sts_1 _53 sts_1 _51 sts_1 _30 sts_1 _222 sts_1 _77 sts_1 _79 sts_1"
#print"cw_rimnotes_k93_whole_mirrors_holds _39 view_1"
def tw11384235097153116471:=Nat
#check PySem.W.Fast
namespace S93
open PySem L2 XL
def walk {l:PySem.W.OpenLaw}{q:Program}{loose:cH}{XP:ztc}{YP:zqF}{d:DefRec}{K:Params->Zd} (hn:cu l.most 63) (hdf:znN)
    (hY:(zJU,(zH).In h))
    (F:∀(w:World) (mg:Str->Option Value) (fa:Addr) (h:Heap),(zH).In h->yX->zrl ->
      ∃ fd:FuncData,(zld [("_law_script",u)])/\(zbI,(zH).In base,FnOk true l.prog w zH mg base zsU 12 fa fd zVM zSu)) :
    zBC :=
  L2.walk_of (q0:=true) (n:=63) (k:=12) (x:="_law_script") (CX:=λ w=>zsU) (sp:=λ w=>zSu) hn cE hdf (du iN cE cE rfl) hY F (λ_ _ a ns hl _ hS=>dM a ns rfl hS hl iN)
    λ w H s e s' z=>by obtain⟨_,_,_,_,_,_,_,_,_,_,_,_,_,_,q⟩:=z; exact q
def all_mk {l:PySem.W.OpenLaw}{w:World}{K:Zd}{h:Heap}{mg:gF}{fa:Addr} (hfa:yd "law" fa) (TT:∃ t,cT) :
    ∃ fd:FuncData,(∀(s:Shared) (v:Value),zgW (m7 [v]) [("_law_script",v)])/\(zbI,zwF,FnOk true l.prog w K mg base zsU 12 fa fd zVM (xm5 K)):=by
  obtain⟨t,T⟩:=TT;have e:=hfa.symm.trans T.g_qj;cases e;show(eW,t.d_qj,zyi,λ base _ _=>x3p T);obtain⟨z,od,B,i,u,D,j,C,b,e,A,c⟩:=T.F_qj.ex;rw[e];exact .of_eq rfl
#check S93
open PySem PySem.W PyProof.Rows
end
set_option maxRecDepth 100000 in
set_option maxHeartbeats 0 in
theorem PySem.Challenge.cw_rimnotes_k93_whole_mirrors_holds : PySem.Challenge.rw_rimnotes_k93_whole_mirrors.Holds := by
 w_on; o_law; k_head; (case hw=>w_witness2)
 k_fill
 refine S93.walk (l:=PySem.Challenge.rw_rimnotes_k93_whole_mirrors) rfl rfl (fun w h Y=>PySem.W.kIn_of Y) ?F
 case F =>
  intro w E J h D G A
  refine S93.all_mk (h:=h) A ?TT
  refine' S93.txt_mk (w:=w) D G ?g_b6 ?g_q ?g_e ?g_p ?g_c ?g_a ?B_a3 ?B_an ?B_as ?B_aa ?B_ad ?B_ap ?B_w ?B_ab ?B_ay ?B_c7 ?B_c8 ?B_c9 ?B_az ?B_cm ?B_ak ?B_cu ?B_cy ?B_aq ?B_s ?B_g ?B_qb ?B_qd ?B_a5 ?B_qe ?B_a0 ?B_ah ?B_ae ?B_x ?B_o ?B_qg ?B_qh ?B_ai ?B_bo ?B_ao ?a_b ?l_b ?c_b ?k_b ?i_b ?t_b ?B_n ?B_d ?B_k ?B_l ?B_ag ?B_u ?B_r ?B_f ?B_y ?B_h ?B_v ?B_m ?B_i ?B_t ?B_qi ?B_bm ?B_af ?B_a2 ?B_a4 ?B_av ?B_bg ?B_be ?B_bp ?B_ba ?B_bn ?B_am ?B_aj ?B_bf ?B_bc ?B_bi ?B_bh ?B_aw ?B_ac ?B_al ?B_a8 ?B_a1 ?B_at ?B_a9 ?B_ar ?B_bk ?B_au ?B_bd ?B_bs ?B_a6 ?B_ax ?B_bl ?B_bj ?B_z ?a_qj ?F_qj ?kc_q ?pg_q ?hd_q ?po_q ?sa_q ?mk_q ?a_LeftSide_init ?kc_e ?pg_e ?hd_e ?po_e ?sa_e ?mk_e ?a_RightSide_init ?kc_p ?pg_p ?hd_p ?po_p ?sa_p ?mk_p ?kc_c ?pg_c ?hd_c ?po_c ?sa_c ?mk_c ?kc_a ?pg_a ?hd_a ?po_a ?sa_a ?mk_a ?cg ?ct ?n_bw ?n_bq ?n_bb ?n_a7 ?n_bu ?n_br ?n_bt ?n_bx ?n_bz ?n_b0 ?n_bv ?n_by ?n_b3 ?n_abs ?n_bool ?n_dict ?n_enumerate ?n_int ?n_isinstance ?n_len ?n_list ?n_min ?n_range ?n_reversed ?n_set ?n_sorted ?n_str ?n_sum ?n_zip ?v_b4 ?v_b1 ?v_b2 ?g_j ?l_j ?ns_j
  case g_b6|g_q|g_e|g_p|g_c|g_a|a_qj|g_j=>delta S93.gI; k_is
  case B_ab|B_ay|B_c7|B_c8|B_c9|B_az|B_cm|B_ak|B_cu|B_cy|B_qb|B_qd|B_a5|B_qe|B_qg|B_qh|B_ai|B_bo|B_t|B_qi|B_bm|B_af|B_a2|B_a4|B_av|B_bg|B_be|B_bp|B_ba|B_bn|B_am|B_aj|B_bf|B_bc|B_bi|B_bh|B_aw|B_ac|B_al|B_a8|B_a1|B_at|B_a9|B_ar|B_bk|B_au|B_bd|B_bs|B_a6|B_ax|B_bl|B_bj|B_z=>constructor; delta S93.gI; k_is; exact L2.fun_mk (by k_is) (by k_is) (by k_is)
  case B_a3|B_an|B_as|B_aa|B_ad|B_ap|B_w|B_aq|B_s|B_g|B_a0|B_ah|B_ae|B_x|B_o|B_ao|B_n|B_d|B_k|B_l|B_ag|B_u|B_r|B_f|B_y|B_h|B_v|B_m|B_i=>constructor; delta S93.fI; k_is; exact L2.fun_mk (by k_is) (by k_is) (by k_is); k_is
  case a_b|a_LeftSide_init|a_RightSide_init=>delta S93.fI; k_is
  case F_qj=>exact L2.fun_mk (by k_is) (by k_is) (by k_is)
  case sa_q|sa_e|sa_p|sa_c|sa_a=>delta S93.fB; k_is
  case n_bw|n_bq|n_bb|n_a7|n_bu|n_br|n_bt|n_bx|n_bz|n_b0|n_bv|n_by|n_b3=>delta S93.fN; k_is
  case n_abs|n_bool|n_dict|n_enumerate|n_int|n_isinstance|n_len|n_list|n_min|n_range|n_reversed|n_set|n_sorted|n_str|n_sum|n_zip=>delta S93.gN; k_is
  case l_b|c_b|k_b|i_b|t_b|kc_q|pg_q|hd_q|po_q|kc_e|pg_e|hd_e|po_e|kc_p|pg_p|hd_p|po_p|kc_c|pg_c|hd_c|po_c|kc_a|pg_a|hd_a|po_a|cg|ct|v_b4|v_b1|v_b2=>k_is
  case mk_q|mk_e|mk_p|mk_c|mk_a|l_j=>first|k_is|kernel_rfl
  case ns_j=>kernel_rfl
