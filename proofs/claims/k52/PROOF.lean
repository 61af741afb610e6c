import PyProof.Rows.All
import Wide.All
import OpenK.AllK
import Wide.FinOn
import Lean
import PyProof.EqAt
import PyProof.EqKinds
import PyProof.TupleCall
import PySem.Challenge.RW_yesorno_k52_whole_yes
set_option bootstrap.genMatcherCode false
set_option Elab.async false
set_option linter.all false
set_option compiler.extract_closed false
set_option genSizeOf false
set_option maxRecDepth 100000
set_option maxHeartbeats 8000000
namespace J
open Lean
def n(k:Name)(a:Array Syntax):Syntax:=.node .none k a
def t(s:String):Syntax:=.atom .none s
def q(s:String)(a:Array Syntax):Syntax:=n (.str `Lean.Parser.Term s) a
def c(a:Array Syntax):Syntax:=n `null (a.foldl (λb x=>if b.isEmpty then #[x] else (b.push (t ",")).push x) #[])
def a(x:Array Syntax):Syntax:=if x.size<2 then x.getD 0 .missing else q "app" #[x[0]!,n `null (x.extract 1 x.size)]
def l(x y:Array Syntax)(s:String):Syntax:=
 let r:=(s.drop 1).toString
 let h:=q "hole" #[t "_"]
 let f:=s.front
 if f=='$' then x[r.toNat!]! else if f=='%' then y[r.toNat!]! else if s=="_" then h else if s=="?_" then q "syntheticHole" #[t "?",h] else if f=='.' then q "dotIdent" #[t ".",mkIdent r.toName] else if f.isDigit then n `num #[t s] else if f=='"' then n `str #[t s] else mkIdent s.toName
def g(s:String)(e:Array Syntax):Syntax:=if s=="⟨" then q "anonymousCtor" #[t s,c e,t "⟩"] else if s=="[" then n `«term[_]» #[t s,c e,t "]"] else if s=="(" then e[0]! else q "namedArgument" #[t "(",mkIdent (s.dropEnd 2).toString.toName,t ":=",e[0]!,t ")"]
def k(x y:Array Syntax):Nat→List String→Array Syntax→Array Syntax→Option (String×Syntax)→Array Syntax×List String
|0,r,_,e,_=>(e,r)
|m+1,r,b,e,p=>
 let z:=e.push (match p with|none=>a b|some (o,w)=>if o=="→" then q "arrow" #[w,t o,a b] else n (.mkSimple ("term_"++o++"_")) #[w,t o,a b])
 match r with
 |[]=>(z,[])
 |v::r=>if [")","⟩","]"].contains v then (z,r) else if v=="," then k x y m r #[] z none else if ["(","⟨","["].contains v then
   let (s2,r):=match v,r with|"(",q::r'=>if q.endsWith ":=" then (q,r') else (v,r)|_,_=>(v,r)
   let (u,r):=k x y m r #[] #[] none
   k x y m r (b.push (g s2 u)) e p
  else if ["=","≠","≤","<","∈","∉","∧","∨","→","+","++","::","-","×"].contains v then k x y m r #[] e (some (v,a b)) else k x y m r (b.push (l x y v)) e p
def w(s:String):List String:=((s.foldl (λ(b:List String×String) d=>if "()⟨⟩[], ".contains d then (if d==' ' then (if b.2=="" then b.1 else b.2::b.1,"") else (d.toString::(if b.2=="" then b.1 else b.2::b.1),"")) else (b.1,b.2.push d)) ([],"")) |>(λb=>if b.2=="" then b.1 else b.2::b.1)).reverse
def u(s:String)(a:Array Syntax):Syntax:=n (`Lean.Parser.Tactic++s.toName) a
def p:Nat→Syntax→Syntax
|0,s=>s
|m+1,s=>if s.isIdent then u "rcasesPat.one" #[s] else if s.getNumArgs<2 then u "rcasesPat.ignore" #[t "_"] else u "rcasesPat.tuple" #[t "⟨",n `null ((s[1].getArgs.flatMap λx=>if x.isOfKind `null then x.getArgs else #[x]).map λx=>if x.isAtom then x else u "rcasesPatLo" #[u "rcasesPatMed" #[n `null #[p m x]],n `null #[]]),t "⟩"]
theorem x{a:Prop}(h:∀G:Prop,(a→G)→G):a:=h a id
def T:="
V_a FT K $0 $0 $1 $2 $3
V_b F.ok $0 %11
Ja some (.ref $0)
Xa $0 = some $1
Qa upd $0 $1 (.lst $2)
Va aa (pv $0) $1
Ya some (.int $0)
Wa Xa $0 (.lst $1)
Ga wpAny (model $0 $1) $2 $3 $4 $5 $6
Ia Inv $0 pins $1 $2 $3
Ma List.mem_append_left _ $0
Na List.mem_append_right _ $0
Jb List.mem_cons_of_mem _ $0
Xb aS $0 $1 $2 $3 base $4 $5 $6 $7 $8 $9
Qb List ($0 × $1)
Vb starEach $0 X.env
Yb W.nsIn $0 mainGlobals $1
Wb ae $0 (ae $1 $2)
Ub cC PySem.F.plainAttrs_list $0 $1 $2 $3 $4
Gb aa $0 ac
Ib bM PassesOwn.never $0 $1 $2 $3
Mb upd $0 $1 (.tup $2)
Nb aI $0 (pv $1) $2
Jc .inl (SqL.of $0)
Qc upd $0 $1 (.dK $2)
Vc eval $0 X.env
Uc Q (.ref $0) $1
Gc Xa (H $0) $1
Ic $0 ≤ sizeLine
Nc ⟨$0,rfl,$1⟩
Jd Va $0 ac
Xd ap $0 H'
Qd ⟨%1,$0⟩
Vd List.mem_map.mpr ⟨$0,$1,$2⟩
Yd s.heap.objs.size + $0
Ud aj (aT $0)
Gd bX $0 $1 %9
Id ⟨$0,$1,?_⟩
Md absurd $0 Bool.false_ne_true
Je %10 < $0
Xe aV (pv $0) rfl
Ve aw $0 $1 $2 %7
Ye ⟨$0,rfl⟩
We Xa (X.env.cells.lookup $0) $1
Ue Ia $0 σ $1 $2
Ie aB $0 $1 rfl (Or.inl rfl) $2
Me .cons $0 (.cons $1 $2)
Jf $0 = Value.ref $1
Xf Hu $0 $1 $2 $3 $4 $5 $6 most $7 $8 $9
Vf aN $0 $1 (ai $2)
Uf $0 = none
Gf Uf (H $0)
Mf Xa (X.env.kindOf $0) $1
Nf bo %8 $0
Jg Uf (mg $0)
Xg br $0 (Sum.inl $1)
Qg Nat.lt_of_lt_of_le (hLq $0) $1
Vg aF $0 rfl $1 $2 $3
Yg .inr ⟨$0,$1⟩
Wg aX $0 (pv $1) $2
Gg wpAny_bind (wpAny_seqItems $0 $1 $2)
Ig List.mem_filter.mpr ⟨$0,$1⟩
Mg Nat.le_trans $0 %1
Ng FB $0 $1 $2 $3 base $4 $5 $6 $7 $8 $9 $10
Jh ⟨$0,$1,$2,rfl,$3⟩
Xh $0 = true
Qh model X.prog $0
Vh absurd $0 %4
Yh InR T.length $0
Wh .ins $0 dx $1
Uh .inl ⟨$0,$1⟩
Ih aa $0 (Gb $1)
Mh SqT K $0 $1 $2
Ji W.findIn $0 (.ref $1) $2
Xi wpAny _ $0 $1 $2 $3 $4
Qi .inl ⟨$0,$1,$2⟩
Vi SqL K $0 $1 $2
Yi eV $0 $1 $2 $3 (PyProof.Rows.callWith_type1 $4 $5 $6)
Wi .Call (.Name $0 $1) $2 $3 $4
Ui wpAny_bind (wpAny_pure $0)
Gi relabel scope $0
Vj eH $0 $1 $2 $3 %0 %0 $4 $5 %0 $6 $7 $8 $9 $10
Yj au $0 $1 rfl $2 $3 $4 .nil $5 $6
Uj Ve K $0 $1
Gj [.ref $0]
Ij Nb aQ $0 $1
Jk ax (pv $0) T.cl $1 $2 $3 $4 .nil $5 $6
Qk Ue X $0 $1
Vk Xa (H' $0) $1
Yk Ij $0 af
Uk [\"_law_problem\",$0]
Gk upd H $0 $1
Ik model prog $0
Nk [\"self\",$0]
Jl Around.under_plainId $0 _
Xl $0 = .ref $1
Ql Wa (H' $0) $1
Vl wpAny_bind (wpAny_holding $0)
Yl List (List $0)
Wl Qb $0 Int
Ul ⟨$0,rfl,$1,$2⟩
Il ar K $0 $1 $2
Ml $0 < s.heap.objs.size
Nl Has.lst' (SqL.of $0) $1
Qm [\"_law_script\",$0]
Vm Qk H $0
Ym OpR $0 (compareOp $1) $2
Wm aW $0 _
Gm lvF ts $0
Im cnt (ts.take $0)
Mm ⟨$0,?_⟩
Xn absurd $0 (Nat.not_lt_zero $1)
Qn backTo $0 (Vb $1)
Yn List.nodup_append.mpr ⟨$0,$1,$2⟩
Wn codeAny_builtin $0 ?_
Gn ⟨$0,$1,rfl,$2,$3⟩
Mn Xd $0 → $1
Nn Wb (Ie $0 $1 $2) $3 $4
Jo wpAny_bind (wpAny_rule $0)
Xo Xa $0 none
Qo PE X $0 $1
Yo Q (.bl $0) $1
Wo hr.mono $0 %1
Uo Wa (H $0) $1
Go Yj $0 $1 $2 $3 $4 $5 (Va $6 $7)
Mo ag $0 (A.deeper $1)
No Q (.int $0) $1
Jp lrn $0 ts $1 $2
Xp I.hok.fresh (nRq $0)
Qp aj (ah $0)
Vp envOfC $0 $1 s.heap.objs.size $2 $3
Up bo %2 $0
Gp Xb $0 w $1 mg CX0 $2 $3 $4 $5 $6
Mp Gp P K $0 $1 $2 $3 $4
Np $0 → Option $1
Jq PySem.W.kia_one $0 I.kIn $1 $2 $3 $4
Xq Xa (sc.names.lookup $0) $1
Qq Id _ $0
Vq absurd $0 %1
Yq [\"problem\",$0]
Uq nwH $0 (.lst $1)
Gq PrD $0 $1 $2 $3 $4 $5 $6 $7 As $8
Iq $0 → Uc $1 $2
Mq Calls.callWith_builtin $0 (Calls.evalArgs_plain $1)
Nq Vg $0 T.len bLq $1
Jr Inv X $0 $1 $2 $3
Xr [.int $0,$1]
Qr Xr $0 (.int $1)
Vr Gb (Xe $0)
Yr wpAny_pure ⟨$0,$1⟩
Wr Has.tup' (SqT.of $0) $1
Ur U.u.pp.keep $0 U.u.pn
Mr absurd $0 (Nat.lt_irrefl $1)
Nr X.s₀.heap.objs.size ≤ $0
Js ⟨%5,$0⟩
Xs $0 < cLine
Vs [\"self\",$0,$1]
Ys Vs $0 \"other\"
Us ba $0 $1 rfl (Or.inl rfl)
Ms zaz $0 (.inl $1) $2
Jt $0 ≤ 1000
Xt ts.length - $0
Vt Heap.SameBut $0 $1 h'
Yt wpAny_bind (wpAny_specialOf $0 $1 $2)
Wt Jh (.ref $0) $1 $2 $3
Mt zaR (top $0) $1
Nt gsF As $0
Ju dV As.length $0
Xu Il H $0 $1
Qu ⟨_,$0⟩
Vu Gc $0 (.dK $1)
Yu Nc _ $0
Wu Uj $0 (Nk $1)
Uu wpAny_bind (wpAny_field $0 $1 $2 $3 $4)
Gu Ng $0 $1 $2 mg CX0 $3 $4 $5 $6 $7 $8
Nu ar.keep $0 (cu $1) $2
Jv Qu (SqL.of $0)
Qv ⟨$0,rfl,$1,$2,$3,$4⟩
Vv plainId_quiet $0 _
Yv ⟨$0,$1,rfl,$2⟩
Wv ar.append $0 (ar.one $1)
Uv [$0,$1,.int $2]
Iv Uv $0 (.int $1) $2
Mv ay $0 rfl
Nv Ga X.prog X.w $0 $1 $2 $3 $4
Xw $0 :: rest
Qw U.u.kn.keep $0 (du $1)
Vw Vk $0 (.tup $1)
Ww Vi H $0 $1
Uw smF As $0
Iw di $0 $1 $2 PyProof.Rows.Boot.tuple $3
Mw Wg $0 $1 af
Nw Mh H $0 $1
Xx $0 = false
Qx wpAny_bind (wpAny_letGo $0)
Yx Jp Rs $0 $1
Wx $0 = Value.bool $1
Ix Fun K $0 $1 $2 f fd
Mx Gk $0 (.own $1)
Nx $0 ≠ X.env.locals
Jy Xa (K.lookup $0) $1
Xy Wt s.heap.objs.size $0 $1 $2
Qy sIx items.size $0 $1
Vy di $0 $1 $2 PyProof.Rows.Boot.list $3
Yy PySem.W.findIn $0 (.ref $1) $2
Wy .cons $0 .nil
Uy hsF As $0
Gy Iv (.int $0) $1 $2
Iy cP $0 (.builtin $1) $2
My wpAny_pure (wpAny_pure $0)
Ny Nv X.A $0 $1 $2 $3
Jz absurd $0 c
Xz hG _ $0
Vz wpAny_bind (wpAny_tryCatch $0)
Yz Jk $0 $1 $2 $3 $4 aJ $5
Wz .builtin $0 ⟨$1,$2⟩
Gz cx (bsz $0 $1) $2 $3 $4 $5
Iz Int × $0
Mz xs.length = $0
Nz TOk $0 ts
JA U.u.tr.keep $0 (cu $1)
XA Nq ak $0
QA S.ts.take $0 ++ $1
VA Gf $0 → $1
YA Builtin.SmallTypes.nextOf (.ref $0)
GA iv $0 $1 $2 $3 %0 %0 $4 $5 %0 $6 $7 $8 $9 $10 $11
MA Xf K C $0 $1 $2 $3 pr $4 $5 $6
JB PySem.W.instObj $0 s.heap.objs.size
XB Has $0 H $1 $2
QB zbP $0 (Sum.inl $1)
VB ap $0 (Mb $1 $2 $3)
YB Nat.ne_of_lt (Qg $0 $1)
WB upd $0 $1 (Wh $2 $3)
UB $0 < ts.length
GB ⟨$0,$1,rfl⟩
IB [.ref $0,$1]
MB Gc $0 (.tup $1)
JC IB $0 (.ref $1)
XC Ga prog $0 $1 $2 $3 $4 $5
QC Xu (ts.map $0) $1
VC wpAny_bind (wpAny_typeOf $0 $1)
YC Rch $0 most $1 $2
WC aA $0 $1 af
UC Qa $0 $1 %7
MC bD $0 (tkv $1)
NC clR $0 As
JD Ww $0 xs
XD typeLookup (.type $0) $1
QD zc2 $0 (hdL $1)
VD br $0 (.inl $1)
WD bc $0 us
UD congrArg List.length $0
GD hdL (L.take $0) $1
ID Mn H $0
MD Xa (Uw $0) $1
JE Ib rfl $0 (Us $1 $2) $3
XE Jh (.bl $0) $1 $2 $3
QE ⟨$0,$1,I.tok $2,$3,$4⟩
VE some (.builtin $0)
YE List.length_filter_le _ $0
WE zaz $0 (Sum.inl $1) $2
UE cnt (S.ts.take $0)
GE absurd rfl $0
IE Ny $0 $1 X.xe $2
ME OpR $0 (binaryOp $1) $2
NE $0 < sizeLine
JF PW.pt (eG $0 $1)
XF IB $0 (.int $1)
QF k $0 %4 $1 $2
YF aZ S.rs S.ts $0
WF bsF $0 (S.ts.take $1)
IF CX1 P $0
MF Iq $0 $1 H'
NF Mp $0 f fd $1 $2
JG wpAny_bind (wpAny_updateSeq $0 $1 $2)
XG aO $0 $1 $2 $3 $4 base $5 $6 $7 $8 $9 $10 outer $11 $12 $13
QG Qp (Yz $0 $1 $2 $3 $4 $5)
VG .Name x $0
WG aX $0 $1 af
UG Uf (X.mg $0)
GG Go $0 $1 $2 $3 $4 aJ $5 $6
IG wpAny_bind (wpAny_standAt $0)
NG .inr ⟨$0,$1,$2,$3⟩
JH Nat.le_add_right _ $0
XH eb $0 %5 $1
VH Xr $0 (.ref $1)
YH XA (Jd $0)
WH HT.sIx xs.length $0 $1
UH PW.pt (dZ $0 $1)
IH bn $0 u
JI ts.length ≤ $0
XI ⟨$0,rfl,$1,$2,$3,$4,$5,$6,$7,$8,$9⟩
QI W.kitOne $0 $1 (.type $2)
VI cc cg $0
WI Xi $0 $1 _ _ $2
UI Ms $0 $1 (.ref $2)
GI WI A.in1 $0 $1
II V_b $0 hr
MI [\"_law_problem\",$0,$1]
NI Loc X.env.scope $0
JJ aq (Ne.symm $0)
XJ ⟨$0,rfl,$1,$2,$3,$4,$5,$6,$7,$8,$9,$10,$11⟩
QJ Ud (pv $0)
YJ Ye (Wm $0)
WJ Vs \"part\" $0
UJ XA (Vr $0)
GJ wpAny_pyIter_list $0 ?_
IJ h $0 List.mem_cons_self
MJ aZ $0 ts $1
NJ wgt n $0 $1
QK bK $0 S.hs
YK Xl x $0
WK MJ Rs $0
UK pyNext (.ref $0)
GK $0 = Value.none
JL jw $0 $1 $2 %0 %0 %0
XL b_ (hdL $0) $1
QL .BoolOp $0 $1 pos
VL I.hok $0 _ $1
YL zaz kvs $0 $1
WL Me $0 $1 .nil
UL Uo $0 xs
IL Addr × $0
ML $0 :: es
NL ⟨$0,rfl,$1,$2,$3,$4,$5,$6,$7,$8,$9,$10⟩
JM Xa (Yb $0 $1) $2
XM aa $0 (Ih $1 $2)
QM wpAny_bind (wpAny_bind $0)
VM tO (nRq $0)
WM aq (bY $0 $1)
UM Int → $0
GM ⟨rfl,$0⟩
IM bx $0 C $1 $2
NM ns.getD $0 0
JN List.take_append_drop i $0
XN PathOk L $0 $1 $2
QN pairsF ts $0
VN W52.atP $0 M
WN Mp $0 $1 $2 (Nk $3) $4
UN ID (VA $0 $1)
IN .inr (.inr $0)
MN aI $0 $1 (pv $2) $3
NN Vg $0 $1 PyProof.Rows.Boot.abs $2
QO Gn $0 rfl (.inl rfl) (.inl rfl)
VO MA $0 $1 $2 A $3 hs $4
YO Value.int $0 t
WO Nat.ne_of_lt (hLq $0)
UO .ok (.ret $0)
IO zat $0 c $1
MO Gq $0 $1 $2 $3 $4 al $5 $6 $7
NO Gz $0 $1 $2 $3 $4 (Mm $5)
JP IM K $0 $1
XP $0 = Sum.inl $1
QP Q .non $0
VP Xa (atI $0 $1) $2
YP Txt K mg aK $0
WP kvs.length ≤ $0
UP Qv $0 $1 rfl $2 $3
IP absurd z $0
NP aY Rs $0
JQ [.str $0,$1]
XQ JQ $0 (.ref $1)
QQ Va $0 (Gb $1)
VQ Xu $0 xs
WQ MO $0 $1 $2 $3 tl rl $4 $5
UQ wpAny_Call_Name_kw (iI $0 $1 $2 $3 $4)
GQ .int 2000 $0
IQ Xo (Ji $0 $1 $2)
MQ .int $0 t
NQ Nat.le_trans I.ok.bsz $0
JR call (.builtin $0) $1
XR .inl (lookup_relabel_local $0)
QR .inr (lookup_relabel_local $0)
VR Nat.le_of_lt (eg $0)
WR bJ X.prog X.w $0 $1 $2 $3
UR PySem.W.keepIn $0 (.ref $1)
IR ⟨$0,$1,$2,rfl,$3,$4,$5,$6⟩
MR f $0 $1 $2 %9
JS ae (Ie $0 $1 $2) $3
XS Jt $0 → $1
QS s.heap.objs.size ≤ $0
VS $0 ≠ s.heap.objs.size
WS Va $0 (Jd $1)
IS Gu P w K $0 $1 $2 $3 $4 $5
NS swapsWith $0 $1 $2 X.env
JT I.laid $0 $1 (nRq $2) $3
QT cA S.rs S.ts $0
VT absurd $0 %0
WT Qb $0 V
UT Np $0 Value
NT Yx f $0
JU XB $0 $1 (.ref $2)
QU E (.ref $0) none $1
VU Uv (.ref $0) (.ref $1) $2
WU Xh (a_ $0)
UU VO $0 $1 $2 $3 R
IU assignEach $0 X.env
MU ap H $0
NU bs.getD $0 true
JV A.units + $0
XV Xs (JV $0)
QV X.A.units + $0
WV Fr2 $0 H' $1 $2
UV bo $0 %2
GV ps.length ≤ $0
IV As.length ≤ $0
MV Xa (scope.names.lookup $0) .local
XW JP \"add_row\" $0
QW UU $0 $1 $2 S
VW QW $0 O $1
WW upd $0 $1 _
GW cz (hx $0 $1)
IW Nb az $0 $1
MW Vg $0 $1 PyProof.Rows.Boot.sorted $2
NW Xh (W.keepIn $0 (.ref $1))
JX NL $0 $1 $2 $3 $4 rfl $5 $6 $7 $8 $9
QX $0 → XS $1 $2
VX base.Ns mainGlobals $0
WX ⟨$0,%7⟩
UX p.natAbs ≤ $0
GX aW $0 (.lst $1)
IX bp $0 (ps.take $1)
MX aW $0 (.tup $1)
NX Xa (S.wt $0) $1
JY Vu $0 kvs
XY List.take_append_of_le_length (nRq $0)
QY PyProof.Rows.envOfC $0 (ai $1) s.heap.objs.size $2 $3
VY mk1 (Uy $0)
WY [.int $0]
UY List.any_eq_true.mpr ⟨$0,$1,$2⟩
GY Nw $0 (ps.map V.int)
IY XJ $0 $1 $2 $3 $4 $5 $6 $7 rfl $8 $9 $10
MY GM (I.turned $0 $1 $2 $3 $4 $5 $6)
NY Un $0 $1 $2 $3 s.heap $4
JZ List.nodup_cons.mpr ⟨$0,$1⟩
XZ aA $0 (pv $1) $2
QZ Qa H $0 $1
VZ cZ $0 $1 rfl %0 %0
WZ bz $0 (Nt $1) $2
UZ .inl (.inl $0)
GZ .inr (.inl $0)
IZ fv $0 $1 $2 (.type $3)
MZ $0 = ps.length
NZ $0 = .function
J0 fj $0 (hdL $1)
X0 List.map Value.ref $0
V0 EqR $0 As
U0 wpAny_pure (Nc $0 $1)
I0 Xg kvs $0
M0 Xh (X.fn $0)
N0 Jr $0 $1 H $2
J1 Wu $0 \"parts\"
X1 VW $0 H
Q1 s.TypeIs (.ref $0) $1
V1 Builtin.Tuple.tupleItemsOf (.ref $0)
N1 c_ a.negs $0
X2 bE ld gd $0 $1
Q2 rf rs $0
V2 W52.Needs T $0 $1 $2 $3
J3 ae $0 (Ud $1)
X3 Mw cm $0
Q3 Xx (behindInMarks $0 $1)
V3 GG $0 $1 $2 $3 $4 $5 (Gb $6)
W3 zaf X N' scope $0 $1 $2 $3
N3 .ref $0 :: $1
J4 bj H $0
X4 .inr ⟨$0,$1,$2,$3,$4⟩
Q4 $0 ++ L.drop $1
V4 $0 = S.ts.length
W4 $0 < xs.length
M4 $0 :: X.outer
N4 if_pos (dTq $0)
J5 df rfl $0 $1
X5 Ul $0 rfl $1
Q5 VI (pv $0)
V5 WI _ $0 $1
M5 wpAny_passesOwn K $0
N5 Clo $0 scope $1
J6 .inr ⟨$0,$1,$2,$3,$4,$5⟩
X6 lvF d.ts $0
Q6 .ins $0 A.dx $1
V6 Mf $0 .cell
N6 Mf $0 .free
J7 Wi $0 $1 $2 %7 $3
X7 Nn $0 $1 $2 (Ie $3 $4 $5) $6
Q7 Nw $0 xs
V7 U.at' $0 rfl rfl
W7 ⟨_,$0,$1⟩
N7 tupleKind (cb $0 $1)
J8 ⟨o,$0,$1⟩
X8 QE (.int $0) $1 $2 $3 $4
Q8 ms.filter (XL $0 $1)
V8 N0 $0 $1 s
W8 .call (.ref $0) $1
U8 Str × $0
M8 $0 < 1000
N8 $0 < h.objs.size
J9 u.TypeIs $0 \"list_reverseiterator\"
X9 W.fnOf $0 $1 (zbv $2) $3 $4 $5 $6 $7 $8 $9 $10 $11
V9 [V.int $0,V.int $1]
W9 atI (V9 $0 $1) $2
U9 $0 ≤ 100
M9 Fr2.of_same (ap.refl $0)
N9 $0 < f.heap.objs.size
J_ JF $0 (eX $1)
X_ hiF (hd $0) (hd $1)
Q_ IsTup s.heap $0 $1
V_ bu $0 $1 $2 $3 $4 $5 $6 $7 $8 Rs
Y_ Ub PySem.F.slot_list_append PySem.F.type_list_append cK $0 $1
U_ Ul $0 %0 %0
G_ Il H' $0 $1
I_ backToKw $0 (keywordEach $1 X.env)
M_ Yv $0 $1 rfl
N_ WG aM $0
Jaa Nat.lt_of_le_of_lt $0 %1
Jab wpAny_bind (wpAny_newObj_type $0 $1)
Jac wpAny_bind (wpAny_tupleItemsOf $0 $1 $2)
Jad absurd (z.symm.trans $0) $1
Jae Xa (env.cells.lookup $0) $1
Jaf s.heap.IsSliceOf $0 $1 $2 .none
Jag Xh (PySem.W.plainGet $0 $1 $2)
Jah congrArg some $0
Jai InR rs.length $0
Jaj PIn As.length $0
Jak Jo (wpAny_pure $0)
Jal VQ (Rs.map $0)
Jam Vis X.env.scope $0
Jan absurd $0 %9
Jao xs.length ≤ $0
Jap ns.length ≤ $0
Jaq $0 ≤ ts.length
Jar $0 ≤ As.length
Jat PySem.F.args_tuple_add_2 _ $0
Jau some $0 :: $1
Jav $0 < L.length
Jaw $0 ≤ PySem.sizeLine
Jax $0 = s.heap.objs.size
Jay Uh $0 (.inl $1)
Jaz J.stop i $0
JaA Builtin.Slice.slicePlaces $0 $1 1
JaB S.cut $0 la
JaC e.mono $0 %1
JaD Uf (H' $0)
JaE Call_ (Yi $0 $1 $2 $3 $4 $5 $6)
JaF Vs \"problem\" $0
JaG Xs (QV $0)
JaH List.mem_filterMap.mpr ⟨$0,$1,$2⟩
JaI atKey $0 k
JaJ .inl ⟨$0,$1,$2,$3,$4,$5⟩
JaK aY S.rs $0
JaL d.ts.take $0 ++ $1
JaM Qb Addr $0
JaN Qn cpos $0
JaP d.hok.fresh (nRq $0)
JaQ Eq.trans $0 (Eq.symm $1)
JaR d $0 $1 %5 $2
JaS aX $0 $1 (pv $2)
JaT Wb $0 $1 (Ud $2)
JaU .inl (Ye $0)
JaV Iv (.ref $0) $1 $2
JaX Iv (.str \"same\") $0 $1
JaY Mo $0 (QY $1 $2 $3 cdv)
Ja0 .Attribute $0 f $1
Ja1 IntsAre $0 ns
Ja2 congrArg Prod.fst $0
Ja3 br kvs $0
Ja4 hdL ls $0
Ja5 S.put $0 ps $1
Ja6 decide_eq_decide.mpr ⟨$0,$1⟩
Ja7 ae (ah $0) $1
Ja8 jK PassesOwn.never $0 $1
Ja9 Dom $0 As
Ja_ Yn $0 %4 $1
Jba Vt $0 s.heap
Jbc J5 T.range $0
Jbd List $0 × $1
Jbe I.base.free b $0 $1 $2 $3
Jbf .Subscript $0 $1 pos
Jbg gi (eF $0)
Jbh dA (.same $0 $1)
Jbi c (dTq $0)
Jbj Xh (nol $0)
Jbk Vb (ML $0)
Jbl Value.str $0 t
Jbm .cons r $0
Jbn eval $0 env
Jbo .Pass ⟨$0,$1,$2,$3⟩
Jbp atS kvs $0
Jbq T.length ≤ $0
Jbr kvs.length + $0
Jbs List $0 → $1
Jbt Xa (bootBuiltins $0) $1
Jbv Ww $0 (ns.map V.int)
Jbw wpAny_call_entry $0 $1 $2 ?_ $3
Jbx h.Ns mainGlobals $0
JbA GG $0 $1 $2 $3 $4 $5 (Jd $6)
JbB Qp (Y_ $0 $1)
JbC $0 ≠ \"__name__\"
JbE ys.length = $0
JbF ⟨lS0,$0⟩
JbG fh $0 (hdL $1)
JbH $0 < 1073741824
JbI aa $0 (Jd $1)
JbJ Id $0 (List.mem_range.mpr $1)
JbK Uh (SqL.of $0) $1
JbL Ih (Yk $0) $1
JbM Uj $0 (Ys $1)
JbN JbM $0 \"one\"
JbQ bindArgs $0 (WX $1)
JbR JbB (pv $0) $1
JbS cP $0 (.type $1) $2
JbT wpAny_Call_method_late $0 $1 $2 rfl $3
JbU ItemsOf $0 acc $1
JbV cnt (d.ts.take $0)
JbW fe.k $0 $1 (hln $2)
JbZ pL PySem.F.plainAttrs_list PySem.F.slot_list_pop PySem.F.type_list_pop $0 $1
Jb0 ee $0 (n:= $1) $2 $3 ?_ $4
Jb1 jI $0 $1 $2 PyProof.Rows.Boot.tuple $3
Jb2 acc.toList.length = $0
Jb3 Uf (H0 $0)
Jb4 Xh (PySem.W.hasDictIn $0 $1)
Jb5 wpAny_pure (Yu $0)
Jb6 Xz (Xz $0)
Jb7 MA $0 $1 $2 $3 $4 S.hs $5
Jb8 QI $0 (.type $1) $2
Jb9 I.pin p $0
Jb_ congrArg Array.toList $0
Jca model $0 w
Jcb wpAny_pyIter_tuple $0 ?_
Jcc seqIndex_neg %5 $0
Jcd SeqAt.EqAt $0 s $1 $2 $3
Jce Key × $0
Jcf cb X.prog $0
Jcg Fr1 $0 H' $1
Jch Yo true $0
Jci Qv $0 $1 $2 rfl $3
Jck JE (cO $0) $1 $2 $3
Jcl XI $0 $1 $2 $3 $4 $5 rfl $6 $7 $8
Jcm MI \"_law_parts\" $0
Jcn NO $0 %5 $1 $2 $3 $4
Jco jb $0 $1 $2 %1 $3
Jcp PySem.W.fnOf $0 $1 $2 $3 $4 $5 $6 $7 $8 $9 cdv $10
Jcq ⟨$0,$1,$2,%5,$3⟩
Jcr cq.put _ $0
Jcs ⟨$0,rfl,$1,$2,$3,$4,$5⟩
Jct aA $0 (Yk $1) $2
Jcu Iq (Gf $0) $1 $2
Jcv .tup (Qr $0 $1)
Jcw WL Has.int $0
Jcy JM $0 $1 (Ja $2)
Jcz wpAny_truthy_bool ⟨$0,$1,$2⟩
JcA $0 = .int $1
JcB $0 = pure $1
JcC ⟨$0,iter,$1,$2⟩
JcD cM $0 $1 (cnt $2) $3 $4
JcE $0 < S.ts.length
JcF Heap.FlyingW $0 $1 $2 (.ref $3) $4 $5
JcG field (.ref $0) $1
JcH negs (ts.take $0)
JcI ap $0 (Qa $1 $2 $3)
JcJ Gc $0 (.own $1)
JcK Value.ref (Yd $0)
JcL Xh (peq $0 $1)
JcM Yr (Vv $0) $1
JcN JcM PySem.F.plain_max_loop $0
JcO Jy $0 ⟨$1,$2,$3,$4⟩
JcP JcO $0 $1 $2 (.func $3) $4
JcQ MC %7 $0
JcR UH $0 (fq $1)
JcS J7 \"reversed\" $0 $1 $2
JcT KV kvs $0
JcU xs.map (entryOfKey $0)
JcV I.freeC x $0 $1
JcW ys.length ≤ $0
JcX $0 = Option.none
JcY fvs $0 ix
JcZ N'.length = $0
Jc0 R (.error $0) $1
Jc1 Nat.add_comm _ $0
Jc2 Wk $0 xs.length $1
Jc4 eD $0 $1 s.heap $2 $3
Jc5 bz $0 gs $1
Jc6 Jc5 ts $0
Jc8 Kp $0 s.heap $1
Jc9 %10 ≤ $0
Jc_ nbr $0 L.length $1
Jda As.length < $0
Jdb zs.length = $0
Jdc Ig $0 (dTq $1)
Jdd Gb (Yk $0)
Jde zby $0 pr most $1
Jdf MI $0 \"_law_cell\"
Jdh QX $0 ps.length $1
Jdi QX $0 ns.length $1
Jdj N_ (X3 $0)
Jdk loF (hd $0) (hd $1)
Jdl Jde $0 lk
Jdm f.fpOk $0 (f.hok.fresh $1)
Jdn PySem.W.lookIn name $0
Jdo List.replicate $0 none
Jdp ⟨$0,$1,$2,$3,$4,rfl,$5,$6,$7⟩
Jdr [$0,\"groups\"]
Jdt f.fresh $0 fa $1
Jdu gP (Us $0 $1) $2
Jdv WC bO $0
Jdw $0 → MF $1 $2
Jdx $0 → Jdw $1 $2 $3
Jdy YK $0 → $1
Jdz UP $0 $1 (Qu $2) $3
JdA Jcs $0 $1 rfl $2 $3 $4
JdB ar.keep $0 (ki $1) $2
JdC ngF (ps.take $0)
JdD W.plainGet $0 $1 Str.empty
JdE Jq $0 True.intro $1 $2 $3
JdF YC (NC $0) $1 $2
JdG Qc $0 $1 (UI $2 $3 $4)
JdH PySem.W.instObj $0 dx
JdI h.IsListIter $0 $1 i
JdJ PySem.W.isFn $0 (.ref $1)
JdK BindsTo s $0 $1 $2
JdL ixN xs.length $0
JdM iw I.hok $0
JdN bD kvs $0
JdO argBest $0 k
JdP $0 < 199900
JdR zbu $0 (.ref $1) $2
JdS G.seqG $0 hS
JdT Txt $0 mg
JdU hdL L $0
JdV q $0 (ap.refl $1)
JdW TxH K $0
JdX B.mono $0 %1
JdY Vd $0 $1 rfl
JdZ Np Int $0
Jd2 YB $0 I.ok.above
Jd3 HOk X.prog X.w $0 $1
Jd4 .frz $0 (.dK kvs)
Jd5 WR $0 s.heap $1 $2
Jd7 XG $0 $1 $2 $3 mg $4 $5 (ai $6) $7 cdv $8 $9 $10 $11
Jd8 PSs (Jd7 $0 $1 $2 $3 $4 $5 $6 $7 $8 $9 $10 $11) $12 $13
Jd9 IW $0 (Yk $1)
Jd_ IY $0 $1 $2 $3 $4 $5 $6 rfl $7 $8 $9
Jea X5 $0 rfl
Jeb WN $0 $1 $2 \"parts\" (gK $3 $4)
Jec JaY $0 \"_law_gone\" $1 $2
Jed aI az (bb $0) $1
Jee Ww $0 (ps.map V.int)
Jef JcA $0 $1 → $2
Jeg Qc $0 $1 (JcQ $2)
Jeh ib $0 $1 %5
Jei eW (iz $0 $1 $2)
Jej aj (be $0 $1 $2)
Jek M.trans (y.trans $0)
Jel Mb $0 s.heap.objs.size $1
Jem .inl (Yg $0 $1)
Jen Xh (PySem.W.codeIn $0 $1 $2)
Jeo Xh (gh $0)
Jep NY (frs $0) $1 $2 $3 $4
Jeq Jep X.stack $0 $1 $2 $3
Jes wpAny_execs_nil ⟨$0,$1,$2,$3⟩
Jet .Assign [$0] $1 $2
Jeu $0 = Value.type $1
Jev $0 = xs.length
Jew congrArg Prod.snd $0
Jex tryCatch $0 _
JeA cL $0 $1 $2 $3 ?_ ?_
JeB rs.length = $0
JeC ptF d $0
JeD WOk.glen $0 c
JeE Gc $0 $1 → $2
JeF Jf $0 b
JeG Vk $0 (.dK $1)
JeH Qo $0 ta
JeI No $0 H'
JeJ Vs $0 \"parts\"
JeK foldedSetIterable iter X.env $0
JeL VA $0 (VA $1 $2)
JeM Qi rfl _ (SqL.of $0)
JeO JQ \"plain\" (.str $0)
JeP JbL $0 (Yk $1)
JeQ Jed $0 (Jdj $1)
JeR JeE $0 $1 (Vk $2 $3)
JeS I.cell $0 c $1
JeT I.base.there b $0 $1 $2
JeU .Constant $0 $1 pos
JeV J.go i $0
JeW congrArg not $0
JeZ GO $0 $1 $2 ld gd $3 $4 $5 $6
Je0 JeZ $0 $1 $2 $3 $4 $5 av
Je2 [$0,$1,V.int $2]
Je5 atI (Je2 (V.int $0) (V.int $1) $2) $3
Je6 [V.str $0,$1]
Je8 atI (Je6 $0 (V.ref $1)) $2
Je9 nbr $0 L.length
Je_ bo $0 %8
Jfb Qa $0 $1 N.dropLast
Jfc Qc $0 $1 %7
Jfd Mb (Jfc $0 $1) $2 $3
Jfe Jh $0 rfl $1 $2
Jff Xh (W.codeIn $0 $1 $2)
Jfg Yj $0 $1 $2 $3 $4 $5 (Jd $6)
Jfh Vf $0 (Nk $1) $2
Jfi Qn pos $0
Jfj VD kvs $0
Jfk Jcl $0 $1 $2 rfl $3 $4 $5 $6 $7
Jfl SqT X.K $0 $1 $2
Jfm s.heap.IsTuple a $0
Jfn $0 ≤ xs.length
Jfo ⟨$0,%4,$1,$2⟩
Jfp .str ⟨$0⟩
Jfq ⟨$0,pl.isList.push $1⟩
Jfr call_meetsIn $0 dd.typeIs $1 $2 $3 $4
Jfs $0 ≤ cnt $1
Jft S.wg $0 ++ $1
Jfu iC $0 $1 $2 %5
Jfw ⟨$0,rfl,$1,$2,$3,$4,$5,$6,$7,$8,$9,$10,$11,$12,$13,$14,$15,$16,$17,$18,$19⟩
Jfx L.length - $0
Jfy ⟨$0,rfl,$1,$2,$3,$4,$5,$6,$7,$8,$9,$10,$11,$12⟩
Jfz Jfy $0 $1 $2 $3 $4 rfl $5 $6 $7 $8 $9 $10 $11
JfA Jfz $0 $1 $2 $3 $4 rfl $5 $6 $7 $8 $9 $10
JfB $0 < c.heap.objs.size
JfC Gk a $0
JfE ⟨$0,iu %0 %0⟩
JfF MB $0 (k.map $1)
JfG Nat.le_trans (YE $0) $1
JfI IO $0 r
JfJ Q6 $0 (Jde $1 $2)
JfK $0 → Jdx $1 $2 $3 $4
JfL loF (d $0) (d $1)
JfM e (Sum.inl.inj $0)
JfO h.objs.size ≤ $0
JfP I.hok b $0 $1
JfS ⟨$0,$1,I.bare,$2,$3,$4,I.free,I.freeC,$5,$6,$7⟩
JfT some (.lst $0)
JfU Walks.list $0 $1 $2 $3 a.toArray
JfV absurd (hLq $0) $1
JfW call (.type $0) $1
JfX jk I.hok $0
JfY jm I.hok $0
JfZ [$0,$1,.ref $2]
Jf0 JfZ $0 (.ref $1) $2
Jf1 Jf0 (.str $0) $1 $2
Jf2 JfZ (.ref $0) $1 $2
Jf3 ⟨$0,$1,%5⟩
Jf4 s.heap.DictOfH $0 $1 xs
Jf6 [\"_law_roots\",$0,\"_law_other\"]
Jf7 s4.seq (SqL.of $0)
Jf8 bM PassesOwn.leaving $0 $1 $2 $3
Jf9 S.rs.length ≤ $0
Jf_ Qb $0 Value
Jga Gb (ck $0)
Jgb .inl (Qd $0)
Jgc .inr (Ye $0)
Jgd Xh (W.hasDictIn $0 $1)
Jge Xh (W.plainOver $0 $1)
Jgf Nl $0 (ar.ints $1)
Jgg Qu (gG $0)
Jgh Qu (gm $0)
Jgi Qx (wpAny_pure $0)
Jgj Qc $0 $1 (QB $2 $3)
Jgk NS $0 (some $1) $2
Jgl SqL.of (V7 $0)
Jgo JfA $0 $1 $2 $3 $4 $5 $6 rfl $7 rfl $8
Jgp .int $0 u
Jgq .frz o $0
Jgr .int $0 s.toks
Jgs getMethod $0 $1 pl
Jgt ag $0 X.A
Jgu cellsFrom $0 $1 %7
Jgv Inv $0 %7 $1 $2 $3
Jgw Nat.le_trans $0 hz
Jgx operate $0 (getItem $1 $2)
Jgy d.params.defaults = $0
Jgz Nat.lt_irrefl _ $0
JgA Lev $0 $1 ts
JgB absurd $0 %5
JgC hF S.ts $0
JgD SD $0 $1 $2 $3 kvs
JgE IsPair h' $0 $1 $2
JgF aa $0 (aa $1 $2)
JgG InR n $0
JgH $0 ≠ Sum.inl $1
JgJ TxB $0 mg CL
JgK hS0 Rs $0
JgL Xa $0 X.env.locals
JgM Xh (zgt $0 $1)
JgN Ql $0 ys
JgO Wu $0 \"term\"
JgQ WC cT $0
JgR NJ $0 S.ts
JgS UN $0 (MF $1 $2)
JgT JP \"hold\" $0
JgU Nw $0 (XQ $1 $2)
JgV QU $0 H'
JgW ID (JgV $0)
JgX VZ $0 ok
JgZ Vg ak TB.len bLq $0
Jg0 Xb $0 $1 $2 mg (IF $3) $4 $5 $6 $7 $8
Jg1 Jd8 $0 $1 $2 $3 $4 \"_law_gone\" $5 $6 $7 $8 $9 $10 $11 $12
Jg2 Jd_ $0 $1 $2 rfl $3 $4 $5 $6 $7 $8
Jg8 JfS $0 I.os I.base I.loc I.cell $1 I.hok I.len
Jg9 Gl X $0
Jg_ zbu f $0 $1
Jha Array (Option $0)
Jhb Two $0 O $1
Jhc kt.sq (SqT.of $0)
Jhd ap.g (ap.refl $0)
Jhf [$0,$1,\"one\",\"other\"]
Jhg Jhf $0 \"number\"
Jhh Jhf \"terms\" $0
Jhl [\"part\",$0,\"kept\",\"level_of\",\"last\"]
Jhm xs.length + $0
Jhn Wg $0 $1 (pv $2)
Jho Ji $0 $1 \"__setattr__\"
Jhp Ul $0 (Jv $1) $2
Jhq attributeBase $0 $1 X.env (Vc $2)
Jht WB (Mx dx $0) $1 C %7
Jhu Jht x $0
Jhv wpAny_bind (wpAny_isInstance $0 isSubtype_tuple_tuple $1)
Jhy V_ K $0 $1 p $2 $3 $4 $5 As
Jhz Jhy C $0 $1 $2 $3 $4
JhA Jhz $0 $1 $2 $3 T
JhD JhA $0 tl al rl
JhE Xa (Jbp $0) $1
JhF U.newF $0 (Jcv $1 $2)
JhG Xh (JcD $0 $1 $2 $3 $4)
JhH k $0 _ (.inl rfl) $1
JhI JhH $0 e
JhJ Jfo $0 (Nat.zero_le $1) $2
JhK ⟨$0,$1,$2,?_⟩
JhL tAsg $0 (ja $1)
JhM d_ $0 pins $1 $2
JhN o.data = $0
JhO JhN (.dict es $0)
JhP JhN (.seq $0 $1)
JhR Cls $0 C
JhU sp vs H Q $0
JhV seqIndex_of h0 $0
JhW subscripted $0 false $1 $2
JhX $0 ≠ .cell
JhY ifs.length ≤ $0
JhZ hitD X.K $0 $1
Jh0 $0 < a.toArray.size
Jh1 $0 = c.heap.objs.size
Jh2 $0 ≤ 100000
Jh3 S.setW r $0 $1
Jh4 [$0,\"_law_roots\",$1,$2]
Jh6 Jh4 \"_law_terms\" $0 \"_law_other\"
Jh7 $0 ≤ L.length
Jh8 Xa (env.kindOf $0) $1
Jh9 Xa (mg $0) $1
Jh_ Jh9 $0 (MQ $1)
Jia Jr $0 $1 H' $2
Jic Jia $0 $1 s' ∧ $2
Jid Mt 50 $0
Jie gC $0 (Nt $1)
Jif Vg $0 T.isi PyProof.Rows.Boot.isinstance $1
Jig Yz $0 $1 $2 $3 $4 (Jd $5)
Jih NF 1 $0 $1
Jii QG $0 $1 $2 $3 $4 (Gb $5)
Jij VQ (T.map $0)
Jik GW $0 (SqL.of $1)
Jil IW $0 (pv $1)
Jim X2 $0 H'
Jin JE (J5 $0 $1) $2 $3 $4
Jio Jb7 $0 $1 $2 $3 $4 $5 → $6
Jip Jcg H $0
Jiq Jau $0 (JcY $1)
Jir Jdz $0 $1 $2 (JeA $3 $4 $5 $6)
Jis Jdy $0 ($1 → ($2 → $3))
Jit storeName X.env $0 $1
Jiu PSs $0 $1 t
Jiv h.IsTupleIter $0 $1 i
Jiw bc dvs $0
Jix zc4 $0 vs
Jiy Has.tup' h $0
Jiz .int $0 0
JiA d $0 %5
JiB ff $0 ts $1
JiC JiB Rs $0
JiD kvs.map $0 = $1
JiF JiD $0 (F.map Sum.inl)
JiG fg S.ts $0 $1
JiH Ans $0 most $1 $2 $3
JiI alF ts $0
JiJ hO $0 $1 .ellipsis $2
JiK U.u.at_ i $0 $1 $2 $3
JiM aB $0 $1 $2 (Or.inr $3) $4
JiN fm T.length $0 $1
JiO ms.Perm (ngF $0)
JiP bb (Jd $0)
JiQ Gg $0 rfl $1
JiR Ng $0 $1 $2 $3 $4 $5 \"_law_asked\" $6 $7 $8 $9
JiS Xh (zeo $0)
JiT Xh (W.makesIn $0 $1)
JiU Uj $0 [$1]
JiV JiU $0 \"self\"
JiW bZ I $0 %4
JiX .tup (Gy $0 $1 $2)
JiY Iy $0 \"isinstance\" $1
JiZ Jz (dTq $0)
Ji0 IR $0 $1 $2 rfl $3 $4 $5
Ji1 QX $0 z.length $1
Ji2 J7 $0 $1 $2 pos
Ji3 X8 $0 $1 $2 (Ye $3) $4
Ji4 J.yld i $0 x $1
Ji5 Ji4 H' $0
Ji7 Jci _ rfl _ $0
Ji8 zcH ks vals $0
Ji9 gD $0 $1 pr most $2 $3
Jjb Je0 $0 C g N $1 hd
Jjc Jjb $0 b
Jjd Jf1 \"equal\" $0 $1
Jje JgZ (Vr $0)
Jjf JiQ $0 ?_
Jjg Value.float $0 t
Jjh bc xs $0
Jji $0 = V.int $1
Jjj Jji (V.int $0) $1
Jjk getItem (.ref $0) $1
Jjl wpAny_pure ⟨$0,$1,$2⟩
Jjm sliceBounds $0 $1 none $2
Jjn PySem.call $0 vs
Jjo .cons ?_ $0
Jjp jR I.hok $0
Jjq P (argBest $0 $1) $2
Jjr [c.heap.objs.size,$0]
Jjt absurd $0 d
Jju TOk $0 S.ts
Jjv lvF S.ts $0
Jjz g $0 $1 %5 %5 %5 %5 $2
JjA [\"terms\",$0]
JjB InR ns.length $0
JjC InR us.length $0
JjD [\"problem\",$0,$1,$2]
JjF JjD \"held\" \"found\" $0
JjI [\"_law_problem\",\"_law_script\",\"_law_first\",$0]
JjJ Option $0 → $1
JjK aD $0 ≤ $1
JjL Xa (cl.lookup $0) $1
JjM Xa (fs.lookup $0) $1
JjN An3 $0 (Xd $1) $2
JjP ik $0 rfl $1 (Ye $2)
JjQ f_ $0 $1 $2 (Mm $3)
JjR Yo false $0
JjS Xq $0 .cell
JjU Ms $0 $1 (.bl true)
JjV Xu $0 $1 → $2
JjW Ww $0 ys
JjX XH $0 (XH $1 $2)
JjY V8 a $0
JjZ JjY $0 → $1
Jj1 .ListComp elt [$0] scope pos
Jj3 Jj1 (JcC (VG $0) $1 $2)
Jj4 EqR T As $0
Jj5 Jg_ v $0
Jj6 Jhb $0 H
Jj7 Ji2 $0 $1 (ML $2)
Jj9 upd $0 a u
Jj_ I.base.tups $0 xs $1
Jka cD $0 C $1
Jkb Jka K $0
Jkc IsPair h $0 $1 $2
Jkd Stp $0 most $1 $2
Jke Fnd $0 most $1 $2
Jkf W.exmOne $0 (.ref $1) $2
Jkg if_pos (oDq $0)
Jkh Rs.length ≤ $0
Jki g.e $0 $1 (g.s.trans $2)
Jkk Vd $0 (ih.mpr $1) $2
Jkl Xh (fk $0 $1 $2 $3)
Jkm Mh H' $0 $1
Jkn Uy (ps.take $0)
Jko XB K $0 $1
Jkp Jko $0 v
Jkq GB _ $0
Jkr UC $0 e
Jks ID (MF $0 $1)
Jkt R (UO $0) $1
Jku VP $0 $1 (.str $2)
Jkv cQ (pv 0) $0 rfl
Jkw Jkv (bb $0)
Jkx J4 (QZ $0 $1)
Jky HOk P w $0 $1
Jkz Jky H $0
JkA ah (Y_ $0 $1)
JkB SqL X.K H $0 $1
JkC Xa (Jb8 $0 $1 $2) $3
JkD ⟨_,rfl,$0,$1,$2,$3,$4,$5,$6,$7⟩
JkE JkD $0 $1 $2 rfl $3 $4 $5 $6
JkF U.set $0 rfl rfl $1 $2 $3
JkG Jeb $0 $1 dR' $2 $3
JkH ar X.K H $0 $1
JkI JjV (L.map $0) $1 $2
JkJ cb $0 w
JkK I.base.keep b $0 $1 $2 $3 $4
JkL σ.set $0 (some $1)
JkM D.nx a $0
JkN wpAny_Name $0 g
JkO IsPart $0 lo
JkP wpAny_field $0 $1 rfl $2
JkQ a.toArray.size - $0
JkR OldK $0 s'.heap
JkS $0 ≠ none
JkT JkS (H $0)
JkU max $0 (aD $1)
JkV $0 + b.length
JkW bsF 0 $0
JkX hdL (ls.take $0) $1
JkY $0 < h'.objs.size
Jk0 gY $0 $1 $2 $3 rfl
Jk1 Jk0 $0 (Xe $1) $2 $3
Jk2 ag $0 _
Jk3 bsz $0 %5
Jk4 [V.int $0]
Jk5 SqI $0 $1 $2 ps
Jk6 InR v.length $0
Jk7 SqL.of (g $0 $1 $2)
Jk8 gc $0 ts.length
Jk9 lnD %7 $0
Jk_ b.toArray.size = $0
Jla ts.length = $0
Jlb Xa l.most $0
Jlc Xa $0 (Ja $1)
Jld Wa (H1 $0) $1
Jlf Nc rfl $0
Jlh We $0 c → $1
Jli Jlh x $0
Jlj Yg rfl $0
Jlk Jh $0 $1 rfl $2
Jll Nl $0 ar.nil
Jlm Qo $0 te
Jln Qo $0 (tC $1)
Jlo Xq $0 .local
Jlp Uj $0 (Yq $1)
Jlr Xr $0 (.bl true)
Jls Wu $0 \"part\"
Jlt Qy $0 lo
Jlu mk1 (Uy $0) $1
Jlv XB X.K $0 $1
Jlw WC $0 (pv $1)
Jlx Xa $0 (VE $1)
Jly WH xs.length $0
JlA Uj $0 (WJ \"why\")
JlB XL $0 As
JlD MN $0 aQ $1 af
JlE JlD $0 0
JlF VI (JlE $0)
JlG JP \"head\" $0
JlH IS $0 \"sameness\" $1 $2 $3 $4
JlI WQ K $0 $1 $2 $3 Rs
JlJ JlI $0 $1 p $2
JlK JlJ C $0 $1
JlL JlK $0 T
JlO $0 → (JlL H → $1)
JlP J0 (Nt $0) $1
JlQ A.under (Wz $0 (N3 $1 $2) $3)
JlS GO $0 $1 $2 ld gd ts.length $3 (hdL $4) $5
JlT JM $0 $1 (some (.int $2 $3))
JlU JbI (Yk $0) $1
JlV Jct bO $0 $1
JlW iT s.heap l1 $0
JlX Jdp $0 $1 $2 $3 rfl $4 $5 $6
JlY Jd3 H' $0
JlZ Jdv (Mw aM $0)
Jl0 Jfk $0 $1 $2 rfl $3 $4 $5 $6
Jl1 Jfs $0 ts
Jl3 eK $0 $1 $2 (YJ $3) ?_ ?_
Jl4 Jgj $0 $1 kvs $2
Jl5 .Call (.Attribute $0 $1 apos) $2 %7 $3
Jl6 Jl5 $0 $1 $2 cpos
Jl7 Mn $0 (JgV $1)
Jl8 Jg8 $0 I.pin
Jl9 PI $0 $1 iter wi
Jl_ $0 ∈ negs ts
Jma hiF (d $0) (d $1)
Jmb JlS $0 $1 $2 ls.length $3 $4
Jmc Mut (H $0)
Jmd ⟨u.slots,$0⟩
Jme some (some $0)
Jmf aq (bX $0 $1 $2)
Jmg Itv $0 $1 xs.length
Jmi [\"thing\",\"things\",$0]
Jmj eY (pv $0)
Jmk [\"_law_problem\",$0,$1,$2,$3]
Jmn [\"_law_script\",\"_law_first\",\"_law_terms\",$0]
Jmo if_pos (Ma $0)
Jmp if_pos (Na $0)
Jmq Ud (ck $0)
Jmr aj (Ie $0 $1 $2)
Jms Uf (X.H₀ $0)
Jmt Xh (xs.all $0)
Jmu $0 ++ Gj $1
Jmv Qa $0 $1 (Jmu $2 $3)
Jmw ar.keep $0 (cG _) $1
Jmx bU (Yu $0)
Jmy Ix \"__init__\" $0 $1
Jmz YC cl $0 $1
JmA Rch (NC $0) $1 $2 $3
JmB .tup (VH $0 $1)
JmC aq (a $0 $1 $2 %9)
JmD Xo (Yb K $0)
JmE ID (QP $0)
JmF .tup (JQ $0 $1)
JmG VQ (ls.map $0)
JmH Xy $0 (JT $1 $2 $3 $4) $5
JmI WX (Gj $0)
JmJ V5 $0 s
JmK Jaz $0 ∧ $1
JmL PA $0 (ML e) $1
JmM JmL X $0
JmN JfJ $0 $1 S.lk
JmO Jj1 (JcC $0 ifs $1)
JmP Jk1 $0 $1 (pv $2) $3
JmQ Jl0 $0 $1 $2 $3 $4 rfl $5
JmR D.rt $0 H'
JmS Q (.bool $0) $1
JmT h $0 $1 (I.tok $2) $3
JmU min v.toNat $0
JmV backTo cpos $0
JmW zbP kvs $0
JmX h $0 (I.tok $1)
JmY C $0 %4
JmZ ⟨$0,$1,$2,$3,%5,$4⟩
Jm0 h.rng t $0
Jm1 TOk.snoc $0 $1 %5 $2 $3 $4
Jm2 X.tryc pins $0
Jm3 hO $0 $1 (rawInt $2) $3
Jm4 $0 ≠ .tup $1
Jm5 iM $0 (pv $1) $2 $3
Jm6 Jm5 $0 $1 (pv $2) $3
Jm7 hT.keep $0 (hX $1)
Jm8 a.length ≤ $0
Jm9 dv.trans $0 g3
Jm_ $0 ≤ S.ts.length
Jna Z $0 %4
Jnb X.A.in1.units + $0
Jnc $0 < b.length
Jnd $0 = bs.map $1
Jne Jnd (c.map $0) $1
Jnf S.pp.length ≤ $0
Jng Xa (some $0) $1
Jnh Xh (nob $0)
Jni q $0 (Xp $1)
Jnj Uq hl $0
Jnk Wu $0 \"number\"
Jnl IB $0 (.str $1)
Jnm QC $0 xs
Jno Gu $0 $1 $2 $3 \"_law_cell_at\" $4 $5 (Qm \"_law_k\") $6
Jnp Gc $0 (Wh C $1)
Jnq Jnp $0 fs
Jnr QL .And $0
Jns WR $0 $1 $2 (.lst $3)
Jnt IZ $0 $1 (.ref $2) $3
Jnu G_ $0 zs
Jnv Jnu (ls.map $0)
Jnw I_ cpos $0
Jnx Ja5 l $0
Jny Jbc (Jd $0)
Jnz Uf (Jbp $0)
JnA Jbs Int $0
JnB ID (Jch $0)
JnC JcB $0 (ps.zip $1)
JnD Jdi (Jbv $0) $1
JnE Jex (UK $0)
JnF Jf0 (.ref $0) $1 $2
JnG JgZ (Jd $0)
JnH Ic (Jhm $0)
JnI JiH $0 (JgK $1) $2 $3
JnJ TxG K mg $0
JnK JjZ b $0
JnM aj (Jkv $0)
JnN Gc $0 (.dT kvs)
JnO JmQ $0 $1 $2 $3 $4 (Up $5)
JnP Xs (A.in1.units + aD $0)
"
end J
set_option hygiene false
local macro_rules|`($f:ident $x*)=>do
 let n:=f.getId.toString
 unless n.length<4&&n.length>1&&"JXQVYZWUGIMN".contains n.front do Lean.Macro.throwUnsupported
 match J.T.splitOn ("\n"++n++" ") with
 |[_,r]=>return (J.k x.raw (←`([(by decide +kernel),(by decide),(λx_=>?_),(λx_ x_=>?_),(by simp),(by lia),(by rfl),[],(λc=>?_),(by intro z;cases z),(0:Int),λcdv A outer s H vs Q E $(⟨x.raw.getD 1 .missing⟩):ident h=>?_])).raw[1].getSepArgs 999 (J.w (r.splitOn "\n").head!) #[] #[] none).1[0]!
 |_=>Lean.Macro.throwUnsupported
local macro_rules|`(tactic|let $x:term:=$e)=>do
 let o←`(tactic|obtain $(⟨J.p 99 x⟩):rcasesPat:=$e)
 if (x.raw.getRange?.getD default).bsize<9 then return o
 `(tactic|(refine _root_.J.x λG_ k_=>?_;$o:tactic;refine k_ ?_;try clear k_ G_))
local macro_rules|`(tactic|rfl')=>`(tactic|try dsimp only [Cx.nox,Cx.wish,aO])
local macro_rules|`(($a,$b,*))=>if b.elemsAndSeps.size%2==0 then Lean.Macro.throwUnsupported else `(⟨$a,$b,*⟩)
local macro_rules|`(tactic|let $x:ident:=$e)=>`(tactic|have $x:ident:=$e)|`(tactic|let $x:ident:$t:term:=$e)=>`(tactic|have $x:ident:$t:term:=$e)|`(tactic|apply $e)=>if e.raw[0].getId==`H52.all_mk then Lean.Macro.throwUnsupported else `(tactic|refine $e)
local macro_rules|`(tactic|lia)=>`(tactic|first|assumption|exact Nat.le_of_lt ‹_›|exact Nat.le_trans ‹_› (by decide)|exact Int.ofNat_zero_le _|exact Nat.le_succ_of_le ‹_›|exact Nat.lt_succ_of_le ‹_›|exact Nat.lt_succ_of_lt ‹_›|exact Nat.lt_of_le_of_lt ‹_› (by decide)|exact Int.ofNat_lt.mpr ‹_›|exact(Int.toNat_of_nonneg ‹_›).symm|exact Nat.le_trans ‹_› ‹_›|exact Nat.lt_of_lt_of_le ‹_› ‹_›|lia -ac)
local macro_rules|`(command|init_quot)=>do
 let mut a:=#[]
 let t:=[49,105,139,154,169,184,199,214,249,265,330,406,418,510,589]
 let c:=`PySem.Challenge.cw_yesorno_k52_whole_yes_holds
 for n in [`PySem.Challenge.pw_yesorno_k52_whole_yes,`PySem.Challenge.rw_yesorno_k52_whole_yes,c.str "view_39",c.str "env_41"]++([39,46,627].map λi=>c.str s!"heap_{i}")++((List.range 588).map λi=>c.str s!"o_{i+39}")++(t.map λi=>c.str s!"sts_{i}")++((627::48::t).map λi=>c.str s!"tree_{i-1}") do
  a:=a.push (←`(def $(Lean.mkIdent (.str `PySem.W.Fast s!"tw{n.hash}")):ident:True:=⟨⟩))
 return Lean.mkNullNode a
local macro_rules|`($d:declaration)=>let k:=d.raw[1].getKind;let r:=if k==`Lean.Parser.Command.structure||k==`Lean.Parser.Command.inductive then d.raw.rewriteBottomUp λs=>s.setInfo .none else d.raw.setHeadInfo .none;if d.raw.getPos?.isNone||r.getPos?.isSome then Lean.Macro.throwUnsupported else return r
noncomputable section
set_option tactic.hygienic false
def lM{α β}{l:List α}(f:α->β):(l.map f).length=l.length:=List.length_map f
def lAq{α}{a b:List α}:(a++b).length=JkV a.length:=List.length_append
def mAq{α β}{f:α->β}{a b:List α}:(a++b).map f=a.map f++b.map f:=List.map_append
def lS{α}{a:α}:[a].length=1:=rfl
def mO{α}{l:List α}{i:Nat}{a:α}(h:l[i]?=some a):a∈l:=List.mem_of_getElem? h
def mPq{α}{a:α}{s t:List α}(h:a∈s++t):a∈s\/a∈t:=List.mem_append.mp h
def mSq{α}{a b:α}(h:a∈[b]):a=b:=List.mem_singleton.mp h
def gEq{α}{i:Nat}{a:α}{l:List α}(h:l[i]?=some a):∃h,l[i]=a:=List.getElem?_eq_some_iff.mp h
def gG{α}{l:List α}{i:Nat}(h:i<l.length):l[i]?=some l[i]:=List.getElem?_eq_getElem h
def sAq{α}{l:List α}:l.toArray.size=l.length:=List.size_toArray
def nRq(n:Nat):n<=n:=Nat.le_refl n
def tO{α}{i:Nat}{l:List α}(h:l.length<=i):l.take i=l:=List.take_of_length_le h
def dTq{p:Prop}[Decidable p](h:p):decide p=true:=decide_eq_true h
def oDq{p:Prop}[Decidable p](h:decide p=true):p:=of_decide_eq_true h
def dFq{p:Prop}[Decidable p](h:¬p):decide p=false:=decide_eq_false h
def hG{h:PySem.Heap}{a:PySem.Addr}{u:PySem.Obj}(o:PySem.Obj)(e:h.get? a=some u):(h.push o).get? a=some u:=PySem.Heap.get?_push_of_some o e
def bLq:PySem.bootBuiltins "len"=some (.builtin "len"):=PySem.boot_len
def hLq{h:PySem.Heap}{a:PySem.Addr}{o:PySem.Obj}(e:h.get? a=some o):N8 a:=PySem.Heap.lt_size e
namespace L2
open PySem PySem.Spec PyProof.Rows
abbrev Key:=Sum Int Str
noncomputable def zgt:Key->Value->Bool
  |.inl k,v=>Value.isInt k v
  |.inr x,v=>Value.isStrOf x v
noncomputable def keyH (w:World):Key->Int
  |.inl k=>hashInt k
  |.inr x=>hashStr w x
def gO:∀{k:Key} {v:Value},JgM k v->(∃i t,XP k i/\v=YO i)\/(∃x t,k=Sum.inr x/\v=Jbl x)
  |.inl i,v,h=>by let(t,e):=Value.isInt_shape h;exact .inl (Yv i t e)
  |.inr x,v,h=>by let(t,e):=Value.isStrOf_shape h;exact .inr (Yv x t e)
def yj (i)(t):JgM (.inl i) (MQ i):=by simp [zgt,Value.isInt]
def yk (x)(t):JgM (.inr x) (.str x t):=by simp [zgt,Value.isStrOf]
def key_ll (a b):decide (XP (Sum.inl a:Key) b)=(a==b):=by
  by_cases e:a=b
  . subst e;simp
  . let h:¬(Sum.inl a:Key)=Sum.inl b:=λq=>JfM q;rw[dFq h];exact(beq_eq_false_iff_ne.mpr e).symm
def key_rr (a b):decide ((Sum.inr a:Key)=Sum.inr b)=decide (a=b):=by
  by_cases e:a=b
  . subst e;simp
  . let h:¬(Sum.inr a:Key)=Sum.inr b:=λq=>e (Sum.inr.inj q);rw[dFq h,dFq e]
def key_lr (a)(b):decide ((Sum.inl a:Key)=Sum.inr b)=false:=dFq (λq=>nomatch q)
def key_rl (a)(b):decide (XP (Sum.inr a:Key) b)=false:=dFq (λq=>nomatch q)
def cb (prog)(w):PySem.KeyKind prog w Key where
  is:=zgt
  hash:=keyH w
  inj:=λv a b l f=>by
    rcases gO l with ⟨i,t,rfl,rfl⟩|⟨x,t,rfl,rfl⟩
    . rcases gO f with ⟨j,u,rfl,e⟩ | ⟨y,u,rfl,e⟩
      . injection e with c _;rw[c]
      . exact nomatch e
    . rcases gO f with ⟨j,u,rfl,e⟩ | ⟨y,u,rfl,e⟩
      . exact nomatch e
      . injection e with c _;rw[c]
  byValue:=λk v h=>by rcases gO h with ⟨i,t,rfl,rfl⟩|⟨x,t,rfl,rfl⟩<;>rfl
  pyHash:=λd h=>by
    rcases gO d with ⟨i,t,rfl,rfl⟩|⟨x,t,rfl,rfl⟩
    . exact wpAny_pyHash_int h
    . exact wpAny_pyHash_str h
  eqBool:=λg d h=>by
    rcases gO g with ⟨i,t,rfl,rfl⟩|⟨x,t,rfl,rfl⟩
    . rcases gO d with ⟨j,u,rfl,rfl⟩ | ⟨y,u,rfl,rfl⟩
      . rw[key_ll]at h;exact wpAny_eqBool_int h
      . rw[key_lr]at h;exact SeqAt.EqAt.int_str i t y u _ _ _ _ h
    . rcases gO d with ⟨j,u,rfl,rfl⟩ | ⟨y,u,rfl,rfl⟩
      . rw[key_rl]at h;exact SeqAt.EqAt.str_int x t j u _ _ _ _ h
      . rw[key_rr]at h;exact wpAny_eqBool_str h
  «strs»:=λk x t v h=>by
    rcases gO h with ⟨i,u,rfl,e⟩|⟨y,u,rfl,e⟩
    . exact nomatch e
    . injection e with c _;subst c;cases v<;>rfl
def ym (prog)(w)(i)(t):(JkJ prog).is (.inl i) (MQ i)=true:=yj i t
def mX (prog)(w)(x)(t):(JkJ prog).is (.inr x) (.str x t)=true:=yk x t
inductive V where
  |non|bl (b:Bool)|int (i:Int)|str (x:Str)|byt (b:Array UInt8)|flt (b:UInt64)|ref (a:Addr)|ty (n:String)
  deriving DecidableEq
def bn:V->Value->Prop
  |.non,u=>GK u
  |.bl b,u=>Wx u b
  |.int i,u=>∃t,u=YO i
  |.str x,u=>∃t,u=Jbl x
  |.byt b,u=>∃t,u=Value.bytes b t
  |.flt b,u=>∃t,u=Jjg b
  |.ref a,u=>Jf u a
  |.ty n,u=>Jeu u n
abbrev bc:List V->List Value->Prop:=Paired bn
def bc.length (r:WD xs):Mz us.length:=Paired.length r
theorem bc.get:∀{xs:List V} {us:List Value} {i:Nat} {x:V},WD xs->xs[i]?=some x->∃u,us[i]?=some u/\IH x
  |_,_,_,_,.nil,e=>by simp at e
  |_,_,0,_,Jbm _,e=>by simp at e;subst e;exact Yu r
  |_,_,i+1,x,.cons _ t,e=>by let(u,b,a):=bc.get t (by simpa using e);exact(u,by simpa using b,a)
theorem bc.set (r:IH x):∀{xs:List V} {us:List Value} (i:Nat),WD xs->bc (xs.set i x) (us.set i u)
  |_,_,_,.nil=>.nil
  |_,_,0,.cons _ t=>Jbm t
  |_,_,i+1,.cons q t=>.cons q (bc.set r i t)
theorem bc.append:∀{xs ys:List V} {us a:List Value},WD xs->bc ys a->bc (xs++ys) (us++a)
  |_,_,_,_,.nil,s=>s
  |_,_,_,_,Jbm t,s=>Jbm (bc.append t s)
theorem bc.take:∀{xs:List V} {us:List Value} (n:Nat),WD xs->bc (xs.take n) (us.take n)
  |_,_,0,_=>.nil
  |_,_,_+1,.nil=>.nil
  |_,_,n+1,.cons r t=>Jbm (bc.take n t)
theorem bc.drop:∀{xs:List V} {us:List Value} (n:Nat),WD xs->bc (xs.drop n) (us.drop n)
  |_,_,0,r=>r
  |_,_,_+1,.nil=>.nil
  |_,_,n+1,.cons _ t=>bc.drop n t
def cS:Option V->Option Value->Prop
  |some v,some u=>IH v
  |none,none=>True
  |_,_=>False
def KV {a:Type}:WT a->Jf_ a->Prop:=Paired λ p q=>p.1=q.1/\bn p.2 q.2
noncomputable def kV:Key->V
  |.inl i=>.int i
  |.inr x=>.str x
inductive HO where
    |lst (xs:List V)
    |tup (xs:List V)
    |dK (kvs:List (Key×V))|dT (kvs:List (List Key×V))
    |set (S:Int->Bool)(n:Nat)
    |ins (C dx:Addr)(fs:List (Str×V))
    |own (x:Addr)
    |xd (fs:List (Str×V))
    |met (f x:Addr)
    |rng (lo hi:Int)
    |frz (o:Obj)(u:HO)
    |tbl (ps:Array Value)
    |ext (φ:Heap->Prop)
abbrev Hp:=Np Addr HO
noncomputable def upd (H:Hp)(a:Addr)(o:HO):Hp:=λb=>if b=a then some o else H b
def ao:upd H a o a=some o:=by unfold upd;rw[if_pos rfl]
def aq (h:b≠a):upd H a o b=H b:=by unfold upd;rw[if_neg h]
def tV:Jj9 (JfC o)=upd H a u:=by funext b;unfold upd;split<;>rfl
def bX {H:Hp}{a b:Addr}{o u:HO}(h:Gc a o)(h':Gc b u)(d:o≠u):a≠b:=by intro e;subst e;rw[h]at h';exact d (Option.some.inj h')
def bY {H:Hp}{a b:Addr}{o:HO}(h:Gc a o)(h':Gf b):a≠b:=by intro e;subst e;rw[h]at h';cases h'
def fY (h:Heap)(a:Addr)(items:Array Value):Prop:=∃o,h.get? a=some o/\(o.cls,o.dict,)=(Value.type "tuple",none,)/\∃n,JhP items n
def fY.up (x:fY h a items):IsTup h a items:=let (o,e,c,d):=x;(o,e,(Prod.mk.inj c).1,d)
def fY.lt (x:fY h a items):N8 a:=x.up.lt
def fY.new (h:Heap)(items):fY (h.push { cls:=.type "tuple",data:=.seq items }) h.objs.size items:=Gn _ (Heap.get?_push_size _ rfl) _ rfl
section
variable (P:Program) (w:World)
def bJ (H:Hp)(h:Heap)(a:Addr):HO->Prop
  |.lst xs=>Ic xs.length/\∃b n,Jjh b/\h.get? a=some { cls:=.type "list",data:=.seq b.toArray n }
  |.tup xs=>Ic xs.length/\∃b:List Value,Jjh b/\fY h a b.toArray
  |.dK kvs=>Ic kvs.length/\Xx (a==sysModules)/\∃vs,JcT vs/\h.DictOf (JkJ P) a vs
  |.dT kvs=>Ic kvs.length/\Xx (a==sysModules)/\∃xs:Qb (List Key) (IL Value),
      Paired (λ p q=>p.1=q.1/\MB q.2.1 (p.1.map kV)/\bn p.2 q.2.2) kvs xs/\
      ∃o es ep,h.get? a=some o/\o.ExactDict/\JhO ep/\es.toList=JcU (N7 P w)/\(xs.map (·.1)).Nodup
  |.set S n=>h.SetOf (intKind P w) a S n
  |.ins C dx d=>JcJ dx a/\Jt d.length/\dx≠a/\h.get? a=some (JdH C)/\
      ∃c,h.Ns1 dx c/\(∀f,cS (d.lookup f) (c f))/\PySem.Within c (d.map (·.1))
  |.own _=>∃o,h.get? a=some o
  |.xd d=>∃c,h.Ns1 a c/\∀f,cS (d.lookup f) (c f)
  |.rng lo j=>∃t u v,h.get? a=some { cls:=.type "range",data:=.fields #[MQ lo,Jgp j,.int 1 v] }
  |.frz o u=>h.get? a=some o/\bJ H h a u
  |.tbl ps=>h.get? a=some { cls:=.none,data:=.fields ps }
  |.met f x=>h.get? a=some (PySem.W.methodObj (.ref f) (.ref x))
  |.ext e=>e h/\(∃o,h.get? a=some o)/\∀i g:Heap,e i->(∀o,i.get? a=some o->g.get? a=some o)->e g
def HOk (H:Hp)(h:Heap):Prop:=∀a o,JeE a o (bJ P w H h a o)
end
section
variable {P:Program} {w:World} {H H':Hp} {h h':Heap} {a:Addr} {o:HO}
def bJ.lt (x:bJ P w H h a o):N8 a:=by
  cases o with
  |lst xs=>obtain⟨_,_,_,_,e⟩:=x;exact hLq e
  |tup xs=>obtain⟨_,_,_,p⟩:=x;exact p.lt
  |dK kvs=>obtain⟨_,_,_,_,o,_,_,e,_⟩:=x;exact hLq e
  |dT kvs=>obtain⟨_,_,_,_,o,_,_,e,_⟩:=x;exact hLq e
  |set S n=>obtain⟨o,_,_,_,e,_⟩:=x;exact hLq e
  |ins C dx b=>obtain⟨_,_,_,e,_⟩:=x;exact hLq e
  |own y=>obtain⟨_,e⟩:=x;exact hLq e
  |xd b=>obtain⟨_,⟨_,_,_,e,_⟩,_⟩:=x;exact hLq e
  |rng lo g=>obtain⟨_,_,_,e⟩:=x;exact hLq e
  |frz d u=>obtain⟨e⟩:=x;exact hLq e
  |tbl ps=>exact hLq (show h.get? a=some _ from x)
  |met f y=>exact hLq (show h.get? a=some _ from x)
  |ext c=>obtain⟨_,⟨_,e⟩,_⟩:=x;exact hLq e
theorem Paired.mapP:∀{d:List α} {c:List β},Paired F d c->(∀a b,F a b->G a b)->Paired G d c
  |_,_,.nil,_=>.nil
  |_,_,Jbm t,f=>.cons (f _ _ r) (Paired.mapP t f)
def bJ.stay (x:bJ P w H h a o)(k:∀b u,(b=a∨JcJ b a)→h.get? b=some u→h'.get? b=some u)
    (B:∀b,JcJ b a->Vk b (.own a))(A:∀b xs,MB b xs->Vw b xs):bJ P w H' h' a o:=by
  induction o with
  |lst xs=>obtain⟨z,i,n,r,e⟩:=x;exact(z,i,n,r,JhI _)
  |tup xs=>obtain⟨z,i,r,g,e,c⟩:=x;exact(z,i,r,g,JhI _,c)
  |dK kvs=>obtain⟨z,y,vs,r,g,es,ep,e,c⟩:=x;exact(z,y,vs,r,g,es,ep,JhI _,c)
  | dT kvs =>
    let(z,y,xs,r,g,es,ep,e,c):=x;exact(z,y,xs,Paired.mapP r λp q z=>(z.1,A _ _ z.2.1,z.2.2),g,es,ep,JhI _,c)
  |set S n=>obtain⟨g,es,ep,t,e,c⟩:=x;exact(g,es,ep,t,JhI _,c)
  | ins C dx D =>
    let(d,z,l,e,j,(od,es,ep,E,c),r):=x;exact(B _ d,z,l,JhI _,j,(od,es,ep,k _ _ (.inr d) E,c),r)
  |own y=>obtain⟨g,e⟩:=x;exact(g,JhI _)
  |xd D=>obtain⟨j,⟨od,es,ep,e,c⟩,r⟩:=x;exact(j,(od,es,ep,JhI _,c),r)
  |rng lo G=>obtain⟨t,u,v,e⟩:=x;exact(t,u,v,JhI _)
  |frz g u s=>obtain⟨e,q⟩:=x;exact(JhI _,s q)
  | tbl ps =>
    let e:=x;exact JhI a
  | met f y =>
    let e:=x;exact JhI a
  |ext F=>obtain⟨p,⟨o,e⟩,st⟩:=x;exact(st _ _ p λo q=>JhH _ q,(o,JhI _),st)
def HOk.lt (x:Jkz h)(e:Gc a o):N8 a:=(x a o e).lt
def HOk.fresh (x:Jkz h)(e:JfO a):Gf a:=by
  cases q:H a with
  |none=>rfl
  |some u=>exact Mr (Nat.lt_of_lt_of_le (x.lt q) e) _
def HOk.kept (x:Jkz h)(k:∀b u,h.get? b=some u->h'.get? b=some u):Jkz h':=λa o e=>
  (x a o e).stay (λb u y q=>k b u q) (λy q=>q) λy y q=>q
def HOk.laid (x:Jkz h)(k:∀b u,h.get? b=some u->h'.get? b=some u)(i:JfO a)(d:bJ P w (JfC o) h' a o):Jky (JfC o) h':=λb u e=>by
  let f:=x.fresh i;by_cases g:b=a
  . subst g;rw[ao]at e;cases e;exact d
  . rw[aq g]at e;exact(x b u e).stay (λc v y q=>k c v q) (λc q=>by rw[WM q f];exact q) λc xs q=>by rw[WM q f];exact q
end
def Rd (H:Hp)(a:Addr)(u:HO):Prop:=Gc a u\/∃o,Gc a (Jgq u)
def Rd.of (h:Gc a u):Rd H a u:=.inl h
def Rd.ok (r:Rd H a u)(x:Jkz h):bJ P w H h a u:=by
  rcases r with r|⟨o,r⟩
  . exact x a u r
  . let(_,q):=x a _ r;exact q
def Mut:Option HO->Prop
  |some (.lst _)=>True
  |some (.dK _)=>True
  |some (.dT _)=>True
  |some (.set _ _)=>True
  |some (.ins _ _ _)=>True
  |some (.ext _)=>True
  |_=>False
section
variable {P:Program} {w:World} {H:Hp} {h h':Heap} {x e:Addr} {o':HO}
def HOk.write (s:Jkz h)(g:Jmc x)(p:e=x∨JcJ e x)(k:∀b u,b≠e→h.get? b=some u→h'.get? b=some u)(n:∃u,h'.get? e=some u)
    (l:bJ P w (Gk x o') h' x o'):Jky (Gk x o') h':=λb u q=>by
  let d:∀c y,JcJ c y->c≠x:=λc y r z=>by subst z;rw[r]at g;exact g
  let f:∀c xs,MB c xs->c≠x:=λc xs r z=>by subst z;rw[r]at g;exact g
  by_cases j:b=x
  . subst j;rw[ao]at q;cases q;exact l
  . rw[aq j]at q;by_cases a:b=e
    . let o:H b=some (.own x):=by
        rcases p with z|z
        . exact absurd (a.trans z) j
        . rw[a];exact z
      rw[q]at o;cases o;let(v,t):=n;exact(v,by rw[a];exact t)
    . apply(s b u q).stay (λc v i r=>k c v ?_ r) (λc r=>by rw[aq (d c b r)];exact r) λc xs r=>by rw[aq (f c xs r)];exact r
      rcases i with rfl|i
      . exact a
      . rintro rfl;rcases p with z | z
        . exact d c b i z
        . rw[i]at z;cases z;exact j rfl
end
structure Un (fs ex:List Addr)(H H':Hp)(h h':Heap):Prop where
  keep:∀b o,h.get? b=some o->Gf b->b∉fs->b∉ex->h'.get? b=some o
  slot:∀b o,h.get? b=some o->Gf b->b∈fs->b∉ex->∃sl,h'.get? b=some { o with slots:=sl }
  free:∀b o,h.get? b=some o->Gf b->b∉ex->JaD b
  there:∀b o,h.get? b=some o->b∉ex->∃o',h'.get? b=some o'
  tups:∀b xs,MB b xs->Vw b xs
  frzs:∀b o u,JeR b (Jgq u) b (Jgq u)
  tbls:∀b ps,Gc b (.tbl ps)->∃more,Vk b (.tbl (ps++more))
section
variable {fs fs' ex ex':List Addr} {H H1 H2:Hp} {h h1 h2 h':Heap} {a x e:Addr} {o:HO}
def Un.any (u:Un fs ex H H1 h h1){b:Addr}{c:Obj}(q:h.get? b=some c)(n:Gf b)(d:b∉ex):∃g,h1.get? b=some { c with slots:=g }:=by
  by_cases f:b∈fs
  . exact u.slot b c q n f d
  . exact(c.slots,u.keep b c q n f d)
def Un.trans (a:Un fs ex H H1 h h1)(b:Un fs ex H1 H2 h1 h2):Un fs ex H H2 h h2 where
  keep:=λc d q n i f=>b.keep c d (a.keep c d q n i f) (a.free c d q n f) i f
  slot:=λc d q n i f=>by let(s,g):=a.slot c d q n i f;let(j,l):=b.slot c _ g (a.free c d q n f) i f;exact(j,l)
  free:=λc d q n f=>by let(k,g):=a.there c d q f;exact b.free c k g (a.free c d q n f) f
  there:=λc d q f=>by let(k,g):=a.there c d q f;exact b.there c k g f
  tups:=λc xs q=>b.tups c xs (a.tups c xs q)
  frzs:=λc d xs q=>b.frzs c d xs (a.frzs c d xs q)
  tbls:=λc ps q=>by let(r,g):=a.tbls c ps q;let(p,l):=b.tbls c _ g;exact(r++p,by rw[l,Array.append_assoc])
def Un.kept (k:∀b u,h.get? b=some u->h'.get? b=some u):Un fs ex H H h h' :=
  (λb c q x x x=>k b c q,λb c q x x x=>(c.slots,k b c q),λx x x n x=>n,λb c q x=>(c,k b c q),λx x q=>q,λx x x q=>q,λx ps q=>(#[],by rw[q];simp))
def Un.refl:Un fs ex H H h h:=Un.kept λx x q=>q
def Un.laid (k:∀b u,h.get? b=some u->h'.get? b=some u)(d:JfO a)(c:Gf a):Un fs ex H (JfC o) h h' where
  keep:=λb u q x x x=>k b u q
  slot:=λb u q x x x=>Jmd (k b u q)
  free:=λb u q n x=>by rw[aq (YB q d)];exact n
  there:=λb u q x=>(u,k b u q)
  tups:=λb xs q=>by rw[WM q c];exact q
  frzs:=λb u xs q=>by rw[WM q c];exact q
  tbls:=λb ps q=>(#[],by rw[WM q c,q];simp)
def Un.write (d:Jmc x)(l:e=x∨JcJ e x)(k:∀b u,b≠e→h.get? b=some u→h'.get? b=some u)(g:∃u,h'.get? e=some u):Un fs ex H (Gk x o) h h':=by
  let i:∀b,VA b (b≠x):=λb n z=>by subst z;rw[n]at d;exact d
  let j:∀b,VA b (b≠e):=λb n z=>by
    subst z;rcases l with r|r
    . exact i b n r
    . rw[n]at r;cases r
  let f:∀b u,Gc b u->¬Mut (some u)->b≠x:=λb u q nm z=>by subst z;rw[q]at d;exact nm d
  apply(λb u q n y y=>k b u (j b n) q,λb u q n y y=>Jmd (k b u (j b n) q),λb u q n y=>by rw[aq (i b n)];exact n,λb u q y=>?_,λb xs q=>by rw[aq (f b _ q λz=>z)];exact q,λb u xs q=>by rw[aq (f b _ q λz=>z)];exact q,λb ps q=>(#[],by rw[aq (f b _ q λz=>z),q];simp))
  by_cases c:b=e
  . subst c;exact g
  . exact(u,k b u c q)
end
noncomputable def trk (h:Heap)(H:Hp):List Addr:=(List.range h.objs.size).filter λa=>(H a).isSome
def jH (h:Heap)(H:Hp):Heap:=PySem.W.hideAll h (trk h H)
def yo (h)(H):(jH h H).objs.size=h.objs.size:=PySem.W.hideAll_size _ _
def yp (e:h.get? b=some o)(n:Gf b):(jH h H).get? b=some o :=
  PySem.W.hideAll_get _ e λa=>by let q:=(List.mem_filter.mp a).2;rw[n]at q;simp at q
def yq (e:(jH h H).get? b=some o):h.get? b=some o∧Gf b:=by
  let a:=PySem.W.of_hideAll _ e;apply Mm a;cases q:H b with
  |none=>rfl
  | some x =>
    let c:b∈trk h H:=Ig (List.mem_range.mpr (hLq a)) (by simp [q]);let z:(jH h H).get? b=none:=PySem.W.hideAll_none _ c;rw[z]at e;cases e
noncomputable def zrD (g h:Heap)(L:Addr):JaM Obj:=(List.range h.objs.size).filterMap λa=>if a=L\/(g.get? a).isSome=true then none else(h.get? a).map λo=>(a,o,)
def rest (g h:Heap)(L d:Addr):JaM Obj:=(zrD g h L).filter λp=>decide (p.1≠d)
structure Mod (K:PySem.W.Frag)(mg)(base):Prop where
  kin:K.In base
  glob:VX mg
  blt:∃mb,base.Ns builtinsNs mb/\∀x:Str,JbC x->mb x=bootBuiltins x
  nolimit:base.NoLimit
structure Cx where
  prog:Program
  w:World
  K:PySem.W.Frag
  mg:UT Str
  base:Heap
  A:Around
  N:List Str
  s₀:Shared
  H₀:Hp
  env:Env
  outer:List Env
  stack:List Env
  ex:List Addr
  fn:Str->Bool
  calm:Bool
  pn:JaM Obj
  xe:Value->Shared->Prop
noncomputable def frs (l:List Env):List Addr:=l.filterMap (·.frame)
abbrev Cx.fs (X:Cx):List Addr:=frs X.outer
def Vis (sc:Scope)(x:Str):Prop:=Jlo x\/JjS x\/Xq x .free
def Loc (sc:Scope)(x:Str):Prop:=Jlo x\/JjS x
def Look (env:Env)(h:Heap)(m:UT Str)(x:Str)(u:Value):Prop :=
  (Jh8 x .local/\Xa (m x) u)\/((Jh8 x .cell\/Jh8 x .free)/\∃c,Jae x c/\h.IsCell c (some u))
structure Cx.Ok (X:Cx):Prop where
  mod:Mod X.K X.mg X.base
  kind:NZ X.env.scope.kind
  glob:X.env.globals=mainGlobals
  blt:X.env.builtins=builtinsNs
  above:Nr X.env.locals
  inj:∀x y c,Jli (Jlh y (x=y))
  has:∀x,(V6 x\/N6 x)->∃c,We x c
  cab:∀x c,M0 x->Jli (Nr c)
  hd:Xh X.calm->Uf X.A.handled
  frames:Xa X.A.frames X.stack
  stk:X.stack=X.outer\/(X.stack=M4 X.env/\JgL X.env.frame)
  exf:∀b∈X.ex,Nx b/\∀x c,Jli (c≠b)
  bs:∀b o,X.base.get? b=some o->X.s₀.heap.get? b=some o/\Jms b
  bsz:X.base.objs.size<=X.s₀.heap.objs.size
  noex:∀b o,X.base.get? b=some o->b∉X.ex
  exfs:∀b∈X.ex,b∉X.fs
  funs:X.s₀.heap.FunFrames X.base X.outer
  frf:∀b∈X.fs,Jms b
structure Inv (X:Cx)(pins)(σ:List (Option V))(H)(s:Shared):Prop where
  ok:X.Ok
  os:s.os=X.s₀.os
  bare:AllBare s.gens
  base:Un X.fs X.ex X.H₀ H X.s₀.heap s.heap
  loc:∃m,s.heap.Ns X.env.locals m/\∀(i:Nat) (x) (v),X.N[i]?=some x->σ[i]?=Jme v->Jam x->∃u,IH v/\Look X.env s.heap m x u
  cell:∀x c,We x c->∃v,s.heap.IsCell c v
  free:Gf X.env.locals
  freeC:∀x c,Jli (Gf c)
  pin:∀p∈X.pn++pins,s.heap.get? p.1=some p.2/\Gf p.1/\Nx p.1/\p.1∉X.fs/\∀v,p.2.data≠.cell v
  hok:Jd3 H s.heap
  len:σ.length=X.N.length
section
variable {X:Cx} {pins:List (IL Obj)} {σ:List (Option V)} {H H':Hp} {s:Shared} {h':Heap}
def Cx.Ok.nofr (a:X.Ok){b:Addr}{o:Obj}(e:X.base.get? b=some o):b∉X.fs:=λc=>by have:=(a.funs.mem c).1;rw[e]at this;cases this
def Inv.bs (I:Vm s):∀b o,X.base.get? b=some o->s.heap.get? b=some o/\Gf b:=λb o e=>
  (JkK o (I.ok.bs b o e).1 (I.ok.bs b o e).2 (I.ok.nofr e) (I.ok.noex b o e),Jbe o (I.ok.bs b o e).1 (I.ok.bs b o e).2 (I.ok.noex b o e))
def Inv.bk (I:Vm s):∀b o,X.base.get? b=some o->s.heap.get? b=some o:=λb o e=>(I.bs b o e).1
def Inv.mod (I:Vm s):Mod X.K X.mg X.base:=I.ok.mod
def Inv.kIn (I:Vm s):X.K.In s.heap:=I.ok.mod.kin.keeps I.bk
def Inv.fr (I:Vm s):∃m,Fr X.base X.env.locals s.heap m :=
  let (m,hn,_):=I.loc
  (m,hn,I.bk,NQ I.ok.above)
def Inv.lt (I:Vm s):Ml X.env.locals:=let (_,hn,_):=I.loc;hn.lt
def Inv.sz (I:Vm s):Nr s.heap.objs.size:=Nat.le_trans I.ok.above (Nat.le_of_lt I.lt)
def Inv.nofs (I:Vm s){a:Addr}(h:QS a):a∉X.fs:=λc=>by let(_,o,b,_):=I.ok.funs.mem c;exact Mr (Qg b (Nat.le_trans I.sz h)) _
def Inv.cne (I:Vm s):∀x c,Jli (Nx c):=λx c e z=>by let(v,o,d,f):=JeS x e;let(m,(g,es,ep,a,b,_),_):=I.loc;rw[z,a]at d;cases d;rw[b]at f;cases f
def Inv.funs (I:Vm s):s.heap.FunFrames X.base X.outer:=by
  let f:∀l,(∀b∈frs l,b∈X.fs)→X.s₀.heap.FunFrames X.base l→s.heap.FunFrames X.base l:=by
    intro l
    induction l with
    |nil=>intro _ _;trivial
    | cons env r g =>
      intro hs k;let(n,(L,o,a,j,i,p),h):=k;let d:=hs L (by unfold frs;rw[List.filterMap_cons,a];exact List.mem_cons_self);let(q,e):=I.base.slot L o i (I.ok.frf L d) d λz=>I.ok.exfs L z d;exact(n,(L,_,a,j,e,p),g (λb c=>hs b (by unfold frs;rw[List.filterMap_cons,a];exact Jb c)) h)
  exact f X.outer (λx c=>c) I.ok.funs
def Inv.stack (I:Vm s):s.heap.FunFrames X.base X.stack:=by
  rcases I.ok.stk with e|⟨e,b⟩
  . rw[e];exact I.funs
  . rw[e];let(m,a,_):=I.loc;apply .cons (by rw[I.ok.kind];decide) b a ?_ I.funs;exact Heap.get?_none_of_le (NQ I.ok.above)
def Inv.stkSub (I:Vm s):∀b∈frs X.stack,b∈X.env.locals::X.fs:=λb a=>by
  rcases I.ok.stk with e|⟨e,c⟩
  . rw[e]at a;exact Jb a
  . rw[e]at a;unfold frs at a;rw[List.filterMap_cons,c]at a;exact a
def Inv.stkFree (I:Vm s):∀b∈frs X.stack,Gf b:=λb a=>by
  rcases List.mem_cons.mp (I.stkSub b a) with e|a
  . rw[e];exact I.free
  . let(_,o,c,_):=I.ok.funs.mem a;exact I.base.free b o c (I.ok.frf b a) λz=>I.ok.exfs b z a
def Inv.step {g':Array GenState}{t':Nat}{d':Drawn}{ch:List Addr}(I:Vm s)
    (j:∀b∈ch,(b∈X.ex\/Nr b)/\Nx b/\(∀x c,Jli (c≠b))/\∀p∈X.pn++pins,p.1≠b)
    (h:∀b o,Nx b->b∉X.fs->b∉ch->s.heap.get? b=some o->Gf b->h'.get? b=some o)
    (B:∀b o,Nx b->b∈X.fs->b∉ch->s.heap.get? b=some o->Gf b->∃P,h'.get? b=some { o with slots:=P })(f:∀b o,b∉ch->s.heap.get? b=some o->Gf b->JaD b)
    (C:∀b o,b∉ch->s.heap.get? b=some o->∃J,h'.get? b=some J)
    (F:∀b xs,MB b xs->Vw b xs)(M:∀b o u,JeR b (Jgq u) b (Jgq u))(G:∀b ps,Gc b (.tbl ps)->∃L,Vk b (.tbl (ps++L)))
    (ns:∀m,s.heap.Ns X.env.locals m->h'.Ns X.env.locals m)(Q:JlY h')(hg:AllBare g'):
    Inv X pins σ H' { s with heap:=h',gens:=g',drawn:=d',toks:=t' }:=by
  let K:∀b o,X.s₀.heap.get? b=some o->Nx b:=λb o e=>Jd2 e;let y:∀b o,X.s₀.heap.get? b=some o->b∉X.ex->b∉ch:=λb o e a D=>by
    rcases(j b D).1 with z|z
    . exact a z
    . exact Mr (Qg e z) _
  let t:∀x c,We x c->∀v,s.heap.IsCell c v->h'.IsCell c v:=λx c e v (o,E,R)=>by
    let g:c∉ch:=λz=>(j c z).2.2.1 x c e rfl;by_cases U:c∈X.fs
    . let(P,q):=B c o (I.cne x c e) U g E (JcV c e);exact W7 q R
    . exact J8 (h c o (I.cne x c e) U g E (JcV c e)) R
  apply(I.ok,I.os,hg,(λb o e n D a=>?_,λb o e n D a=>?_,λb o e n a=>?_,λb o e a=>?_,λb xs e=>F b xs (Jj_ b e),λb o xs e=>M b o xs (I.base.frzs b o xs e),λb ps e=>?_),?_,λx c e=>?_,?_,λx c e=>?_,λp T=>?_,Q,I.len)
  . exact h b o (K b o e) D (y b o e a) (JkK o e n D a) (Jbe o e n a)
  . let(P,A):=I.base.slot b o e n D a;let(O,N):=B b _ (K b o e) D (y b o e a) A (Jbe o e n a);exact(O,N)
  . let(J,A):=JeT o e a;exact f b J (y b o e a) A (Jbe o e n a)
  . let(J,A):=JeT o e a;exact C b J (y b o e a) A
  . let(Y,A):=I.base.tbls b ps e;let(W,N):=G b _ A;exact(Y++W,by rw[N,Array.append_assoc])
  . let(m,Z,hl):=I.loc;apply(m,ns m Z,λi x v A N e3=>?_);let(u,r,l):=hl i x v A N e3;apply Id u r;rcases l with l | ⟨k,c,e,z⟩
    . exact .inl l
    . exact NG k c e (t x c e _ z)
  . let(v,z):=JeS x e;exact(v,t x c e v z)
  . let(m,(o,_,_,E,_),_):=I.loc;exact f _ o (λz=>(j _ z).2.1 rfl) E I.free
  . let(v,o,E,R):=JeS x e;exact f c o (λz=>(j c z).2.2.1 x c e rfl) E (JcV c e)
  . let(e,n,S,nf,d):=Jb9 T;let g:p.1∉ch:=λz=>(j p.1 z).2.2.2 p T rfl;exact(h p.1 p.2 S nf g e n,f p.1 p.2 g e n,S,nf,d)
def Inv.un {t':Nat}(I:Vm s)(u:NY X.fs [] H H' h')(c:JlY h'):Qk H' { s with heap:=h',toks:=t' }:=by
  let(m,(o,es,ep,h,r),_):=id I.loc;let(l,k):=u.any h I.free (by simp);exact I.step (g':=s.gens) (d':=s.drawn) (ch:=[]) (λx z=>nomatch z) (λb o x d x e n=>u.keep b o e n d (by simp)) (λb o x d x e n=>u.slot b o e n d (by simp)) (λb o x e n=>u.free b o e n (by simp)) (λb o x e=>u.there b o e (by simp)) u.tups u.frzs u.tbls (λq j=>by let(p,f,g,a,i):=j;rw[h]at a;cases a;exact(_,f,g,k,i)) c I.bare
def Inv.call {g':Array GenState}{t':Nat}{d':Drawn}{ch:List Addr}(I:Vm s)(u:Jeq ch H H' h')(g:JlY h')(t:AllBare g')
    (f:∀b∈ch,(b∈X.ex\/Nr b)/\Nx b/\(∀x c,Jli (c≠b))/\∀p∈X.pn++pins,p.1≠b):
    Inv X pins σ H' { s with heap:=h',gens:=g',drawn:=d',toks:=t' }:=by
  let(m,(o,es,ep,k,r),_):=id I.loc;let(y,h):=u.any k I.free λz=>(f _ z).2.1 rfl;exact I.step f (λb o h v a e n=>u.keep b o e n (λz=>(List.mem_cons.mp (I.stkSub b z)).elim h v) a) (λb o C C a e n=>u.any e n a) (λb o a e n=>u.free b o e n a) (λb o a e=>u.there b o e a) u.tups u.frzs u.tbls (λB q=>by let(A,i,j,d,l):=q;rw[k]at d;cases d;exact(_,i,j,h,l)) g t
def Inv.turned {t':Nat}{it:Addr}(I:Vm s)(k:∀b o,b≠it→s.heap.get? b=some o→h'.get? b=some o)(h:Gf it)(f:Nx it)
    (w:it∈X.ex\/Nr it)(t:∀x c,Jli (c≠it))(l:∀p∈X.pn++pins,p.1≠it):Vm { s with heap:=h',toks:=t' }:=by
  let d:∀b u,JeE b u (b≠it):=λb u e z=>by rw[z,h]at e;cases e
  apply I.step (g':=s.gens) (d':=s.drawn) (ch:=[it]) (λb j=>?_) (λb o y y a e y=>k b o (λz=>a (by simp [z])) e) (λb o y y a e y=>(o.slots,k b o (λz=>a (by simp [z])) e)) (λy y y y n=>n)
    (λb o a e=>(o,k b o (λz=>a (by simp [z])) e)) (λy y e=>e) (λy y y e=>e) (λb ps e=>(#[],by rw[e];simp)) (λm i=>?_) (λb u e=>?_) I.bare
  . let e:b=it:=by simpa using j
    subst e;exact(w,f,t,l)
  . let(o,es,ep,g,r):=i;exact(o,es,ep,k _ o (Ne.symm f) g,r)
  . apply(JfP u e).stay (λc v a q=>k c v ?_ q) (λy q=>q) λy y q=>q;rcases a with z | z
    . rw[z];exact d b u e
    . exact d c _ z
def Inv.tok (I:Vm s)(t):Vm { s with toks:=t }:=I.un (h':=s.heap) (t':=t) Un.refl I.hok
def Inv.kept (I:Vm s)(k:∀b u,s.heap.get? b=some u->h'.get? b=some u):Vm { s with heap:=h',toks:=t' }:=I.un (Un.kept k) (I.hok.kept k)
def Inv.laid (I:Vm s)(k:∀b u,s.heap.get? b=some u→h'.get? b=some u)(d:QS a)(c:WR (JfC o) h' a o) :
    Inv X pins σ (JfC o) { s with heap:=h',toks:=t' }:=I.un (Un.laid k d (I.hok.fresh d)) (I.hok.laid k d c)
def Inv.write (I:Vm s)(d:Jmc x)(f:e=x∨JcJ e x)(k:∀b u,b≠e→s.heap.get? b=some u→h'.get? b=some u)(a:∃u,h'.get? e=some u)
    (c:WR (Gk x o) h' x o):Qk (Gk x o) { s with heap:=h',toks:=t' }:=I.un (Un.write d f k a) (I.hok.write d f k a c)
def Inv.pins_of (I:Vm s)(h:∀p∈pins',s.heap.get? p.1=some p.2/\Gf p.1/\Nx p.1/\p.1∉X.fs/\∀v,p.2.data≠.cell v):V8 pins' σ :=
  (Jg8 I.ok (λp a=>(mPq a).elim (λz=>Jb9 (Ma z)) (h p)))
def tW {N:List Str}(c:N.Nodup){i j:Nat}{x:Str}(a:N[i]?=some x)(b:N[j]?=some x):i=j:=by let(g,e):=gEq a;let(f,d):=gEq b;exact(List.getElem_inj c).mp (e.trans d.symm)
def tX {M:Model}{A:Around}{E:Value→Shared→Prop}{i:Nat}{x:Str}{v:V}{u:Value}{Q:Unit→Shared→Prop}(I:Vm s)(hN:X.N.Nodup)(R:X.N[i]?=some x)(t:NI x)(r:IH v)
    (h:∀s',Ia X (JkL i v) H s'->(∃a,Heap.SameBut a s.heap s'.heap/\(a=X.env.locals\/We x a))->Q () s')(hf:M0 x\/X.env.scope.names.lookup x=some .local:=by first|exact .inl rfl|exact .inr rfl|assumption):wpAny M A (Jit x u) Q E s:=by
  let(m,hn,hl):=id I.loc;let S:Xx (X.env.scope.kind == .class||(X.env.scope.kind == .module&&X.env.locals != X.env.globals)):=by rw[I.ok.kind];rfl
  let F:i<σ.length:=by rw[I.len];exact(gEq R).1
  let L:=I.cne;let f:∀{a:Addr} {h':Heap},(∃o,s.heap.get? a=some o/\Gf a)->Jba a->HOk X.prog X.w H h':=λ{a h'} ha hs b ob e=>by
    let(_,_,B):=ha;apply(JfP ob e).stay (λc W l q=>(hs.2 c ?_).trans q) (λ_ q=>q) λ_ _ q=>q;rintro rfl;rcases l with rfl|l
    . rw[B]at e;cases e
    . rw[B]at l;cases l
  rcases t with D|D
  . apply wpAny_storeName_local D hn (λh' hn' hs=>?_) S;let(oL,_,_,hoL,_):=id hn;apply h _ (JfS I.ok I.os (λb o e n K t=>?_,λb o e n K t=>?_,I.base.free,λb o e t=>?_,I.base.tups,I.base.frzs,I.base.tbls) (W7 hn' (λj y v' g C e3=>?_)) (λy c e=>?_) (λp hp=>?_) (f (oL,hoL,I.free) hs) (by simpa using I.len)) (W7 hs (.inl rfl))
    . exact(hs.2 b (Jd2 e)).trans (JkK o e n K t)
    . let(sl,g):=I.base.slot b o e n K t;exact(sl,(hs.2 b (Jd2 e)).trans g)
    . let(o',g):=JeT o e t;exact(o',(hs.2 b (Jd2 e)).trans g)
    . by_cases G:j=i
      . subst G;rw[R]at g;cases g;rw[List.getElem?_set_self F]at C;cases C;exact(u,r,Uh D (by simp))
      . rw[List.getElem?_set_ne (Ne.symm G)]at C;let(u',r',q):=hl j y v' g C e3;apply Id u' r';rcases q with ⟨k,e⟩ | ⟨k,c,e,z⟩
        . apply Uh k ?_;have:y≠x:=λe=>G (tW hN g (e▸R));simp [this,e]
        . exact NG k c e (z.sameBut hs (L y c e))
    . let(W,z):=JeS y e;exact(W,z.sameBut hs (L y c e))
    . let(e,n,Y,nf,d):=Jb9 hp;exact((hs.2 p.1 Y).trans e,n,Y,nf,d)
  . let J:M0 x:=by
      rcases hf with z|z
      . exact z
      . rw[z]at D;cases D
    let(c,l):=I.ok.has x (.inl D);let(W,z):=JeS x l;apply wpAny_storeName_cell I.ok.kind D l z (λh' U hs=>?_);let(oc,P,O):=id z;apply h { s with heap:=h' } (JfS I.ok I.os (λb o e n K t=>?_,λb o e n K t=>?_,I.base.free,λb o e t=>?_,I.base.tups,I.base.frzs,I.base.tbls) (m,hn.sameBut hs (Ne.symm (L x c l)),λj y v' g C e3=>?_) (λy Z e=>?_) (λp hp=>?_) (f (oc,P,JcV c l) hs) (by simpa using I.len)) (c,hs,.inr l)
    . exact(hs.2 b (YB e (I.ok.cab x c J l))).trans (JkK o e n K t)
    . let(sl,g):=I.base.slot b o e n K t;exact(sl,(hs.2 b (YB e (I.ok.cab x c J l))).trans g)
    . let(o',g):=JeT o e t;exact(o',(hs.2 b (YB e (I.ok.cab x c J l))).trans g)
    . by_cases G:j=i
      . subst G;rw[R]at g;cases g;rw[List.getElem?_set_self F]at C;cases C;exact(u,r,NG (.inl D) c l U)
      . rw[List.getElem?_set_ne (Ne.symm G)]at C;let(u',r',q):=hl j y v' g C e3;apply Id u' r';rcases q with q | ⟨k,Z,e,z'⟩
        . exact .inl q
        . apply NG k Z e (z'.sameBut hs ?_);rintro rfl;exact G (tW hN g (I.ok.inj _ _ _ e l▸R))
    . by_cases T:Z=c
      . subst T;exact Qu U
      . let(w2,z2):=I.cell y Z e;exact(w2,z2.sameBut hs T)
    . let(e,n,Y,nf,d):=Jb9 hp;apply((hs.2 p.1 ?_).trans e,n,Y,nf,d);intro q;rw[q,P]at e;let q':=Option.some.inj e;exact d W (by rw[<-q'];exact O)
def pC (I:Vm s)(d:X.N.Nodup)(b:X.N[i]?=some x)(a:NI x)(r:IH v)
    (h:∀s',Ia X (JkL i v) H s'->Q () s')(c:M0 x\/X.env.scope.names.lookup x=some .local:=by first|exact .inl rfl|exact .inr rfl|assumption):wpAny M A (Jit x u) Q E s :=
  tX I d b a r (λs' e y=>h s' e) c
def Inv.call' (I:Vm s)(g:s'.os=s.os)(u:Jeq ch H H' s'.heap)(a:JlY s'.heap)(h:AllBare s'.gens)
    (d:∀b∈ch,(b∈X.ex\/Nr b)/\Nx b/\(∀x c,Jli (c≠b))/\∀p∈X.pn++pins,p.1≠b):Qk H' s':=by let(h',g',d',t',f):=s';let e:=g;subst e;exact I.call (g':=g') (t':=t') (d':=d') u a h d
end
abbrev XK:=Value->Option Addr->Hp->Prop
abbrev St:=List (Option V)
abbrev VK:=V->Hp->Prop
abbrev TE:=St->Hp->VK->Prop
abbrev TT:=St->Hp->(Bool->Hp->Prop)->Prop
abbrev TA:=St->Hp->(List V->Hp->Prop)->Prop
structure iZ where
  nx:St->Hp->Prop
  rt:VK
  bk:St->Hp->Prop:=λ_ _=>False
  ct:St->Hp->Prop:=λ_ _=>False
abbrev TS:=iZ->St->Hp->Prop
def EP (X:Cx)(a:JaM Obj)(b:St)(Q:VK)(u:Value)(s':Shared):Prop:=∃v H',Jic a b (IH v/\Q v H')
def TP (X:Cx)(a:JaM Obj)(c:St)(Q:Bool->Hp->Prop)(b:Bool)(s':Shared):Prop:=∃H',Jic a c (Q b H')
def AP (X:Cx)(a:JaM Obj)(b:St)(Q:List V->Hp->Prop)(us:List Value)(s':Shared):Prop:=∃vs H',Jic a b (WD vs/\Q vs H')
def SP (X:Cx)(b:JaM Obj)(D:iZ)(f:Flow)(s':Shared):Prop :=
  match f with
  |.next=>∃a H',Jic b a (JkM H')
  |.brk=>∃a H',Jic b a (D.bk a H')
  |.cont=>∃a H',Jic b a (D.ct a H')
  |.ret u=>∃v a H',Jic b a (IH v/\JmR v)
def PE (X:Cx)(e:Expr)(t:TE):Prop :=
  ∀a s (b:St) H Q,JnK (t b H Q->IE (Vc e) (EP X a b Q) s)
def PT (X:Cx)(e:Expr)(t:TT):Prop :=
  ∀a s (b:St) H Q,JnK (t b H Q->IE (isTrue e X.env (Vc e)) (TP X a b Q) s)
def PW (X:Cx)(e:Expr)(t:TT):Prop :=
  ∀b a s (c:St) H Q,JjZ c (t c H Q->IE (isTrue e X.env b) (TP X a c Q) s)
def PW.pt (h:PW X e t):PT X e t:=h _
def PA (X:Cx)(es:List Expr)(t:TA):Prop :=
  ∀c a s (b:St) H Q,JnK (t b H Q->IE (spliced (Qn c es)) (AP X a b Q) s)
def PS (X:Cx)(st:Stmt)(t:TS):Prop :=
  ∀a s (b:St) H D,JnK (t D b H->IE (exec st X.env) (SP X a D) s)
def PSs (X:Cx)(st:List Stmt)(t:TS):Prop :=
  ∀a s (b:St) H D,JnK (t D b H->IE (execs st X.env) (SP X a D) s)
def thn (h:wpAny M A t Q E s)(b:∀a s,Q a s->Q' a s):wpAny M A t Q' E s:=wpAny_mono h b λy y x=>x
section
variable {X:Cx}
inductive mY (i:Nat):TE|m{σ H Q} v:σ[i]?=Jme v->Q v H->mY i σ H Q
def tC (v:V):TE:=λx H Q=>Q v H
def pe_var (w:X.N[i]?=some x)(o:Jam x)(g:Xx (x == ("__debug__":Str)):=by decide)(j:Xx (x == ("__classdict__":Str)):=by decide):Qo (VG pos) (mY i):=by
  intro f s n H Q I h;let(v,e,h):=h;let(m,p,t):=I.loc;let(u,r,l):=t i x v w e o;let d:EP X f n Q u s:=(v,H,I,r,h);rcases l with ⟨b,q⟩|⟨b,c,k,a⟩
  . exact JkN (wpAny_loadName_local I.ok.kind b p q d)
  . rcases b with b | b
    . exact JkN (wpAny_loadName_cell I.ok.kind b k a d)
    . exact JkN (wpAny_loadName_free I.ok.kind b k a d j)
def af:Jln (JeU (.int i) j) (.int i):=λx x x H x I h=>wpAny_Constant_int (Ji3 i H _ _ h)
def de:Jln (JeU (.bool b) j) (.bl b):=λx x x H x I h=>Constant_bool (XE b H I h)
def eU:Jln (JeU .none j) .non:=λx x x H x I h=>Constant_none (Jh .non H I h)
def aE:Jln (JeU (.str x) j) (.str x):=λy y y H y I h=>Calls.Constant_str (QE (.str x) H _ (Ye _) h)
def Gl (X:Cx)(x:Str):Prop:=Mf x .globalImplicit
def iI (I:Vm s)(b:Jg9 x)(a:Xa (X.mg x) u)(h:Q u s)
    (c:Xx (x==("__debug__":Str)):=by decide):Ny (Vc (VG pos)) Q E s :=
  Calls.Name_function_global I.ok.kind b (Calls.loadGlobal_global (by rw[I.ok.glob];exact I.mod.glob.keeps I.bk) a h) c
def eV (I:Vm s)(d:Jg9 x)(c:UG x)(a:Jbt x u)(h:Q u s)
    (b:JbC x:=by decide)(e:Xx (x==("__debug__":Str)):=by decide):Ny (Vc (VG pos)) Q E s:=by let(i,g,f):=I.mod.blt;exact Calls.Name_function_global I.ok.kind d (Calls.loadGlobal_builtin (by rw[I.ok.glob];exact I.mod.glob.keeps I.bk) c (by rw[I.ok.blt];exact g.keeps I.bk) ((f x b).trans a) h) e
def ik (b:Jg9 x)(a:Xa (X.mg x) u)(r:IH v)(c:Xx (x==("__debug__":Str)):=by decide):Jln (VG pos) v :=
  λy y y H y I h=>iI I b a (v,H,I,r,h) c
def jI (d:Jg9 x)(c:UG x)(a:Jbt x u)(r:IH v)(b:JbC x:=by decide)(e:Xx (x==("__debug__":Str)):=by decide):Jln (VG pos) v :=
  λy y y H y I h=>eV I d c a (v,H,I,r,h) b e
variable {a b:Expr} {ta tb:TE} {pos:Pos}
def PC (X:Cx)(op:CmpOp)(a b:Expr)(t:TE):Prop :=
  ∀c s (f:St) H Q,V8 c f->t f H Q->
    wpAny (Qh X.w) X.A (Vc a) (λv e=>IE (Vc b) (λu d=>IE (compareOp op v u) (EP X c f Q) d) e) X.xe s
theorem tY (b:Expr){op:CmpOp}(h:op≠.In)(c:op≠.NotIn):Q3 op b:=by
  let e:Xx (op==CmpOp.In):=by cases op<;>first|rfl|exact GE h
  let d:Xx (op==CmpOp.NotIn):=by cases op<;>first|rfl|exact Jz rfl
  cases b<;>first|rfl|(show(_&&(op == .In||op == .NotIn)&&_)=false;rw[e,d,Bool.or_self,Bool.and_false];rfl)
inductive isB:V->Hp->(Bool->Hp->Prop)->Prop|m{x H Q} c:x=.bl c->Q c H->isB x H Q
def tB (t:TE):TT:=λc H Q=>t c H λx d=>isB x d Q
def eW (h:PC X op a b t)(f:Q3 op b:=by first|exact tY _ (by decide) (by decide)|rfl):PT X (.Compare a [op] [b] pos) (tB t):=by intro e s g H Q I j;apply wpAny_isTrue_Compare1 (thn (h e s g H _ I j) λv r f=>thn f λu p k=>thn k λc o h_=>?_) f;let(x,n,l,i,q1):=h_;let(d,rfl,q):=q1;cases i;exact Jcz n l q
def eF (h:Qo e t)(k:∀c,isTrue e X.env c=(do let v <-c;standAt e.pos;holding [v] (truthy v)):=by intro _;rfl):PT X e (tB t):=by intro f s g H Q I j;apply isTrue_plain (thn (h f s g H _ I j) λv o h_=>?_) (k _);let(x,n,l,i,q1):=h_;let(d,rfl,q):=q1;cases i;exact Jcz n l q
variable {tA tB':TT} {rest:List Expr}
def tAnd (t u:TT):TT:=λd H Q=>t d H λc e=>if Xh c then u d e Q else Q false e
def tOr (t u:TT):TT:=λd H Q=>t d H λc e=>if Xh c then Q true e else u d e Q
def tNot (t:TT):TT:=λd H Q=>t d H λc e=>Q (!c) e
def eX (g:PT X a tA):PW X (Jnr [a]) tA:=by
  intro i d s f H Q I h;apply isTrue_and (thn (g d s f H Q I h) λc j e=>?_);cases c with
  |true=>exact isTrue_and_nil e
  |false=>exact e
def fq (g:PT X a tA):PW X (QL .Or [a]) tA:=by
  intro i d s f H Q I h;apply isTrue_or (thn (g d s f H Q I h) λc j e=>?_);cases c with
  |false=>exact isTrue_or_nil e
  |true=>exact e
def eG (l:PT X a tA)(k:PW X (Jnr (Xw b)) tB'):PW X (Jnr (a::Xw b)) (tAnd tA tB'):=by
  intro i d s e H Q I h;apply isTrue_and (thn (l d s e H _ I h) λc j (g,f,q1)=>?_);cases c with
  |true=>exact k i d j e g Q f q1
  |false=>exact(g,f,q1)
def dZ (l:PT X a tA)(k:PW X (QL .Or (Xw b)) tB'):PW X (QL .Or (a::Xw b)) (tOr tA tB'):=by
  intro i d s e H Q I h;apply isTrue_or (thn (l d s e H _ I h) λc j (g,f,q1)=>?_);cases c with
  |true=>exact(g,f,q1)
  |false=>exact k i d j e g Q f q1
def gi (f:PT X a tA):PT X (.UnaryOp .Not a pos) (tNot tA):=by intro d s e H Q I h;exact isTrue_not (f d s e H (λc g=>Q (!c) g) I h)
def tAndV (ta tb:TE):TE:=λd H Q=>ta d H λx e=>∃c,x=.bl c/\if Xh c then tb d e Q else JjR e
def tOrV (ta tb:TE):TE:=λd H Q=>ta d H λx e=>∃c,x=.bl c/\if Xh c then Jch e else tb d e Q
def jJ (h:Qo a t):Qo (QL op [a]) t:=λc s d H Q I e=>BoolOp_one (h c s d H Q I e)
def i_ (l:JeH a)(k:Qo (Jnr (Xw b)) tb):Qo (Jnr (a::Xw b)) (tAndV ta tb):=by
  intro d s e H Q I h;apply BoolOp_and (thn (l d s e H _ I h) λv i h_=>?_);let(x,g,f,j,q1):=h_;let(c,rfl,q1):=q1;cases j;apply wpAny_truthy_bool ?_;cases c with
  |true=>exact k d i e g Q f q1
  |false=>exact XE false g f q1
def pe_or (l:JeH a)(k:Qo (QL .Or (Xw b)) tb):Qo (QL .Or (a::Xw b)) (tOrV ta tb):=by
  intro d s e H Q I h;apply BoolOp_or (thn (l d s e H _ I h) λv i h_=>?_);let(x,g,f,j,q1):=h_;let(c,rfl,q1):=q1;cases j;apply wpAny_truthy_bool ?_;cases c with
  |false=>exact k d i e g Q f q1
  |true=>exact XE true g f q1
def tIf (t:TT)(ta tb:TE):TE:=λd H Q=>t d H λc e=>if Xh c then ta d e Q else tb d e Q
def iJ (k:PT X c tA)(n:JeH a)(l:Qo b tb):Qo (.IfExp c a b pos) (tIf tA ta tb):=by
  intro e s f H Q I h;apply wpAny_IfExp (thn (k e s f H _ I h) λd g (j,i,q1)=>?_);cases d with
  |true=>exact n e g f j Q i q1
  |false=>exact l e g f j Q i q1
end
def SqL (K:PySem.W.Frag)(H:Hp)(a:Addr)(xs:List V):Prop :=
  Rd H a (.lst xs) \/
    ∃o b n,Jy a o/\o.cls=.type "list"/\Uf o.dict/\JhP b n/\Ic b.size/\Jjh b.toList
def SqT (K:PySem.W.Frag)(H:Hp)(a:Addr)(xs:List V):Prop :=
  Rd H a (.tup xs) \/
    ∃o b n,Jy a o/\(o.cls,o.dict,)=(Value.type "tuple",none,)/\JhP b n/\Ic b.size/\Jjh b.toList
noncomputable def absV:Np Value V
  |.none=>some .non
  |.bool b=>some (.bl b)
  |.int i _=>Ya i
  |.str x _=>some (.str x)
  |.bytes b _=>some (.byt b)
  |.float b _=>some (.flt b)
  |.ref a=>Ja a
  |.type n=>some (.ty n)
  |_=>none
def bn.abs (r:IH x):absV u=some x:=by
  cases x with
  |non=>cases r;rfl
  |bl _=>cases r;rfl
  |int _=>obtain⟨t,rfl⟩:=r;rfl
  |str _=>obtain⟨t,rfl⟩:=r;rfl
  |byt _=>obtain⟨t,rfl⟩:=r;rfl
  |flt _=>obtain⟨t,rfl⟩:=r;rfl
  |ref _=>cases r;rfl
  |ty _=>cases r;rfl
def bn.inj (r:IH x)(q:IH y):x=y:=Option.some.inj (r.abs.symm.trans q.abs)
theorem bc.inj:∀{xs ys:List V} {us:List Value},WD xs->WD ys->xs=ys
  |_,_,_,.nil,.nil=>rfl
  |_,_,_,Jbm t,.cons a t'=>by rw[r.inj a,bc.inj t t']
section
variable {X:Cx} {pins:List (IL Obj)} {σ:St} {H:Hp} {s:Shared} {a:Addr} {xs ys:List V}
def SqL.of {K:PySem.W.Frag}(h:UL a):JD a:=UZ h
def SqT.of {K:PySem.W.Frag}(h:MB a xs):Q7 a:=UZ h
def Inv.list (I:Vm s)(h:JkB a xs):∃b:List Value,Jjh b/\PlainL s.heap a b.toArray/\Ic xs.length:=by
  rcases h with h|⟨o,b,n,c,f,d,hs,hz,r⟩
  . let(z,b,n,r,e):=h.ok I.hok;exact(b,r,(_,n,e,rfl,rfl,rfl),z)
  . apply JhK b.toList r (o,n,I.kIn a o c,f,d,by simpa using hs);let e:=r.length;simp only[Array.length_toList]at e;lia
def Inv.tupD (I:Vm s)(h:Jfl H a xs):∃b:List Value,Jjh b/\fY s.heap a b.toArray/\Ic xs.length:=by
  rcases h with h|⟨o,b,n,c,d,hs,hz,r⟩
  . let(z,b,r,p):=h.ok I.hok;exact(b,r,p,z)
  . apply JhK b.toList r (o,I.kIn a o c,d,n,by simpa using hs);let e:=r.length;simp only[Array.length_toList]at e;lia
def Inv.tuple (I:Vm s)(h:Jfl H a xs):∃b:List Value,Jjh b/\Q_ a b.toArray/\Ic xs.length:=by let(b,r,p,z):=I.tupD h;exact(b,r,p.up,z)
def Inv.list_inj (I:Vm s)(h:JkB a xs)(h':JkB a ys):xs=ys:=by
  let(b,r,(o,n,e,_,_,d),_):=I.list h;let(its',f,(i,j,c,_,_,d'),_):=I.list h';rw[e]at c;cases c;rw[d]at d';injection d' with g _;have:b=its':=by simpa using Jb_ g
  subst this;exact r.inj f
def Inv.tuple_inj (I:Vm s)(h:Jfl H a xs)(h':Jfl H a ys):xs=ys:=by
  let(b,r,(o,e,_,n,d),_):=I.tuple h;let(its',f,(i,c,_,j,d'),_):=I.tuple h';rw[e]at c;cases c;rw[d]at d';injection d' with g _;have:b=its':=by simpa using Jb_ g
  subst this;exact r.inj f
end
abbrev Cx.wish (X:Cx)(E:Value->Shared->Prop):Cx:={ X with xe:=E }
abbrev Cx.nox (X:Cx):Cx:=X.wish λx x=>False
def Cx.Ok.wish {X:Cx}(a:X.Ok)(E):(X.wish E).Ok :=
  (a.mod,a.kind,a.glob,a.blt,a.above,a.inj,a.has,a.cab,a.hd,a.frames,a.stk,a.exf,a.bs,a.bsz,a.noex,a.exfs,a.funs,a.frf)
def Cx.Ok.unwish {X:Cx}{E:Value->Shared->Prop}(a:(X.wish E).Ok):X.Ok :=
  (a.mod,a.kind,a.glob,a.blt,a.above,a.inj,a.has,a.cab,a.hd,a.frames,a.stk,a.exf,a.bs,a.bsz,a.noex,a.exfs,a.funs,a.frf)
section
variable {X:Cx} {pins:List (IL Obj)} {σ:St} {H:Hp} {s:Shared} {E:Value->Shared->Prop}
def Inv.wish (I:Vm s)(E):Ue (X.wish E) H s:=Jl8 (I.ok.wish E)
def Inv.unwish (I:Ue (X.wish E) H s):Vm s:=Jl8 I.ok.unwish
def SP.unwish (h:SP (X.wish E) pins D f s'):SP X pins D f s':=by
  cases f with
  |next=>obtain⟨a,H',I,q⟩:=h;exact(a,H',I.unwish,q)
  |brk=>obtain⟨a,H',I,q⟩:=h;exact(a,H',I.unwish,q)
  |cont=>obtain⟨a,H',I,q⟩:=h;exact(a,H',I.unwish,q)
  |ret u=>obtain⟨v,a,H',I,r,q⟩:=h;exact(v,a,H',I.unwish,r,q)
def PE.nox (h:PE X.nox e t):Qo e t:=λpins s σ H Q I a=>
  wpAny_mono (h pins s σ H Q (I.wish _) a) (λx x h_=>by let(v,H',b,r,q):=h_;exact(v,H',b.unwish,r,q)) λx x z=>False.elim z
def PT.nox (h:PT X.nox e t):PT X e t:=λpins s σ H Q I a=>
  wpAny_mono (h pins s σ H Q (I.wish _) a) (λ_ _ (H',b,q)=>(H',b.unwish,q)) λx x z=>False.elim z
def PSs.nox {st:List Stmt}{t:TS}(h:Jiu X.nox st):Jiu X st:=λpins s σ H D I a=>
  wpAny_mono (h pins s σ H D (I.wish _) a) (λx x q=>q.unwish) λx x z=>False.elim z
end
section
variable {X:Cx} {st:Stmt} {rest:List Stmt} {t u:TS} {e:Expr} {te:TE} {pos:Pos}
def yt:TS:=λh_ a H=>by let(n,_,_,_):=h_;exact n a H
def tSeq (t u:TS):TS:=λh_ a H=>by let(n,r,b,c):=h_;exact t (u (n,r,b,c),r,b,c) a H
def aU:PSs X [] yt:=λx x a H x I h=>Jes a H I h
def ae (i:PS X st t)(g:PSs X rest u):PSs X (Xw st) (tSeq t u):=by
  intro a s c H D I h;apply wpAny_execs_cons (thn (i a s c H { D with nx:=u D } I h) λf d q=>?_);cases f with
  | next =>
    let(b,H',j,q):=q;exact g a d b H' D j q
  |ret v=>exact q
  |brk=>exact q
  |cont=>exact q
def aj (c:PS X st t):Jiu X [st]:=by
  intro a s b H D I h;apply wpAny_execs_cons (thn (c a s b H D I h) λf d q=>?_);cases f with
  |next=>exact wpAny_execs_nil q
  |ret v=>exact q
  |brk=>exact q
  |cont=>exact q
def Inv.quiet (I:Vm s):Xx (interactive X.env):=by simp [interactive,I.ok.kind]
def tDrop (te:TE):TS:=λh_ a H=>by let(n,_,_,_):=h_;exact te a H λx b=>n a b
def ah (c:Jlm e)(hs:NS e none pos.line=pure false:=by rfl):PS X (.Expr e pos) (tDrop te):=by intro a s b H D I h;exact wpAny_Expr_any (thn (c a s b H _ I h) λv g h_=>by let(x,f,d,i,q1):=h_;exact(b,f,d,q1)) I.quiet hs
def tRet (te:TE):TS:=λh_ a H=>by let(_,r,_,_):=h_;exact te a H r
def aT (d:Jlm e):PS X (.Return (some e) pos) (tRet te):=by intro a s b H D I h;exact wpAny_Return_some (thn (d a s b H _ I h) λv i h_=>by let(x,g,f,c,q1):=h_;exact(x,b,g,f,c,q1))
def tRetN:TS:=λD x H=>D.rt .non H
def yu:PS X (.Return none pos) tRetN:=λx x a H x I h=>wpAny_Return_none (.non,a,H,I,rfl,h)
def tIfS (c:TT)(t u:TS):TS:=λD a H=>c a H λb d=>if Xh b then t D a d else u D a d
def be (l:PT X c tc)(o:Jiu X a)(n:PSs X b u):PS X (.If c a b pos) (tIfS tc t u):=by
  intro f s g H D I h;apply wpAny_If (thn (l f s g H _ I h) λd i (k,j,q1)=>?_);cases d with
  |true=>exact o f i g k D j q1
  |false=>exact n f i g k D j q1
def yw:TS:=λx x x=>False
end
abbrev TG:=V->St->Hp->(St->Hp->Prop)->Prop
abbrev TGs:=List V->St->Hp->(St->Hp->Prop)->Prop
def PG (X:Cx)(a:Expr)(t:TG):Prop :=
  ∀b s (d:St) H v u Q,V8 b d->IH v->t v d H Q->
    wpAny (Qh X.w) X.A (assign a X.env u) (λx s'=>∃c H',Jic b c (Q c H')) X.xe s
def PGs (X:Cx)(ts:List Expr)(t:TGs):Prop :=
  ∀a s (c:St) H vs us Q,JjY c->WD vs->t vs c H Q->
    wpAny (Qh X.w) X.A (assignInOrder ((IU ts).map (·.2)) us) (λx s'=>∃b H',Jic a b (Q b H')) X.xe s
abbrev TSet:=V->V->V->Hp->(Hp->Prop)->Prop
def PSet (X:Cx)(t:TSet):Prop :=
  ∀a s (b:St) H o i v c d u Q,JjY b->bn o c->bn i d->IH v->t o i v H Q->
    wpAny (Qh X.w) X.A (setItem c d u) (λx s'=>∃H',Jic a b (Q H')) X.xe s
abbrev TIp:=V->V->Hp->VK->Prop
def PIp (X:Cx)(op:Operator)(t:TIp):Prop :=
  ∀a s (b:St) H x y v u Q,JjY b->bn x v->IH y->t x y H Q->
    wpAny (Qh X.w) X.A (inplaceOp op v u) (EP X a b Q) X.xe s
section
variable {X:Cx} {pos:Pos}
def ja (i:Nat):TG:=λv a H Q=>Q (a.set i (some v)) H
def ba (e:X.N.Nodup)(c:X.N[i]?=some x)(b:NI x)(d:M0 x\/X.env.scope.names.lookup x=some .local:=by first|exact .inl rfl|exact .inr rfl|assumption):PG X (VG pos) (ja i):=by intro a s g H v u Q I r h;exact wpAny_assign_Name (pC I e c b r (λs' f=>(_,H,f,h)) d)
def gNil:TGs:=λvs a H Q=>vs=[]/\Q a H
inductive gCons (t:TG)(u:TGs):TGs|m{vs σ H Q} v r:vs=v::r->(t v σ H λσ' H'=>u r σ' H' Q)->gCons t u vs σ H Q
def kQ:PGs X [] gNil:=by intro a s b H vs us Q I r h;let(e,h):=h;subst e;cases r;exact assignInOrder_nil (b,H,I,h)
def gP (i:PG X e t)(g:PGs X es u)
    (hs:(IU (ML e)).map (·.2)=assign e X.env::(IU es).map (·.2):=by rfl):PGs X (ML e) (gCons t u):=by
  intro a s c H vs us Q I r h;let(v,n,j,h):=h;subst j;cases r with
  | cons r f =>
    rw[hs];apply assignInOrder_cons (thn (i a s c H _ _ _ I r h) λ_ d h_=>?_);let(b,l,k,q1):=h_;exact g a d b l _ _ Q k f q1
inductive gTup (K:PySem.W.Frag)(n)(t:TGs):TG|m{v σ H Q} a xs:Xl v a->Q7 a->Mz n->t xs σ H Q->gTup K n t v σ H Q
def kR (y:Xh X.calm)(h:PGs X es t)
    (w:(IU es).length=n:=by rfl)(f:(IU es).findIdx? (·.1)=none:=by rfl):PG X (.Tuple es k pos) (gTup X.K n t):=by intro c s g H v u Q I r d;let(a,xs,z,q,x,d):=d;subst z;cases r;let(j,i,p,hz):=I.tuple q;apply assign_Tuple_tuple (I.ok.hd y) p (by simp [w,<-x,i.length]) f λh' l=>?_;let A:=I.kept (t':=s.toks) λb o e=>l b o (WO e) e;exact h c _ g H xs _ Q A (by simpa using i) d
def gSub (b c:TE)(t:TSet):TG:=λv a H Q=>b a H λo f=>c a f λi e=>t o i v e λd=>Q a d
def pg_sub (n:Qo o to)(p:Qo i ti)(hs:PSet X t)
    (q:∀v,assign (Jbf o i) X.env v=(do
      let b <-holding [v] (Vc o)
      let c <-holding [v,b] (Vc i)
      standAt pos
      holding [v,b,c] (setItem b c v)
      release [v,b,c] []):=by intro _;rfl):PG X (Jbf o i) (gSub to ti t):=by intro a s d H v u Q I r h;rw[q];apply Vl (thn (n a s d H _ I h) λb f h_=>?_);let(x,D,A,j,q1):=h_;apply Vl (thn (p a f d D _ A q1) λc e h_=>?_);let(y,C,z,g,l):=h_;apply IG (Vl (thn (hs a e d C x y v b c u _ z j g r l) λ_ E (B,w,k)=>?_));exact wpAny_release (d,B,w,k)
def tAsg (b:TE)(g:TG):TS:=λh_ a H=>by let(n,_,_,_):=h_;exact b a H λx c=>g x a c n
def ps_asg (j:Jlm e)(i:PG X tg g)(hs:swapsWithSole [tg] e pos.line X.env=pure false:=by rfl)(f:swappedStores [tg] e X.env=pure none:=by rfl)
    (k:(IU [tg]).map (·.2)=[assign tg X.env]:=by rfl):PS X (Jet tg e pos) (tAsg te g):=by intro a s b H D I h;apply wpAny_Assign_stores (thn (j a s b H _ I h) λv c h_=>?_) hs f;let(x,n,l,d,q1):=h_;rw[k];exact thn (i a c b n x v _ l d q1) λy o q=>q
def aB (k:X.N.Nodup)(f:X.N[i]?=some x)(d:NI x)(j:Jlm e)(hs:Jgk e (VG pos') pos.line=pure false:=by rfl)(g:M0 x∨X.env.scope.names.lookup x=some .local:=by first | exact .inl rfl | exact .inr rfl | assumption) :
    PS X (Jet (VG pos') e pos) (JhL te i):=by intro a s b H D I h;apply wpAny_Assign_Name (thn (j a s b H _ I h) λv q h_=>?_) hs;let(y,o,n,c,q1):=h_;exact pC n k f d c (λp l=>(_,o,l,q1)) g
inductive tAug (i)(te:TE)(ti:TIp):TS|m{D σ H} x:σ[i]?=Jme x->(te σ H λy H1=>ti x y H1 λz H2=>D.nx (JkL i z) H2)->tAug i te ti D σ H
def ps_aug (P:X.N.Nodup)(p:X.N[i]?=some x)(n:NI x)(M:Jlm e)(F:PIp X op ti)(L:M0 x∨X.env.scope.names.lookup x=some .local:=by first | exact .inl rfl | exact .inr rfl | assumption) :
    PS X (.AugAssign (VG pos') op e pos) (tAug i te ti):=by
  intro a s o H D I h;let(v,Q,h):=h;let(m,G,K):=I.loc;let j:Jam x:=by rcases n with k|k;exact .inl k;exact GZ k
  let(u,r,l):=K i x v p Q j;apply wpAny_AugAssign_Name ?_;let q:IE (Vc e) (λw g=>IE (inplaceOp op u w) (λr f=>IE (Jit x r) (λV=>SP X a D .next) f) g) s:=by apply thn (M a s o H _ I h) λw t h_=>?_;let(y,W,T,C,q1):=h_;apply thn (F a t o W v y u w _ T r C q1) λz s2 h_=>?_;let(Y,U,S,B,E):=h_;exact pC S P p n B (λZ R=>(_,U,R,E)) L
  rcases l with ⟨b,J⟩|⟨b,c,O,d⟩
  . exact wpAny_loadName_local I.ok.kind b G J q
  . rcases b with b | b
    . exact wpAny_loadName_cell I.ok.kind b O d q
    . rcases n with k | k
      . have:X.env.scope.names.lookup x=some .free:=b;rw[k]at this;cases this
      . have:X.env.scope.names.lookup x=some .free:=b;rw[k]at this;cases this
inductive ipI (f:UM (UM Int)):TIp|m{x y H Q} i j:Jef x i (Jef y j (No (f i j) H->ipI f x y H Q))
def ip_add:PIp X .Add (ipI λi j=>i+j):=by intro a s f H x y v u Q I c b h;let(i,j,e,d,q):=h;subst e;subst d;let(t,rfl):=c;let(t',rfl):=b;exact iadd_int (Ji3 _ H _ _ q)
end
section
variable {X:Cx} {pos:Pos}
def tWhile (c:TT)(g:TS):TS:=λD a H=>∃W:Nat->St->Hp->Prop,(∃m,W m a H)/\∀m a H,W m a H->
  c a H λb f=>if Xh b then ∃N:St->Hp->Prop,(∀d H',N d H'->∃e,e<m/\W e d H')/\g { D with nx:=N,ct:=N,bk:=D.nx } a f else JkM f
def jK (u:PassesOwn (Qh X.w) X.A X.env X.xe)(L:PT X c tc)(M:PSs X body tb):PS X (.While c body [] pos) (tWhile tc tb):=by
  intro d s C H D I h;let(W,(K,F),i):=h;apply wpAny_While (codeAny_whileLoop (λn s'=>∃g H',Jic d g (W n g H')) ?_ K (C,H,I,F));rintro n J ⟨e,B,O,E⟩;apply wpAny_passesOwn u (thn (L d J e B _ O (i n e B E)) λb G (z,y,l)=>?_);cases b with
  | true =>
    let(N,x,l):=l;rw[if_pos rfl];apply wpAny_passesOwn u (thn (M d G e z _ y l) λf P k=>?_);cases f with
    | next =>
      let(a,j,t,p):=k;let(q,r,o):=x a j p;exact(q,r,a,j,t,o)
    | cont =>
      let(a,j,t,p):=k;let(q,r,o):=x a j p;exact(q,r,a,j,t,o)
    |brk=>exact k
    |ret v=>exact k
  | false =>
    rw[if_neg Bool.false_ne_true];exact Jes e z y l
end
structure It where
  go:Nat->Hp->Prop
  yld:Nat->Hp->V->Hp->Prop
  stop:Nat->Hp->Prop
def d_ (X:Cx)(a:JaM Obj)(H:Hp)(b:Addr):Prop :=
  H b=none/\Nx b/\b∉X.fs/\(b∈X.ex\/Nr b)/\(∀x c,Jli (c≠b))/\∀p∈X.pn++a,p.1≠b
def Inv.fpOk (I:Vm s)(a:QS b)(f:JaD b):JhM X H' b:=by
  apply(f,Nat.ne_of_gt (Nat.lt_of_lt_of_le I.lt a),I.nofs a,.inr (Nat.le_trans I.sz a),λx c e z=>?_,λp d z=>?_)
  . let(v,q):=JeS x e;exact Mr (Nat.lt_of_lt_of_le q.lt (by rw[z];exact a)) _
  . exact Mr (Qg (Jb9 d).1 (by rw[z];exact a)) _
structure il (P)(w)(K:PySem.W.Frag)(tg)(J:It)(fp:List Addr)(it)(tn:Nat->Heap->Prop):Prop where
  mem:it∈fp
  obj:∀i h,tn i h->∀b∈fp,∃o,h.get? b=some o/\∀v,o.data≠.cell v
  keep:∀i h h',tn i h->(∀b∈fp,∀o,h.get? b=some o->h'.get? b=some o)->tn i h'
  item:∀(X),X.prog=P->X.w=w->X.K=K->Xh X.calm->∀(i) (pins) (s) (σ:St) (H) (E),Vm s->(∀b∈fp,JhM X H b)->tn i s.heap->JeV H->
    wpAny (Jca P) X.A (UK it) (λr s1=>∃u,Xa r u/\
      Ga P w X.A (letOwnedTupleGo tg (.ref it) u) (λ_ s2=>∃x H',Qk H' s2/\IH x/\Ji4 H H'/\tn (i+1) s2.heap/\∀b∈fp,JaD b) E s1) E s
  done:∀(X),X.prog=P->X.w=w->X.K=K->Xh X.calm->∀(i) (pins) (s) (σ:St) (H) (E),Vm s->(∀b∈fp,JhM X H b)->tn i s.heap->Jaz H->
    wpAny (Jca P) X.A (UK it) (λr s1=>Uf r/\Vm s1) E s
  self:∀(A) (i) (s) (Q) (E),tn i s.heap->Uc it s->Ga P w A (pyIter (.ref it)) Q E s
abbrev TI:=St->Hp->(It->Hp->Prop)->Prop
def PIE (X:Cx)(a:JaM Obj)(g:St)(h:Expr)(R:It->Hp->Prop)(c:Value)(e:Shared):Prop :=
  ∃it f d J H',Xl c it/\Jia a g e/\il X.prog X.w X.K h J f it d/\d 0 e.heap/\(∀b∈f,d_ X a H' b)/\R J H'
def PI (X:Cx)(e b:Expr)(d:TI):Prop :=
  ∀a s (c:St) H R,JjY c->d c H R->
    wpAny (Qh X.w) X.A (Vc b) (λv f=>IE (pyIter v) (PIE X a c e R) f) X.xe s
def jb (b:s.heap.get? it=some o)(e:o.cls=.type n)(d:JhN (.fields vs))
    (c:["enumerate","zip","dict_itemiterator","dict_reverseitemiterator","odict_iterator","itertools.zip_longest","itertools.pairwise"].contains n=false)(a:Q () s):wpAny M A (letOwnedTupleGo tg (.ref it) u) Q E s:=by
  cases tg <;> first
    |exact wpAny_pure a
    |(cases u<;>first
        |exact wpAny_pure a
        | (refine wpAny_bind (wpAny_load b ?_)
           rw[e,d];show wpAny M A (if(["enumerate","zip","dict_itemiterator","dict_reverseitemiterator","odict_iterator","itertools.zip_longest","itertools.pairwise"].contains n&&vs[0]? == some (rawInt _))=true then _ else _) Q E s
           rw[if_neg (by intro h;rw[c,Bool.false_and]at h;cases h)];exact wpAny_pure a))
noncomputable def Itl (K:PySem.W.Frag)(a:Addr):It :=
  (λi H=>∃xs x,JD a/\xs[i]?=some x,λi H x H'=>H'=H/\∀xs,JD a->xs[i]?=some x,λi H=>∃xs,JD a/\Jao i)
noncomputable def Itt (K:PySem.W.Frag)(a:Addr):It :=
  (λi H=>∃xs x,Q7 a/\xs[i]?=some x,λi H x H'=>H'=H/\∀xs,Q7 a->xs[i]?=some x,λi H=>∃xs,Q7 a/\Jao i)
noncomputable def Itr (lo:Int)(n:Nat):It:=(λi y=>i<n,λi H x H'=>H'=H/\JcA x (lo+i),λi y=>n<=i)
def tZ {P:Program}{w:World}{K:PySem.W.Frag}{O:Expr}(a it):il P w K O (Itl K a) [it] it (λi h=>JdI it a) where
  mem:=by simp
  obj:=λi h st b g=>by
    let e:b=it:=by simpa using g
    subst e;let(o,e,c,d):=st;exact J8 e (λv z=>by rw[d]at z;cases z)
  keep:=λi h h' st k=>st.at λo e=>QF it o e
  item:=by intro X B y C N i f s M H E I n st A;subst B y C;let(xs,x,l,t):=A;let(r,q,p,hz):=I.list l;let(u,T,R):=q.get t;let(L,J,U,G,F,D):=n it (by simp);apply wpAny_pyNext_list_item st p.isList (by simpa using T) λh' j Q=>?_;let Y:=I.turned (t':=s.toks) (λb o g e=>(Q.2 b g).trans e) L J G F D;let(o,e,c,d):=id j;exact Nc u (Jco e c d (x,H,Y,R,GM (λys S=>by rw[I.list_inj S l];exact t),j,λb g=>(n b g).1))
  done:=by intro X B y C N i f s M H E I n st A;subst B y C;let(xs,l,t):=A;let(r,q,p,hz):=I.list l;let(L,J,U,G,F,D):=n it (by simp);let Z:=q.length;exact wpAny_pyNext_list_end (I.ok.hd N) st p.isList (by simp;lia) λh' eb=>MY (t':=s.toks) (λb o g e=>eb b o g e) L J G F D
  self:=λm m m m m st h=>wpAny_pyIter_listiter st h
def t_ {P:Program}{w:World}{K:PySem.W.Frag}{O:Expr}(a it):il P w K O (Itt K a) [it] it (λi h=>Jiv it a) where
  mem:=by simp
  obj:=λi h st b j=>by
    let e:b=it:=by simpa using j
    subst e;let(o,e,c,d):=st;exact J8 e (λv z=>by rw[d]at z;cases z)
  keep:=λi h h' st k=>st.at λo e=>QF it o e
  item:=by intro X B y C N i f s M H E I q st A;subst B y C;let(xs,x,n,t):=A;let(g,r,p,hz):=I.tuple n;let(u,T,R):=r.get t;let(L,J,U,G,F,D):=q it (by simp);apply wpAny_pyNext_tuple_item st (show Jfm g.toArray from p) (by simpa using T) λh' l Q=>?_;let Y:=I.turned (t':=s.toks) (λb o j e=>(Q.2 b j).trans e) L J G F D;let(o,e,c,d):=id l;exact Nc u (Jco e c d (x,H,Y,R,GM (λys S=>by rw[I.tuple_inj S n];exact t),l,λb j=>(q b j).1))
  done:=by intro X B y C N i f s M H E I q st A;subst B y C;let(xs,n,t):=A;let(g,r,p,hz):=I.tuple n;let(L,J,U,G,F,D):=q it (by simp);let Z:=r.length;exact wpAny_pyNext_tuple_end (I.ok.hd N) st (show Jfm g.toArray from p) (by simp;lia) λh' eb=>MY (t':=s.toks) (λb o j e=>eb b o j e) L J G F D
  self:=λm m m m m st h=>wpAny_pyIter_tupleiter st h
def yx {P:Program}{w:World}{K:PySem.W.Frag}{D:Expr}(it)(lo)(n):il P w K D (Itr lo n) [it] it (λi h=>IsRangeIter h it (lo+(i:Nat) * 1) ((n:Int)-(i:Nat)) 1) where
  mem:=by simp
  obj:=λi h st b c=>by
    let e:b=it:=by simpa using c
    subst e;exact W7 st (λv z=>by let C:=z;cases C)
  keep:=λi h h' st k=>QF it _ st
  item:=by intro X p g q l i a s B H E I f st j;subst p g q;let(A,y,J,x,u,r):=f it (by simp);let W:=Walks.range (prog:=X.prog) (w:=X.w) (I.ok.hd l) it lo 1 n;apply W.item i s _ _ j st λv h' tk G d F=>?_;let(t,rfl):=G;let L:N0 a B { s with heap:=h',toks:=tk }:=I.turned (λb o c e=>F b o (by simpa using c) e) A y x u r;apply Yu (Jco d rfl rfl (.int _,H,L,Mm t,Ye rfl,d,λb c=>(f b c).1));rw[Int.mul_one]
  done:=by intro X p g q l i a s B H E I f st j;subst p g q;let(A,y,J,x,u,r):=f it (by simp);exact wpAny_pyNext_range_end (I.ok.hd l) st (by have:n<=i:=j;lia) λh' eb=>MY (t':=s.toks) (λb o c e=>eb b o c e) A y x u r
  self:=λm m m m m st h=>wpAny_pyIter_rangeiter st h
section
variable {X:Cx} {tg:Expr}
inductive rItl (K:PySem.W.Frag):V->Hp->(It->Hp->Prop)->Prop|m{x H R} a:Jis a (∃xs,JD a) (R (Itl K a) H) (rItl K x H R)
inductive rItt (K:PySem.W.Frag):V->Hp->(It->Hp->Prop)->Prop|m{x H R} a:Jis a (∃xs,Q7 a) (R (Itt K a) H) (rItt K x H R)
def iList (K:PySem.W.Frag)(b:TE):TI:=λa H R=>b a H λx c=>rItl K x c R
def iTup (K:PySem.W.Frag)(b:TE):TI:=λa H R=>b a H λx c=>rItt K x c R
def cO {l:Expr}{g:TE}(r:Qo l g):PI X tg l (iList X.K g):=by
  intro c s i H R I h;apply thn (r c s i H _ I h) λv d h_=>?_;let(x,u,f,j,q1):=h_;let(a,e,(xs,n),q):=q1;subst e;cases j;let(k,w,p,hz):=f.list n;apply GJ p.isList;apply(d.heap.objs.size,[d.heap.objs.size],_,_,u,rfl,f.kept (t':=d.toks) λb o e=>Xz e,tZ a _,M_ _ (Heap.get?_push_size _ rfl),λb t=>?_,q);let e:b=d.heap.objs.size:=by simpa using t
  subst e;exact Jdm (nRq _) (nRq _)
def eY {l:Expr}{i:TE}(r:Qo l i):PI X tg l (iTup X.K i):=by
  intro d s j H R I h;apply thn (r d s j H _ I h) λv c h_=>?_;let(x,u,f,k,q1):=h_;let(a,e,(xs,n),q):=q1;subst e;cases k;let(g,w,p,hz):=f.tuple n;apply Jcb (show c.heap.IsTuple a g.toArray from p);apply(c.heap.objs.size,[c.heap.objs.size],_,_,u,rfl,f.kept (t':=c.toks) λb o e=>Xz e,t_ a _,M_ _ (Heap.get?_push_size _ rfl),λb t=>?_,q);let e:Jh1 b:=by simpa using t
  subst e;exact Jdm (nRq _) (nRq _)
def uc {c:List (IL Obj)}{d:St}{H:Hp}{s:Shared}{R:It→Hp→Prop}{E:Value→Shared→Prop}{lo a:Int}{t u v:Tok}{tk:Nat}(I:V8 c d)(k:-(2 ^ 62)≤lo)(j:lo<2 ^ 62)(i:-(2 ^ 62)≤a)(h:a<2 ^ 62)
    (q:R (Itr lo (a-lo).toNat) H):Ny (pyIter (.ref s.heap.objs.size)) (PIE X c d tg R) E { s with heap:=s.heap.push { cls:=.type "range",data:=.fields #[MQ lo,Jgp a,.int 1 v] },toks:=tk }:=by
  apply wpAny_pyIter_range (IsRange.new ..) (small_one k j i h) ?_;let f:N0 c d { s with heap:=s.heap.push { cls:=.type "range",data:=.fields #[MQ lo,Jgp a,.int 1 v] },toks:=tk }:=I.kept λb o e=>Xz e;apply((s.heap.push { cls:=.type "range",data:=.fields #[MQ lo,Jgp a,.int 1 v] }).objs.size,[(s.heap.push { cls:=.type "range",data:=.fields #[MQ lo,Jgp a,.int 1 v] }).objs.size],_,_,H,rfl,f.kept (t':=tk) λb o e=>Xz e,yx _ lo (a-lo).toNat,?_,λb g=>?_,q)
  . let n:lo+((0:Nat):Int) * 1=lo:=by simp
    let l:(((a-lo).toNat:Nat):Int)-((0:Nat):Int)=Builtin.Range.rangeSize lo a 1:=by rw[rangeSize_one];split<;>lia
    rw[n,l];exact Heap.get?_push_size _ rfl
  . let e:b=(s.heap.push { cls:=.type "range",data:=.fields #[MQ lo,Jgp a,.int 1 v] }).objs.size:=by simpa using g
    subst e;exact Jdm (nRq _) (nRq _)
def iRng1 (b:TA):TI:=λa H R=>b a H λvs c=>∃j:Int,vs=WY j/\-(2^62)<=j/\j<2^62/\R (Itr 0 j.toNat) c
def iRng2 (b:TA):TI:=λa H R=>b a H λvs c=>∃i j:Int,vs=Qr i j/\(-(2^62)<=i/\i<2^62/\-(2^62)<=j/\j<2^62)/\R (Itr i (j-i).toNat) c
def df {a:Expr}{d:TA}{p b:Pos}(n:Jg9 "range")(l:UG "range")(o:PA X [a] d)(hs:Vb [a]=[(false,Vc a,)]:=by rfl):PI X tg (J7 "range" p [a] b) (iRng1 d):=by
  intro c s f H R I h;apply JaE I n l boot_range (thn (o b c s f H _ I h) λus v h_=>?_) hs rfl;let(vs,w,u,i,q1):=h_;let(j,e,q1,k,q):=q1;subst e;cases i with
  | cons r g =>
    cases g;let(t,rfl):=r;exact call_range_1 (uc u (by lia) (by lia) q1 k (by simpa using q))
def yz (w:Jg9 "range")(v:UG "range")(x:PA X [a,b] ta)(hs:Vb [a,b]=[(false,Vc a,),(false,Vc b,)]:=by rfl)(d:Vb [b]=[(false,Vc b,)]:=by rfl) :
    PI X tg (Ji2 "range" p [a,b]) (iRng2 ta):=by
  intro c s g H R I h;apply JaE I w v boot_range (thn (x pos c s g H _ I h) λus z h_=>?_) (by rw[hs,d]) (by rw[d];rfl);let(vs,A,y,k,q1):=h_;let(i,j,e,(q1,u,o,n),q):=q1;subst e;cases k with
  | cons r f =>
    cases f with
    | cons l f =>
      cases f;let(t,rfl):=r;let(t',rfl):=l;exact call_range_2 (uc y q1 u o n q)
def tFor (e:TI)(g:TG)(f:TS):TS:=λD a H=>e a H λJ j=>∃W:Nat->Nat->St->Hp->Prop,(∃m,W 0 m a j)/\∀i m a H,W i m a H->
  (JmK H (JkM H))\/(JeV H/\∃N:St->Hp->Prop,(∀b H',N b H'->∃d,d<m/\W (i+1) d b H')/\∀x H',Ji4 H H'->g x a H' λc h=>f { D with nx:=N,ct:=N,bk:=D.nx } c h)
noncomputable def zf5 (a:List Addr)(h:Heap):JaM Obj:=a.filterMap λb=>(h.get? b).map λo=>(b,o,)
def mZ (a:b∈fp)(e:h.get? b=some o):(b,o,)∈zf5 fp h:=JaH b a (by rw[e];rfl)
def yA (a:p∈zf5 fp h):p.1∈fp∧h.get? p.1=some p.2:=by
  let(b,c,e):=List.mem_filterMap.mp a;cases q:h.get? b with
  |none=>rw[q]at e;cases e
  | some o =>
    rw[q]at e;let d:=Option.some.inj e;subst d;exact(c,q)
def Inv.pinned (I:Vm s)(h:∀b∈fp,JhM X H b)(g:∀b∈fp,∃o,s.heap.get? b=some o/\∀v,o.data≠.cell v):V8 (pins++zf5 fp s.heap) σ :=
  I.pins_of λp f=>(mPq f).elim (λz=>Jb9 (Na z)) λz=>by let(a,e):=yA z;let(k,j,i,_):=h p.1 a;let(o,c,d):=g p.1 a;rw[e]at c;cases c;exact(e,k,j,i,d)
def Inv.unpinned (I:V8 (pins++pl) σ):Vm s:=I.pins_of λp a=>Jb9 (Na (Ma a))
def bM (K:PassesOwn (Qh X.w) X.A X.env X.xe)(hc:Xh X.calm)(hi:Jl9 X tg)(hg:PG X tg g)(p:PSs X body tb)
    (hs:∀x,JeK x=pure x:=by intro _;rfl):PS X (.For tg iter body [] pos) (tFor wi g tb):=by
  intro c s Z H D I h;apply wpAny_For (thn (hi c s Z H _ I h) λv s1 h1=>thn h1 λitv s2 h2=>?_) hs;let(it,M,tn,J,H2,e,I2,T,Q,f2,W,(m0,w0),C):=h2;subst e;let l:∀{H':Hp},(∀b∈M,JaD b)->∀b∈M,d_ X c H' b:=λhn b p=>(hn b p,(f2 b p).2);apply codeAny_forLoop_any (λn s'=>∃i k H',Jic c k (tn i s'.heap/\(∀b∈M,JaD b)/\W i n k H')) ?_ m0 (0,Z,H2,I2,Q,λb p=>(f2 b p).1,w0);rintro n s3 ⟨i,j,O,I3,F,L,w3⟩;rcases C i n j O w3 with ⟨E,qn⟩|⟨go,N,hN,step⟩
  . apply M5 (thn (T.done X rfl rfl rfl hc i c s3 j O X.xe I3 (l L) F E) λr s4 (S,I4)=>?_);subst S;exact Jes j O I4 qn
  . apply M5 (thn (T.item X rfl rfl rfl hc i c s3 j O X.xe I3 (l L) F go) λr s4 (u,S,h4)=>?_);subst S;apply M5 (thn h4 λ_ s5 h_=>?_);let(x,H5,I5,r5,y5,B,U):=h_;let Y:=I5.pinned (l U) (T.obj _ _ B);apply M5 (thn (hg _ s5 j H5 x u _ Y r5 (step x H5 y5)) λ_ s6 h_=>?_);let(P,H6,I6,q6):=h_;apply M5 (thn (p _ s6 P H6 _ I6 q6) λf R z=>?_);let q:∀ {a:St} {y:Hp},Jr _ a y R→N a y→∃m,m<n∧∃i k H',Jia c k R∧tn i R.heap∧(∀b∈M,JaD b)∧W i m k H':=λ{a y} t G=>by let(m',hm,w7):=hN a y G;apply(m',hm,i+1,a,y,t.unpinned,T.keep _ _ _ B λb p o e=>(t.pin _ (Na (Na (mZ p e)))).1,λb p=>?_,w7);let(o,e,d):=T.obj _ _ B b p;exact(t.pin _ (Na (Na (mZ p e)))).2.1
    cases f with
    |next=>obtain⟨a,y,t,G⟩:=z;exact q t G
    |cont=>obtain⟨a,y,t,G⟩:=z;exact q t G
    |brk=>obtain⟨a,y,t,z⟩:=z;exact(a,y,t.unpinned,z)
    |ret v=>obtain⟨x7,a,y,t,r7,z⟩:=z;exact(x7,a,y,t.unpinned,r7,z)
end
def yB {K:PySem.W.Frag}{a:Addr}{xs:List V}{g:TG}{k:TS}{D:iZ}{b:St}{H:Hp}(c:Nat→St→Hp→Prop)(h0:c 0 b H)(o:∀i b H,Jfn i→c i b H→JD a)
    (hs:∀i x b H,xs[i]?=some x->c i b H->g x b H λd j=>k { D with nx:=c (i+1),ct:=c (i+1),bk:=D.nx } d j)(s:∀b H,c xs.length b H->D.nx b H):
    ∃W:Nat->Nat->St->Hp->Prop,(∃m,W 0 m b H)/\∀i m b H,W i m b H->
      ((Itl K a).stop i H/\D.nx b H)\/((Itl K a).go i H/\∃N:St->Hp->Prop,(∀f H',N f H'->∃l,l<m/\W (i+1) l f H')/\∀x H',(Itl K a).yld i H x H'->g x b H' λd j=>k { D with nx:=N,ct:=N,bk:=D.nx } d j):=by
  apply Id (λi m b H=>m=xs.length-i/\Jfn i/\c i b H) (JhJ xs.length _ h0);rintro i m b H ⟨rfl,r,p⟩;let q:=o i b H r p;by_cases h:W4 i
  . apply NG (xs,xs[i],q,by simp [h]) (c _) (λf H' n=>Gn (xs.length-(i+1)) (by lia) h n) (λx H' y=>?_);let(e,y):=y;subst e;exact hs i x b _ (y xs q) p
  . let e:Jev i:=by lia
    subst e;exact Uh (xs,q,nRq _) (s b H p)
def ee {lo:Int}{n:Nat}{g:TG}{j:TS}{D:iZ}{a:St}{H:Hp}(f:Nat→St→Hp→Prop)(h0:f 0 a H)
    (hs:∀i a H,i<n->f i a H->g (.int (lo+i)) a H λb h=>j { D with nx:=f (i+1),ct:=f (i+1),bk:=D.nx } b h)(o:∀a H,f n a H->JkM H):
    ∃W:Nat->Nat->St->Hp->Prop,(∃m,W 0 m a H)/\∀i m a H,W i m a H->
      ((Itr lo n).stop i H/\JkM H)\/((Itr lo n).go i H/\∃N:St->Hp->Prop,(∀c H',N c H'->∃k,k<m/\W (i+1) k c H')/\∀x H',(Itr lo n).yld i H x H'->g x a H' λb h=>j { D with nx:=N,ct:=N,bk:=D.nx } b h):=by
  apply Id (λi m a H=>m=n-i/\i<=n/\f i a H) (JhJ n _ h0);rintro i m a H ⟨rfl,q,p⟩;by_cases d:i<n
  . apply NG d (f _) (λc H' l=>Gn (n-(i+1)) (by lia) d l) (λx H' y=>?_);let(e,y):=y;subst e y;exact hs i a _ d p
  . let e:i=n:=by lia
    subst e;exact Uh (nRq _) (o a H p)
abbrev R2:=V->V->Hp->VK->Prop
def OpR (X:Cx)(f:Value→Value→Sem Value)(r:R2):Prop :=
  ∀a s (b:St) H x y v u Q,JjY b->bn x v->IH y->r x y H Q->
    wpAny (Qh X.w) X.A (f v u) (EP X a b Q) X.xe s
def UnR (X:Cx)(f:Value→Sem Value)(r:V→Hp→VK→Prop):Prop :=
  ∀a s (b:St) H x v Q,JjY b->bn x v->r x H Q->
    wpAny (Qh X.w) X.A (f v) (EP X a b Q) X.xe s
def cP (X:Cx)(f:Value)(r:List V→Hp→VK→Prop):Prop :=
  ∀a s (b:St) H xs us Q,JjY b->WD xs->r xs H Q->
    wpAny (Qh X.w) X.A (call f us) (EP X a b Q) X.xe s
def tOp (r:R2)(c b:TE):TE:=λa H Q=>c a H λx e=>b a e λy d=>r x y d Q
def tUn (r:V->Hp->VK->Prop)(b:TE):TE:=λa H Q=>b a H λx c=>r x c Q
inductive rI (C:Int->Int->Prop)(g:UM (UM V)):R2|m{x y H Q} i j:Jef x i (Jef y j (C i j->Q (g i j) H->rI C g x y H Q))
inductive rI0 (g:UM (UM V)):R2|m{x y H Q} i j:Jef x i (Jef y j (Q (g i j) H->rI0 g x y H Q))
inductive rU (g:UM V):V->Hp->VK->Prop|m{x H Q} i:Jef x i (Q (g i) H->rU g x H Q)
section
variable {X:Cx} {a b c:Expr} {ta tb tc:TE} {pos:Pos}
def binT (z:JeH a)(t:Qo b tb){d:List (IL Obj)}{s:Shared}{e:St}{H:Hp}{R:V→V→Hp→Prop}(I:V8 d e)
    (h:ta e H λx l=>tb e l λy g=>R x y g){Q:Value->Shared->Prop}{f:Value->Value->Sem Value}
    (r:∀v u k x y g,Jr d e g k->bn x v->IH y->R x y g->IE (f v u) Q k):
    wpAny (Qh X.w) X.A (Vc a) (λv j=>IE (Vc b) (λu i=>IE (f v u) Q i) j) X.xe s:=by apply thn (z d s e H _ I h) λv n h_=>?_;let(x,l,C,p,q1):=h_;apply thn (t d n e l _ C q1) λu k h_=>?_;let(y,g,B,o,q):=h_;exact r v u k x y g B p o q
def aX (j:ME X op r)(l:JeH a)(k:Qo b tb):Qo (.BinOp a op b pos) (tOp r ta tb):=by intro d s e H Q I h;exact wpAny_BinOp (binT l k I h λv u f x y o n i g q=>j d f e o x y v u Q n i g q)
def cc (i:UnR X (unaryOp op) r)(j:JeH a):Qo (.UnaryOp op a pos) (tUn r ta):=by intro d s e H Q I h;exact UnaryOp_ (thn (j d s e H _ I h) λv f h_=>by let(x,l,k,g,q1):=h_;exact i d f e l x v Q k g q1)
def opI {f:Value→Value→Sem Value}{C:Int→Int→Prop}{g:Int→Int→Int}
    (d:∀i j t u s Q E,C i j->Q (Jgr (g i j)) { s with toks:=s.toks+1 }->Ny (f (MQ i) (Jgp j)) Q E s):
    OpR X f (rI C λi j=>.int (g i j)):=by intro e s o H x y v u Q I l k h;let(i,j,rfl,rfl,n,q):=h;let(t,rfl):=l;let(t',rfl):=k;exact d i j t t' s _ _ n (Ji3 _ H _ _ q)
def opI0 {f:Value→Value→Sem Value}{g:Int→Int→Int}
    (d:∀i j t u s Q E,Q (Jgr (g i j)) { s with toks:=s.toks+1 }->Ny (f (MQ i) (Jgp j)) Q E s):
    OpR X f (rI0 λi j=>.int (g i j)):=by intro e s n H x y v u Q I l k h;let(i,j,rfl,rfl,q):=h;let(t,rfl):=l;let(t',rfl):=k;exact d i j t t' s _ _ (Ji3 _ H _ _ q)
def opB0 {f:Value→Value→Sem Value}{g:Int→Int→Bool}
    (d:∀i j t u s Q E,JmS (g i j) s->Ny (f (MQ i) (Jgp j)) Q E s):
    OpR X f (rI0 λi j=>.bl (g i j)):=by intro e s n H x y v u Q I l k h;let(i,j,rfl,rfl,q):=h;let(t,rfl):=l;let(t',rfl):=k;exact d i j t t' s _ _ (XE _ H I q)
def CDiv (i j:Int):Prop:=0<j/\JbH j
def CMul (i j:Int):Prop:=(-(2^64)<i/\i<2^64)\/(-(2^64)<j/\j<2^64)
def CMul.ok (h:CMul i j):IntMulOk i j:=by
  rcases h with ⟨e,d⟩|⟨e,d⟩
  . exact .of_left (intBits_le_64 e d)
  . exact .of_right (intBits_le_64 e d)
def cv:ME X .Add (rI0 λi j=>.int (i+j)):=opI0 λx x x x x x x q=>add_int q
def ip:ME X .Sub (rI0 λi j=>.int (i-j)):=opI0 λx x x x x x x q=>sub_int q
def iK:ME X .Mult (rI CMul λi j=>.int (i*j)):=opI λx x x x x x x d q=>mul_int q d.ok
def cm:ME X .FloorDiv (rI CDiv λi j=>.int (i/j)):=opI λi j x x x x x d q=>by let f:Je j:=d.1;let e:JbH j:=d.2;exact floordiv_int (by lia) (by rw[Int.fdiv_eq_ediv_of_nonneg i (by lia)];exact q) (.inl (PyProof.noPylong_small (by lia)))
def aM:ME X .Mod (rI (λx j=>0<j) λi j=>.int (i%j)):=opI λi j x x x x x d q=>by exact mod_int' (by lia) (by rw[Int.fmod_eq_emod_of_nonneg i (by lia)];exact q)
def unI {f:Value→Sem Value}{g:Int→Int}
    (d:∀i t s Q E,Q (Jgr (g i)) { s with toks:=s.toks+1 }->Ny (f (MQ i)) Q E s):
    UnR X f (rU λi=>.int (g i)):=by intro e s k H x v Q I j h;let(i,rfl,q):=h;let(t,rfl):=j;exact d i t s _ _ (Ji3 _ H _ _ q)
def cg:UnR X (unaryOp .USub) (rU λi=>.int (-i)):=unI λx x x x x q=>neg_int q
end
noncomputable def scal:V->V->Bool
  |.non,.non=>true | .non,.int _=>true | .int _,.non=>true | .non,.bl _=>true | .bl _,.non=>true | .non,.str _=>true | .str _,.non=>true
  |.int _,.int _=>true | .bl _,.bl _=>true | .str _,.str _=>true | .byt _,.byt _=>true
  |.int _,.str _=>true | .str _,.int _=>true | .bl _,.str _=>true | .str _,.bl _=>true
  |_,_=>false
def rEq:R2:=λx y H Q=>Xh (scal x y)/\Yo (decide (x=y)) H
def rNe:R2:=λx y H Q=>Xh (scal x y)/\Yo (!decide (x=y)) H
def ud:decide (Jjj i j)=(i==j):=by rw[Bool.eq_iff_iff];simp
def ue:decide (V.bl i=V.bl j)=(i==j):=by rw[Bool.eq_iff_iff];simp
def uf:decide (V.str i=V.str j)=(i==j):=by rw[Bool.eq_iff_iff];simp
def ug:decide (V.byt i=V.byt j)=(i.toList==j.toList):=by rw[Bool.eq_iff_iff];cases i;cases j;simp
section
variable {X:Cx} {a b c:Expr} {ta tb tc:TE} {pos:Pos}
def bZ (I:Vm s)(q:Yo k H)(e:k=k'):EP X pins σ Q (.bool k') s:=by subst e;exact XE k H I q
def bO:Ym X .Eq rEq:=by
  intro f s g H x y v u Q I e d h;let(hs,q):=h;cases x with
  | non =>
    cases e;cases y with
    |non=>cases d;exact PySem.EqNone.eq_none_none (JiW q)
    |bl j=>cases d;exact PySem.EqNone.eq_none_bool (JiW q)
    |int j=>obtain⟨t',rfl⟩:=d;exact PySem.EqNone.eq_none_int (JiW q)
    |str j=>obtain⟨t',rfl⟩:=d;exact PySem.EqNone.eq_none_str (JiW q)
    |_=>exact Md (show Xh false from hs)
  | bl i =>
    cases e;cases y with
    |non=>cases d;exact PySem.EqNone.eq_bool_none (JiW q)
    |bl j=>cases d;exact eq_bool (bZ I q ue)
    |str j=>obtain⟨t',rfl⟩:=d;exact PySem.EqMixed.eq_bool_str (JiW q)
    |_=>exact Md (show Xh false from hs)
  | int i =>
    let(t,rfl):=e;cases y with
    |non=>cases d;exact PySem.EqNone.eq_int_none (JiW q)
    |int j=>obtain⟨t',rfl⟩:=d;exact eq_int (bZ I q ud)
    |str j=>obtain⟨t',rfl⟩:=d;exact PySem.EqMixed.eq_int_str (JiW q)
    |_=>exact Md (show Xh false from hs)
  | str i =>
    let(t,rfl):=e;cases y with
    |non=>cases d;exact PySem.EqNone.eq_str_none (JiW q)
    |bl j=>cases d;exact PySem.EqMixed.eq_str_bool (JiW q)
    |int j=>obtain⟨t',rfl⟩:=d;exact PySem.EqMixed.eq_str_int (JiW q)
    |str j=>obtain⟨t',rfl⟩:=d;exact eq_str (bZ I q uf)
    |_=>exact Md (show Xh false from hs)
  | byt i =>
    let(t,rfl):=e;cases y with
    |byt j=>obtain⟨t',rfl⟩:=d;exact PySem.W.eq_bytes (bZ I q ug)
    |_=>exact Md (show Xh false from hs)
  |_=>cases y<;>exact Md (show Xh false from hs)
def dh:Ym X .NotEq rNe:=by
  intro f s g H x y v u Q I e d h;let(hs,q):=h;cases x with
  | non =>
    cases e;cases y with
    |non=>cases d;exact PySem.EqNone.ne_none_none (JiW q)
    |bl j=>cases d;exact PySem.EqNone.ne_none_bool (JiW q)
    |int j=>obtain⟨t',rfl⟩:=d;exact PySem.EqNone.ne_none_int (JiW q)
    |str j=>obtain⟨t',rfl⟩:=d;exact PySem.EqNone.ne_none_str (JiW q)
    |_=>exact Md (show Xh false from hs)
  | bl i =>
    cases e;cases y with
    |non=>cases d;exact PySem.EqNone.ne_bool_none (JiW q)
    |bl j=>cases d;exact ne_bool (bZ I q (JeW ue))
    |str j=>obtain⟨t',rfl⟩:=d;exact PySem.EqMixed.ne_bool_str (JiW q)
    |_=>exact Md (show Xh false from hs)
  | int i =>
    let(t,rfl):=e;cases y with
    |non=>cases d;exact PySem.EqNone.ne_int_none (JiW q)
    |int j=>obtain⟨t',rfl⟩:=d;exact ne_int (bZ I q (JeW ud))
    |str j=>obtain⟨t',rfl⟩:=d;exact PySem.EqMixed.ne_int_str (JiW q)
    |_=>exact Md (show Xh false from hs)
  | str i =>
    let(t,rfl):=e;cases y with
    |non=>cases d;exact PySem.EqNone.ne_str_none (JiW q)
    |bl j=>cases d;exact PySem.EqMixed.ne_str_bool (JiW q)
    |int j=>obtain⟨t',rfl⟩:=d;exact PySem.EqMixed.ne_str_int (JiW q)
    |str j=>obtain⟨t',rfl⟩:=d;exact ne_str (bZ I q (JeW uf))
    |_=>exact Md (show Xh false from hs)
  | byt i =>
    let(t,rfl):=e;cases y with
    |byt j=>obtain⟨t',rfl⟩:=d;exact PySem.W.ne_bytes (bZ I q (JeW ug))
    |_=>exact Md (show Xh false from hs)
  |_=>cases y<;>exact Md (show Xh false from hs)
def iq:Ym X .Lt (rI0 λi j=>.bl (decide (i<j))):=opB0 λx x x x x x x q=>lt_int q
def op_le:Ym X .LtE (rI0 λi j=>.bl (decide (i<=j))):=opB0 λx x x x x x x q=>le_int q
def cT:Ym X .Gt (rI0 λi j=>.bl (decide (j<i))):=opB0 λx x x x x x x q=>gt_int q
def m_:Ym X .GtE (rI0 λi j=>.bl (decide (j<=i))):=opB0 λx x x x x x x q=>ge_int q
def yC:Ym X .In (λx y H Q=>∃i j,x=.str i/\y=.str j/\Yo (!(Builtin.Str.occurrences j i 0 j.length 1).isEmpty) H):=by intro d s g H x y v u Q I f e h;let(i,j,rfl,rfl,q):=h;let(t,rfl):=f;let(t',rfl):=e;exact in_str (bZ I q rfl)
def pD:Ym X .Is (λx y H Q=>y=.non∧Yo (decide (x=.non)) H):=by
  intro e s g H x y v u Q I d f h;let(rfl,q):=h;cases f;apply is_none_gen (bZ I q ?_);cases x<;>first
    |(cases d;rfl)
    |(let(t,rfl):=d;rfl)
def ni:Ym X .IsNot (λx y H Q=>y=.non∧Yo (!decide (x=.non)) H):=by
  intro e s g H x y v u Q I d f h;let(rfl,q):=h;cases f;apply isnot_none_gen (bZ I q ?_);cases x<;>first
    |(cases d;rfl)
    |(let(t,rfl):=d;rfl)
def uh (b:Expr){op:CmpOp}(h:op≠.In:=by decide)(d:op≠.NotIn:=by decide):Q3 op b:=tY b h d
def fZ (j:Ym X op r)(n:JeH a)(l:Qo b tb)(k:Q3 op b:=by exact uh _):Qo (.Compare a [op] [b] pos) (tOp r ta tb):=by intro d s e H Q I h;exact wpAny_Compare1 (binT n l I h λv u f x y p o i g q=>j d f e p x y v u Q o i g q) k
def tTest (t:TE):TT:=λd H Q=>t d H λx H'=>isB x H' Q
def aA (q:Ym X op r)(A:JeH a)(w:Qo b tb)(t:Q3 op b:=by exact uh _):PT X (.Compare a [op] [b] pos) (tTest (tOp r ta tb)):=by
  intro d s f H Q I h;apply wpAny_isTrue_Compare1 (thn (A d s f H _ I h) λv i h_=>?_) t;let(x,G,D,n,q1):=h_;apply thn (w d i f G _ D q1) λu g (y,F,C,l,p)=> thn (q d g f F x y v u _ C n l p) λc J h_=>?_;let(z,E,B,j,k,e,o):=h_
  subst e;cases j;exact Jcz E B o
def jL:(sizeLine:Nat)<2^63:=by rw[sizeLine_eq];decide
def ui:ME X .Add (λx y H Q=>∃i j,x=.str i/\y=.str j/\Ic (i.length+j.length)/\Q (.str (i++j)) H):=by intro d s g H x y v u Q I f e h;let(i,j,rfl,rfl,hz,q):=h;let(t,rfl):=f;let(t',rfl):=e;exact add_str (λt' tk=>QE (.str _) H _ (Ye _) q) hz
def fu (r:WD [x]):∃u,us=[u]/\bn x u:=by
  cases r with
  |cons e d=>cases d;exact Yu e
def jc (r:WD [x,y]):∃u d,us=[u,d]∧IH x∧bn y d:=by
  cases r with
  | cons h g =>
    cases g with
    |cons f e=>cases e;exact Gn _ _ h f
def kT:Iy X "abs" (λxs H Q=>∃i,xs=WY i/\No (if i<0 then -i else i) H):=by intro d s e H xs us Q I r h;let(i,rfl,q):=h;let(u,rfl,t,rfl):=fu r;exact call_abs_int λu tk=>Ji3 _ H _ _ q
def uj (f:Xh X.calm):Iy X "max" (λxs H Q=>∃i j,xs=Qr i j/\No (if j>i then j else i) H):=by
  intro e s g H xs us Q I r h;let(i,j,rfl,q):=h;let(u,l,rfl,(t,rfl),(t',rfl)):=jc r;apply max_two_ints (I.ok.hd f) λh' tk k=>(_,H,I.kept k,?_,q);by_cases d:j>i
  . rw[if_pos d,if_pos d];exact Ye _
  . rw[if_neg d,if_neg d];exact Ye _
def yD (f:Xh X.calm):Iy X "min" (λxs H Q=>∃i j,xs=Qr i j/\No (if j<i then j else i) H):=by
  intro e s g H xs us Q I r h;let(i,j,rfl,q):=h;let(u,l,rfl,(t,rfl),(t',rfl)):=jc r;apply min_two_ints (I.ok.hd f) λh' tk k=>(_,H,I.kept k,?_,q);by_cases d:j<i
  . rw[if_pos d,if_pos d];exact Ye _
  . rw[if_neg d,if_neg d];exact Ye _
end
structure jd (h:Heap)(x dx C)(mA):Prop where
  obj:h.get? x=some (JdH C)
  ns:h.Ns1 dx mA
  ne:dx≠x
set_option tactic.hygienic true in
def yE {h:Heap}{dx:Addr}{c:Str→Option Value}(n:h.Ns1 dx c):∃od,h.get? dx=some od∧∀name,Jdn od=some (c name):=by
  let(o,es,ep,f,j,i,_,g):=n;apply J8 f (λname=>?_);let e:=g name;unfold nsFind findBy at e;rw[<-Array.find?_toList]at e;unfold PySem.W.lookIn;rw[j];dsimp only;split
  . rename_i y q;rw[q]at e;exact Jah e
  . rename_i q;rw[q]at e;let a:Xx (es.toList.any (·.refKey)):=by rw[List.any_eq_false];intro y d;let(z,t,b):=i y (Array.mem_toList_iff.mp d);simp [DictEntry.refKey,b]
    let k:¬Xh (es.toList.any (·.refKey)):=by rw[a];exact Bool.false_ne_true
    rw[if_neg k];exact Jah e
def jd.look (I:jd h x dx C mA):∃od,PySem.W.InstAt h x (JdH C) C (some od)/\∀name,Jdn od=some (mA name) :=
  let (od,ho,hl):=yE I.ns
  (od,X5 I.obj ho,hl)
section
variable {prog:Program} {w:World} {A:Around} {E:Value->Shared->Prop} {s:Shared} {K:PySem.W.Frag} {x dx C f:Addr} {mA:Str->Option Value} {name:Str} {v:Value}
def yF (X:K.In s.heap)(I:jd s.heap x dx C mA)(e:Jag K C name)(d:Jb4 K C)
    (g:Xo (Yy K C name))(b:Xa (mA name) v)(a:Xh (PySem.W.handedIn v))(h:Q v { s with toks:=s.toks+1 }):
    wpAny (Ik w) A (getAttr (.ref x) name expr) Q E s:=by let(od,J,c):=I.look;exact PySem.W.get_value X J (PySem.W.plainGet_of e).1 (PySem.W.findObj_own d g rfl (by rw[c,b])) a h
def yG (X:K.In s.heap)(I:jd s.heap x dx C mA)(a:Jag K C name)
    (e:Jlc (Yy K C name) f)(c:Xh (JdJ K f))(b:Uf (mA name))(h:Q (.ref f,Gj x,) s):
    wpAny (Ik w) A (Jgs (.ref x) name) Q E s:=by let(od,J,d):=I.look;exact PySem.W.method_fn X J (PySem.W.plainGet_of a).1 (PySem.W.plainGet_of a).2 e (beq_iff_eq.mp c) (by show(Jdn od).map _=some false;rw[d,b];rfl) h
def yH (X:K.In s.heap)(I:jd s.heap x dx C mA)
    (hs:Jlx (Yy K C "__setattr__") "object.__setattr__")(o:Xh (PySem.W.plainOver K C))(n:Xo (PySem.W.takerIn K C name))(p:Jb4 K C)
    (l:PySem.Within mA ns)(hsz:Ic ns.length)
    (h:∀h',jd h' x dx C (λy=>if y=name then some v else mA y)->Jba dx->Q () { s with heap:=h',toks:=s.toks+2 }):
    wpAny (Ik w) A (setAttr (.ref x) name v) Q E s:=by let(od,J,B):=I.look;apply PySem.W.set_plain X J hs (PySem.W.osa_open X J o n λb=>?_);let(D,q,i):=PySem.W.any_some p;let k:=I.obj;apply Ui (QM (wpAny_loadPart k (wpAny_bind (PySem.W.Looks.here (PySem.W.looks_clsIn X q) ?_))));rw[i];apply wpAny_pure (Ui (wpAny_bind ?_));apply wpAny_nsSet1 I.ns λh' d c=>?_;let(z,t,u,e,g,j):=d.count (PySem.Within.cons name v l);apply wpAny_bind (wpAny_lookBehind e (by rw[g];exact pastItsLine_dict (Nat.le_trans j (by rw[List.length_cons];lia))) ?_);exact wpAny_pure (h _ ((c.2 _ (Ne.symm I.ne)).trans I.obj,d,I.ne) c)
def yI (X:K.In s.heap)(b:Xh (PySem.W.makesIn K C))
    (c:Jlc (Yy K C "__init__") f)(e:Xa (PySem.W.typeIn K (.ref f)) (.type "function"))
    (h:codeAny (Ik w) (JlQ "type.__call__" C vs kw) (W8 f (N3 (Yd 1) vs,kw)) (PySem.W.InitBack (Yd 1) R)
      { s with heap:=(s.heap.push PySem.W.emptyDict).push (JB C) }):
    codeAny (Ik w) A (W8 C (vs,kw)) R s:=by let(j,g,d,t,i):=s;exact PySem.W.make_core (PySem.W.makes_of X b) (PySem.W.looks_findIn X c) (λa=>PySem.W.bind_fn X a e) (.inl rfl) h
end
noncomputable def zbu (f:Str)(v:V):WT Str->WT Str
  |[]=>[(f,v,)]
  |(g,x,)::r=>if g=f then(g,v,)::r else(g,x,)::Jj5 r
theorem gj (f g)(v):∀c:WT Str,(Jj5 c).lookup g=if g=f then some v else c.lookup g
  | []=>by
    show List.lookup g [(f,v,)]=_;by_cases h:g=f
    . let a:=beq_iff_eq.mpr h;simp only[List.lookup,a,if_pos h]
    . let a:=beq_eq_false_iff_ne.mpr h;simp only[List.lookup,a,if_neg h]
  | (k,x,) :: r=>by
    let d:=gj f g v r;rw[show Jj5 _=(if k=f then(k,v,)::r else(k,x,)::Jj5 r) from rfl]
    by_cases b:k=f
    . rw[if_pos b];by_cases h:g=k
      . let a:=beq_iff_eq.mpr h;simp only[List.lookup,a,if_pos (h.trans b)]
      . let a:=beq_eq_false_iff_ne.mpr h;simp only[List.lookup,a,if_neg (λe:g=f=>h (e.trans b.symm))]
    . rw[if_neg b];by_cases h:g=k
      . let a:=beq_iff_eq.mpr h;simp only[List.lookup,a,if_neg (λe:g=f=>b (h.symm.trans e))]
      . let a:=beq_eq_false_iff_ne.mpr h;simp only[List.lookup,a];exact d
theorem pE (f)(v):∀b:WT Str,f∈(Jj5 b).map (·.1)∧∀g,g∈b.map (·.1)→g∈(Jj5 b).map (·.1)
  |[]=>(by simp [zbu],λg h=>by simp at h)
  | (k,x,) :: r=>by
    let(d,c):=pE f v r;rw[show Jj5 _=(if k=f then(k,v,)::r else(k,x,)::Jj5 r) from rfl]
    by_cases a:k=f
    . rw[if_pos a];subst a;exact(by simp,λg h=>by simpa using h)
    . rw[if_neg a];apply(?_,λg h=>?_)
      . rw[List.map_cons];exact Jb d
      . rw[List.map_cons]at h ⊢;rcases List.mem_cons.mp h with e | e
        . exact List.mem_cons.mpr (.inl e)
        . exact Jb (c g e)
theorem uk (f)(v):∀b:WT Str,(Jj5 b).length<=b.length+1
  |[]=>by simp [zbu]
  | (k,x,) :: r=>by
    let c:=uk f v r;rw[show Jj5 _=(if k=f then(k,v,)::r else(k,x,)::Jj5 r) from rfl]
    by_cases a:k=f
    . rw[if_pos a,List.length_cons,List.length_cons];lia
    . rw[if_neg a,List.length_cons,List.length_cons];lia
def cS.some_of (r:cS (some v) o):∃u,Xa o u/\bn v u:=by
  cases o with
  |none=>exact(show False from r).elim
  |some u=>exact Nc u r
def cS.none_of (r:cS none o):Uf o:=by
  cases o with
  |none=>rfl
  |some u=>exact(show False from r).elim
def yJ (r:IH v):Xh (PySem.W.handedIn u):=by
  cases v with
  |non=>cases (show GK u from r);rfl
  |bl b=>cases (show Wx u b from r);rfl
  |int i=>obtain⟨t,e⟩:=(show ∃t,u=YO i from r);cases e;rfl
  |str x=>obtain⟨t,e⟩:=(show ∃t,u=Jbl x from r);cases e;rfl
  |byt b=>obtain⟨t,e⟩:=(show ∃t,u=Value.bytes b t from r);cases e;rfl
  |flt b=>obtain⟨t,e⟩:=(show ∃t,u=Jjg b from r);cases e;rfl
  |ref a=>cases (show Jf u a from r);rfl
  |ty n=>cases (show Jeu u n from r);rfl
section
variable {P:Program} {w:World} {H H':Hp} {h h':Heap} {a C dx:Addr} {fs fs':List (U8 V)}
def nu (c:Jkz h)(e:Jnq a):∃b,jd h a dx C b/\(∀f,cS (fs.lookup f) (b f))/\PySem.Within b (fs.map (·.1))/\Jt fs.length/\H dx=some (.own a):=by let(d,z,i,g,b,n,r,q):=(show bJ P w H h a _ from c a _ e);exact(b,(g,n,i),r,q,z,d)
end
structure Cls (K:PySem.W.Frag)(C):Prop where
  pg:Jag K C Str.empty
  hd:Jb4 K C
  po:Xh (PySem.W.plainOver K C)
  sa:Jlx (Yy K C "__setattr__") "object.__setattr__"
def Cls.get {K:PySem.W.Frag}{C:Addr}(c:JhR K)(f):Jag K C f:=c.pg
def cD (K:PySem.W.Frag)(C:Addr)(f:Str):Prop:=Xo (Yy K C f)
def cD.taker {K:PySem.W.Frag}{C:Addr}{f:Str}(n:Jkb f):PySem.W.takerIn K C f=some none:=by unfold PySem.W.takerIn;rw[show Xo (PySem.W.findIn K _ f) from n];rfl
structure bx (K:PySem.W.Frag)(C)(m)(f):Prop where
  at_:Jlc (Yy K C m) f
  fn:Xh (JdJ K f)
  kp:Xh (UR K f)
section
variable {X:Cx} {pins:List (IL Obj)} {σ:St} {H:Hp} {s:Shared} {a C dx:Addr} {fs:List (U8 V)} {f:Str} {v:V} {A:Around} {E:Value->Shared->Prop}
def uo (I:Vm s)(e:Jnq a)(c:JhR X.K)(n:Jka X.K f)(l:JjM f v)
    (h:∀u s',Vm s'->IH v->Q u s'):Nv A (getAttr (.ref a) f b) Q E s:=by let(g,O,r,_,_,_):=nu I.hok e;let(u,i,d):=cS.some_of (by rw[<-l];exact r f);exact yF I.kIn O (c.get f) c.hd n i (yJ d) (JmT u _ _ d)
def uq (I:Vm s)(e:Jnq a)(c:JhR X.K)(k:IM X.K m g)(l:Uf (fs.lookup m))
    (h:Q (.ref g,Gj a,) s):Nv A (Jgs (.ref a) m) Q E s:=by let(b,O,r,_,_,_):=nu I.hok e;let d:=cS.none_of (by rw[<-l];exact r m);exact yG I.kIn O (c.get m) k.at_ k.fn d h
def ur (I:Vm s)(e:Jnq a)(c:JhR X.K)(n:Jka X.K f)(F:M8 fs.length)(p:IH y)
    (h:∀s',Qk (JfC (Wh C (Jg_ y fs))) s'->Q () s'):Nv A (setAttr (.ref a) f u) Q E s:=by
  let(j,O,r,i,_,k):=nu I.hok e;let hz:(fs.map (·.1)).length<=sizeLine:=by rw[lM,sizeLine_eq];lia
  apply yH I.kIn O c.sa c.po n.taker c.hd i hz λh' d l=>h _ ?_;let B:∃o,h'.get? dx=some o:=let (o,_,_,e',_):=d.ns;(o,e');apply I.write (by rw[e];exact True.intro) (.inr k) (λb q D z=>(l.2 b D).trans z) B ?_;apply(by rw[aq O.ne];exact k,?_,O.ne,d.obj,_,d.ns,λg=>?_,λg t=>?_)
  . have:=uk f y fs;lia
  . show cS _ _
    rw[gj];by_cases q:g=f
    . rw[if_pos q,if_pos q];exact p
    . rw[if_neg q,if_neg q];exact r g
  . by_cases q:g=f
    . rw[q];exact(pE f y fs).1
    . apply(pE f y fs).2 g (i g λz=>t ?_);show Uf (if g=f then some u else j g)
      rw[if_neg q];exact z
def Inv.made (I:Vm s):Inv X pins σ (upd (Mx s.heap.objs.size (Yd 1)) (Yd 1) (.ins C s.heap.objs.size []))
    { s with heap:=(s.heap.push PySem.W.emptyDict).push (JB C) }:=by
  let d:(s.heap.push PySem.W.emptyDict).get? s.heap.objs.size=some PySem.W.emptyDict:=Heap.get?_push_size s.heap rfl;let j:((s.heap.push PySem.W.emptyDict).push (JB C)).get? (Yd 1)=some (JB C):=by have:=Heap.get?_push_size (s.heap.push PySem.W.emptyDict) (o:=JB C) rfl;rwa [Heap.size_push]at this
  let i:(s.heap.push PySem.W.emptyDict).Ns s.heap.objs.size (λx=>none):=(PySem.W.emptyDict,#[],_,d,rfl,(λe h=>Vh h),λx=>rfl);let k:=I.laid (o:=.own (Yd 1)) (h':=s.heap.push PySem.W.emptyDict) (t':=s.toks) (λb u q=>Xz q) (nRq _) (Qu d);apply k.laid (t':=s.toks) (λb u q=>Xz q) (Nat.le_of_eq (Heap.size_push _ _)) ?_;let c:s.heap.objs.size≠Yd 1:=Nat.ne_of_lt (Nat.lt_succ_self _);apply(by rw[aq c,ao],Nat.zero_le _,c,j,λx=>none,(Heap.Ns1.of_empty i).at λo q=>Xz q,λx=>True.intro,λy g=>GE g)
def yK (c:attributeBase e f env (Jbn e)=Jbn e)
    (h:XC w A (Jbn e) (λo b=>XC w A (getAttr o f true) Q E b) E s):XC w A (Jbn (Ja0 e pos)) Q E s :=
  Attribute_any_ h (by rw[arm_eval_Attribute,c])
end
inductive rFld (K:PySem.W.Frag)(f):V->Hp->VK->Prop|m{x H Q} a C dx fs v:Jis a (Jnq a) (JhR K) (Jkb f->JjM f v->Q v H->rFld K f x H Q)
def tFld (K:PySem.W.Frag)(b:TE)(f:Str):TE:=λa H Q=>b a H λx c=>rFld K f x c Q
inductive rSF (K:PySem.W.Frag)(f)(y)(R:Hp->Prop):V->Hp->Prop|m{x H} a C dx fs:Jis a (Jnq a) (JhR K) (Jkb f->M8 fs.length->R (JfC (Wh C (Jg_ y fs)))->rSF K f y R x H)
def sFld (K:PySem.W.Frag)(c b:TE)(f:Str):TS:=λD a H=>b a H λy e=>c a e λx d=>rSF K f y (D.nx a) x d
def InOp (X:Cx)(op:Operator)(c:V->V->Hp->VK->Prop):Prop :=
  ∀a s (b:St) H x y u v Q,JnK (IH x->bn y v->c x y H Q->IE (inplaceOp op u v) (EP X a b Q) s)
inductive rSG (f)(a C)(R:Hp->Prop):V->Hp->Prop|m{z H} dx fs:Jnq a->M8 fs.length->R (JfC (Wh C (Jg_ z fs)))->rSG f a C R z H
inductive rSH (K:PySem.W.Frag)(tv:(V->Hp->Prop)->Hp->Prop)(rd:V->V->Hp->VK->Prop)(f)(R):V->Hp->Prop|m{x H} a C dx fs v:Jis a (Jnq a) (JhR K) (Jkb f->JjM f v->tv (λy H2=>rd v y H2 λz H3=>rSG f a C R z H3) H->rSH K tv rd f R x H)
def yL (K:PySem.W.Frag)(c b:TE)(d:V->V->Hp->VK->Prop)(f:Str):TS:=λD a H=>c a H λx e=>rSH K (λQ H'=>b a H' Q) d f (D.nx a) x e
section
variable {X:Cx} {o e value:Expr} {f:Str} {pos pos' tpos:Pos} {ta tv:TE}
def aV (j:JeH e)(k:Jhq e f e=Vc e):Qo (Ja0 e pos) (tFld X.K ta f):=by intro b s d H Q I h;apply yK k (thn (j b s d H _ I h) λu B h_=>?_);let(x,y,w,g,a,C,dx,D,v,p,r,c,n,l,q):=h_;subst p;obtain rfl:u=Value.ref a:=g;exact uo w r c n l λz A t i=>(v,y,t,i,q)
def cQ (t:JeH o)(r:Qo value tv)(hs:JcB (Jgk value (Ja0 o pos') pos.line) false):PS X (Jet (Ja0 o pos') value pos) (sFld X.K ta tv f):=by intro b s d H D I h;apply plainObj_wpAny_Assign_Attribute (thn (r b s d H _ I h) λu g (y,E,B,i,q)=>thn (t b g d E _ B q) λp G h_=>?_) hs;let(x,L,A,j,a,C,dx,J,v,w,c,n,l,k):=h_;subst v;obtain rfl:p=Value.ref a:=j;exact ur A w c n l i λF z=>(d,_,z,k)
def yM (L:JeH o)(J:Qo value tv)(g:InOp X op rd):PS X (.AugAssign (Ja0 o tpos) op value pos) (yL X.K ta tv rd f):=by intro b s d H D I h;apply wpAny_AugAssign_AttributeAny (thn (L b s d H _ I h) λF s1 h_=>?_);let(x,Y,U,w,a,C,dx,fs,v,N,O,c,n,l,q):=h_;subst N;obtain rfl:F=Value.ref a:=w;apply uo U O c n l λu p T A=>thn (J b p d Y _ T q) λj k (y,W,S,t,E)=>thn (g b k d W v y u j _ S A t E) λZ s4 h_=>?_;let(z,H3,R,r,P,M,i,G,B):=h_;exact ur R i c n G r λs5 Q=>(d,_,Q,B)
inductive rAdd:V->V->Hp->VK->Prop|m{x y H Q} i j:Jef x i (Jef y j (No (i+j) H->rAdd x y H Q))
def in_add:InOp X .Add rAdd:=by rintro a s d H x y u v Q I c b ⟨i,j,rfl,rfl,q⟩;let(t,rfl):=(show ∃t,u=YO i from c);let(t',rfl):=(show ∃t',v=Value.int j t' from b);exact PyProof.Rows.iadd_int (Ji3 _ H _ _ q)
end
section
variable {X:Cx} {pins:List (IL Obj)} {σ:St} {H:Hp} {s:Shared} {A:Around} {E:Value->Shared->Prop} {Q:Value->Shared->Prop} {c:Value} {b:Bool}
inductive fv (K:PySem.W.Frag)(H:Hp):V->Value->Prop where
  |non:IZ K H .non "NoneType"
  |bl (x):IZ K H (.bl x) "bool"
  |int (i):IZ K H (.int i) "int"
  |str (x):IZ K H (.str x) "str"
  |flt (x:UInt64):IZ K H (.flt x) "float"
  |lst {a:Addr} {xs:List V} (e:H a=some (.lst xs)):Jnt K H a "list"
  |frz {a:Addr} {o:Obj} {xs:List V} (e:H a=some (.frz o (.lst xs))):Jnt K H a "list"
  |tup {a:Addr} {xs:List V} (e:H a=some (.tup xs)):Jnt K H a "tuple"
  |dK {a:Addr} {kvs:List (Key×V)} (e:H a=some (.dK kvs)):Jnt K H a "dict"
  |dT {a:Addr} {kvs:List (List Key×V)} (e:H a=some (.dT kvs)):Jnt K H a "dict"
  |ins {a C dx:Addr} {fs:List (Str×V)} (e:H a=some (.ins C dx fs)) (cl:Cls K C) (ha:PySem.W.findIn K (.ref C) "__class__"=some (some (.builtin "object.__class__")))
      (hn:Jlx (PySem.W.specialIn K (.builtin "object.__class__") "__get__") "getset_descriptor.__get__") (htk:Xa (PySem.W.takesIn K (.builtin "object.__class__")) true)
      (hm:Xa (PySem.W.mroIn K C (.type "object")) true):fv K H (.ref a) (.ref C)
def yN (I:Vm s)(d:IH x)(ty:fv X.K H x t)(e:Xa (PySem.W.kitOne X.K t c) b)(h:∀tk,JmS b { s with toks:=tk }) :
    wpAny (Qh X.w) A (JR "isinstance" [u,c]) Q E s:=by
  cases ty with
  |non=>cases (show GK u from d);exact JdE PySem.W.kitx_none e (λz=>nomatch z) h
  |bl y=>cases (show Wx u y from d);exact JdE PySem.W.kitx_bool e (λz=>nomatch z) h
  |int i=>obtain⟨t,q⟩:=(show ∃t,u=YO i from d);cases q;exact JdE PySem.W.kitx_int e (λz=>nomatch z) h
  |str y=>obtain⟨t,q⟩:=(show ∃t,u=Jbl y from d);cases q;exact JdE PySem.W.kitx_str e (λz=>nomatch z) h
  |flt y=>obtain⟨t,q⟩:=(show ∃t,u=Jjg y from d);cases q;exact JdE PySem.W.kitx_float e (λz=>nomatch z) h
  | @lst a xs f =>
    cases (show Jf u a from d);let(_,_,n,_,g):=(show Jd5 H a (.lst xs) from VL a f);exact Jq PySem.W.kitx_list (Jkq g) e (λz=>nomatch z) h
  | @frz a r xs f =>
    cases (show Jf u a from d);let(_,_,_,n,_,g):=(show Jd5 H a (.frz r (.lst xs)) from VL a f);exact Jq PySem.W.kitx_list (Jkq g) e (λz=>nomatch z) h
  | @tup a xs f =>
    cases (show Jf u a from d);let(_,_,_,p):=(show Jd5 H a (.tup xs) from VL a f);let(o,g,j,_):=p.up;exact Jq PySem.W.kitx_tuple (J8 g j) e (λz=>nomatch z) h
  | @dK a kvs f =>
    cases (show Jf u a from d);let(_,_,vs,_,p):=(show Jd5 H a (.dK kvs) from VL a f);let(o,es,ep,g,j,_):=p;exact Jq PySem.W.kitx_dict (J8 g j.1) e (λz=>nomatch z) h
  | @dT a kvs f =>
    cases (show Jf u a from d);let(_,_,xs,_,o,es,ep,g,j,_):=(show Jd5 H a (.dT kvs) from VL a f);exact Jq PySem.W.kitx_dict (J8 g j.1) e (λz=>nomatch z) h
  | @ins a C dx G f l D v k B =>
    cases (show Jf u a from d);let(F,O,_):=nu I.hok f;let(od,J,_):=O.look;exact Jq (PySem.W.kitx_own (l.get _) l.hd D v k B) J e (λz=>nomatch z) h
end
structure ag (k)(A:Around):Prop where
  hd:Uf A.handled
  dp:A.depth+3*k+5<recursionLimit
  un:A.units+16*k+200<cLine
  gd:Xa A.guards []
def ag.mono (r:ag k A)(h:j<=k):ag j A:=(r.hd,by have:=r.dp;lia,by have:=r.un;lia,r.gd)
def ag.deeper (r:ag (k+1) A)(env):Mo k env :=
  (r.hd,by have:=r.dp;show A.depth+1+3*k+5<_;lia,by have:=r.un;show A.units+3+16*k+200<_;lia,r.gd)
def yO {A:Around}{C:Addr}{us:List Value}{a:List (U8 Value)}:(JlQ "type.__call__" C us a).depth=A.depth+1:=by
  first|rfl|simp [Around.under,Code.weight,Code.isCreation,Code.isGuard,Code.isCaller,Code.frames,Code.isFrame,guardIds]
def yQ {A:Around}{C:Addr}{us:List Value}{a:List (U8 Value)}:(JlQ "type.__call__" C us a).units=JV 1:=by
  first|rfl|simp [Around.under,Code.cUnits,Code.frames,Code.isFrame]
def yR {A:Around}{C:Addr}{us:List Value}{a:List (U8 Value)}(h:Xa A.guards []):(JlQ "type.__call__" C us a).guards=some []:=by
  first|exact h|simp [Around.under,Code.guards,Code.isGuard,guardIds,pushGuards,h]
def ag.make {k:Nat}{A:Around}(r:ag (k+1) A)(C)(us)(a):ag k (JlQ "type.__call__" C us a) :=
  (r.hd,by have:=r.dp;rw[yO];lia,by have:=r.un;rw[yQ];lia,yR r.gd)
def ag.depth (r:ag k A):A.depth<recursionLimit:=by have:=r.dp;lia
def ag.units (r:ag k A):XV 64:=by have:=r.un;lia
def je:TA:=λx H Q=>Q [] H
def uu (c:TE)(b:TA):TA:=λa H Q=>c a H λx e=>b a e λxs d=>Q (x::xs) d
section
variable {X:Cx} {e:Expr} {es:List Expr} {te:TE} {t:TA} {pos:Pos}
def ac:PA X [] je:=λx x x x H Q I h=>Calls.spliced_nil ([],H,I,.nil,h)
def aa (j:Jlm e)(i:PA X es t)(hs:Jbk e=(false,Vc e,)::starEach es X.env:=by rfl):JmM (uu te t):=by intro pos a s b H Q I h;rw[hs];apply Calls.spliced_cons (thn (j a s b H _ I h) λu c h_=>?_);let(x,o,l,f,q1):=h_;exact thn (i pos a c b o _ l q1) λus p h_=>by let(xs,n,k,d,g):=h_;exact(x::xs,n,k,.cons f d,g)
def yS (t:TA):TE:=λb H Q=>t b H λxs a=>Ic xs.length/\∀p,Iq (Uf (a p)) p (Mb a p xs)
def tLst (t:TA):TE:=λb H Q=>t b H λxs a=>Ic xs.length/\∀p,Iq (Uf (a p)) p (Qa a p xs)
def ck (h:PA X es t):Qo (.Tuple es x1 pos) (yS t):=by intro a s g H Q I i;apply wpAny_Tuple_spliced (thn (h pos a s g H _ I i) λus c h_=>?_);let(xs,f,d,r,z,q):=h_;apply Mm (by rw[<-r.length];exact z);let j:=JaP _;apply Wt c.heap.objs.size (WW f c.heap.objs.size) (d.laid (t':=c.toks) (λb u e=>Xz e) (nRq _) ?_) (q _ j);exact(z,us,r,Gn _ (Heap.get?_push_size _ rfl) _ rfl)
def bb (h:PA X es t):Qo (.List es pos) (tLst t):=by intro a s g H Q I i;apply wpAny_List_spliced (thn (h pos a s g H _ I i) λus c h_=>?_);let(xs,f,d,r,z,q):=h_;apply Mm (by rw[<-r.length];exact z);let j:=JaP _;apply Wt c.heap.objs.size (WW f c.heap.objs.size) (d.laid (t':=c.toks) (λb u e=>Xz e) (nRq _) ?_) (q _ j);exact(z,us,0,r,Heap.get?_push_size _ rfl)
end
abbrev Sp:=List V->Hp->VK->XK->Prop
abbrev CXT:=List Env->Hp->Shared->XK->Value->Shared->Prop
structure iL (P)(w)(K:PySem.W.Frag)(mg)(base)(A:Around)(outer)(s:Shared)(H:Hp):Prop where
  frames:Xa A.frames outer
  mod:Mod K mg base
  bs:∀b o,base.get? b=some o->s.heap.get? b=some o/\Gf b
  bsz:base.objs.size<=s.heap.objs.size
  funs:s.heap.FunFrames base outer
  frf:∀b∈frs outer,Gf b
  hok:Jkz s.heap
  bare:AllBare s.gens
def CE (outer:List Env)(P:Program)(w:World)(H:Hp)(s:Shared)(Q:VK)(u:Value)(s':Shared):Prop :=
  ∃v H',s'.os=s.os/\AllBare s'.gens/\Jep outer [] H H' s'.heap/\Jky H' s'.heap/\IH v/\Q v H'
def CR (CX:CXT)(outer:List Env)(P:Program)(w:World)(H:Hp)(s:Shared)(Q:VK)(E:XK)(r:Result)(s':Shared):Prop :=
  match r with
  |.ok (.ret u)=>CE outer P w H s Q u s'
  |.ok _=>False
  |.error e=>CX outer H s E e s'
structure aS (P)(w)(K:PySem.W.Frag)(mg)(base)(CX:CXT)(k)(f)(fd)(ps:List Str)(sp:Sp):Prop where
  len:∀vs H Q E,JhU E->MZ vs.length
  run:∀(A) (outer) (s) (H) args (us) (vs) (Q) (E),ag k A->iL P w K mg base A outer s H->JdK fd args (ps.zip us)->WD vs->JhU E->
    codeAny (Jca P) A (W8 f args) (CR CX outer P w H s Q E) s
def aS.imp {P:Program}{w:World}{K:PySem.W.Frag}{mg:Str→Option Value}{base:Heap}{CX:CXT}{k:Nat}{f:Addr}{c:FuncData}{ps:List Str}{sp a:Sp}(F:Xb P w K mg CX k f c ps sp)
    (h:∀vs H Q E,a vs H Q E->JhU E):Xb P w K mg CX k f c ps a :=
  (λvs H Q E q=>F.len vs H Q E (h _ _ _ _ q),λA outer s H b us vs Q E e g i d hs=>F.run A outer s H b us vs Q E e g i d (h _ _ _ _ hs))
def iL.make {P:Program}{w:World}{K:PySem.W.Frag}{mg:Str→Option Value}{base:Heap}{A:Around}{outer:List Env}{s:Shared}{H:Hp}(e:iL P w K mg base A outer s H)(C)(us)(a) :
    iL P w K mg base (JlQ "type.__call__" C us a) outer s H:=(by first|exact e.frames|(simpa [Around.under,Code.envs,Code.isFrame,pushEnvs] using e.frames),e.mod,e.bs,e.bsz,e.funs,e.frf,e.hok,e.bare)
section
variable {X:Cx} {pins:List (IL Obj)} {σ:St} {H:Hp} {s s':Shared}
def Inv.env0 (I:Vm s):iL X.prog X.w X.K X.mg X.base X.A X.stack s H :=
  (I.ok.frames,I.ok.mod,I.bs,NQ I.sz,I.stack,I.stkFree,I.hok,I.bare)
def Inv.after (I:Vm s)(h:CE X.stack X.prog X.w H s Q u s'):EP X pins σ Q u s':=by let(v,H',i,a,f,e,r,q):=h;let(j,g,d,t,c):=s';obtain rfl:c=s.os:=i;exact(v,H',I.call (h':=j) (g':=g) (d':=d) (t':=t) f e a (λb z=>Vh z),r,q)
end
def pF (sp:Sp)(a:List V)(E:XK)(t:TA):TE:=λb H Q=>t b H λvs c=>sp (vs++a) c Q E
inductive isO (C)(m):V->Hp->Prop->Prop|m{x H R} a dx fs:Jis a (Jnq a) (Uf (fs.lookup m)) (R->isO C m x H R)
def pG (C:Addr)(m:Str)(sp:Sp)(a:List V)(E:XK)(d:TE)(t:TA):TE:=λb H Q=>d b H λx c=>isO C m x c <| t b c λvs e=>sp (x::(vs++a)) e Q E
def tMake (C:Addr)(sp:Sp)(a:List V)(E:XK)(t:TA):TE:=λc H Q=>t c H λvs b=>∀x dx,Uf (b x)->Uf (b dx)->dx≠x->
  sp (N3 x (vs++a)) (WB (upd b dx (.own x)) x C []) (λv d=>v=.non/\Uc x d) E
def aw (K:PySem.W.Frag)(b:FuncData)(ps:List Str)(a:List Value):Prop :=
  ∀s us,K.In s.heap->(us++a).length=ps.length->JdK b (WX us) (ps.zip (us++a))
def aw.all {K:PySem.W.Frag}{b:FuncData}{ps:List Str}(h:∀us:List Value,MZ us.length->JnC (JbQ b us) us):Uj b ps:=λs us x a=>by rw[List.append_nil]at a⊢;exact .of_eq (h us a)
def ir (CX:CXT)(X:Cx)(E:XK):Prop:=∀a (b:St) H s e s',JnK (CX X.stack H s E e s'->X.xe e s')
section
variable {X:Cx} {CX:CXT} {k:Nat} {f C:Addr} {fd:FuncData} {ps:List Str} {sp:Sp} {dvs:List V} {ds:List Value} {E:XK} {x m:Str} {p pos apos:Pos} {e o:Expr} {es:List Expr} {ta:TE} {t:TA}
def pH (F:aS X.prog X.w X.K X.mg X.base CX k f fd ps sp)(d:Jgt k)(j:aw X.K fd ps ds)(i:Jiw ds)(c:ir CX X E)
    (I:Vm s)(r:WD vs)(h:sp (vs++dvs) H Q E):IE (call (.ref f) us) (EP X pins σ Q) s:=by
  let b:=r.append i;let g:(us++ds).length=ps.length:=by rw[<-b.length];exact F.len _ _ _ _ h
  apply wpAny_call (codeAny_mono (F.run X.A X.stack s H (WX us) (us++ds) (vs++dvs) Q E d I.env0 (j s us I.kIn g) b h) λr s' a=>?_);cases r with
  |error e=>exact c pins σ H s e s' I a
  | ok l =>
    cases l with
    |ret u=>exact I.after a
    |next=>exact False.elim a
    |brk=>exact False.elim a
    |cont=>exact False.elim a
def au (F:aS X.prog X.w X.K X.mg X.base CX k f fd ps sp)(j:Jgt k)(u:Jg9 x)(l:X.mg x=Ja f)(n:Xh (UR X.K f))(z:aw X.K fd ps ds)(y:Jiw ds)(i:ir CX X E)
    (B:JmM t)(c:Xx (x==("__debug__":Str)):=by decide)(v:Jbk e=(false,Vc e,)::starEach es X.env:=by rfl)(b:(Jfi es).any (·.1)=false:=by rfl):
    PE X (Jj7 x p e) (pF sp dvs E t):=by intro a s g H Q I h;apply UQ I u l ?_ c;apply PySem.W.callWith_K I.ok.mod.kin n (thn (B pos a s g H _ I h) λus D h_=>?_) v b;let(vs,G,d,r,q):=h_;apply Mm d.kIn;exact pH F j z y i d r q
def ax (M:JeH o)(c:JhR X.K)(n:IM X.K m f)(F:aS X.prog X.w X.K X.mg X.base CX k f fd ps sp)(L:Jgt k)(O:aw X.K fd ps ds)(N:Jiw ds)(G:ir CX X E)(P:JmM t)
    (d:Jbk e=(false,Vc e,)::starEach es X.env:=by rfl)(g:(Jfi es).any (·.1)=false:=by rfl)
    (J:Vc (Jl5 o m (ML e) pos)=(do
      let j <-eval o X.env
      standAt apos.atName
      let (f,first,) <-holding [j] (Jgs j m)
      callWith pos f first (Jfi (ML e)) (I_ pos [])):=by rfl):
    PE X (Jl5 o m (ML e) pos) (pG C m sp dvs E ta t):=by
  intro b s i H Q I h;apply PySem.W.methodCall_KW (thn (M b s i H _ I h) λu z h_=>?_) J;let(x,T,y,B,a,dx,Y,R,S,l,q):=h_;subst R;obtain rfl:u=Value.ref a:=B;apply uq y S c n l ?_;apply PySem.W.callWith_K (first:=Gj a) I.ok.mod.kin n.kp (thn (P pos b z i T _ y q) λus U h_=>?_) d g;let(vs,Z,v,r,D):=h_;apply Mm v.kIn
  exact pH (vs:=N3 a vs) F L O N G v (.cons rfl r) D
def kU (z:JeH o)(c:JhR X.K)(i:IM X.K m f)(F:aS X.prog X.w X.K X.mg X.base CX k f fd ps sp)(y:Jgt k)(D:aw X.K fd ps ds)(B:Jiw ds)(r:ir CX X E)
    (v:Vc (Jl5 o m [] pos)=(do
      let g <-eval o X.env
      standAt apos.atName
      let (f,first,) <-holding [g] (Jgs g m)
      callWith pos f first (Jfi []) (I_ pos [])):=by rfl):
    PE X (Jl5 o m [] pos) (pG C m sp dvs E ta je):=by intro b s j H Q I h;apply PySem.W.methodCall_KW (thn (z b s j H _ I h) λu L h_=>?_) v;let(x,N,d,n,a,dx,M,G,J,l,q):=h_;subst G;obtain rfl:u=Value.ref a:=n;apply uq d J c i l ?_;exact PySem.W.callWith_K0 (first:=Gj a) d.kIn i.kp (pH (vs:=Gj a) F y D B r d (Wy rfl) q)
structure Mk (K:PySem.W.Frag)(C f):Prop where
  makes:Xh (PySem.W.makesIn K C)
  init:Jlc (Yy K C "__init__") f
  fn:Xh (JdJ K f)
  kp:Xh (UR K C)
def uv (M:Mk X.K C f)(F:aS X.prog X.w X.K X.mg X.base CX k f fd ps sp)(l:Jgt (k+1))(y:aw X.K fd ps ds)(q:Jiw ds)
    (j:ir CX X E)(I:Vm s)(r:WD vs)
    (h:∀x dx,JeL x dx (dx≠x->sp (N3 x (vs++dvs)) (Jhu x) (λv G=>v=.non/\Uc x G) E)):
    wpAny (Qh X.w) X.A (call (.ref C) us) (EP X pins σ Q) X.xe s:=by
  let d:=h _ s.heap.objs.size (I.hok.fresh (Nat.le_succ _)) (Xp _) (Nat.ne_of_lt (Nat.lt_succ_self _));let b:=Inv.made (C:=C) I;let c:bc (V.ref (Yd 1)::(vs++dvs)) _:=.cons rfl (r.append q);let n:(JcK 1::us++ds).length=ps.length:=by let e:=c.length;rw[F.len _ _ _ _ d]at e;exact e.symm
  apply wpAny_call (yI I.kIn M.makes M.init (beq_iff_eq.mp M.fn) (codeAny_mono (F.run _ X.stack _ _ (WX (JcK 1::us)) (JcK 1::(us++ds)) _ _ E (l.make C us []) (b.env0.make C us []) (y _ (JcK 1::us) b.kIn n) c d) λr s' a=>?_))
  cases r with
  |error e=>exact j pins σ _ _ e s' b a
  | ok z =>
    cases z with
    | ret u =>
      let(v,H',D,g,B,i):=b.after a;subst B;exact(g,Jh (V.ref _) H' D i)
    |next=>exact False.elim a
    |brk=>exact False.elim a
    |cont=>exact False.elim a
def yT (M:Mk X.K C f)(F:aS X.prog X.w X.K X.mg X.base CX k f fd ps sp)(j:Jgt (k+1))(n:Jg9 x)(l:X.mg x=Ja C)(y:aw X.K fd ps ds)(v:Jiw ds)(i:ir CX X E)
    (z:JmM t)(c:Xx (x==("__debug__":Str)):=by decide)(u:Jbk e=(false,Vc e,)::starEach es X.env:=by rfl)(b:(Jfi es).any (·.1)=false:=by rfl):
    PE X (Jj7 x p e) (tMake C sp dvs E t):=by intro a s g H Q I h;apply UQ I n l ?_ c;apply PySem.W.callWith_K I.ok.mod.kin M.kp (thn (z pos a s g H _ I h) λus B h_=>?_) u b;let(vs,D,d,r,q):=h_;apply Mm d.kIn;exact uv M F j y v i d r q
def jM (M:Mk X.K C f)(F:aS X.prog X.w X.K X.mg X.base CX k f fd ps sp)(d:Jgt (k+1))(i:Jg9 x)(g:X.mg x=Ja C)(l:aw X.K fd ps ds)(j:Jiw ds)(c:ir CX X E)
    (a:Xx (x==("__debug__":Str)):=by decide):Qo (Ji2 x p []) (tMake C sp dvs E je):=by intro b s n H Q I h;apply UQ I i g ?_ a;exact PySem.W.callWith_K0 I.kIn M.kp (uv M F d l j c I .nil h)
end
def PK (X:Cx)(d:List Keyword)(t:TA):Prop :=
  ∀c a s (b:St) H Q,JnK (t b H Q->IE (evalAll ((I_ c d).map (·.2))) (AP X a b Q) s)
section
variable {X:Cx} {CX:CXT} {k:Nat} {f C:Addr} {fd:FuncData} {ps ks:List Str} {sp:Sp} {E:XK} {x m:Str} {p pos apos kpos:Pos} {e o:Expr} {es:List Expr} {kws:List Keyword} {te ta:TE} {t tk:TA} {nm:Option Str}
def yU:PK X [] je:=λx x x x H Q I h=>wpAny_evalAll_nil ([],H,I,.nil,h)
def yV (l:Jlm e)(j:PK X kws t):PK X ((nm,e,kpos)::kws) (uu te t):=by
  intro pos a s b H Q I h;show JmJ _
  apply wpAny_evalAll_cons (wpAny_bind (thn (l a s b H _ I h) λu c h_=>?_));let(x,w,q,g,q1):=h_;apply IG (wpAny_pure ?_);exact thn (j pos a c b w _ q q1) λus y h_=>by let(xs,r,n,d,i):=h_;exact(x::xs,r,n,.cons g d,i)
variable {g:List Value->List Value->List Value} {gV:List V->List V->List V}
end
structure aN (N P:List Str)(sc:Scope):Prop where
  kind:NZ sc.kind
  co:Xx sc.isCoroutine
  gen:Xx sc.isGenerator
  nd:N.Nodup
  pre:N.take P.length=P
  par:∀x∈P,Jlo x\/JjS x
  nofree:∀y∈sc.names,y.2≠.free
def fsc (a:NZ sc.kind:=by exact rfl)(b:Xx sc.isCoroutine:=by exact rfl)(c:Xx sc.isGenerator:=by exact rfl)(d:N.Nodup:=by decide +kernel)(e:N.take P.length=P:=by exact rfl)(f:∀x∈P,Jlo x\/sc.names.lookup x=some .cell:=by decide +kernel)(g:∀y∈sc.names,y.2≠.free:=by decide +kernel):aN N P sc:=(a,b,c,d,e,f,g)
theorem uw {b:Str->Option NameKind}{x:Str}:∀{a:List (U8 Value)} {m:Str->Option Value},(∀v,(x,v,)∉a)->bindL b a m x=m x
  |[],_,_=>rfl
  | (n,v,) :: r,m,h=>by
    unfold bindL;rw[uw λw c=>h w (Jb c)];split
    . have:x≠n:=by rintro rfl;exact IJ v
      simp [this]
    . rfl
theorem uz {b:Str->Option NameKind}{x:Str}:∀{a:List (U8 Value)} {m:Str->Option Value},(∀v,(x,v,)∉a)->bindC b a m x=m x
  |[],_,_=>rfl
  | (n,v,) :: r,m,h=>by
    unfold bindC;rw[uz λw c=>h w (Jb c)];split
    . rfl
    . have:x≠n:=by rintro rfl;exact IJ v
      simp [this]
theorem uA {a:Str->Option NameKind}{x:Str}{v:Value}:∀{P:List Str} {vs:List Value} {i:Nat} {m:Str->Option Value},P.Nodup->P[i]?=some x->vs[i]?=some v->Xa (a x) .local->
    bindL a (P.zip vs) m x=some v
  |[],_,_,_,_,h,_,_=>by simp at h
  |_::_,[],_,_,_,_,h,_=>by simp at h
  |p::P,w::vs,0,m,d,c,b,e=>by simp at c b;subst c;subst b;show bindL a ((p,w,)::P.zip vs) m p=_;unfold bindL;rw[uw λv f=>(List.nodup_cons.mp d).1 (List.of_mem_zip f).1,if_pos e];simp
  |p::P,w::vs,i+1,m,d,c,b,e=>by unfold bindL;exact uA (List.nodup_cons.mp d).2 (by simpa using c) (by simpa using b) e
theorem uB {a:Str->Option NameKind}{x:Str}{v:Value}:∀{P:List Str} {vs:List Value} {i:Nat} {m:Str->Option Value},P.Nodup->P[i]?=some x->vs[i]?=some v->a x≠some .local->
    bindC a (P.zip vs) m x=some v
  |[],_,_,_,_,h,_,_=>by simp at h
  |_::_,[],_,_,_,_,h,_=>by simp at h
  |p::P,w::vs,0,m,d,c,b,e=>by simp at c b;subst c;subst b;show bindC a ((p,w,)::P.zip vs) m p=_;unfold bindC;rw[uz λv f=>(List.nodup_cons.mp d).1 (List.of_mem_zip f).1,if_neg e];simp
  |p::P,w::vs,i+1,m,d,c,b,e=>by unfold bindC;exact uB (List.nodup_cons.mp d).2 (by simpa using c) (by simpa using b) e
noncomputable def zc4 (N:List Str)(vs:List V):St:=vs.map some++Jdo (N.length-vs.length)
noncomputable def aO (CX:CXT)(P:Program)(w:World)(K:PySem.W.Frag)(mg:UT Str)(base:Heap)(N:List Str)(b:Str)(a:Scope)(f:Addr)(d:Value)(A:Around)(outer:List Env)(s:Shared)(H:Hp)(E:XK):Cx where
  prog:=P
  w:=w
  K:=K
  mg:=mg
  base:=base
  A:=A.deeper (Vp b a f d)
  N:=N
  s₀:=s
  H₀:=H
  env:=Vp b a f d
  outer:=outer
  stack:=Vp b a f d::outer
  ex:=[]
  calm:=true
  fn:=λx=>true
  pn:=[]
  xe:=λe s'=>Ga P w (A.deeper (Vp b a f d)) (leaving (Vp b a f d) e) (λx c=>CX outer H s E e c) (λg c=>CX outer H s E g c) s'
def uC {sc:Scope}{n:Nat}{x:Str}(h:JjS x):∃c,(Jgu n sc.names).lookup x=some c:=by let q:=PySem.W.cellsFrom_some sc.names n [] (.inl h);exact Option.isSome_iff_exists.mp q
def uD {CX:CXT}{P:Program}{w:World}{K:PySem.W.Frag}{mg:Str→Option Value}{base:Heap}{N ps:List Str}{g:Str}{d:Scope}{f:Addr}{G:Value}{A:Around}{outer:List Env}{s I:Shared}{H:Hp}{E:XK}{us:List Value}{vs:List V}
    (S:aN N ps d)(Q:Uf A.handled)(l:iL P w K mg base A outer s H)(T:MZ vs.length)(r:WD vs)
    (x:InCallC s s.heap.objs.size (bindL (Vp g d f G).kindOf (ps.zip us) λn=>none) (Jgu (Yd 1) d.names) (bindC (Vp g d f G).kindOf (ps.zip us) λn=>none) I):
    Inv (XG CX P w K mg N g d f G A s H E) [] (Jix N) H I:=by
  let O:GV N.length:=by have:=UD S.pre;rw[List.length_take]at this;lia
  let(F,tk,rfl,L):=x.done;let o:∀b:Addr,b∉(XG CX P w K mg N g d f G A s H E).ex:=λb z=>Vh (show b∈([]:List Addr) from z);apply XI (l.mod,S.kind,rfl,rfl,nRq _,λy z c F j=>?_,λy t=>?_,λy c n h=>?_,λn=>Q,Around.frames_deeper l.frames,Jgc rfl,λb z=>IP (o b),l.bs,l.bsz,λb n n=>o b,λb z=>IP (o b),l.funs,l.frf) l.bare (Un.kept L) (W7 x.toInCall.ns (λi y v F j U=>?_)) (λy c h=>Qu (x.cell y c h)) (l.hok.fresh (nRq _)) (λy c h=>?_) (λp C=>Vh (show p∈([]:List _) from C)) (l.hok.kept L) ?_
  . exact name_of_addr x.apart (PySem.mem_of_lookup F) (PySem.mem_of_lookup j)
  . let t:=t;rcases t with t | t
    . exact uC t
    . exact GE (S.nofree _ (PySem.mem_of_lookup t))
  . exact Nat.le_of_lt (x.above y c (PySem.mem_of_lookup h))
  . let D:i<vs.length:=by
      unfold zc4 at j;by_cases D:i<vs.length
      . exact D
      . rw[List.getElem?_append_right (by simpa using D),List.getElem?_replicate]at j;split at j<;>cases j
    let R:vs[i]?=some v:=by
      unfold zc4 at j;rw[List.getElem?_append_left (by simpa using D),List.getElem?_map]at j;cases e:vs[i]? with
      |none=>rw[e]at j;cases j
      |some a=>rw[e]at j;cases j;rfl
    let(u,J,M):=r.get R;let C:ps[i]?=some y:=by rw[<-S.pre,List.getElem?_take_of_lt (by lia)];exact F
    let B:ps.Nodup:=by rw[<-S.pre];exact S.nd.sublist (List.take_sublist _ _)
    apply Id u M;rcases S.par y (mO C) with k|k
    . exact Uh k (uA B C J k)
    . let(c,e):=uC k;apply NG (.inl k) c e ?_;let q:=x.cell y c e;rw[uB B C J (by show d.names.lookup y≠_;rw[k];decide)]at q;exact q
  . exact l.hok.fresh (Nat.le_of_lt (x.above y c (PySem.mem_of_lookup h)))
  . unfold zc4;show _=N.length;rw[lAq,lM,List.length_replicate];lia
def pI {CX:CXT}{P:Program}{w:World}{K:PySem.W.Frag}{mg:Str→Option Value}{base:Heap}{k:Nat}{f:Addr}{name c:Str}{d:Arguments}{g:List Stmt}{a:Scope}{T kV C R cdv U oc:Value}{Y od:Option Addr}
    {F:Array (Option Value)}{N ps:List Str}{sp:Sp}(lk:JcP f oc od (Jcp name c d g a T kV C R Y U) F)(M:Jen K cdv c)(S:aN N ps a)
    (l:∀vs H Q E,JhU E->MZ vs.length)
    (j:∀A outer s H vs Q E,Mo k (Vp c a f cdv)->JhU E->
      ∃t,Jiu (XG CX P w K mg N c a f cdv A s H E) g/\t { nx:=λm H'=>Q .non H',rt:=Q } (Jix N) H):
    aS P w K mg base CX (k+1) f (Jcp name c d g a T kV C R Y U) ps sp:=by
  apply(l,λA outer s H X us vs Q E L B hb r p=>?_);let hl:=l _ _ _ _ p;let Z:=B.mod.kin.keeps λb o e=>(B.bs b o e).1;let G:=B.mod.nolimit.keeps λb o e=>(B.bs b o e).1;let i:∀y∈ps.zip us,Xa (a.names.lookup y.1) .local\/(Xa (a.names.lookup y.1) .cell/\((Jgu (Yd 1) a.names).lookup y.1).isSome=true):=λ(n,v) hy=>by
    rcases S.par n (List.of_mem_zip hy).1 with q|q
    . exact .inl q
    . exact Yg q (PySem.W.cellsFrom_some _ _ _ (.inl q))
  apply codeAny_call_function L.depth (Z _ _ lk) rfl S.co S.gen rfl (PySem.W.codeRec_of Z M) (hb _ _ _ _ ?_);apply wpAny_newFunctionEnv_cells S.kind i λenv he O x=>?_;subst he;apply(G.keeps x.toInCall.keep,codeAny_func ?_);let(t,ht,hq):=j A outer s H vs Q E (L.deeper _) p;let I:Jgv (XG CX P w K mg N c a f cdv A s H E) _ H O:=uD S L.hd B hl r x;apply wpAny_mono (ht [] O (Jix N) H _ I hq) (λfl s' hs=>?_) λe s' hs=>hs;let z:∀{h:St} {H':Hp} {v:V} {u:Value},Jgv (XG CX P w K mg N c a f cdv A s H E) h H' s'->IH v->Q v H'->CE outer P w H s Q u s' :=
    λ{h H' v u} J D q=>(v,H',J.os,J.bare,J.base,J.hok,D,q)
  cases fl with
  | ret u =>
    let(v,h,H',J,D,q):=hs;exact z J D q
  | next =>
    let(h,H',J,q):=hs;exact z (v:=V.non) J rfl q
  | brk =>
    let(_,_,_,q):=hs;exact False.elim q
  | cont =>
    let(_,_,_,q):=hs;exact False.elim q
section
variable {X:Cx} {x:Str} {p pos:Pos} {e:Expr} {es:List Expr} {t:TA} {id T:String} {r:List V->Hp->VK->Prop}
def tCB (r:List V->Hp->VK->Prop)(t:TA):TE:=λa H Q=>t a H λvs b=>r vs b Q
def aF (o:Iy X id r)(l:Jg9 x)(k:UG x)(i:Jbt x (.builtin id))(q:JmM t)(j:JbC x:=by decide)(c:Xx (x == ("__debug__":Str)):=by decide)
    (n:Jbk e=(false,Vc e,)::starEach es X.env:=by rfl)(b:(Jfi es).any (·.1)=false:=by rfl):Qo (Jj7 x p e) (tCB r t):=by intro a s d H Q I h;apply wpAny_Call_Name_kw (eV I l k i ?_ j c);exact PyProof.Rows.callWith_builtin1 (thn (q pos a s d H _ I h) λus f h_=>by let(vs,v,u,g,q1):=h_;exact o a f d v vs us Q u g q1) n b
def di (o:JbS X T r)(l:Jg9 x)(k:UG x)(i:Jbt x (.type T))(q:JmM t)(j:JbC x:=by decide)(c:Xx (x == ("__debug__":Str)):=by decide)
    (n:Jbk e=(false,Vc e,)::starEach es X.env:=by rfl)(b:(Jfi es).any (·.1)=false:=by rfl):Qo (Jj7 x p e) (tCB r t):=by intro a s d H Q I h;apply wpAny_Call_Name_kw (eV I l k i ?_ j c);exact PyProof.Rows.callWith_type1 (thn (q pos a s d H _ I h) λus f h_=>by let(vs,v,u,g,q1):=h_;exact o a f d v vs us Q u g q1) n b
end
end L2
namespace HT
open PySem PyProof.Rows
section
variable {prog:Program} {w:World} {A:Around} {E:Value->Shared->Prop} {s:Shared}
def cat_tup (u:Q_ t vs.toArray)(v:Q_ b ws.toArray)(o:vs≠[])
    (y:Iq (ws=[]) t s)(x:Iq (ws≠[]) s.heap.objs.size { s with heap:=s.heap.push { cls:=.type "tuple",data:=.seq (vs++ws).toArray } })
    (hsz:Ic (vs.length+ws.length)):XC w A (binaryOp .Add (.ref t) (.ref b)) Q E s:=by
  let((cls,dd,data,k),i,q,n,p):=id u;let((r,g,j,c),a,f,l,d):=id v;simp only at q p f d;subst q p f d;let e:vs.toArray++ws.toArray=(vs++ws).toArray:=by simp
  by_cases h:ws=[]
  . exact concat_meets (Jkq i) (Jkq a) noFill_tuple_add seq_tuple_add PySem.F.slot_tuple_add PySem.F.entry_tuple_add (Jat _)
      (tuple_addW1 t b vs.toArray ws.toArray n l dd g k c (by simpa using o) (by simp [h])) (i,a,y h)
  . apply concat_meets (Jkq i) (Jkq a) noFill_tuple_add seq_tuple_add PySem.F.slot_tuple_add PySem.F.entry_tuple_add (Jat _)
      (tuple_addW2 t b vs.toArray ws.toArray n l dd g k c (by simpa using o) (by simpa using h) (by rw[sAq,sAq];exact hsz)) (Id i a)
    rw[e];exact x h
noncomputable def sIx (n d:Nat):JjJ Int Nat
  |none=>d
  |some v=>if v<0 then(v+(n:Int)).toNat else JmU n
def sIx_none (n d):sIx n d none=d:=rfl
def sIx_nat (n d k:Nat):sIx n d (some (k:Int))=min k n:=by
  show(if(k:Int)<0 then((k:Int)+(n:Int)).toNat else min (k:Int).toNat n)=min k n
  rw[if_neg (by lia),Int.toNat_natCast]
def sIx_le (n d)(b:d≤n)(o):sIx n d o≤n:=by
  cases o with
  |none=>exact b
  | some v =>
    show(if v<0 then(v+(n:Int)).toNat else JmU n)<=n
    by_cases a:v<0
    . rw[if_pos a];lia
    . rw[if_neg a];exact Nat.min_le_right _ _
def uG (v)(n d:Nat):(if v<0 then max (v+(n:Int)) 0 else min v (n:Int))=((sIx n d (some v):Nat):Int):=by
  show(if v<0 then max _ 0 else min v (n:Int))=(((if v<0 then(v+(n:Int)).toNat else JmU n):Nat):Int)
  by_cases a:v<0
  . simp only[if_pos a];lia
  . simp only[if_neg a];lia
def yW (lo a)(n:Nat):Builtin.Slice.sliceAdjust lo a 1 (n:Int)=((sIx n 0 lo:Int),(sIx n n a:Int),):=by
  let b:¬(1<0):=by lia
  unfold Builtin.Slice.sliceAdjust;simp only[b,if_false];apply Prod.ext ?_ ?_
  . cases lo with
    |none=>rfl
    |some v=>exact uG v n 0
  . cases a with
    |none=>rfl
    |some v=>exact uG v n n
def yX (i j:Nat):JaA (i:Int) (j:Int)=j-i:=by
  unfold Builtin.Slice.slicePlaces;let a:1>0:=by lia
  simp only[a,if_true,Int.ediv_one];split<;>lia
def uH (p:IsPart v o)(h:Q o s):XC w A (Builtin.Slice.slicePartIndex v) Q E s:=by
  cases p with
  |none=>exact slicePart_none h
  |int i t=>exact slicePart_int h
def uI {f:Addr}{e d:Value}{lo b:Option Int}{n:Nat}{Q:Int × Int × Nat→Shared→Prop}(hs:Jaf f e d)(pl:JkO e)(g:IsPart d b)
    (h:Q ((sIx n 0 lo:Int),1,sIx n n b-sIx n 0 lo,) s):XC w A (Builtin.Slice.sliceApplied (.ref f) (pure (n:Int))) Q E s:=by
  let(j,a,i,c):=id hs;apply QM (JkP a c (wpAny_bind (JkP a c (wpAny_bind (JkP a c (wpAny_pure ?_))))));apply wpAny_bind (slicePart_none ?_);show JmJ _
  rw[if_neg (by decide)];apply wpAny_bind (uH pl (wpAny_bind (uH g (Ui ?_))));show JmJ (match Builtin.Slice.sliceAdjust lo b 1 (n:Int) with|(lo,b,)=>pure (lo,(1:Int),JaA lo b,))
  rw[yW lo b n];show JmJ (pure ((sIx n 0 lo:Int),1,JaA (sIx n 0 lo:Int) (sIx n n b:Int),));rw[yX];exact wpAny_pure h
def yY (xs:Array Value)(i k:Nat):((List.range k).filterMap λ(m:Nat)=>xs[((i:Int)+(m:Int) * 1).toNat]?).toArray=((xs.toList.drop i).take k).toArray:=by
  let e:(λ(m:Nat)=>xs[((i:Int)+(m:Int)*1).toNat]?)=λm=>xs[i+m]?:=by
    funext m;have:((i:Int)+(m:Int)*1).toNat=i+m:=by lia
    rw[this]
  rw[e];have:=pick_run xs i k;rw[List.filterMap_map]at this;let a:((λx=>xs[x]?) ∘ λx=>i+x)=λm=>xs[i+m]?:=rfl;rw[a]at this;rw[this]
def getItem_tuple_cut {t d:Addr}{items:Array Value}{k j:Value}{lo b:Option Int}{Q:Value→Shared→Prop}(c:Q_ t items)(hs:Jaf d k j)(pl:JkO k)(l:IsPart j b)
    (o:¬(Jlt 0=0/\Qy items.size b=items.size))
    (h:Uc s.heap.objs.size { s with heap:=s.heap.push { cls:=.type "tuple",data:=.seq ((items.toList.drop (Jlt 0)).take (sIx items.size items.size b-Jlt 0)).toArray } })
    (hsz:Ic items.size):XC w A (Jjk t (.ref d)) Q E s:=by
  let a:sizeOk (.seq ((items.toList.drop (Jlt 0)).take (sIx items.size items.size b-Jlt 0)).toArray):=by show((items.toList.drop _).take _).toArray.size<=sizeLine;rw[sAq,List.length_take,List.length_drop,Array.length_toList];lia
  let(n,e,g,p):=id hs;let i:Q1 d "slice":=(n,e,g);unfold getItem
  try with_reducible refine wpAny_holding ?_
  first|refine Ui ?_|skip
  apply wpAny_bind (wpAny_sequenceKey c.typeIs (by decide) ?_);apply wpAny_bind (wpAny_callSpecial?_slot (name:=Str.ofString "__getitem__") c.typeIs PyProof.Rows.slot_tuple_getitem (Jbw PyProof.Rows.slot_tuple_getitem c.typeIs entry_tuple_getitem (args_tuple_getitem _ _)))
  show JmJ (V1 t>>=_);apply wpAny_bind (tupleItemsOf_ c ?_);apply VC i ?_;rw[if_pos (by decide)];apply wpAny_bind (uI hs pl l ?_);let f:¬(Xh ((sIx items.size 0 lo:Int)==0&&(1:Int)==1&&(sIx items.size items.size b-Jlt 0)==items.size)):=by intro q;rw[Bool.and_eq_true,Bool.and_eq_true]at q;exact o (Js (by lia))
  show JmJ (if Xh ((sIx items.size 0 lo:Int)==0&&(1:Int)==1&&(sIx items.size items.size b-Jlt 0)==items.size) then _ else _)
  rw[if_neg f,yY]
  first
    |exact Jab (Jb5 (wpAny_pure h)) a
    |exact wpAny_bind _
    |exact wpAny_bind _
    |exact wpAny_bind _
end
end HT
namespace L2
open PySem PySem.Spec PyProof.Rows
abbrev TO:=St->Hp->(Option Int->Hp->Prop)->Prop
def PO (X:Cx)(e:Option Expr)(t:TO):Prop :=
  ∀a s (b:St) H Q,JjY b->t b H Q->
    wpAny (Qh X.w) X.A (evalPart e X.env) (λu s'=>∃o H',Jic a b (IsPart u o/\Q o H')) X.xe s
def yZ:TO:=λx H Q=>Q none H
def tPart (t:TE):TO:=λa H Q=>t a H λx b=>∃i,JcA x i/\Q (some i) b
def pJ:∀ {us:List Value},WD (ns.map V.int)→IntsAre us ns:=by
  induction ns with
  |nil=>intro us r;rw[List.map_nil]at r;cases r;exact .nil
  | cons n ns c =>
    intro us r;rw[List.map_cons]at r;cases r with
    | cons b a =>
      let(t,e):=b;subst e;exact .cons n t (c a)
section
variable {X:Cx} {e:Expr} {te:TE} {lo hi:Option Expr} {tl th:TO} {pos p2:Pos}
def jN:PO X none yZ:=by intro a s b H Q I h;rw[evalPart_none];exact wpAny_pure (none,H,I,.none,h)
def jO (h:Jlm e):PO X (some e) (tPart te):=by intro a s b H Q I d;rw[evalPart_some];apply thn (h a s b H _ I d) λu j h_=>?_;let(x,g,f,c,q1):=h_;let(i,rfl,q):=q1;let(t,rfl):=c;exact(some i,g,f,MQ i,q)
def SlR (X:Cx)(r:V→Option Int→Option Int→Hp→VK→Prop):Prop :=
  ∀a s (b:St) H x v d c lo hi f Q,JjY b->bn x v->Jaf f d c->JkO d->IsPart c hi->r x lo hi H Q->
    ∃T id,JcB (XD T "__getitem__") (VE id)/\s.TypeIs v T/\IE (getItem v (.ref f)) (EP X a b Q) s
def SlR.or (h:SlR X r)(h':SlR X r'):SlR X (λx lo hi H Q=>r x lo hi H Q\/r' x lo hi H Q):=by
  intro a s b H x v d c lo hi f Q I g hs pl i q;rcases q with q|q
  . exact h a s b H x v d c lo hi f Q I g hs pl i q
  . exact h' a s b H x v d c lo hi f Q I g hs pl i q
def tSl (r:V->Option Int->Option Int->Hp->VK->Prop)(te:TE)(tl th:TO):TE:=λa H Q=>te a H λx d=>tl a d λl c=>th a c λu b=>r x l u b Q
def jP (B:SlR X r)(E:Jlm e)(C:PO X lo tl)(y:PO X hi th):Qo (Jbf e (.Slice lo hi none p2)) (tSl r te tl th):=by intro a s d H Q I h;apply Subscript_ (thn (E a s d H _ I h) λv k h_=>?_);let(x,N,L,n,q1):=h_;apply wpAny_Slice (thn (C a k d N _ L q1) λg j (l,M,K,pl,p)=>thn (y a j d M _ K p) λf c h_=>?_);let(u,i,J,t,o):=h_;rw[evalPart_none];apply wpAny_pure ?_;let G:Jr a d i { c with heap:=c.heap.push { cls:=.type "slice",data:=.fields #[g,f,.none] } }:=J.kept (t':=c.toks) λb O q=>Xz q;let(T,id,F,z,D):=B a { c with heap:=c.heap.push { cls:=.type "slice",data:=.fields #[g,f,.none] } } d i x v g f l u c.heap.objs.size Q G n (Heap.IsSliceOf.new ..) pl t o;exact tail_any (ops:=IB c.heap.objs.size v) z F D (by with_unfolding_all rfl)
def eZ (xs:List V)(lo hi:Option Int):List V:=(xs.drop (WH 0 lo)).take (HT.sIx xs.length xs.length hi-WH 0 lo)
def uJ (xs)(lo hi):(eZ xs lo hi).length<=xs.length:=by unfold eZ;rw[List.length_take,List.length_drop];lia
inductive rSlT (K:PySem.W.Frag):V->Option Int->Option Int->Hp->VK->Prop|m{x lo hi H Q} a xs:YK a->Q7 a->¬(WH 0 lo=0/\Jev (Jly hi))->(∀p,Jcu p p (Mb H p (eZ xs lo hi)))->rSlT K x lo hi H Q
def uK:SlR X (rSlT X.K):=by
  intro f s n H x v t p lo hi u Q I i hs pl j h;let(a,xs,rfl,k,l,q):=h;cases i;let(d,r,g,hz):=I.tuple k;let c:Jev d.toArray.size:=by rw[sAq];exact r.length.symm
  apply("tuple",_,PyProof.Rows.slot_tuple_getitem.lookup,g.typeIs,?_);apply HT.getItem_tuple_cut g hs pl j (by rw[c];exact l) ?_ (by rw[c];exact hz);rw[c];apply JmH _ (t':=s.toks) (λb w q=>Xz q) _ ?_ (Jni _ _);exact(Jgw (uJ xs lo hi),_,(r.drop _).take _,fY.new _ _)
inductive rCatT (K:PySem.W.Frag):R2|m{x y H Q} a b xs ys:Jis a (Xl y b) (Q7 a) (Nw b ys->xs≠[]->JnH ys.length->Iq (ys=[]) a H->(ys≠[]->∀p,Jcu p p (Mb H p (xs++ys)))->rCatT K x y H Q)
def bc.nil_iff (r:WD xs):us=[]↔xs=[]:=by
  cases r with
  |nil=>simp
  |cons _ _=>simp
def y_:ME X .Add (rCatT X.K):=by intro f s A H x y v u Q I j i h;let(a,b,xs,ys,rfl,rfl,t,r,p,hz,q1,k):=h;cases j;cases i;let(n,d,l,_):=I.tuple t;let(g,c,p2,_):=I.tuple r;apply HT.cat_tup l p2 (λz=>p (d.nil_iff.mp z)) (λz=>Wt a H I (q1 (c.nil_iff.mp z))) (λz=>?_) (by rw[<-d.length,<-c.length];exact hz);apply JmH _ (t':=s.toks) (λb B q=>Xz q) _ ?_ (k (λw=>z (c.nil_iff.mpr w)) _ (Xp _));exact(by rw[lAq];exact hz,_,d.append c,fY.new _ _)
end
noncomputable def ixN (n:Nat)(i:Int):Option Nat:=if 0<=i then(if i<n then some i.toNat else none) else if -(n:Int)<=i then some (i+n).toNat else none
def atI {a:Type}(xs:List a)(i:Int):Option a:=(JdL i).bind λj=>xs[j]?
def uL (h:Xa (ixN n i) j):seqIndex? i n=some j∧j<n∧-(n:Int)≤i∧i<n:=by
  unfold ixN at h;by_cases h0:0<=i
  . rw[if_pos h0]at h;by_cases a:i<n
    . rw[if_pos a]at h;let e:=Option.some.inj h;exact(by rw[JhV a,e],by lia,by lia,a)
    . rw[if_neg a]at h;cases h
  . rw[if_neg h0]at h;by_cases a:-(n:Int)≤i
    . rw[if_pos a]at h;let e:=Option.some.inj h;exact(by rw[Jcc a,e],by lia,a,by lia)
    . rw[if_neg a]at h;cases h
def pK (h:VP xs i v):∃j,seqIndex? i xs.length=some j∧xs[j]?=some v∧W4 j∧-(xs.length:Int)≤i∧W4 i:=by
  unfold atI at h;cases e:JdL i with
  |none=>rw[e]at h;cases h
  | some j =>
    rw[e]at h;let(d,c,b,a):=uL e;exact(j,d,h,c,b,a)
def ay {a:Type}{xs:List a}{j:Nat}{v:a}(h:xs[j]?=some v):atI xs (j:Int)=some v:=by
  let b:W4 j:=(gEq h).1;let e:JdL (j:Int)=some j:=by unfold ixN;rw[if_pos (by lia),if_pos (by lia)];simp
  unfold atI;rw[e];exact h
def za (xs)(v:α):atI (xs++[v]) (-1)=some v:=by
  let a:(xs++[v]).length=Jhm 1:=by simp
  let e:ixN (xs++[v]).length (-1)=some xs.length:=by unfold ixN;rw[a,if_neg (by decide),if_pos (by lia)];congr 1;lia
  unfold atI;rw[e];show(xs++[v])[xs.length]?=some v;simp
def zb (b:Expr):Prop:=∀o i,JhW b o i=Jgx [o,i] o i
def IxR (X:Cx)(r:R2):Prop :=
  ∀c a b s (d:St) H x y v u Q,V8 b d->bn x v->IH y->r x y H Q->
    subscripted a false v u=Jgx [v,u] v u->IE (subscriptTail c a v u) (EP X b d Q) s
def MtR (X:Cx)(id:String)(r:V→List V→Hp→VK→Prop):Prop :=
  ∀a s (b:St) H x xs v us Q,JjY b->bn x v->WD xs->r x xs H Q->
    wpAny (Qh X.w) X.A (JR id (v::us)) (EP X a b Q) X.xe s
section
variable {X:Cx} {a b:Expr} {ta tb:TE} {pos:Pos}
def aI (i:IxR X r)(k:JeH a)(j:Qo b tb)(hs:zb b:=by exact λz z=>rfl):Qo (Jbf a b) (tOp r ta tb):=by intro c s d H Q I h;exact Subscript_ (binT k j I h λv u e x y n l g f q=>i a b c e d n x y v u Q l g f q (hs _ _))
inductive gQ (K:PySem.W.Frag):R2|m{x y H Q} p xs i v:Jdy p (Jef y i (JD p->VP xs i v->Q v H->gQ K x y H Q))
inductive dk (K:PySem.W.Frag):R2|m{x y H Q} p xs i v:Jdy p (Jef y i (Q7 p->VP xs i v->Q v H->dk K x y H Q))
inductive rIxS:R2|m{x y H Q} z i c:x=.str z->Jef y i (Ic z.length->VP z.cps.toList i c->Q (Jfp (#[c])) H->rIxS x y H Q)
def az:IxR X (gQ X.K):=by
  intro f g c s o H x y v u Q I C B h hs;let(p,xs,i,z,rfl,rfl,D,F,q):=h;cases C;let(t,rfl):=B;let(l,r,pl,hz):=I.list D;let(j,e,L,N,J,G):=pK F;let(w,A,k):=r.get L;let E:=r.length;let M:=jL;let d:EP X c o Q w s:=(z,H,I,k,q);by_cases h0:0<=i
  . let n:i.toNat=j:=by rw[JhV G]at e;exact Option.some.inj e
    exact item_listR pl.isList h0 (by lia) (by rw[n];simpa using A) d hs
  . let n:(i+(l.toArray.size:Int)).toNat=j:=by rw[Jcc J]at e;rw[sAq,←E];exact Option.some.inj e
    exact subscriptTail_builtinR pl.isList.typeIs slot_list_getitem.lookup
      (wpAny_getItem_list_neg pl.isList (by lia) (by rw[sAq]<;>lia) (by lia) (by rw[n];simpa using A) (GM d)) hs
def aQ:IxR X (dk X.K):=by
  intro d e c s k H x y v u Q I n l h hs;let(p,xs,i,z,rfl,rfl,A,C,q):=h;cases n;let(t,rfl):=l;let(o,r,pl,hz):=I.tuple A;let(j,E,D,M,L,J):=pK C;let(w,F,f):=r.get D;let B:=r.length;let G:=jL;let g:EP X c k Q w s:=(z,H,I,f,q);exact subscriptTail_builtinR pl.typeIs slot_tuple_getitem.lookup
    (getItem_tuple pl (by lia) (by lia) (by rw[sAq,<-B];exact E) (by simpa using F) (GM g)) hs
def uM:IxR X rIxS:=by
  intro d e f s C H x y v u Q I l k h hs;let(z,i,c,rfl,rfl,hz,o,q):=h;let(t,rfl):=l;let(t',rfl):=k;let(j,g,w,E,r,p):=pK o;let n:z.cps.toList.length=z.length:=by simp [Str.length]
  rw[n]at g r p;let D:=jL;exact tail_any (typeIs_str s z t) slot_str_getitem.lookup (getItem_str (by let B:decide (i < -(2^63:Int))=false:=dFq (by lia);let A:decide (i≥2^63)=false:=dFq (by lia);rw[B,A,Bool.or_false]) (by rw[g];simpa using w) (QE (Jfp (#[c])) H _ (Ye _) q)) hs
def zc (c:List Value)(n j)(u):Obj.mapSeq (·.setIfInBounds j u) { cls:=.type "list",data:=.seq c.toArray n }={ cls:=.type "list",data:=.seq (c.set j u).toArray n }:=by simp [Obj.mapSeq]
def Inv.lst (I:Vm s)(h:UL p) :
    ∃c n,Jjh c/\s.heap.get? p=some { cls:=.type "list",data:=.seq c.toArray n }/\Ic xs.length:=by let(z,c,n,r,e):=VL p h;exact(c,n,r,e,z)
def Inv.lstUpd {c:List (IL Obj)}{i:St}{H:Hp}{s:Shared}{p:Addr}{xs ys:List V}{d its':List Value}{n g:Nat}{f:Obj→Obj}(I:V8 c i)(h:UL p)
    (k:s.heap.get? p=some { cls:=.type "list",data:=.seq d.toArray n })(j:f { cls:=.type "list",data:=.seq d.toArray n }={ cls:=.type "list",data:=.seq its'.toArray g })(r:bc ys its')(hz:Ic ys.length)(t):
    Inv X c i (QZ p ys) { s with heap:=s.heap.update p f,toks:=t }:=by
  let e:(s.heap.update p f).get? p=some { cls:=.type "list",data:=.seq its'.toArray g }:=by rw[Heap.get?_update_self f k (by rw[j]<;>rfl),j]
  apply I.write (by rw[h];trivial) (.inl rfl) (λb u l q=>(Heap.get?_update_other _ _ (Ne.symm l)).trans q) (Qu e) ?_;exact(hz,its',g,r,e)
inductive rSetL:V->V->V->Hp->(Hp->Prop)->Prop|m{o i v H Q} p xs k j:Xl o p->Jef i k (UL p->Xa (JdL k) j->Q (QZ p (xs.set j v))->rSetL o i v H Q)
def zd:PSet X rSetL:=by
  intro c s A H o i v F G u Q I C D B h;let(p,xs,k,j,rfl,rfl,w,E,q):=h;cases C;let(t,rfl):=D;let(d,n,r,f,hz):=I.lst w;let(e,K,y,x):=uL E;let g:=r.length;let J:=jL;let z:=
    I.lstUpd w f (zc d n j u) (r.set B j) (by rw[List.length_set];exact hz) s.toks
  by_cases h0:0<=k
  . let l:k.toNat=j:=by rw[JhV x]at e;exact Option.some.inj e
    exact PySem.W.ki_setAt f h0 (by lia) (by rw[sAq,<-g];exact x) (by rw[l];exact W7 z q)
  . let l:(k+(d.toArray.size:Int)).toNat=j:=by rw[Jcc y]at e;rw[sAq,←g];exact Option.some.inj e
    exact PySem.W.ki_setBack f (by lia) (by rw[sAq,<-g];exact y) (by lia) (by rw[l];exact W7 z q)
def ze (lo c)(n):(Jjm lo c n).1=(HT.sIx n 0 lo:Int)∧(Jjm lo c n).2.1=(HT.sIx n n c:Int)∧(Jjm lo c n).2.2=1:=by
  apply GB ?_ ?_
  . cases lo with
    |none=>simp [sliceBounds,HT.sIx]
    | some i =>
      simp only[sliceBounds,HT.sIx,Option.getD_none,show(1:Int)>0 by decide,if_true];by_cases h:i<0
      . simp only[h,if_true]<;>lia
      . simp only[h,if_false]<;>lia
  . cases c with
    |none=>simp [sliceBounds,HT.sIx]
    | some i =>
      simp only[sliceBounds,HT.sIx,Option.getD_none,show(1:Int)>0 by decide,if_true];by_cases h:i<0
      . simp only[h,if_true]<;>lia
      . simp only[h,if_false]<;>lia
def zf (c:List Value)(lo d):slicePick c.toArray lo d none=((c.drop (HT.sIx c.length 0 lo)).take (HT.sIx c.length c.length d-HT.sIx c.length 0 lo)).toArray:=by let(g,f,e):=ze lo d c.toArray.size;unfold slicePick;rw[g,f,e];simp only[sliceRange_one,pick_run,sAq]<;>rfl
inductive rSlL (K:PySem.W.Frag):V->Option Int->Option Int->Hp->VK->Prop|m{x lo hi H Q} a xs:Jis a (JD a) (∀p,Jcu p p (QZ p (eZ xs lo hi))) (rSlL K x lo hi H Q)
def uO:SlR X (rSlL X.K):=by intro e s l H x v p n lo d t Q I g hs pl i h;let(a,xs,rfl,k,q):=h;cases g;let(j,r,f,hz):=I.list k;let c:=r.length;apply("list",_,slot_list_getitem.lookup,f.isList.typeIs,?_);apply wpAny_getItem_list_slice f.isList hs pl i .none (by simp) ?_ (by rw[sAq]<;>lia);rw[zf,<-c];apply JmH _ (t':=s.toks) (λb u q=>Xz q) _ ?_ (Jni _ _);exact(Jgw (uJ xs lo d),_,0,(r.drop _).take _,Heap.get?_push_size _ rfl)
noncomputable def zeo:V->Bool
  |.non=>true
  |.bl _=>true
  |.int _=>true
  |.str _=>true
  |_=>false
noncomputable def eqV:V->V->Bool
  |.non,.non=>true
  |.bl a,.bl b=>a==b
  |.bl a,.int b=>(if a then 1 else 0)==b
  |.int a,.bl b=>a==(if b then 1 else 0)
  |.int a,.int b=>a==b
  |.str a,.str b=>a==b
  |_,_=>false
def kW (d:IH y)(c:bn x v)(f:JiS y)(e:JiS x):Jcd A u v (eqV y x):=by
  cases y with
  | non =>
    cases d;cases x with
    |non=>cases c;exact SeqAt.EqAt.same _
    |bl b=>cases c;exact SeqAt.EqAt.none_bool b
    |int b=>obtain⟨t,rfl⟩:=c;exact SeqAt.EqAt.none_int b t
    |str b=>obtain⟨t,rfl⟩:=c;exact SeqAt.EqAt.none_str b t
    |_=>exact Md (show Xh false from e)
  | bl a =>
    cases d;cases x with
    |non=>cases c;exact SeqAt.EqAt.bool_none a
    |bl b=>cases c;exact SeqAt.EqAt.bool_bool a b
    |int b=>obtain⟨t,rfl⟩:=c;exact SeqAt.EqAt.bool_int a b t
    |str b=>obtain⟨t,rfl⟩:=c;exact SeqAt.EqAt.bool_str a b t
    |_=>exact Md (show Xh false from e)
  | int a =>
    let(t',rfl):=d;cases x with
    |non=>cases c;exact SeqAt.EqAt.int_none a t'
    |bl b=>cases c;exact SeqAt.EqAt.int_bool a t' b
    |int b=>obtain⟨t,rfl⟩:=c;exact SeqAt.EqAt.int_int a t' b t
    |str b=>obtain⟨t,rfl⟩:=c;exact SeqAt.EqAt.int_str a t' b t
    |_=>exact Md (show Xh false from e)
  | str a =>
    let(t',rfl):=d;cases x with
    |non=>cases c;exact SeqAt.EqAt.str_none a t'
    |bl b=>cases c;exact SeqAt.EqAt.str_bool a t' b
    |int b=>obtain⟨t,rfl⟩:=c;exact SeqAt.EqAt.str_int a t' b t
    |str b=>obtain⟨t,rfl⟩:=c;exact SeqAt.EqAt.str_str a t' b t
    |_=>exact Md (show Xh false from e)
  |_=>exact Md (show Xh false from f)
def eqU (x:V)(u:Value):Bool:=match u with
  |.none=>eqV .non x
  |.bool b=>eqV (.bl b) x
  |.int i _=>eqV (.int i) x
  |.str z _=>eqV (.str z) x
  |_=>false
def uP (r:IH y)(f:JiS y):eqU x u=eqV y x:=by
  cases y with
  |non=>cases r;rfl
  |bl b=>cases r;rfl
  |int i=>obtain⟨t,rfl⟩:=r;rfl
  |str z=>obtain⟨t,rfl⟩:=r;rfl
  |_=>exact Md (show Xh false from f)
theorem kX:∀{xs:List V} {us:List Value},WD xs->Jmt zeo->us.any (eqU x)=xs.any λy=>eqV y x
  |_,_,.nil,_=>rfl
  |y::xs,u::us,Jbm t,f=>by rw[List.all_cons,Bool.and_eq_true]at f;rw[List.any_cons,List.any_cons,uP r f.1,kX t f.2]
theorem kY (d:bn x v)(e:JiS x):∀{xs:List V} {us:List Value},WD xs->Jmt zeo->∀u∈us,Jcd A u v (eqU x u)
  |_,_,.nil,_=>λu c=>by cases c
  | y :: xs,u :: us,Jbm t,f=>λg c=>by
    rw[List.all_cons,Bool.and_eq_true]at f;rcases List.mem_cons.mp c with rfl|c
    . rw[uP r f.1];exact kW r d f.1 e
    . exact kY d e t f.2 g c
def inV (x:V)(xs:List V):Bool:=xs.any λy=>eqV y x
inductive rIn (K:PySem.W.Frag)(neg:Bool):R2|m{x y H Q} p xs:Xl y p->(JD p\/Q7 p)->JiS x->Jmt zeo->Yo (if neg then !inV x xs else inV x xs) H->rIn K neg x y H Q
def uQ:Ym X .In (rIn X.K false):=by
  intro i s l H x y v u Q I g k h;let(p,xs,rfl,d,j,e,q):=h;cases k;rcases d with d|d
  . let(c,r,pl,hz):=I.list d;apply SeqAt.in_listAt _ pl.isList (λw f=>kY g j r e w (by simpa using f)) (XE _ H I ?_);rw[show c.toArray.any _=c.any (eqU x) by simp,kX r e];exact q
  . let(c,r,pl,hz):=I.tuple d;apply SeqAt.in_tupleAt _ pl (λw f=>kY g j r e w (by simpa using f)) (XE _ H I ?_);rw[show c.toArray.any _=c.any (eqU x) by simp,kX r e];exact q
def uR:Ym X .NotIn (rIn X.K true):=by
  intro i s l H x y v u Q I g k h;let(p,xs,rfl,d,j,e,q):=h;cases k;rcases d with d|d
  . let(c,r,pl,hz):=I.list d;apply SeqAt.notIn_listAt _ pl.isList (λw f=>kY g j r e w (by simpa using f)) (XE _ H I ?_);rw[show c.toArray.any _=c.any (eqU x) by simp,kX r e];exact q
  . let(c,r,pl,hz):=I.tuple d;apply SeqAt.notIn_tupleAt _ pl (λw f=>kY g j r e w (by simpa using f)) (XE _ H I ?_);rw[show c.toArray.any _=c.any (eqU x) by simp,kX r e];exact q
inductive rLenS (K:PySem.W.Frag):List V->Hp->VK->Prop|m{xs H Q} p ys:xs=Gj p->(JjW p\/Nw p ys)->No ys.length H->rLenS K xs H Q
def ak:Iy X "len" (rLenS X.K):=by
  intro g s j H xs us Q I r h;let(p,ys,rfl,d,q):=h;let(u,rfl,i):=fu r;cases i;let k:=jL;rcases d with d|d
  . let(f,e,pl,hz):=I.list d;let c:=e.length;exact Calls.call_len_list pl.isList (by simp only[sAq]<;>lia -ac) (X8 ys.length H _ (s.toks+1,by rw[sAq,c]) q)
  . let(f,e,pl,hz):=I.tuple d;let c:=e.length;exact len_tuple pl (by simp only[sAq]<;>lia -ac) (X8 ys.length H _ (s.toks+1,by rw[sAq,c]) q)
def uS:Iy X "len" (λxs H Q=>∃z,xs=[.str z]/\Ic z.length/\No z.length H):=by intro c s d H xs us Q I r h;let(z,rfl,hz,q):=h;let(u,rfl,t,rfl):=fu r;let e:=jL;exact len_str (by lia) (Ji3 z.length H _ _ q)
inductive rLsO (K:PySem.W.Frag):List V->Hp->VK->Prop|m{xs H Q} p ys:xs=Gj p->(JjW p\/Nw p ys)->(∀l,Jcu l l (QZ l ys))->rLsO K xs H Q
def ny:JbS X "list" (rLsO X.K):=by
  intro g s z H xs us Q I r h;let(p,ys,rfl,j,q):=h;let(u,rfl,A):=fu r;cases A;let l:∀c,bc ys c->Ic ys.length->∀h' f,(∀b y,s.heap.get? b=some y->h'.get? b=some y)->
      h'.get? s.heap.objs.size=some { cls:=.type "list",dict:=none,data:=.seq c.toArray f,slots:=#[] }->EP X g z Q _ { s with heap:=h' }:=λc d hz h' f i e=>
    (JmH _ (t':=s.toks) i _ (show Jns _ h' _ ys from(hz,c,f,d,e)) (Jni _ _))
  rcases j with j|j
  . let(c,d,pl,hz):=I.list j;let k:=d.length;let(o,t,x,n,v):=pl.isList;exact call_list_seq p (.inl rfl) t x v (λh' f i e=>l c d hz h' f i e) (by simp only[sAq]<;>lia)
  . let(c,d,pl,hz):=I.tuple j;let k:=d.length;let(o,t,x,n,v):=pl;exact call_list_seq p (.inr rfl) t x v (λh' f i e=>l c d hz h' f i e) (by simp only[sAq]<;>lia)
inductive rTpO (K:PySem.W.Frag):List V->Hp->VK->Prop|m{xs H Q} p ys:xs=Gj p->((JjW p/\∀l,Jcu l l (Mb H l ys))\/(Nw p ys/\Uc p H))->rTpO K xs H Q
def jf:JbS X "tuple" (rTpO X.K):=by
  intro c s i H xs us Q I r h;let(p,ys,rfl,h):=h;let(u,rfl,l):=fu r;cases l;rcases h with ⟨g,q⟩|⟨g,q⟩
  . let(d,f,pl,hz):=I.list g;let j:=f.length;apply call_tuple_list pl.isList (λh' n=>?_) (by simp only[sAq] <;> lia);let k:=I.kept (t':=s.toks) n;let t:=
      k.laid (t':=s.toks) (λb o e=>Xz e) (nRq _) (show WR _ _ _ (.tup ys) from(hz,d,f,fY.new _ _))
    exact Wt h'.objs.size _ t (q _ (k.hok.fresh (nRq _)))
  . let(d,f,pl,hz):=I.tuple g;exact call_tuple_same pl (Wt p H I q)
def tyV (K:PySem.W.Frag)(T:String)(x:V)(H:Hp):Prop:=match x with
  |.str _=>T="str"
  |.int _=>T="int"
  |.ref p=>(T="list"/\∃xs,JD p)\/(T="tuple"/\∃o,Jy p o/\o.cls=.type "tuple"/\Uf o.dict) \/
      (T="dict"/\((∃kvs,JY p)\/∃kvs,JnN p))\/(T="set"/\∃S n,Gc p (.set S n))\/(T="tuple"/\∃xs,Q7 p)
  |_=>False
def uT (I:Vm s)(r:bn x v)(ty:tyV X.K T x H) :
    s.TypeIs v T/\∀a,Xl v a->∃k,s.heap.get? a=some k/\Uf k.dict:=by
  cases x with
  | str z =>
    let(t,rfl):=r;cases (show T="str" from ty);exact(typeIs_str s z t,λy e=>nomatch e)
  | int i =>
    let(t,rfl):=r;cases (show T="int" from ty);exact(typeIs_int s i t,λy e=>nomatch e)
  | ref p =>
    cases r;rcases ty with ⟨rfl,xs,l⟩|⟨rfl,o,d,q,j⟩|⟨rfl,d⟩|⟨rfl,S,n,d⟩|⟨rfl,xs,d⟩
    . let(h,_,pl,_):=I.list l;apply(pl.isList.typeIs,λa e=>?_);cases e;let(o,n,e,c,j,_):=pl;exact J8 e j
    . apply(J8 (I.kIn p o d) q,λa e=>?_);cases e;exact J8 (I.kIn _ o d) j
    . let z:∃o,s.heap.get? p=some o∧o.ExactDict:=by
        rcases d with ⟨kvs,d⟩|⟨kvs,d⟩
        . let(_,_,_,_,o,_,_,e,f,_):=VL p d;exact J8 e f
        . let(_,_,_,_,o,_,_,e,f,_):=VL p d;exact J8 e f
      let(o,e,f):=z;apply(J8 e f.1,λa g=>?_);cases g;exact J8 e f.2.1
    . let(o,_,_,_,e,f,_):=VL p d;apply(J8 e f.1,λa g=>?_);cases g;exact J8 e f.2.1
    . let(h,_,(o,e,c,_),_):=I.tupD d;apply(J8 e ((Prod.mk.inj c).1),λa g=>?_);cases g;exact J8 e ((Prod.mk.inj c).2)
  |_=>exact False.elim ty
def tBM0 (K:PySem.W.Frag)(T:String)(r:V->List V->Hp->VK->Prop)(e:TE):TE:=λd H Q=>e d H λx c=>tyV K T x c/\r x [] c Q
def tBM (K:PySem.W.Frag)(T:String)(r:V->List V->Hp->VK->Prop)(e:TE)(t:TA):TE:=λc H Q=>e c H λx d=>tyV K T x d/\t c d λxs f=>r x xs f Q
variable {o e:Expr} {es:List Expr} {to:TE} {t:TA} {name:Str} {apos cpos:Pos} {T id:String} {r:V->List V->Hp->VK->Prop}
def pL (p:PlainAttrs T)(g:Slot T name id)(i:JcB (typeOf (.builtin id)) (.type "method_descriptor"))(u:MtR X id r)(q:Qo o to)
    (f:Jhq o name o=eval o X.env:=by rfl)(d:Xh (apos.endLine==cpos.line):=by rfl):Qo (Jl6 o name []) (tBM0 X.K T r to):=by intro c s j H Q I h;apply wpAny_Call_method0_late f d (thn (q c s j H _ I h) λv n h_=>?_);let(x,z,l,k,ty,q1):=h_;let(y,w):=uT l k ty;exact(T,id,p,g,i,y,w,Calls.callWith_builtin rfl (PySem.evalArgs_none (u c n j z x [] v [] Q l k .nil q1)))
def cC (A:PlainAttrs T)(i:Slot T name id)(l:JcB (typeOf (.builtin id)) (.type "method_descriptor"))(C:MtR X id r)(B:Qo o to)(D:JmM t)
    (g:Jhq o name o=eval o X.env:=by rfl)
    (j:Xh ((JaN (ML e)).all (λx=>!x.1)&&(Jnw []).all (λx=>x.1.isSome)
      && decide ((ML e).length+([]:List Keyword).length+(if([]:List Keyword).isEmpty then 0 else 1)<30)):=by rfl)
    (f:Xh (apos.endLine==cpos.line):=by rfl)(hs:Jbk e=(false,Vc e,)::starEach es X.env:=by rfl)(d:(JaN es).any (·.1)=false:=by rfl):
    PE X (Jl6 o name (ML e)) (tBM X.K T r to t):=by intro c s k H Q I h;apply JbT g j f (thn (B c s k H _ I h) λv w h_=>?_);let(x,L,q,n,ty,q1):=h_;let(F,E):=uT q n ty;apply(T,id,A,i,l,F,E,?_);let p:=D cpos c w k L _ q q1;rw[hs]at p⊢;apply Mq (by show Xx (false||(JmV _).any _);rw[d]<;>rfl) ?_;exact thn p λus u h_=>by let(vs,J,G,y,z):=h_;exact C c u k J x vs v us Q G n y z
end
def MtM (X:Cx)(id:String)(r:V→List V→Hp→VK→Prop):Prop :=
  ∀a s (b:St) H x xs v us Q,JjY b->bn x v->WD xs->r x xs H Q->
    wpAny (Qh X.w) X.A (JR id (v::us)) (EP X a b Q) X.xe s
def bc.one (h:WD [x]):∃u,us=[u]/\bn x u:=fu h
def bc.two (h:WD [x,y]):∃u v,us=[u,v]/\IH x/\bn y v:=jc h
def bc.zero:∀{us:List Value},WD []->us=[]
  |_,.nil=>rfl
def bc.dropLast (h:WD xs):bc xs.dropLast us.dropLast:=by
  induction h with
  |nil=>exact .nil
  | cons r t a =>
    cases t with
    |nil=>exact .nil
    |cons q t'=>exact Jbm a
def bc.reverse (h:WD xs):bc xs.reverse us.reverse:=by
  induction h with
  |nil=>exact .nil
  |cons r t a=>rw[List.reverse_cons,List.reverse_cons];exact bc.append a (Wy r)
def zg (l:List α):l.eraseIdx (l.length-1)=l.dropLast:=by
  induction l with
  |nil=>rfl
  | cons a r c =>
    cases r with
    |nil=>rfl
    | cons b r =>
      let e:(a::b::r).length-1=((b::r).length-1)+1:=by let f:(a::b::r).length=r.length+2:=rfl;let d:(b::r).length=r.length+1:=rfl;lia
      rw[e,List.eraseIdx_cons_succ,c]
      all_goals rfl
section
variable {X:Cx} {pins:List (IL Obj)} {σ:St} {H:Hp} {s:Shared} {l b:Addr} {xs ys zs:List V}
def Inv.lset {a its':List Value}{n:Nat}{f:Array Value→Array Value}{t':Nat}(I:Vm s)(i:UL l)
    (e:s.heap.get? l=some { cls:=.type "list",data:=.seq a.toArray n })(g:f a.toArray=its'.toArray)(c:bc ys its')(hz:Ic ys.length):
    Inv X pins σ (QZ l ys) { s with heap:=s.heap.update l (Obj.mapSeq f),toks:=t' }:=by let q:=PySem.IsL.update e f;rw[g]at q;apply I.write (by rw[i];exact trivial) (.inl rfl) (λj u h d=>(Heap.get?_update_other s.heap _ (Ne.symm h)).trans d) (Qu q) ?_;exact(hz,its',_,c,q)
def Inv.lnew (I:Vm s)(a:bc ys its)(hz:Ic ys.length) :
    Inv X pins σ (QZ s.heap.objs.size ys) { s with heap:=s.heap.push { cls:=.type "list",data:=.seq its.toArray },toks:=t' } :=
  I.laid (λx x q=>Xz q) (nRq _) (hz,its,0,a,Heap.get?_push_size _ rfl)
def Inv.fresh (I:Vm s):Gf s.heap.objs.size:=Xp _
def Inv.lstM (I:Vm s)(c:UL l):Ic xs.length/\∃a n,Jjh a/\Mz a.length/\s.heap.get? l=some { cls:=.type "list",data:=.seq a.toArray n }:=by let(z,a,n,r,e):=VL l c;exact(z,a,n,r,r.length,e)
def zh (h:Ic n):Xx (Builtin.List.listTooLong n):=by exact dFq (by lia)
end
section
variable {X:Cx}
inductive uU:V->List V->Hp->VK->Prop|m{x vs H Q} l xs y:Jis l (vs=[y]) (UL l) (NE xs.length->QP (QZ l (xs++[y]))->uU x vs H Q)
def cK:MtM X "list.append" uU:=by intro b s i H x vs v us Q I d f h;let(l,xs,y,rfl,rfl,c,hz,q):=h;cases d;let(u,rfl,g):=f.one;let(z,a,n,r,j,e):=I.lstM c;apply call_meets F.slot_list_append (Jkq e) F.entry_list_append (F.args_list_append_2 _ _) (PySem.list_append l a.toArray n u (by rw[sAq];lia)) (Mm e);apply Jh .non _ (I.lset (its':=a++[u]) c e (by simp) (r.append (Wy g)) ?_) q;rw[lAq,lS];lia
inductive uV:V->List V->Hp->VK->Prop|m{x vs H Q} l b xs zs:Jis l (vs=Gj b) (UL l) (Uo b zs->JnH zs.length->QP (QZ l (xs++zs))->uV x vs H Q)
def uW:MtM X "list.extend" uV:=by
  intro f s A H x vs v us Q I i j h;let(l,b,xs,zs,rfl,rfl,g,w,hz,q):=h;cases i;let(u,rfl,k):=j.one;cases k;let(z,c,n,r,C,e):=I.lstM g;let(B,a,p,o,t,y):=I.lstM w;let hsz:Ic (c.toArray.size+a.toArray.size):=by rw[sAq,sAq];lia
  let d:¬Xh (!c.toArray.isEmpty&&Builtin.List.listTooLong (c.toArray.size+a.toArray.size)):=by rw[zh hsz,Bool.and_false];exact Bool.false_ne_true
  apply call_meets F.slot_list_extend (Jkq e) F.entry_list_extend (F.args_list_extend_2 _ _)
    (AutoSeq1.list_extend_list_list_0 l c.toArray n b a.toArray p d (by rw[sAq];lia) (by lia)) (Id e y)
  apply Jh .non _ (I.lset (its':=c++a) g e (by simp) (r.append o) ?_) q;rw[lAq];lia
inductive rPop:V->List V->Hp->VK->Prop|m{x vs H Q} l xs y:YK l->vs=[]->UL l->xs[xs.length-1]?=some y->Q y (QZ l xs.dropLast)->rPop x vs H Q
def pM:MtM X "list.pop" rPop:=by
  intro d s t H x vs v us Q I g i h;let(l,xs,y,rfl,rfl,f,k,q):=h;cases g;let c:=i.zero;subst c;let(z,a,n,r,p,e):=I.lstM f;let(u,o,j):=r.get k;let b:a.toArray[JkQ 1]?=some u:=by show a.toArray[a.length-1]?=some u;rw[<-Array.getElem?_toList,<-p];exact o
  apply call_meets F.slot_list_pop (Jkq e) F.entry_list_pop (F.args_list_pop_1 _) (MeetsSeq.list_pop_last l a.toArray n u b (by rw[sAq];lia)) (Mm e);apply(y,_,I.lset (its':=a.dropLast) f e ?_ r.dropLast ?_,j,q)
  . show a.toArray.eraseIdxIfInBounds _=a.dropLast.toArray;rw[sAq,List.eraseIdxIfInBounds_toArray,zg]
  . rw[List.length_dropLast];lia
inductive rCat:R2|m{x y H Q} l b xs zs:Jis l (Xl y b) (UL l) (Uo b zs->JnH zs.length->(∀p,Jcu p p (QZ p (xs++zs)))->rCat x y H Q)
def pN:ME X .Add rCat:=by
  intro d s w H x y v u Q I g f h;let(l,b,xs,zs,rfl,rfl,k,o,hz,q):=h;cases g;cases f;let(z,c,n,r,C,e):=I.lstM k;let(A,a,B,i,j,t):=I.lstM o;apply PySem.P.add_list e t ?_ (by rw[sAq,sAq];lia);let p:c.toArray++a.toArray=(c++a).toArray:=by simp
  rw[p];exact Wt _ _ (I.lnew (t':=s.toks) (r.append i) (by rw[lAq];lia)) (q _ I.fresh)
end
end L2
namespace Att
open PySem PySem.W PySem.Calls PyProof.Rows
def zi:∀ns vs,WellAll P h vs (ns.map WData.int)→IntsAre vs ns:=by
  intro ns
  induction ns with
  | nil =>
    intro vs w;rw[List.map_nil]at w;cases w;exact .nil
  | cons n ns c =>
    intro vs w;rw[List.map_cons]at w;cases w with
    | cons a b =>
      cases a;exact .cons _ _ (c _ b)
def zj {l:OpenLaw}{n:Nat}(u:Jlb n){P:Params}{h:Heap}{args:List WData}{vals:List Value}
    (b:Xh (l.row.toRowW.claim.pre args))(i:WellAll P h vals args):
    ∃a vs ns,vals=[Value.ref a]/\args=[WData.list (ns.map WData.int)]/\h.get? a=some { cls:=.type "list",data:=.seq vs.toArray }/\Ja1 vs/\Jap n:=by
  let j:=(pre_splitW b).1;let k:Xh (l.pre.holds [] { args:=args }):=(pre_splitW b).2;let(d,r,rfl,x,w):=hasAllW_cons j;obtain rfl:=hasAllW_nil w;let(xs,rfl,v):=hasW_list x;let(ns,rfl):=items_int v;let c:Jap n:=by
    let g:(WTm.not (.lt (.lit (.int (n:Int))) (.len (.arg 0)))).holds [] { args:=[.list (ns.map .int)] }=true:=by let g:=(holds_andW k).1;rw[u]at g;exact g
    let f:=condW_of g (w_not (w_lt w_lit (w_len_list (w_arg rfl))));rw[lM]at f;apply Nat.le_of_not_lt λq=>?_;let s:(n:Int)<(ns.length:Int):=by lia
    first
      |(rw[dTq s]at f;exact absurd f (by decide))
      |(simp at f;lia)
  cases i with
  | cons p o =>
    cases o;cases p with
    |list t e=>exact Ji0 _ _ ns t (zi ns _ e) c
def zk (l:OpenLaw)(args):Xh (l.row.toRowW.claim.post args (.bool true) args) :=
  postW_of
    (show Xh (WShape.has [] _ .bool) by first|rfl|decide|simp [WShape.has,WShape.arms,WShape.armsAll])
    (show(WTm.eq .res _).value [] { args:=args,res:=some _,after:=args }=some _ from w_eq_bool (w_res rfl) w_lit) rfl
def attach_call {l:OpenLaw}{n:Nat}{q:Program}{e:List Str}{F:(UT Str)→Heap→Prop}{E:World→Heap→Prop}{d:DefRec}
    (K:Jlb n)(z:Jgy [])
    (s:∀w c b mg v p o u t h a vs ns,
      Ground q e [] F w c mg v b.heap->E w b.heap->
      b.heap.get? p=some o->JhN (.func (docDef d.name d.params d.body d.scope u t h))->b.heap.CodeRec t d.name->mg d.name=Ja p->
      b.heap.get? a=some { cls:=.type "list",data:=.seq vs.toArray }->Ja1 vs->Jap n->b.gens=#[]->
      codeAny (Jca l.prog) callerA (W8 p (JmI a)) (λr s'=>r=UO (.bool true)/\JkR b.heap/\s'.os=b.os/\AllBare s'.gens) b):
    WalkO q e F E l.row.toRowW d [] (λf vs=>Jjn f):=by intro w c b mg v G Y p o u t h S kV J O A C y N D vals T i B H x M;obtain rfl:S=.none:=Dflts.none C z;obtain rfl:kV=.none:=Dflts.noKw C;let(a,vs,ns,rfl,rfl,j,g,k):=zj K i x;apply enter_call (codeAny_mono (s w c b mg v p o u t h a vs ns G Y J (fd_plain O) A y j g k N) λr s' I=>?_);let(rfl,R,Q,P):=I;exact(.inl (IR (.bool true) (.bool true) [] (λm=>rfl) (.bool true) (zk l _) (λm=>(List.Pairwise.nil,λm L=>(nomatch L)))),R,Q,P)
section
variable {prog:Program} {w:World} {A:Around} {E:Value->Shared->Prop} {s:Shared} {K:Frag}
noncomputable def ledger (h:Heap)(L d:Addr):JaM Obj:=(List.range h.objs.size).filterMap λa=>if a=L\/a=d then none else(h.get? a).map λo=>(a,o,)
end
end Att
namespace L2
open PySem PySem.Spec PyProof.Rows
theorem nz:∀{vs:List Value} {ns:List Int},Ja1 vs->bc (ns.map V.int) vs
  |_,_,.nil=>.nil
  |_,_,.cons n t h=>.cons (Ye t) (nz h)
def Only (H:Hp):Prop:=∀b,Gf b\/∃o xs,Gc b (Jgq (.lst xs))
def zm {P:Program}{w:World}{K:PySem.W.Frag}{mg J:Str→Option Value}{CX:CXT}{k:Nat}{O a:Addr}{Z:FuncData}{x:Str}{sp:Sp}{c:Shared}{vs:List Value}{ns:List Int}
    (KX:K.In c.heap)(B:c.heap.Ns mainGlobals mg)(g:c.heap.Ns builtinsNs J)(M:∀x:Str,JbC x->J x=bootBuiltins x)(C:c.heap.NoLimit)(hg:c.gens=#[])
    (G:c.heap.get? a=some { cls:=.type "list",data:=.seq vs.toArray })(U:Ja1 vs)(T:Ic ns.length)(hr:ag k callerA)
    (F:∀base:Heap,K.In base->VX mg->Xb P w K mg CX k O Z [x] sp)(l:∀s u,JdK Z (WX [u]) [(x,u,)])
    (L:∀H:Hp,Only H->Jbv a->sp (Gj a) H (λv _=>v=.bl true) λ_ _ _=>False)
    (N:∀H e s',CX [] H c (λ_ _ _=>False) e s'->False):
    codeAny (Jca P) callerA (W8 O (JmI a)) (λr s'=>r=UO (.bool true)/\JkR c.heap/\s'.os=c.os/\AllBare s'.gens) c:=by
  let S:=nz U;let t:=U.length;let j:∀H:Hp,Only H→Jbv a→Jkz c.heap→(∀b,JkT b→b=a)→(JkT a→Uf (K.lookup a)) →
      codeAny (Jca P) callerA (W8 O (JmI a)) (λr s'=>r=UO (.bool true)/\JkR c.heap/\s'.os=c.os/\AllBare s'.gens) c:=by
    intro H X hS A Y hK;let f:∀{b:Addr} {o:Obj},c.heap.get? b=some o->Gf b->(jH c.heap H).get? b=some o:=λe n=>yp e n;let I:∀{b:Addr} {o:Obj} {es:Array DictEntry} {ep:Nat},c.heap.get? b=some o->JhO ep->Gf b:=λ{b o es ep} e d=>by
      cases q:H b with
      |none=>rfl
      | some u =>
        let Q:=Y b (by rw[q];simp);subst Q;rw[G]at e;cases e;let d':=d;cases d'
    let i:∀ {b:Addr} {m:Str→Option Value},c.heap.Ns b m→(jH c.heap H).Ns b m:=λ{b m} (o,es,ep,e,d,r)=>(o,es,ep,f e (I e d),d,r);let D:K.In _:=λb o e=>f (KX b o e) (by
      cases q:H b with
      |none=>rfl
      | some u =>
        let Q:=Y b (by rw[q];simp);subst Q;rw[hK (by rw[q];simp)]at e;cases e)
    let hM:Mod K mg _:=(D,i B,(J,i g,M),let (mc,h1,h2):=C;(mc,i h1,h2));let e0:iL P w K mg _ callerA [] c H:=(rfl,hM,λb o e=>yq e,Nat.le_of_eq (yo _ _),trivial,λb g=>Vh (show b∈([]:List Addr) from g),A,.of_eq hg);apply codeAny_mono ((F _ D (i B)).run callerA [] c H (JmI a) (Gj a) (Gj a) _ _ hr e0 (l c (.ref a)) (Wy rfl) (L H X hS)) λr s' h=>?_;cases r with
    |error e=>exact(N H e s' h).elim
    | ok fl =>
      cases fl with
      |next=>exact False.elim h
      |brk=>exact False.elim h
      |cont=>exact False.elim h
      | ret u =>
        let(v,H',os,E,R,y,r',q):=h;let q':=q;subst q';obtain rfl:u=Value.bool true:=r';apply(rfl,OldK.of_keep λb o e=>?_,os,E);cases q:H b with
        |none=>exact R.keep b o e q (by intro z;exact Vh (show b∈([]:List Addr) from z)) (by simp)
        | some u =>
          rcases X b with z|⟨ob,xs,z⟩
          . rw[q]at z;cases z
          . let z2:=R.frzs b ob _ z;let⟨e1⟩:=A b _ z;let⟨e2⟩:=y b _ z2;rw[e]at e1;cases e1;exact e2
  cases hk:K.lookup a with
  | some o =>
    let e:=KX a o hk;rw[G]at e;cases e;apply j (λ_=>none) (λ_=>.inl rfl) (.inr (JlX _ vs.toArray _ hk rfl (by rw[sAq,t];exact T) (by simpa using S))) (λb u z=>by let p:=z;cases p) (λb z=>GE z) λz=>GE z
  | none =>
    apply j (λb=>if b=a then some _ else none) (λb=>?_) (Jem { cls:=.type "list",data:=.seq vs.toArray } (if_pos rfl)) (λb u z=>?_) (λb z=>?_) λ_=>hk
    . by_cases g:b=a
      . exact .inr (W7 _ (if_pos g))
      . exact .inl (if_neg g)
    . by_cases g:b=a
      . let p:=(if_pos g).symm.trans z;cases p;subst g;exact(G,by rw[lM];exact T,vs,_,S,G)
      . let p:=(if_neg g).symm.trans z;cases p
    . by_cases g:b=a
      . exact g
      . exact absurd (if_neg g) z
abbrev KOf {K:PySem.W.Frag}{h:Heap}(_:K.In h):PySem.W.Frag:=K
def walk_of {l:PySem.W.OpenLaw}{n k:Nat}{q:Program}{i:List Str}{Z:(UT Str)→Heap→Prop}{I:World→Heap→Prop}{d:DefRec}{K:Params→PySem.W.Frag}{CX:World→CXT}{sp:World→Sp}{x:Str}
    (M:Jlb n)(z:Ic n)(B:Jgy [])(L:ag k callerA)
    (Q:∀w h,I w h->(K w.params).In h)
    (F:∀w mg t h,(K w.params).In h->Jbx mg->mg d.name=Ja t->
      ∃D:FuncData,(∀s u,JdK D (WX [u]) [(x,u,)])/\
        ∀base:Heap,(K w.params).In base->VX mg->Xb l.prog w (K w.params) mg (CX w) k t D [x] (sp w))
    (y:∀w H a (ns:List Int),Jap n->Only H->SqL (K w.params) H a (ns.map V.int)->sp w (Gj a) H (λv m=>v=.bl true) λm m m=>False)
    (C:∀w H s e s',CX w [] H s (λm m m=>False) e s'->False):
    PySem.W.WalkO q i Z I l.row.toRowW d [] (λf vs=>Jjn f):=by apply Att.attach_call M B λw E p mg mb t o pm cd X a vs ns G Y ho hd O A r j c N=>?_;let J:=Q w _ Y;let(D,P,U):=F w mg t _ J G.T.g A;exact zm J G.T.g G.T.b G.T.builtins G.T.nolimit N r j (Nat.le_trans c z) L U P (λH S R=>y w H a ns c S R) λH e s'=>C w H p e s'
noncomputable def zaR (s:Stmt)(j:Nat):Stmt:=match s with
  |.ClassDef _ _ _ a _ _ _ _ _ _ _=>a.getD j (Jbo 0 0 0 0)
  |_=>Jbo 0 0 0 0
noncomputable def zbv (s:Stmt):Arguments:=match s with
  |.FunctionDef _ a _ _ _ _ _ _ _ _=>a
  |_=>{ posonlyargs:=[],args:=[],vararg:=none,kwonlyargs:=[],kw_defaults:=[],kwarg:=none,defaults:=[] }
noncomputable def zas (s:Stmt):List Stmt:=match s with
  |.FunctionDef _ _ b _ _ _ _ _ _ _=>b
  |_=>[]
noncomputable def ai (s:Stmt):Scope:=match s with
  |.FunctionDef _ _ _ _ _ _ sc _ _ _=>sc
  |_=>{ kind:=.function,names:=[],isGenerator:=false,isCoroutine:=false }
abbrev CX0:CXT:=λx x x x x x=>False
abbrev E0:XK:=λx x x=>False
def aJ:ir CX0 X E0:=λx x x x x x x h=>h.elim
structure Fun (K:PySem.W.Frag)(x qual)(st)(f)(fd):Prop where
  ex:∃(oc:Value) (od:Option Addr) (kV doc pm:Value) (an:Option Addr) (cdv ct:Value) (osl:Jha Value),
    fd=Jcp x qual (zbv st) (zas st) (ai st) .none kV doc pm an ct/\JcP f oc od fd osl/\Jen K cdv qual
  kp:Xh (UR K f)
section
variable {P:Program} {w:World} {K:PySem.W.Frag} {mg:Str->Option Value} {base:Heap}
def Fun.ok {x a:Str}{st:Stmt}{f:Addr}{g:FuncData}{N ps:List Str}{k:Nat}{sp:Sp}(F:Fun K x a st f g)(S:Vf N ps st)
    (b:∀cdv A outer s H vs Q E,Mo k (Vp a (ai st) f cdv)->JhU E->
      ∃t,Jiu (Jd7 CX0 P w K N a st f A s H E).nox (zas st)/\t { nx:=λy H'=>Q .non H',rt:=Q } (Jix N) H)(c:∀vs H Q E,JhU E->MZ vs.length:=by intro _ _ _ _ h;cases h;subst_vars;rfl):Mp (k+1) f g ps sp:=by let(p,od,kV,n,o,u,cdv,r,i,rfl,j,e):=F.ex;apply pI j e S c λA outer s H vs Q E l d=>?_;let(t,h,q):=b cdv A outer s H vs Q E l d;exact(t,h.nox,q)
def Fun.binds {x a:Str}{st:Stmt}{f:Addr}{g:FuncData}{ps:List Str}(F:Fun K x a st f g)
    (h:∀kV b c e cdv d us,MZ us.length->JnC (JbQ (Jcp x a (zbv st) (zas st) (ai st) .none kV b c e d) us) us):Uj g ps:=by let(k,od,kV,b,c,e,cdv,d,i,rfl,l,j):=F.ex;exact .all (h kV b c e cdv d)
def uX {x a:Str}{st:Stmt}{f:Addr}{i:Value}{od h:Option Addr}{d:Array (Option Value)}{kV b e cdv g:Value}(l:JcP f i od (Jcp x a (zbv st) (zas st) (ai st) .none kV b e h g) d)
    (c:Jen K cdv a)(k:Xh (UR K f)):Fun K x a st f (Jcp x a (zbv st) (zas st) (ai st) .none kV b e h g):=((i,od,kV,b,e,h,cdv,g,d,rfl,l,c),k)
end
def dr (a:ag k A):XV 1:=Nat.lt_of_le_of_lt (Nat.add_le_add_left (by decide:1<=64) _) a.units
def eg (h:Jt n):NE n:=Jaa h
section
variable {X:Cx}
def pv (i){x:Str}{a:Pos}(e:X.N[i]?=some x:=by rfl)(c:Jam x:=by first | exact Or.inl rfl | exact Or.inr (Or.inl rfl) | exact Or.inr (Or.inr rfl))(d:Xx (x == ("__debug__":Str)):=by decide)
    (b:Xx (x==("__classdict__":Str)):=by decide):Qo (VG a) (mY i):=pe_var e c d b
end
def bq {A B:Prop}(h:B):if Xh false then A else B:=by rw[if_neg Bool.false_ne_true];exact h
def bU {A B:Prop}(h:A):if Xh true then A else B:=by rw[if_pos rfl];exact h
def bo {c A B:Prop}[Decidable c](b:c->A)(a:¬c->B):if c then A else B:=by
  by_cases h:c
  . rw[if_pos h];exact b h
  . rw[if_neg h];exact a h
def ap (H H':Hp):Prop:=∀b o,JeR b o b o
def ap.refl (H):MU H:=λx x h=>h
def ap.trans (a:MU H1)(b:ap H1 H2):MU H2:=λc o h=>b c o (a c o h)
def ap.free (e:Xd H){l:Addr}(h:JcX (H' l)):JcX (H l):=by
  cases q:H l with
  |none=>rfl
  | some o =>
    rw[e l o q]at h;cases h
def ap.seq {K:PySem.W.Frag}{H H':Hp}{a:Addr}{xs:List V}(e:Xd H)(h:JD a):Vi H' a xs:=by
  rcases h with (h|⟨o,h⟩)|h
  . exact UZ (e _ _ h)
  . exact Jem o (e _ _ h)
  . exact .inr h
end L2
def lS0:Jaw 0:=by decide
def lS1:Jaw 1:=by decide
def lS2:Jaw 2:=by decide
def lS3:Jaw 3:=by decide
def lS4:Jaw 4:=by decide
namespace L2
open PySem PySem.Spec PyProof.Rows
section
variable {X:Cx} {e l:Expr} {te tl:TE} {pos:Pos} {tg:Expr}
noncomputable def Its (z:Str):It:=(λi y=>i<z.length,λi H x H'=>H'=H/\∃c,z.cps[i]?=some c/\x=Jfp (#[c]),λi y=>z.length<=i)
def uY {P:Program}{w:World}{K:W.Frag}{ty:String}(n:ty="str_ascii_iterator"\/ty="str_iterator")(it:Addr)(z:Str)(t:Tok):il P w K tg (Its z) [it] it (λi h=>h.IsStrIter it ty z t i) where
 mem:=by simp
 obj:=λi h st b a=>by
  let e:b=it:=by simpa using a
  subst e;let(o,e,c,d):=st;exact J8 e (λv z=>by rw[d]at z;cases z)
 keep:=λi h h' st k=>by let(o,e,r):=st;exact J8 (QF it o e) r
 item:=by
  intro X L D M J i g s B H E I p st G;subst L D M;let F:i<z.cps.size:=G;let j:z.cps[i]?=some z.cps[i]:=by simp [F]
  let(A,y,O,x,u,q):=p it (by simp);rcases n with rfl|rfl
  .apply wpAny_pyNext_ascii_item st j λh' f C=>?_;let N:N0 g B { s with heap:=h',toks:=s.toks+1 }:=I.turned (t':=s.toks+1) (λb o a e=>(C.2 b a).trans e) A y x u q;let(o,e,c,d):=id f;exact Yu (jb (s:={ s with heap:=h',toks:=s.toks+1 }) e c d (by decide) (Jfp (#[z.cps[i]]),H,N,Ye _,(rfl,_,j,rfl),f,λb a=>(p b a).1))
  .apply wpAny_pyNext_wide_item st j λh' f C=>?_;let N:N0 g B { s with heap:=h',toks:=s.toks+1 }:=I.turned (t':=s.toks+1) (λb o a e=>(C.2 b a).trans e) A y x u q;let(o,e,c,d):=id f;exact Yu (jb (s:={ s with heap:=h',toks:=s.toks+1 }) e c d (by decide) (Jfp (#[z.cps[i]]),H,N,Ye _,(rfl,_,j,rfl),f,λb a=>(p b a).1))
 done:=by
  intro X L D M J i g s B H E I p st G;subst L D M;let F:z.cps.size<=i:=G;let j:z.cps[i]?=none:=by simp [F]
  let(A,y,O,x,u,q):=p it (by simp);rcases n with rfl|rfl
  .exact wpAny_pyNext_ascii_end (I.ok.hd J) st j λh' eb=>MY (t':=s.toks) (λb o a e=>eb b o a e) A y x u q
  .exact wpAny_pyNext_wide_end (I.ok.hd J) st j λh' eb=>MY (t':=s.toks) (λb o a e=>eb b o a e) A y x u q
 self:=λm m m m m st h=>by
  rcases n with rfl|rfl
  .exact wpAny_pyIter_striter_ascii st h
  .exact wpAny_pyIter_striter_wide st h
def iStr (tl:TE):TI:=λa H R=>tl a H λx b=>∃z,x=.str z/\R (Its z) b
def zo (k:Qo l tl):PI X tg l (iStr tl):=by
 intro c s i H R I h;apply thn (k c s i H _ I h) λv a h_=>?_;let(x,f,d,j,q1):=h_;let(z,e,q):=q1;subst e;let(t,rfl):=j;let g:∀b∈[a.heap.objs.size],d_ X c f b:=λb n=>by
  let e:b=a.heap.objs.size:=by simpa using n
  subst e;exact d.fpOk (nRq _) (JaP _)
 cases ha:z.cps.all _ with
 |true=>
  apply wpAny_pyIter_ascii ha ?_;exact(a.heap.objs.size,[a.heap.objs.size],_,_,f,rfl,d.kept (t':=a.toks) λb o e=>Xz e,uY (.inl rfl) _ z t,M_ _ (Heap.get?_push_size _ rfl),g,q)
 |false=>
  apply wpAny_pyIter_wide ha ?_;exact(a.heap.objs.size,[a.heap.objs.size],_,_,f,rfl,d.kept (t':=a.toks) λb o e=>Xz e,uY (.inr rfl) _ z t,M_ _ (Heap.get?_push_size _ rfl),g,q)
def zp (G:Xh X.calm):Iy X "all" (λxs H Q=>∃(p:Addr) (bs:List Bool),xs=Gj p∧JkB p (bs.map V.bl)∧Yo (bs.all id) H):=by
 intro k s N H xs us Q I r h;let(p,bs,rfl,z,q):=h;let(u,rfl,t):=fu r;cases t;let(a,j,pl,hz):=I.list z;let E:=j.length;rw[lM]at E;let B:Ml p:=by let(o,C,_):=pl.isList;exact hLq C
 let g:VS p:=Nat.ne_of_lt B;apply call_all_walk (GJ pl.isList);apply(s.heap.objs.size,[s.heap.objs.size,p],[s.heap.objs.size],a.toArray.size,_,_,λi=>NU i,rfl,JfU (show Uf X.A.in1.handled from I.ok.hd G) _ p g,Jfq (M_ _ (Heap.get?_push_size _ rfl)) _,?_,λh' tk F=>?_)
 .intro i v s' P R y L;let c:a[i]?=some v:=by simpa using y
  let f:i<a.length:=(gEq c).1;let J:bs[i]?=some (NU i):=by rw[List.getD_eq_getElem?_getD,gG (by lia)];rfl
  let(O,n,M):=j.get (i:=i) (x:=.bl (NU i)) (by rw[List.getElem?_map,J];rfl);rw[c]at n;cases n;cases (show Wx v _ from M);exact wpAny_truthy_bool L
 .let e:(List.range a.toArray.size).all (λi=>NU i)=bs.all id:=by
   rw[Bool.eq_iff_iff,List.all_eq_true,List.all_eq_true];constructor
   .intro h x w;let(i,f,rfl):=List.mem_iff_getElem.mp w;have:=h i (List.mem_range.mpr (by simp only[sAq];lia));rw[List.getD_eq_getElem?_getD,gG f]at this;exact this
   .intro h i f;let d:i<bs.length:=by have:=List.mem_range.mp f;simp only[sAq]at this;lia
    rw[List.getD_eq_getElem?_getD,gG d];exact h _ (List.getElem_mem d)
  apply(.bl (bs.all id),H,I.kept (t':=tk) λb o eb=>F b o ?_ (Xz eb),congrArg Value.bool e,q);intro D;have:Jax b:=by simpa using D
  exact JfV eb (by rw[this];exact Nat.lt_irrefl _)
inductive rIs (K):List V->Hp->VK->Prop|m{xs H Q} x t n b:xs=[x,.ty n]->fv K H x t->Xa (QI K t n) b->Yo b H->rIs K xs H Q
def uZ:JiY X (rIs X.K):=by intro a s i H xs us Q I r h;let(x,t,n,b,rfl,ty,g,q):=h;let(u,c,rfl,f,d):=jc r;cases (show Jeu c n from d);exact yN I f ty g λtk=>XE b H (I.tok _) q
end
structure Clo (X:Cx)(scope)(cl):Prop where
 eq:JcB (closureFor scope X.env) cl
 sub:∀y c,JjL y c->We y c
 has:∀y,((Gi X.env).names.lookup y=some .cell\/(Gi X.env).names.lookup y=some .free)->∃c,JjL y c
def iu (a:∀x∈scope.names,x.2≠.free)(b:∀x∈scope.names,JhX x.2):N5 X []:=by
 apply(closureFor_none a,λy c h=>by simp at h,λy h=>?_);let e:(Gi X.env).names=scope.names:=by
  apply map_eq_self (λx d=>?_);let(n,k):=x;have:Xx (k==NameKind.free):=by simpa using a _ d
  simp [this]
 rw[e]at h;rcases h with h|h
 .exact GE (b _ (PySem.mem_of_lookup h))
 .exact GE (a _ (PySem.mem_of_lookup h))
noncomputable def zaf (X:Cx)(N':List Str)(b:Scope)(e:Qb Str Addr)(d:List Addr)(a:Shared)(c:Hp):Cx where
 prog:=X.prog
 w:=X.w
 K:=X.K
 mg:=X.mg
 base:=X.base
 A:=X.A
 N:=N'
 s₀:=a
 H₀:=c
 env:=compEnvC b e a.heap.objs.size X.env
 outer:=X.stack
 stack:=X.stack
 ex:=d
 calm:=X.calm
 fn:=λx=>false
 pn:=[]
 xe:=λx x=>False
noncomputable def fvs (a:St)(ix:List Nat):St:=ix.map λi=>(a[i]?).join
def tLC (f:TI)(ix:List Nat)(g:TE):TE:=λb H Q=>f b H λJ e=>∀D,Uf (e D) →
 ∃W:Nat->Nat->List V->Hp->Prop,(∃m,W 0 m [] (UC e D))/\
  ∀i m ys H',W i m ys H'->JgN D/\
   ((JmK H' (Uc D H'))∨(JeV H'∧∀x a,Ji5 a→g (Jiq x b) a λy d =>
    d D=JfT ys/\NE ys.length/\∃c,c<m/\W (i+1) c (ys++[y]) (Qa d D (ys++[y]))))
section
variable {X:Cx} {N':List Str} {scope:Scope} {cl:List (U8 Addr)} {fp:List Addr} {pins:List (IL Obj)} {σ:St} {H:Hp} {s:Shared}
def pO (I:Vm s)(C:N5 X cl)(a:NZ scope.kind)(e:∀b∈fp,JhM X H b)(f:∀b∈fp,Ml b):(W3 cl fp s H).Ok where
 mod:=I.ok.mod
 kind:=a
 glob:=I.ok.glob
 blt:=I.ok.blt
 above:=nRq _
 inj:=λx y c i g=>I.ok.inj x y c (C.sub x c i) (C.sub y c g)
 has:=λx h=>C.has x h
 cab:=λx c h=>by cases (show Xh false from h)
 hd:=I.ok.hd
 frames:=I.ok.frames
 stk:=.inl rfl
 exf:=λb d=>(Nat.ne_of_lt (f b d),λx c h=>(e b d).2.2.2.2.1 x c (C.sub x c h))
 bs:=λb o h=>I.bs b o h
 bsz:=NQ I.sz
 noex:=λb o h d=>by
  rcases(e b d).2.2.2.1 with z|z
  .exact I.ok.noex b o h z
  .exact Mr (Qg h (NQ z)) _
 exfs:=λb d hs=>by
  rcases List.mem_cons.mp (I.stkSub b hs) with z|z
  .exact(e b d).2.1 z
  .exact(e b d).2.2.1 z
 funs:=I.stack
 frf:=I.stkFree
def u_ (I:Vm s)(J:Jgv (W3 cl fp s H) σ' H' s')(g:∀b∈fp,JhM X H b)(hs:Vt s.heap.objs.size s'.heap):Qk H' { s' with heap:=h' }:=by
 let i:∀b o,s.heap.get? b=some o->VS b:=λb o e=>WO e;let h:∀b,VS b->h'.get? b=s'.heap.get? b:=λb f=>hs.2 b f;let B:=J.base;let u:NY _ fp H H' h' :=
  (λb o e n d k=>(h b (i b o e)).trans (B.keep b o e n d k),λb o e n d k=>by
   let(l,q):=B.slot b o e n d k;exact(l,(h b (i b o e)).trans q),λb o e n d=>B.free b o e n d,λb o e d=>by let(r,q):=B.there b o e d;exact(r,(h b (i b o e)).trans q),B.tups,B.frzs,B.tbls)
 let a:JaD s.heap.objs.size:=J.free;let j:JlY h':=λb p e=>by
  apply(J.hok b p e).stay (λc v t q=>(h c ?_).trans q) (λx q=>q) λx x q=>q;rintro rfl;rcases t with z|z
  .rw[<-z,a]at e;cases e
  .rw[a]at z;cases z
 exact I.call' (s':={ s' with heap:=h' }) J.os u j J.bare λb f=>((g b f).2.2.2.1,(g b f).2.1,(g b f).2.2.2.2.1,(g b f).2.2.2.2.2)
end
section
variable {X:Cx} {N':List Str} {scope:Scope} {cl:List (U8 Addr)} {fp:List Addr} {pins:List (IL Obj)} {σ:St} {H:Hp} {s:Shared}
def zq (I:Vm s)(C:N5 X cl)(f:NZ scope.kind)(U:∀b∈fp,JhM X H b)(d:∀b∈fp,Ml b)
  (n:JcZ (L+ix.length))(G:∀j i,ix[j]?=some i->∃y,X.N[i]?=some y/\N'[L+j]?=some y/\(V6 y\/N6 y)/\((Gi X.env).names.lookup y=some .cell\/(Gi X.env).names.lookup y=some .free))
  (S:h₁.Ns s.heap.objs.size m)(A:∀b o,s.heap.get? b=some o->h₁.get? b=some o):Jgv (W3 cl fp s H) (Jdo L++JcY σ) H { s with heap:=h₁,toks:=t' }:=by
 let g:∀x c,JjL x c->∃v,h₁.IsCell c v:=λx c h=>by let(v,o,E,J):=JeS x (C.sub x c h);exact(v,o,A c o E,J)
 apply XI (pO I C f U d) I.bare (Un.kept A) (m,S,λi y v Z r h3=>?_) g (Xp _) (λx c h=>JcV c (C.sub x c h)) (λp Q=>Vh (show p∈([]:List _) from Q)) (I.hok.kept A) ?_
 .rcases Nat.lt_or_ge i L with d | T
  .rw[List.getElem?_append_left (by simp;exact d),List.getElem?_replicate,if_pos d]at r;cases (show Jng (none:Option V) _ from r)
  .obtain⟨j,rfl⟩:∃j,i=L+j:=(i-L,by lia);let a:(JcY σ)[j]?=some (some v):=by rw[List.getElem?_append_right (by simp),List.length_replicate,Nat.add_sub_cancel_left]at r;exact r
   unfold fvs at a;rw[List.getElem?_map]at a;cases e:ix[j]? with
   |none=>rw[e]at a;cases a
   | some i =>
    rw[e]at a;let B:(σ[i]?).join=some v:=Option.some.inj a;let Y:σ[i]?=some (some v):=by
     cases e':σ[i]? with
     |none=>rw[e']at B;cases B
     |some q=>
      rw[e']at B;let W:q=some v:=B;rw[W]
    let(w,P,O,k1,k2):=G j i e;let ey:=Option.some.inj (O.symm.trans Z);subst ey;let(m0,R,F):=I.loc;let D:Jam w:=k1.elim (λz=>GZ z) λz=>IN z;let(u,M,l):=F i w v P Y D;apply(u,M,Yg k2 ?_);rcases l with ⟨k,_⟩|⟨_,c,ec,o,E,J⟩
    .rcases k1 with z | z
     .rw[z]at k;cases k
     .rw[z]at k;cases k
    .let(K,t):=C.has w k2;have:K=c:=Option.some.inj ((C.sub _ _ t).symm.trans ec);subst this;exact(K,t,o,A K o E,J)
 .show(List.replicate L (none:Option V)++JcY σ:St).length=N'.length;rw[n];simp [fvs]
end
noncomputable def tstA (env:Env):Jbs Expr (Sem Bool)
 |[]=>pure true
 |c::_=>isTrue c env (Jbn c)
def stpA (prog:Program)(w:World)(A:Around)(R:Result->Shared->Prop)(a:Expr)(acc:Value)(env:Env)(J:Nat->Shared->Prop)(n:Nat)(b:Bool)(c:Shared):Prop :=
 if Xh b then XC w A (Jbn a) (λx f=>XC w A (JR "list.append" [acc,x]) (λy d=>∃m,m<n/\J m d) (notedBy (Ik w) A env λe s'=>Jc0 e s') f) (notedBy (Ik w) A env λe s'=>Jc0 e s') c
 else ∃m,m<n/\J m c
def zr (a:JhY 1)(J)
  (step:∀n s,J n s→XC w A (pyNext it) (λr f=>match r with
   |none=>R (.ok .next) f
   |some v=>XC w A (letOwnedTupleGo target it v) (λy i=>XC w A (assign target env v) (λy h=>XC w A (tstA env ifs) (stpA prog w A R elt acc env J n) (notedBy (Ik w) A env λe s'=>Jc0 e s') h) (notedBy (Ik w) A env λe s'=>Jc0 e s') i) (notedBy (Ik w) A env λe s'=>Jc0 e s') f) (notedBy (Ik w) A env λe s'=>Jc0 e s') s)
  (n)(h0:J n s):codeAny (Ik w) A (.compLoop (JmO target 0) 0 it acc env) R s:=by
 apply codeAny_loop rfl J (λn s l=>?_) n h0;show WI A _ s
 apply wpAny_noted ?_;rw[compTurn_list];apply IG (wpAny_bind (wpAny_mono (step n s l) (λr f k=>?_) λy y z=>z));cases r with
 |none=>exact wpAny_pure k
 | some v =>
  apply wpAny_bind (wpAny_mono k (λ_ i q=>?_) λy y z=>z);apply wpAny_bind (wpAny_mono q (λ_ h j=>?_) λy y z=>z);apply wpAny_bind (wpAny_mono (Q:=stpA prog w A R elt acc env J n) ?_ (λb g d=>?_) λy y z=>z)
  rotate_left
  .cases b with
   |false=>exact Yr rfl d
   |true=>exact QM (wpAny_mono d (λx u p=>wpAny_bind (wpAny_mono p (λy t o=>wpAny_pure (Yr rfl o)) λy y z=>z)) λy y z=>z)
  .rcases ifs with _ | ⟨c,_ | _⟩
   .rw[List.forIn_nil];exact j
   .rw[List.forIn_cons];apply wpAny_bind ?_;rw[if_pos rfl];apply wpAny_bind (wpAny_mono j (λb g d=>wpAny_pure ?_) λy y z=>z);show WI A (forIn ([]:List Expr) b _) g;rw[List.forIn_nil];exact wpAny_pure d
   .exact Vh a
def lcB (L:Nat)(ix:List Nat)(g:TG)(tc:TT)(n:TE)(h:St)(Q:VK)(J:It)(l:Hp):Prop:=∀D,Uf (l D) →
 ∃W:Nat->Nat->List V->Hp->Prop,(∃m,W 0 m [] (UC l D))/\
  ∀i m ys H',W i m ys H'->JgN D/\
   ((JmK H' (Uc D H'))∨(JeV H'∧∀x f,Ji5 f→∀d:St,d.length=L→g x (d++JcY h) f λa o=>∃c:St,c.length=L∧a=c++JcY h∧tc a o λb k =>
    if Xh b then n a k λy j=>Wa (j D) ys/\NE ys.length/\∃e,e<m/\W (i+1) e (ys++[y]) (Qa j D (ys++[y]))
    else ∃e,e<m/\W (i+1) e ys k))
def tTr:TT:=λx H Q=>Q true H
def lc_fin (f:Qk H3 s3)(c:Jgv (W3 cl fp s3 H3) σ6 H5 s6)(e:∀b∈fp,JhM X H3 b)(q:Uc D H5):compPost (Qh X.w) X.A X.xe none (EP X pins σ Q) (.ref D) s3.heap.objs.size (.ok .next) s6:=by let(m,d,_):=c.loc;exact(m,d,λh' a=>Wt D H5 (u_ f c e a) q)
def nB (h:∀D,Uf (H1 D) →
 ∃W:Nat->Nat->List V->Hp->Prop,(∃m,W 0 m [] (UC H1 D))/\
  ∀i m ys H',W i m ys H'->JgN D/\((JmK H' (Uc D H'))\/(JeV H'/\∀x c,Ji5 c->tc (Jiq x σ) c λb g=>
    if Xh b then te (Jiq x σ) g λy f=>Wa (f D) ys/\NE ys.length/\∃d,d<m/\W (i+1) d (ys++[y]) (Qa f D (ys++[y]))
    else ∃d,d<m/\W (i+1) d ys g))):lcB 1 ix (ja 0) tc te σ Q J H1:=λD l=>by let(W,k,t):=h D l;apply(W,k,λi m ys H' w=>((t i m ys H' w).1,(t i m ys H' w).2.imp id λ(a,b)=>(a,λx c y j e=>?_)));let(z,rfl):=List.length_eq_one_iff.mp e;exact X5 [some x] (b x c y)
section
variable {X:Cx} {N':List Str} {scope:Scope} {elt iter tg:Expr} {ifs:List Expr} {L:Nat} {pos:Pos} {wi:TI} {g:TG} {tc:TT} {te:TE} {ix:List Nat}
def va (hifs:JhY 1)(hc:Xh X.calm)(E:NZ scope.kind)(hcell:∀y∈scope.names,JhX y.2)(hnames:∀y∈scope.names,y.2=.local→MV y.1)
  (hclo:X.Ok->∃t,N5 X t)(hlen:JcZ (L+ix.length))
  (hix:∀j i,ix[j]?=some i->∃y,X.N[i]?=some y/\N'[L+j]?=some y/\(V6 y\/N6 y)/\((Gi X.env).names.lookup y=some .cell\/(Gi X.env).names.lookup y=some .free))
  (hi:Jl9 X tg)(hg:∀t a l x,PG (W3 t a l x) tg g)(ht:∀t a l x k s R H Q,Inv (W3 t a l x) k R H s->tc R H Q->Ny (tstA (W3 t a l x).env ifs) (TP (W3 t a l x) k R Q) (W3 t a l x).xe s)(he:∀t a l x,PE (W3 t a l x) elt te)(hs:∀v,JcB (JeK v) v)
  {use:Option (Value->Sem Unit)}{Qf:Value->Shared->Prop}{k:List (IL Obj)}{s:Shared}{R:St}{H:Hp}{Q:VK}{cp:Pos}{P:It->Hp->Prop}(I:V8 k R)(h:wi R H P)(hP:∀J H1,P J H1->lcB L ix g tc te R Q J H1)
  (fin:∀t a z s6 K H5 (σ6:St) D,Jr k R K z->Jgv (W3 t a z K) σ6 H5 s6->(∀b∈a,d_ X k K b)->Uc D H5->compPost (Qh X.w) X.A X.xe use Qf (.ref D) z.heap.objs.size (.ok .next) s6):
  wpAny (Qh X.w) X.A (comprehension (JmO tg 0) scope X.env cp (newList []) false (Vc iter) use) Qf X.xe s:=by
 let(t,C):=hclo I.ok;apply wpAny_comprehension_free rfl hs C.eq E hnames (thn (hi k s R H _ I h) λv s1 h1=>thn h1 λitv O h2=>?_);let(it,a,tn,J,H2,e,I2,T,st2,f2,q2):=h2;subst e;let hD:=I2.fresh;let(W,(m0,w0),turn):=hP _ _ q2 O.heap.objs.size hD;apply wpAny_newObj_type (wpAny_newFunctionEnv hcell (by intro y hy;simp at hy) (λS G F=>?_) E);let I3:Jr k R _ { O with heap:=O.heap.push { cls:=.type "list",data:=.seq ([]:List Value).toArray },toks:=O.toks }:=I2.lnew .nil (Nat.zero_le _);generalize hs3:({ O with heap:=O.heap.push { cls:=.type "list",data:=.seq ([]:List Value).toArray },toks:=O.toks }:Shared)=z at I3;let e3:z.heap=O.heap.push { cls:=.type "list",data:=.seq ([]:List Value).toArray }:=by rw[<-hs3]
 generalize hDD:O.heap.objs.size=D at *;generalize hH3:WW H2 D=K at *;let lt2:∀b∈a,b<O.heap.objs.size:=λb B=>by let(o,ho,_):=T.obj 0 _ st2 b B;exact hLq ho
 let neD:∀b∈a,b≠D:=λb B=>by rw[<-hDD];exact Nat.ne_of_lt (lt2 b B)
 let f3:∀b∈a,d_ X k K b:=λb B=>(by rw[<-hH3,aq (neD b B)];exact(f2 b B).1,(f2 b B).2);let sz3:z.heap.objs.size=D+1:=by rw[e3,Heap.size_push,hDD]
 let Z:∀b∈a,b<z.heap.objs.size:=λb B=>by let q:=lt2 b B;rw[sz3];rw[hDD]at q;exact Nat.lt_succ_of_lt q
 let old:∀b o,z.heap.get? b=some o->S.get? b=some o:=λb o eb=>by
  let B:b<D+1:=by rw[<-sz3];exact hLq eb
  apply F.extBut b o ?_ (Xz (by rw[<-e3];exact eb));rw[Heap.size_push,hDD];exact Nat.ne_of_lt B
 let szC:(O.heap.push { cls:=.type "list",data:=.seq ([]:List Value).toArray }).objs.size=z.heap.objs.size:=by rw[e3]
 rw[szC]at G F;let I4:Jgv _ _ K { z with heap:=S,toks:=O.toks+([]:Jf_ Str).length }:=zq I3 C E f3 Z hlen hix G old;let st4:=T.keep 0 _ _ st2 λb B o eb=>old b o (by rw[e3];exact Xz eb);let U:∀{H':Hp},(∀b∈a,JaD b)->∀b∈a,d_ _ [] H' b:=λhn b B=>
  (hn b B,Nat.ne_of_lt (Z b B),λhs'=>(pO (N':=N') I3 C E f3 Z).exfs b B hs',.inl B,λy c hy=>((pO (N':=N') I3 C E f3 Z).exf b B).2 y c hy,λp hp=>Vh (show p∈([]:List _) from hp))
 let loop:∀s4:Shared,s4={ z with heap:=S,toks:=O.toks+([]:Jf_ Str).length }->
   codeAny (Qh X.w) X.A (.compLoop (JmO tg 0) 0 (.ref it) (.ref D) (compEnvC scope t z.heap.objs.size X.env))
    (compPost (Qh X.w) X.A X.xe use Qf (.ref D) z.heap.objs.size) s4:=by
  rintro s4 rfl;apply zr hifs (λn s'=>∃i M H' ys,M.length=L/\Jgv _ (M++JcY R) H' s'/\tn i s'.heap/\(∀b∈a,JaD b)/\W i n ys H') ?_ m0 (0,Jdo L,K,[],by simp,I4,st4,λb B=>(f3 b B).1,w0);rintro n s5 ⟨i,M,H5,ys,hl0,I5,st5,fr5,w5⟩;let(hD5,alt):=turn i n ys H5 w5;rcases alt with ⟨stop,q⟩|⟨go,step⟩
  .apply thn (T.done (W3 t a z K) rfl rfl rfl hc i [] s5 _ H5 _ I5 (U fr5) st5 stop) λr s6 (hr,I6)=>?_;subst hr;exact fin t a z s6 K H5 _ D I3 I6 f3 q
  .apply thn (T.item (W3 t a z K) rfl rfl rfl hc i [] s5 _ H5 _ I5 (U fr5) st5 go) λr s6 (u,hr,h6)=>?_;subst hr;apply thn h6 λ_ s7 h_=>?_;let(y7,H7,I7,r7,yl7,st7,fr7):=h_;let I7':=I7.pinned (U fr7) (T.obj _ _ st7);apply wpAny_mono (hg t a z K _ s7 _ H7 y7 u _ I7' r7 (step y7 H7 yl7 M hl0)) (λ_ s8 h8=>?_) λ_ _ f=>False.elim f;let(σ8',H8,I8,σ8,hl8,rfl,q8):=h8;let fin:∀ {H9:Hp} {s9:Shared} {zs:List V} {m':Nat},Inv (W3 t a z K) _ _ H9 s9→m'<n→W _ m' zs H9→∃m,m<n∧∃i M H' ys,M.length=L∧Jgv _ (M++JcY R) H' s9∧tn i s9.heap∧(∀b∈a,JaD b)∧W i m ys H':=λ{H9 s9 zs m'} I9 Y w9=>by apply(m',Y,i+1,σ8,H9,zs,hl8,I9.unpinned,T.keep _ _ _ st7 λb B o eb=>(I9.pin _ (Na (Na (mZ B eb)))).1,λb B=>?_,w9);let(o,eb,d):=T.obj _ _ st7 b B;exact(I9.pin _ (Na (Na (mZ B eb)))).2.1
   apply wpAny_mono (ht t a z K _ s8 _ H8 _ I8 q8) (λb s9 h9=>?_) λ_ _ f=>False.elim f;let(H9,I9,q9):=h9;cases b with
   |false=>
    let(m',Y,w9):=q9;exact fin I9 Y w9
   |true=>
    apply wpAny_mono (he t a z K _ s9 _ H9 _ I9 q9) (λyv s10 h10=>?_) λ_ _ f=>False.elim f;let(y10,H10,I10,r10,hD10,hl10,m',Y,w10):=h10;apply wpAny_mono (cK (X:=W3 t a z K) _ s10 _ H10 (.ref D) [y10] (.ref D) [yv] (λ_ H'=>H'=Qa H10 D (ys++[y10])) I10 rfl (Wy r10) (Ji0 D ys y10 hD10 hl10 rfl)) (λ_ s11 h11=>?_) λ_ _ f=>False.elim f;let(_,H11,I11,_,rfl):=h11;exact fin I11 Y w10
 subst hs3;let fin':=codeAny_compStart_list (loop _ rfl) (T.self X.A 0 _ _ _ st4 (loop _ rfl));exact fin'
def vb {P:St->VK->It->Hp->Prop}(p:JhY 1)(F:Xh X.calm)(l:NZ scope.kind)(n:∀y∈scope.names,JhX y.2)(f:∀y∈scope.names,y.2=.local->MV y.1)
  (r:X.Ok->∃e,N5 X e)(o:JcZ (L+ix.length))
  (t:∀j i,ix[j]?=some i->∃y,X.N[i]?=some y/\N'[L+j]?=some y/\(V6 y\/N6 y)/\((Gi X.env).names.lookup y=some .cell\/(Gi X.env).names.lookup y=some .free))
  (B:Jl9 X tg)(C:∀e k a b,PG (W3 e k a b) tg g)(z:∀e k a b d s c H Q,Inv (W3 e k a b) d c H s->tc c H Q->Ny (tstA (W3 e k a b).env ifs) (TP (W3 e k a b) d c Q) (W3 e k a b).xe s)(E:∀e k a b,PE (W3 e k a b) elt te)(hs:∀v,JcB (JeK v) v)
  (G:∀c Q J u,P c Q J u->lcB L ix g tc te c Q J u):PE X (JmO tg 0) λc H Q=>wi c H (P c Q):=by intro d s c H Q I h;rw[eval_ListComp];exact va p F l n f r o t B C z E hs I h (G c Q) λe k S R U T x D O M K q=>lc_fin O M K q
def tst0 (e)(d)(a)(b)(c)(s)(f:St)(H)(Q)(I:Inv (W3 e d a b) c f H s)(h:tTr f H Q):Ny (tstA (W3 e d a b).env []) (TP (W3 e d a b) c f Q) (W3 e d a b).xe s:=Jjl H I h
def hix1 (h:∀j i,ix[j]?=some i->∃y,X.N[i]?=some y/\N'[j+1]?=some y/\(V6 y\/N6 y)/\((Gi X.env).names.lookup y=some .cell\/(Gi X.env).names.lookup y=some .free))(j i)(e:ix[j]?=some i):∃y,X.N[i]?=some y/\N'[1+j]?=some y/\(V6 y\/N6 y)/\((Gi X.env).names.lookup y=some .cell\/(Gi X.env).names.lookup y=some .free):=by rw[Nat.add_comm];exact h j i e
end
section
variable {X:Cx} {N':List Str} {scope:Scope} {elt iter:Expr} {x:Str} {px pos:Pos} {wi:TI} {te:TE} {ix:List Nat}
def eH (r:Xh X.calm)(b:NZ scope.kind)(c:∀y∈scope.names,JhX y.2)(a:∀y∈scope.names,y.2=.local->MV y.1)(o:MV x)
  (f:X.Ok->∃n,N5 X n)(s:N'.Nodup)(l:N'[0]?=some x)(e:JcZ (ix.length+1))
  (k:∀j i,ix[j]?=some i->∃y,X.N[i]?=some y/\N'[j+1]?=some y/\(V6 y\/N6 y)/\((Gi X.env).names.lookup y=some .cell\/(Gi X.env).names.lookup y=some .free))
  (p:Jl9 X (VG px))(q:∀n t d g,PE (W3 n t d g) elt te)(hs:∀v,JeK v=pure v:=by intro _;rfl):
  PE X (Jj3 px [] 0) (tLC wi ix te) :=
 vb (by simp) r b c a f (e.trans (Jc1 _)) (hix1 k) p (λz z z z=>ba s l (XR o) (QR o)) tst0 q hs λz z z z h=>nB h
end
theorem pP:∀(l:Qb Str NameKind) (acc:Qb Str Addr),(∀y∈l,y.2=.free->∃c,Jae y.1 c)->
  ∃b,JcB (forIn l acc (λ(y:U8 NameKind) p=>if Xh (y.2==NameKind.free) then do let c <-cellOf env y.1;pure (ForInStep.yield ((y.1,c,)::p)) else pure (ForInStep.yield p)):Sem (Qb Str Addr)) b/\
   (∀y c,Xa (b.lookup y) c->Xa (acc.lookup y) c\/Jae y c)/\∀y,((y,NameKind.free,)∈l\/∃c,Xa (acc.lookup y) c)->∃c,Xa (b.lookup y) c
 |[],acc,_=>Ul acc (λx x h=>.inl h) (λy h=>h.elim (λz=>by cases z) λz=>z)
 | (n,k,) :: r,acc,f=>by
  by_cases e:k=.free
  .subst e;let(c,o):=f (n,.free,) List.mem_cons_self rfl;let(b,j,i,g):=pP r ((n,c,) :: acc) λy a=>f y (Jb a);apply(b,?_,λy d h=>?_,λy h=>?_)
   .rw[List.forIn_cons];let s:cellOf env n=pure c:=by unfold cellOf;rw[show Jae n c from o]
    let eb:Xh (NameKind.free==NameKind.free):=rfl;simp only[eb,if_true,s,pure_bind];exact j
   .rcases i y d h with z | z
    .by_cases a:y=n
     .subst a;rw[List.lookup_cons,beq_self_eq_true]at z;cases z;exact .inr o
     .rw[List.lookup_cons,beq_eq_false_iff_ne.mpr a]at z;exact .inl z
    .exact .inr z
   .apply g y ?_;by_cases a:y=n
    .subst a;exact Yg c (by rw[List.lookup_cons,beq_self_eq_true])
    .rcases h with z | ⟨d,z⟩
     .rcases List.mem_cons.mp z with z | z
      .exact absurd (Ja2 z) a
      .exact .inl z
     .exact Yg d (by rw[List.lookup_cons,beq_eq_false_iff_ne.mpr a];exact z)
  .let(b,j,i,g):=pP r acc λy a=>f y (Jb a);apply(b,?_,i,λy h=>g y ?_)
   .rw[List.forIn_cons];let q:Xx (k == NameKind.free):=by simpa using e
    simp only[q,Bool.false_eq_true,if_false,pure_bind];exact j
   .rcases h with z | z
    .rcases List.mem_cons.mp z with z | z
     .exact absurd (Jew z).symm e
     .exact .inl z
    .exact .inr z
def cZ (o:X.Ok)(i:X.env.scope=sc)(a:∀x∈scope.names,JhX x.2)
  (r:∀y∈scope.names,y.2=.free->JjS y.1\/Xq y.1 .free):∃e,Clo X scope e:=by
 let(e,w,v,u):=pP (env:=X.env) scope.names [] λy p h=>o.has y.1 (by show X.env.scope.names.lookup y.1=_\/X.env.scope.names.lookup y.1=_;rw[i];exact r y p h)
 apply(e,?_,λy c h=>(v y c h).elim (λz=>by cases z) λz=>z,λy h=>u y (.inl ?_))
 .let A:=w
  show JcB (forIn scope.names _ _>>=λz=>pure z) e;rw[bind_pure];exact A
 .let m:∃k,(k=.cell∨k=.free)∧(y,k,)∈(Gi X.env).names:=by
   rcases h with h|h
   .exact W7 (.inl rfl) (PySem.mem_of_lookup h)
   .exact W7 (.inr rfl) (PySem.mem_of_lookup h)
  let(k,q,l):=m;let((g,k0),h0,b):=List.mem_map.mp l;by_cases f:Xh (k0==NameKind.free&&X.env.scope.kind == .function&&X.env.kindOf g==some .cell)
  .dsimp only at b;rw[if_pos f]at b;let j:g=y:=Ja2 b;let t:k0=.free:=by rw[Bool.and_eq_true,Bool.and_eq_true]at f;simpa using f.1.1
   rw[j,t]at h0;exact h0
  .dsimp only at b;rw[if_neg f]at b;let j:g=y:=Ja2 b;let s:k0=k:=Jew b;rw[j,s]at h0;rcases q with z | z
   .exact IP (a _ h0)
   .rw[z]at h0;exact h0
def tLCI (h:TI)(ix:List Nat)(tc:TT)(j:TE):TE:=λd H Q=>h d H λJ g=>∀D,Uf (g D) →
 ∃W:Nat->Nat->List V->Hp->Prop,(∃m,W 0 m [] (UC g D))/\
  ∀i m ys H',W i m ys H'->JgN D/\
   ((JmK H' (Uc D H'))∨(JeV H'∧∀x c,Ji5 c→tc (Jiq x d) c λb f =>
    if Xh b then j (Jiq x d) f λy e=>Wa (e D) ys/\NE ys.length/\∃a,a<m/\W (i+1) a (ys++[y]) (Qa e D (ys++[y]))
    else ∃a,a<m/\W (i+1) a ys f))
def iv (u:Xh X.calm)(e:NZ scope.kind)(f:∀y∈scope.names,JhX y.2)(d:∀y∈scope.names,y.2=.local->MV y.1)(q:MV x)
  (k:X.Ok->∃l,N5 X l)(w:N'.Nodup)(o:N'[0]?=some x)(g:JcZ (ix.length+1))
  (n:∀j i,ix[j]?=some i->∃y,X.N[i]?=some y/\N'[j+1]?=some y/\(V6 y\/N6 y)/\((Gi X.env).names.lookup y=some .cell\/(Gi X.env).names.lookup y=some .free))
  (s:Jl9 X (VG px))(r:∀l p a b,PT (W3 l p a b) c tc)(t:∀l p a b,PE (W3 l p a b) elt te)(hs:∀v,JeK v=pure v:=by intro _;rfl):
  PE X (Jj3 px [c] 0) (tLCI wi ix tc te) :=
 vb (by simp) u e f d k (g.trans (Jc1 _)) (hix1 n) s (λz z z z=>ba w o (XR q) (QR q)) r t hs λz z z z h=>nB h
def Inv.skip (I:Vm s)(hs:Jba C)(v:Nr C)(t:Nx C)(f:∀x c,Jli (c≠C))(r:∀p∈X.pn++pins,p.1≠C)(j:Gf C):
  Inv X pins σ H { s with heap:=h' }:=by
 let a:∀b,b≠C->h'.get? b=s.heap.get? b:=λb g=>hs.2 b g;let nm:∀{b:Addr},b∉[C]->b≠C:=λh z=>h (by rw[z];exact List.mem_cons_self);let u:Jeq [C] H H h':=(λb o e m m i=>(a b (nm i)).trans e,λb o e m m i=>(o.slots,(a b (nm i)).trans e),λb o e n m=>n,λb o e y=>(o,(a b (nm y)).trans e),λm m q=>q,λm m m q=>q,λm ps q=>(#[],by rw[q];simp));let d:Jd3 H h':=λb k e=>by
  apply(JfP k e).stay (λc A l q=>(a c ?_).trans q) (λm q=>q) λm m q=>q;rintro rfl;rcases l with z|z
  .rw[<-z,j]at e;cases e
  .rw[j]at z;cases z
 apply I.call' (s':={ s with heap:=h' }) rfl u d I.bare λb g=>?_;let e:=mSq g;subst e;exact(.inr v,t,f,r)
def vc {P:St->VK->It->Hp->Prop}{i:Nat}{t:Str}{R r:Pos}(Y:X.N.Nodup)(U:X.N[i]?=some t)(hy:NI t)(K:JhY 1)(hc:Xh X.calm)(u:NZ scope.kind)(B:∀y∈scope.names,JhX y.2)(n:∀y∈scope.names,y.2=.local->MV y.1)
  (M:X.Ok->∃l,N5 X l)(G:JcZ (L+ix.length))
  (W:∀j i,ix[j]?=some i->∃y,X.N[i]?=some y/\N'[L+j]?=some y/\(V6 y\/N6 y)/\((Gi X.env).names.lookup y=some .cell\/(Gi X.env).names.lookup y=some .free))
  (hi:Jl9 X tg)(hg:∀l o b d,PG (W3 l o b d) tg g)(ht:∀l o b d f s k H Q,Inv (W3 l o b d) f k H s->tc k H Q->Ny (tstA (W3 l o b d).env ifs) (TP (W3 l o b d) f k Q) (W3 l o b d).xe s)(he:∀l o b d,PE (W3 l o b d) elt te)(S:JcB (Jgk (JmO tg 0) (.Name t R) r.line) true)
  (hf:M0 t\/Xa (X.env.scope.names.lookup t) .local)(hs:∀v,JcB (JeK v) v)
  (hP:∀k Q J O,P k Q J O->lcB L ix g tc te k Q J O):PS X (Jet (.Name t R) (JmO tg 0) r) (JhL (λk H Q=>wi k H (P k Q)) i):=by
 intro f s k H Dn I h;rw[exec_Assign_Name_used _ _ _ _ S];apply IG (wpAny_bind ?_);rw[arm_evalThenUse_ListComp];apply wpAny_bind (wpAny_mono (va (use:=some _) K hc u B n M G W hi hg ht he hs I h (hP _ _) λl o s3 s6 H3 H5 σ6 D C I6 f3 q=>?_) (λE s' h'=>My h') λE E z=>z);let(m,hn,_):=I6.loc;let Io:=u_ (h':=s6.heap) C I6 f3 (GM (λE E=>rfl));apply wpAny_assign_Name (tX (v:=.ref D) Io Y U hy rfl (λs7 I7 (a,sb,ha)=>?_) hf);let F:∀x c,Jli (c<s3.heap.objs.size):=λx c e=>by let(v,hv):=C.cell x c e;exact hv.lt
 let Z:s3.heap.objs.size≠a:=by
  rintro rfl;rcases ha with z|z
  .exact absurd C.lt (by rw[<-z];exact Nat.lt_irrefl _)
  .exact Mr (F _ _ z) _
 apply(m,hn.sameBut sb Z,λh' T=>(_,H5,?_,q));exact I7.skip T C.sz (Nat.ne_of_gt C.lt) (λx c e=>Nat.ne_of_lt (F x c e)) (λp hp=>WO (C.pin p hp).1) I6.free
def zt (o:X.N.Nodup)(l:X.N[i]?=some y0)(s:NI y0)(z:Xh X.calm)(b:NZ scope.kind)(c:∀y∈scope.names,JhX y.2)(a:∀y∈scope.names,y.2=.local->MV y.1)(r:MV x)
  (f:X.Ok->∃q,N5 X q)(A:N'.Nodup)(p:N'[0]?=some x)(e:JcZ (ix.length+1))
  (n:∀j i,ix[j]?=some i->∃y,X.N[i]?=some y/\N'[j+1]?=some y/\(V6 y\/N6 y)/\((Gi X.env).names.lookup y=some .cell\/(Gi X.env).names.lookup y=some .free))
  (t:Jl9 X (VG px))(w:∀q B d g,PE (W3 q B d g) elt te)(k:Jgk (Jj3 px [] 0) (.Name y0 py) spos.line=pure true:=by rfl)
  (u:M0 y0\/X.env.scope.names.lookup y0=some .local:=by first|exact .inl rfl|exact .inr rfl|assumption)(hs:∀v,JeK v=pure v:=by intro _;rfl):
  PS X (Jet (.Name y0 py) (Jj3 px [] 0) spos) (JhL (tLC wi ix te) i) :=
 vc o l s (by simp) z b c a f (e.trans (Jc1 _)) (hix1 n) t (λm m m m=>ba A p (XR r) (QR r)) tst0 w k u hs λm m m m h=>nB h
def vd (q:X.N.Nodup)(o:X.N[i]?=some y0)(u:NI y0)(C:Xh X.calm)(e:NZ scope.kind)(f:∀y∈scope.names,JhX y.2)(d:∀y∈scope.names,y.2=.local->MV y.1)(t:MV x)
  (k:X.Ok->∃l,N5 X l)(D:N'.Nodup)(r:N'[0]?=some x)(g:JcZ (ix.length+1))
  (p:∀j i,ix[j]?=some i->∃y,X.N[i]?=some y/\N'[j+1]?=some y/\(V6 y\/N6 y)/\((Gi X.env).names.lookup y=some .cell\/(Gi X.env).names.lookup y=some .free))
  (z:Jl9 X (VG px))(w:∀l s a b,PT (W3 l s a b) c tc)(B:∀l s a b,PE (W3 l s a b) elt te)(n:Jgk (Jj3 px [c] 0) (.Name y0 py) spos.line=pure true:=by rfl)
  (A:M0 y0\/X.env.scope.names.lookup y0=some .local:=by first|exact .inl rfl|exact .inr rfl|assumption)(hs:∀v,JeK v=pure v:=by intro _;rfl):
  PS X (Jet (.Name y0 py) (Jj3 px [c] 0) spos) (JhL (tLCI wi ix tc te) i) :=
 vc q o u (by simp) C e f d k (g.trans (Jc1 _)) (hix1 p) z (λm m m m=>ba D r (XR t) (QR t)) w B n A hs λm m m m h=>nB h
inductive Dt where
 |non|bl (b:Bool)|int (i:Int)|str (x:Str)|tup (xs:List Dt)|lst (xs:List Dt)
mutual
def peq:Dt->Dt->Bool
 |.non,.non=>true
 |.bl a,.bl b=>a==b
 |.bl a,.int b=>(if a then 1 else 0)==b
 |.int a,.bl b=>a==(if b then 1 else 0)
 |.int a,.int b=>a==b
 |.str a,.str b=>a==b
 |.tup xs,.tup ys=>eA xs ys
 |.lst xs,.lst ys=>eA xs ys
 |_,_=>false
def eA:Jbs Dt (Jbs Dt Bool)
 |[],[]=>true
 |x::xs,y::ys=>peq x y&&eA xs ys
 |_,_=>false
end
mutual
def dep:Dt->Nat
 |.tup xs=>aD xs+1
 |.lst xs=>aD xs+1
 |.non=>0
 |.bl _=>0
 |.int _=>0
 |.str _=>0
def aD:Jbs Dt Nat
 |[]=>0
 |x::xs=>JkU (dep x) xs
end
mutual
def nob:Dt->Bool
 |.bl _=>false
 |.tup xs=>gk xs
 |.lst xs=>gk xs
 |.non=>true
 |.int _=>true
 |.str _=>true
def gk:Jbs Dt Bool
 |[]=>true
 |x::xs=>nob x&&gk xs
end
def pQ (x y:Dt)(xs ys:List Dt):eA (x::xs) (y::ys)=(peq x y&&eA xs ys):=rfl
mutual
theorem gR:∀d:Dt,JcL d d
 |.non=>rfl
 |.bl a=>beq_self_eq_true a
 |.int a=>beq_self_eq_true a
 |.str a=>beq_self_eq_true a
 |.tup xs=>nC xs
 |.lst xs=>nC xs
theorem nC:∀d:List Dt,Xh (eA d d)
 |[]=>rfl
 |x::xs=>by rw[pQ,gR x,nC xs];rfl
end
mutual
theorem pR:∀d e:Dt,Jnh d->Jnh e->JcL d e->d=e
 |.non,e,_,_,h=>by cases e<;>first|rfl|cases (show Xh false from h)
 |.bl _,e,h,_,_=>nomatch (show Xh false from h)
 |.int _,e,_,a,h=>by cases e<;>first|cases (show Xh false from a)|cases (show Xh false from h)|exact congrArg Dt.int (oDq h)
 |.str _,e,_,a,h=>by cases e<;>first|cases (show Xh false from h)|exact congrArg Dt.str (eq_of_beq h)
 |.tup xs,e,b,a,h=>by
  cases e with
  |tup ys=>rw[nD xs ys b a h]
  |_=>cases (show Xh false from h)
 |.lst xs,e,b,a,h=>by
  cases e with
  |lst ys=>rw[nD xs ys b a h]
  |_=>cases (show Xh false from h)
theorem nD:∀d e:List Dt,Xh (gk d)->Xh (gk e)->Xh (eA d e)->d=e
 |[],e,_,_,h=>by cases e<;>first|rfl|cases (show Xh false from h)
 | x :: xs,e,b,a,h=>by
  cases e with
  |nil=>cases (show Xh false from h)
  |cons y ys=>
   rw[pQ,Bool.and_eq_true]at h;simp only[gk,Bool.and_eq_true]at b a;rw[pR x y b.1 a.1 h.1,nD xs ys b.2 a.2 h.2]
end
mutual
def Has (K:W.Frag)(H:Hp):Dt->V->Prop
 |.non,v=>v=.non
 |.bl b,v=>v=.bl b
 |.int i,v=>JcA v i
 |.str x,v=>v=.str x
 |.tup c,v=>∃a xs,Xl v a/\Q7 a/\VQ c
 |.lst c,v=>∃a xs,Xl v a/\JD a/\VQ c
def ar (K:W.Frag)(H:Hp):List Dt->List V->Prop
 |[],vs=>vs=[]
 |d::a,vs=>∃v r,vs=v::r/\Jkp d/\Xu a r
end
theorem ar.length {K:W.Frag}{H:Hp}:∀{a:List Dt} {vs:List V},JjV a vs (a.length=vs.length)
 |[],vs,h=>by simp only[ar]at h;rw[h];rfl
 |d::a,vs,h=>by simp only[ar]at h;let(v,r,rfl,_,b):=h;rw[List.length_cons,List.length_cons,ar.length b]
theorem ar.get {K:W.Frag}{H:Hp}:∀{a:List Dt} {vs:List V} {i:Nat} {v:V},Xu a vs->vs[i]?=some v->∃d,a[i]?=some d/\Jkp d
 |[],vs,i,v,h,e=>by simp only[ar]at h;rw[h]at e;simp at e
 | d :: a,vs,i,v,h,e=>by
  simp only[ar]at h;let(j,r,rfl,c,b):=h;cases i with
  |zero=>simp at e;subst e;exact Nc d c
  |succ i=>
   let(d',g,f):=ar.get b (by simpa using e);exact(d',by simpa using g,f)
theorem ar.getD {K:W.Frag}{H:Hp}:∀{a:List Dt} {vs:List V} {i:Nat} {d:Dt},Xu a vs->a[i]?=some d->∃v,vs[i]?=some v/\Jkp d
 |[],vs,i,d,h,e=>by simp at e
 | k :: a,vs,i,d,h,e=>by
  simp only[ar]at h;let(b,r,rfl,f,c):=h;cases i with
  |zero=>simp at e;subst e;exact Nc b f
  |succ i=>
   let(v,j,g):=ar.getD c (by simpa using e);exact(v,by simpa using j,g)
theorem ar.append {K:W.Frag}{H:Hp}:∀{b es:List Dt} {vs a:List V},JjV b vs (JjV es a (Xu (b++es) (vs++a)))
 |[],es,vs,a,h,h'=>by simp only[ar]at h;rw[h];exact h'
 |d::b,es,vs,a,h,h'=>by simp only[ar]at h;let(v,r,rfl,e,c):=h;show Xu (d::(b++es)) (v::(r++a));simp only[ar];exact Gn v (r++a) e (ar.append c h')
def ar.one {K:W.Frag}{H:Hp}{d:Dt}{v:V}(h:Jkp d):Xu [d] [v]:=by simp only[ar];exact Gn v [] h rfl
theorem ar.ints {K:W.Frag}{H:Hp}:∀ns:List Int,Xu (ns.map Dt.int) (ns.map V.int)
 |[]=>by simp [ar]
 |n::ns=>by simp only[List.map_cons,ar];exact Gn _ _ (by simp only[Has]) (ar.ints ns)
mutual
def nol:Dt->Bool
 |.lst _=>false
 |.tup xs=>a_ xs
 |.non=>true
 |.bl _=>true
 |.int _=>true
 |.str _=>true
def a_:Jbs Dt Bool
 |[]=>true
 |x::xs=>nol x&&a_ xs
end
def bj (H H':Hp):Prop:=∀b xs,Rd H b (.tup xs)->Rd H' b (.tup xs)
def bj.sq {K:W.Frag}{H H':Hp}{a:Addr}{xs:List V}(k:J4 H')(h:Q7 a):Jkm a xs:=h.elim (λz=>.inl (k a xs z)) .inr
def bj.trans (a:J4 H1)(b:bj H1 H2):J4 H2:=λc xs h=>b c xs (a c xs h)
def bj.of_same (e:Xd H):J4 H':=λb xs h=>by
 rcases h with h|⟨o,h⟩
 .exact .inl (e _ _ h)
 .exact Yg o (e _ _ h)
def bj.lst (h:UL l):Jkx l ys:=λb zs q=>by
 rcases q with q|⟨o,q⟩
 .exact .inl (by rw[Jmf q h (λz=>by cases z)];exact q)
 .exact Yg o (by rw[Jmf q h (λz=>by cases z)];exact q)
def bj.new (h:Gf l):J4 (Gk l o):=bj.of_same λb u q=>by rw[WM q h];exact q
mutual
theorem Has.keep {K:W.Frag}{H H':Hp}(k:J4 H'):∀{d:Dt} {v:V},Jbj d->Jkp d->Has K H' d v
 |.non,v,_,h=>by simp only[Has]at h⊢;exact h
 |.bl _,v,_,h=>by simp only[Has]at h⊢;exact h
 |.int _,v,_,h=>by simp only[Has]at h⊢;exact h
 |.str _,v,_,h=>by simp only[Has]at h⊢;exact h
 |.tup f,v,n,h=>by simp only[Has]at h⊢;simp only[nol]at n;let(a,xs,e,c,b):=h;exact(a,xs,e,k.sq c,ar.keep k n b)
 |.lst _,v,n,h=>by simp [nol]at n
theorem ar.keep {K:W.Frag}{H H':Hp}(k:J4 H'):∀{a:List Dt} {vs:List V},WU a->JjV a vs (G_ a vs)
 |[],vs,_,h=>by simp only[ar]at h⊢;exact h
 |d::a,vs,n,h=>by simp only[ar]at h⊢;simp only[a_,Bool.and_eq_true]at n;let(v,r,e,c,b):=h;exact(v,r,e,Has.keep k n.1 c,ar.keep k n.2 b)
end
def vf (I:Vm s){a:Addr}{xs ys:List V}(h:JkB a xs)(h':Jfl H a ys):False:=by let(g,_,p,_):=I.list h;let(f,_,q,_):=I.tuple h';let(o,e,c,_):=p.isList;let(i,b,d,_):=q;rw[e]at b;cases b;rw[c]at d;exact Vq (Value.type.inj d)
mutual
theorem Has.inj (I:Vm s):∀(d e:Dt) (v:V),Jlv d v->Jlv e v->d=e
 |.non,e,v,h,h'=>by simp only[Has]at h;subst h;cases e<;>simp only[Has]at h'<;>first|rfl|(cases h';done)|(let(_,_,z,_):=h';cases z)
 |.bl b,e,v,h,h'=>by simp only[Has]at h;subst h;cases e<;>simp only[Has]at h'<;>first|(cases h';done)|(cases h';rfl)|(let(_,_,z,_):=h';cases z)
 |.int b,e,v,h,h'=>by simp only[Has]at h;subst h;cases e<;>simp only[Has]at h'<;>first|(cases h';done)|(cases h';rfl)|(let(_,_,z,_):=h';cases z)
 |.str b,e,v,h,h'=>by simp only[Has]at h;subst h;cases e<;>simp only[Has]at h'<;>first|(cases h';done)|(cases h';rfl)|(let(_,_,z,_):=h';cases z)
 | .tup j,e,v,h,h'=>by
  simp only[Has]at h;let(a,xs,rfl,g,i):=h;cases e with
  |tup es=>
   simp only[Has]at h';let(k,ys,z,f,c):=h';cases z;rw[I.tuple_inj f g]at c;rw[ar.inj I j es xs i c]
  |lst es=>
   simp only[Has]at h';let(k,ys,z,f,c):=h';cases z;exact(vf I f g).elim
  |_=>simp only[Has]at h';cases h'
 | .lst j,e,v,h,h'=>by
  simp only[Has]at h;let(a,xs,rfl,g,i):=h;cases e with
  |lst es=>
   simp only[Has]at h';let(k,ys,z,f,c):=h';cases z;rw[I.list_inj f g]at c;rw[ar.inj I j es xs i c]
  |tup es=>
   simp only[Has]at h';let(k,ys,z,f,c):=h';cases z;exact(vf I g f).elim
  |_=>simp only[Has]at h';cases h'
theorem ar.inj (I:Vm s):∀(a es:List Dt) (vs:List V),JkH a vs->JkH es vs->a=es
 |[],es,vs,h,h'=>by
  simp only[ar]at h;subst h;cases es with
  |nil=>rfl
  |cons e es=>simp only[ar]at h';let(_,_,z,_):=h';cases z
 | d :: a,es,vs,h,h'=>by
  simp only[ar]at h;let(v,r,rfl,g,f):=h;cases es with
  |nil=>simp only[ar]at h';cases h'
  |cons e es=>
   simp only[ar]at h';let(i,j,z,c,b):=h';cases z;rw[Has.inj I d e v g c,ar.inj I a es r f b]
end
def jg (a es:List Dt)(j:Nat):Bool:=match a[j]?,es[j]? with
 |some d,some e=>peq d e
 |_,_=>true
def zu (d e)(a es):jg (d::a) (ML e) 0=peq d e:=rfl
theorem nF:∀(a es:List Dt),((List.range (min a.length es.length)).all (jg a es)&&a.length==es.length)=eA a es
 |[],[]=>rfl
 |[],e::es=>by show Xx _;simp
 |d::a,[]=>by show Xx _;simp
 |d::a,e::es=>by
  let b:=nF a es;let f:min (d::a).length (ML e).length=min a.length es.length+1:=by simp only[List.length_cons];lia
  rw[f,List.range_succ_eq_map,List.all_cons,zu,List.all_map];let c:(jg (d::a) (ML e) ∘ Nat.succ)=jg a es:=by funext j;rfl
  rw[c,List.length_cons,List.length_cons];rw[pQ,<-b,Bool.and_assoc];congr 2;simp
def zv (h:ds.length=es.length):(List.range ds.length).all (jg ds es)=eA ds es:=by rw[<-nF,<-h,Nat.min_self];simp
def zw (h:ds.length≠es.length):Xx (eA ds es):=by
 rw[<-nF];have:Xx (ds.length==es.length):=by simpa using h
 rw[this,Bool.and_false]
def e_ (I:Vm s){a:Addr}{xs:List V}{c:List Dt}(h:Jfl H a xs)(g:JkH c xs):∃b:List Value,Jjh b/\Jfm b.toArray/\Jk_ c.length:=by let(b,r,p,_):=I.tuple h;exact(b,r,p,by rw[sAq,<-r.length,<-g.length])
def fb (I:Vm s){a:Addr}{xs:List V}{c:List Dt}(h:JkB a xs)(g:JkH c xs):∃b:List Value,Jjh b/\s.heap.IsList a b.toArray/\Jk_ c.length:=by let(b,r,p,_):=I.list h;exact(b,r,p.isList,by rw[sAq,<-r.length,<-g.length])
def vg (s:Shared)(A:Around)(a es:List Dt)(xs ys:List V):Prop :=
 ∀us zs,WD xs->bc ys zs->∀j u z,us[j]?=some u->zs[j]?=some z->Jcd A.in1 u z (jg a es j)
def rcTT (I:Vm s){A:Around}{a b:Addr}{xs ys:List V}{f es:List Dt}(v:Jfl H a xs)(x:JkH f xs)(u:Jfl H b ys)(w:JkH es ys)(l:Xs A.units)
  (t:vg s A f es xs ys):SeqAt.RcAt A s (.ref a) (.ref b) (eA f es)/\SeqAt.RcNeAt A s (.ref a) (.ref b) (!eA f es):=by let(d,r,k,o):=e_ I v x;let(c,p,i,n):=e_ I u w;let q:∀j k1 (k2:j<c.toArray.size),SeqAt.EqAt A.in1 s d.toArray[j] c.toArray[j] _:=λj k1 k2=>t d c r p j _ _ (by simp at k1 ⊢) (by simp at k2 ⊢);let h:=SeqAt.RcAt.tuples k i l q;let g:=SeqAt.RcNeAt.tuples k i l q;rw[o,n,nF]at h g;exact(h,g)
def rcLL (I:Vm s){A:Around}{a b:Addr}{xs ys:List V}{f es:List Dt}(x:JkB a xs)(z:JkH f xs)(w:JkB b ys)(y:JkH es ys)(n:Xs A.units)
  (v:vg s A f es xs ys):SeqAt.RcAt A s (.ref a) (.ref b) (eA f es)/\SeqAt.RcNeAt A s (.ref a) (.ref b) (!eA f es):=by
 let(d,u,l,i):=fb I x z;let(c,t,k,o):=fb I w y;by_cases h:f.length=es.length
 .let q:∀j k1 (k2:j<c.toArray.size),SeqAt.EqAt A.in1 s d.toArray[j] c.toArray[j] _:=λj k1 k2=>v d c u t j _ _ (by simp at k1 ⊢) (by simp at k2 ⊢);let r:=SeqAt.RcAt.lists l k (by rw[i,o,h]) n q;let p:=SeqAt.RcNeAt.lists l k (by rw[i,o,h]) n q;rw[i,zv h]at r p;exact(r,p)
 .let g:Xh (d.toArray.size != c.toArray.size):=by rw[i,o];simpa using h
  rw[zw h];exact(SeqAt.RcAt.lists_lengths l k g n,SeqAt.RcNeAt.lists_lengths l k g n)
def jh {A:Around}{d:Dt}(h:XV (dep d)):Xs A.units:=Nat.lt_of_le_of_lt (JH _) h
mutual
theorem vh (I:Vm s):∀(d e:Dt) (v w:V) (u z:Value) (A:Around),Jlv d v->Jlv e w->IH v->bn w z->XV (dep d)->Jcd A u z (peq d e)
 | .non,e,v,w,u,z,A,h,h',r,f,l=>by
  let c:=jh l;simp only[Has]at h;subst h;cases e with
  |tup es=>
   simp only[Has]at h';let(b,ys,rfl,i,g):=h';let(_,_,p,_):=e_ I i g;cases (show JeF z from f);cases (show GK u from r);exact SeqAt.EqAt.none_tuple p c
  |lst es=>
   simp only[Has]at h';let(b,ys,rfl,i,g):=h';let(_,_,p,_):=fb I i g;cases (show JeF z from f);cases (show GK u from r);exact SeqAt.EqAt.none_list p c
  |_=>simp only[Has]at h';subst h';exact kW r f rfl rfl
 | .bl k,e,v,w,u,z,A,h,h',r,f,l=>by
  let c:=jh l;simp only[Has]at h;subst h;cases e with
  |tup es=>
   simp only[Has]at h';let(b,ys,rfl,i,g):=h';let(_,_,p,_):=e_ I i g;cases (show JeF z from f);cases (show Wx u k from r);exact SeqAt.EqAt.bool_tuple k p c
  |lst es=>
   simp only[Has]at h';let(b,ys,rfl,i,g):=h';let(_,_,p,_):=fb I i g;cases (show JeF z from f);cases (show Wx u k from r);exact SeqAt.EqAt.bool_list k p c
  |_=>simp only[Has]at h';subst h';exact kW r f rfl rfl
 | .int k,e,v,w,u,z,A,h,h',r,f,l=>by
  let c:=jh l;simp only[Has]at h;subst h;cases e with
  |tup es=>
   simp only[Has]at h';let(b,ys,rfl,i,g):=h';let(_,_,p,_):=e_ I i g;cases (show JeF z from f);let(t,rfl):=r;exact SeqAt.EqAt.int_tuple k t p c
  |lst es=>
   simp only[Has]at h';let(b,ys,rfl,i,g):=h';let(_,_,p,_):=fb I i g;cases (show JeF z from f);let(t,rfl):=r;exact SeqAt.EqAt.int_list k t p c
  |_=>simp only[Has]at h';subst h';exact kW r f rfl rfl
 | .str k,e,v,w,u,z,A,h,h',r,f,l=>by
  let c:=jh l;simp only[Has]at h;subst h;cases e with
  |tup es=>
   simp only[Has]at h';let(b,ys,rfl,i,g):=h';let(_,_,p,_):=e_ I i g;cases (show JeF z from f);let(t,rfl):=r;exact SeqAt.EqAt.str_tuple k t p c
  |lst es=>
   simp only[Has]at h';let(b,ys,rfl,i,g):=h';let(_,_,p,_):=fb I i g;cases (show JeF z from f);let(t,rfl):=r;exact SeqAt.EqAt.str_list k t p c
  |_=>simp only[Has]at h';subst h';exact kW r f rfl rfl
 | .tup y,e,v,w,u,z,A,h,h',r,f,l=>by
  let c:=jh l;let G:=h;simp only[Has]at h;let(a,xs,rfl,x,o):=h;cases (show Jf u a from r);let(_,_,p,_):=e_ I x o;let E:JnP y:=by simp only[dep]at l;rw[Around.in1_units];lia
  cases e with
  |tup es=>
   let F:=h';simp only[Has]at h';let(b,ys,rfl,i,g):=h';cases (show JeF z from f);by_cases n:a=b
   .subst n;rw[Has.inj I _ _ _ G F,gR];exact SeqAt.EqAt.same _
   .let q:=(rcTT I x o i g c λus zs C B j u z L J=>kZ I y es xs ys us zs A.in1 o g C B E j u z L J).1;exact SeqAt.EqAt.of_refs n q
  |lst es=>
   simp only[Has]at h';let(b,ys,rfl,i,g):=h';cases (show JeF z from f);let(_,_,D,_):=fb I i g;exact SeqAt.EqAt.tuple_list p D c
  |non=>simp only[Has]at h';subst h';cases (show GK z from f);exact SeqAt.EqAt.tuple_none p c
  |bl k=>simp only[Has]at h';subst h';cases (show Wx z k from f);exact SeqAt.EqAt.tuple_bool k p c
  |int k=>simp only[Has]at h';subst h';let(t,rfl):=f;exact SeqAt.EqAt.tuple_int k t p c
  |str k=>simp only[Has]at h';subst h';let(t,rfl):=f;exact SeqAt.EqAt.tuple_str k t p c
 | .lst y,e,v,w,u,z,A,h,h',r,f,l=>by
  let c:=jh l;let G:=h;simp only[Has]at h;let(a,xs,rfl,x,o):=h;cases (show Jf u a from r);let(_,_,p,_):=fb I x o;let E:JnP y:=by simp only[dep]at l;rw[Around.in1_units];lia
  cases e with
  |lst es=>
   let F:=h';simp only[Has]at h';let(b,ys,rfl,i,g):=h';cases (show JeF z from f);by_cases n:a=b
   .subst n;rw[Has.inj I _ _ _ G F,gR];exact SeqAt.EqAt.same _
   .let q:=(rcLL I x o i g c λus zs C B j u z L J=>kZ I y es xs ys us zs A.in1 o g C B E j u z L J).1;exact SeqAt.EqAt.of_refs n q
  |tup es=>
   simp only[Has]at h';let(b,ys,rfl,i,g):=h';cases (show JeF z from f);let(_,_,D,_):=e_ I i g;exact SeqAt.EqAt.list_tuple p D c
  |non=>simp only[Has]at h';subst h';cases (show GK z from f);exact SeqAt.EqAt.list_none p c
  |bl k=>simp only[Has]at h';subst h';cases (show Wx z k from f);exact SeqAt.EqAt.list_bool k p c
  |int k=>simp only[Has]at h';subst h';let(t,rfl):=f;exact SeqAt.EqAt.list_int k t p c
  |str k=>simp only[Has]at h';subst h';let(t,rfl):=f;exact SeqAt.EqAt.list_str k t p c
theorem kZ (I:Vm s):∀(c es:List Dt) (vs f:List V) (us zs:List Value) (A:Around),JkH c vs->JkH es f->WD vs->bc f zs->XV (aD c)->
  ∀(j:Nat) (u z:Value),us[j]?=some u->zs[j]?=some z->Jcd A u z (jg c es j)
 |[],es,vs,f,us,zs,A,h,h',r,g,i,j,u,z,b,a=>by simp only[ar]at h;subst h;cases r;simp at b
 | d :: c,es,vs,f,us,zs,A,h,h',r,g,i,j,u,z,b,a=>by
  simp only[ar]at h;let(v,rs,rfl,y,x):=h;cases r with
  | cons p o =>
   cases es with
   |nil=>
    simp only[ar]at h';subst h';cases g;simp at a
   | cons e es =>
    simp only[ar]at h';let(w,k,rfl,t,q):=h';simp only[aD]at i;cases g with
    | cons n l =>
     cases j with
     |zero=>
      simp at b a;subst b a;exact vh I d e v w _ _ A y t p n (by lia)
     |succ j=>exact kZ I c es rs k _ _ A x q o l (by lia) j u z (by simpa using b) (by simpa using a)
end
section
def rc_D (I:Vm s)(A:Around)(d e:Dt)(v w:V)(u z:Value)(h:Jlv d v)(h':Jlv e w)(r:IH v)(f:bn w z)(B:XV (dep d)):
  SeqAt.RcAt A s u z (peq d e)/\SeqAt.RcNeAt A s u z (!peq d e):=by
 let c:=jh B;cases d with
 | non =>
  simp only[Has]at h;subst h;cases (show GK u from r);cases e with
  |non=>
   simp only[Has]at h';subst h';cases (show GK z from f);exact(SeqAt.RcAt.none_none,SeqAt.RcNeAt.none_none)
  |bl k2=>
   simp only[Has]at h';subst h';cases (show Wx z k2 from f);exact(SeqAt.RcAt.none_bool k2,SeqAt.RcNeAt.none_bool k2)
  |int k2=>
   simp only[Has]at h';subst h';let(g,rfl):=f;exact(SeqAt.RcAt.none_int k2 g,SeqAt.RcNeAt.none_int k2 g)
  |str k2=>
   simp only[Has]at h';subst h';let(g,rfl):=f;exact(SeqAt.RcAt.none_str k2 g,SeqAt.RcNeAt.none_str k2 g)
  |tup es=>
   simp only[Has]at h';let(b,ys,rfl,l,k):=h';let(_,_,p,_):=e_ I l k;cases (show JeF z from f);exact(SeqAt.RcAt.none_tuple p c,SeqAt.RcNeAt.none_tuple p c)
  |lst es=>
   simp only[Has]at h';let(b,ys,rfl,l,k):=h';let(_,_,p,_):=fb I l k;cases (show JeF z from f);exact(SeqAt.RcAt.none_list p c,SeqAt.RcNeAt.none_list p c)
 | bl k1 =>
  simp only[Has]at h;subst h;cases (show Wx u k1 from r);cases e with
  |non=>
   simp only[Has]at h';subst h';cases (show GK z from f);exact(SeqAt.RcAt.bool_none k1,SeqAt.RcNeAt.bool_none k1)
  |bl k2=>
   simp only[Has]at h';subst h';cases (show Wx z k2 from f);exact(SeqAt.RcAt.bool_bool k1 k2,SeqAt.RcNeAt.bool_bool k1 k2)
  |int k2=>
   simp only[Has]at h';subst h';let(g,rfl):=f;exact(SeqAt.RcAt.bool_int k1 k2 g,SeqAt.RcNeAt.bool_int k1 k2 g)
  |str k2=>
   simp only[Has]at h';subst h';let(g,rfl):=f;exact(SeqAt.RcAt.bool_str k1 k2 g,SeqAt.RcNeAt.bool_str k1 k2 g)
  |tup es=>
   simp only[Has]at h';let(b,ys,rfl,l,k):=h';let(_,_,p,_):=e_ I l k;cases (show JeF z from f);exact(SeqAt.RcAt.bool_tuple k1 p c,SeqAt.RcNeAt.bool_tuple k1 p c)
  |lst es=>
   simp only[Has]at h';let(b,ys,rfl,l,k):=h';let(_,_,p,_):=fb I l k;cases (show JeF z from f);exact(SeqAt.RcAt.bool_list k1 p c,SeqAt.RcNeAt.bool_list k1 p c)
 | int k1 =>
  simp only[Has]at h;subst h;let(i,rfl):=r;cases e with
  |non=>
   simp only[Has]at h';subst h';cases (show GK z from f);exact(SeqAt.RcAt.int_none k1 i,SeqAt.RcNeAt.int_none k1 i)
  |bl k2=>
   simp only[Has]at h';subst h';cases (show Wx z k2 from f);exact(SeqAt.RcAt.int_bool k1 i k2,SeqAt.RcNeAt.int_bool k1 i k2)
  |int k2=>
   simp only[Has]at h';subst h';let(g,rfl):=f;exact(SeqAt.RcAt.int_int k1 i k2 g,SeqAt.RcNeAt.int_int k1 i k2 g)
  |str k2=>
   simp only[Has]at h';subst h';let(g,rfl):=f;exact(SeqAt.RcAt.int_str k1 i k2 g,SeqAt.RcNeAt.int_str k1 i k2 g)
  |tup es=>
   simp only[Has]at h';let(b,ys,rfl,l,k):=h';let(_,_,p,_):=e_ I l k;cases (show JeF z from f);exact(SeqAt.RcAt.int_tuple k1 i p c,SeqAt.RcNeAt.int_tuple k1 i p c)
  |lst es=>
   simp only[Has]at h';let(b,ys,rfl,l,k):=h';let(_,_,p,_):=fb I l k;cases (show JeF z from f);exact(SeqAt.RcAt.int_list k1 i p c,SeqAt.RcNeAt.int_list k1 i p c)
 | str k1 =>
  simp only[Has]at h;subst h;let(i,rfl):=r;cases e with
  |non=>
   simp only[Has]at h';subst h';cases (show GK z from f);exact(SeqAt.RcAt.str_none k1 i,SeqAt.RcNeAt.str_none k1 i)
  |bl k2=>
   simp only[Has]at h';subst h';cases (show Wx z k2 from f);exact(SeqAt.RcAt.str_bool k1 i k2,SeqAt.RcNeAt.str_bool k1 i k2)
  |int k2=>
   simp only[Has]at h';subst h';let(g,rfl):=f;exact(SeqAt.RcAt.str_int k1 i k2 g,SeqAt.RcNeAt.str_int k1 i k2 g)
  |str k2=>
   simp only[Has]at h';subst h';let(g,rfl):=f;exact(SeqAt.RcAt.str_str k1 i k2 g,SeqAt.RcNeAt.str_str k1 i k2 g)
  |tup es=>
   simp only[Has]at h';let(b,ys,rfl,l,k):=h';let(_,_,p,_):=e_ I l k;cases (show JeF z from f);exact(SeqAt.RcAt.str_tuple k1 i p c,SeqAt.RcNeAt.str_tuple k1 i p c)
  |lst es=>
   simp only[Has]at h';let(b,ys,rfl,l,k):=h';let(_,_,p,_):=fb I l k;cases (show JeF z from f);exact(SeqAt.RcAt.str_list k1 i p c,SeqAt.RcNeAt.str_list k1 i p c)
 | tup t =>
  simp only[Has]at h;let(a,xs,rfl,q,n):=h;cases (show Jf u a from r);let(_,_,p,_):=e_ I q n;let C:JnP t:=by simp only[dep]at B;rw[Around.in1_units];lia
  cases e with
  |non=>
   simp only[Has]at h';subst h';cases (show GK z from f);exact(SeqAt.RcAt.tuple_none p c,SeqAt.RcNeAt.tuple_none p c)
  |bl k2=>
   simp only[Has]at h';subst h';cases (show Wx z k2 from f);exact(SeqAt.RcAt.tuple_bool k2 p c,SeqAt.RcNeAt.tuple_bool k2 p c)
  |int k2=>
   simp only[Has]at h';subst h';let(g,rfl):=f;exact(SeqAt.RcAt.tuple_int k2 g p c,SeqAt.RcNeAt.tuple_int k2 g p c)
  |str k2=>
   simp only[Has]at h';subst h';let(g,rfl):=f;exact(SeqAt.RcAt.tuple_str k2 g p c,SeqAt.RcNeAt.tuple_str k2 g p c)
  |tup es=>
   simp only[Has]at h';let(b,ys,rfl,l,k):=h';cases (show JeF z from f);exact rcTT I q n l k c λus zs y x j u z E D=>kZ I t es xs ys us zs A.in1 n k y x C j u z E D
  |lst es=>
   simp only[Has]at h';let(b,ys,rfl,l,k):=h';cases (show JeF z from f);let(_,_,o,_):=fb I l k;exact(SeqAt.RcAt.tuple_list p o c,SeqAt.RcNeAt.tuple_list p o c)
 | lst t =>
  simp only[Has]at h;let(a,xs,rfl,q,n):=h;cases (show Jf u a from r);let(_,_,p,_):=fb I q n;let C:JnP t:=by simp only[dep]at B;rw[Around.in1_units];lia
  cases e with
  |non=>
   simp only[Has]at h';subst h';cases (show GK z from f);exact(SeqAt.RcAt.list_none p c,SeqAt.RcNeAt.list_none p c)
  |bl k2=>
   simp only[Has]at h';subst h';cases (show Wx z k2 from f);exact(SeqAt.RcAt.list_bool k2 p c,SeqAt.RcNeAt.list_bool k2 p c)
  |int k2=>
   simp only[Has]at h';subst h';let(g,rfl):=f;exact(SeqAt.RcAt.list_int k2 g p c,SeqAt.RcNeAt.list_int k2 g p c)
  |str k2=>
   simp only[Has]at h';subst h';let(g,rfl):=f;exact(SeqAt.RcAt.list_str k2 g p c,SeqAt.RcNeAt.list_str k2 g p c)
  |tup es=>
   simp only[Has]at h';let(b,ys,rfl,l,k):=h';cases (show JeF z from f);let(_,_,o,_):=e_ I l k;exact(SeqAt.RcAt.list_tuple p o c,SeqAt.RcNeAt.list_tuple p o c)
  |lst es=>
   simp only[Has]at h';let(b,ys,rfl,l,k):=h';cases (show JeF z from f);exact rcLL I q n l k c λus zs y x j u z E D=>kZ I t es xs ys us zs A.in1 n k y x C j u z E D
inductive rEqD (K):R2|m{x y H Q} d e:Jko d x->Jko e y->dep d<=60->Yo (peq d e) H->rEqD K x y H Q
inductive rNeD (K):R2|m{x y H Q} d e:Jko d x->Jko e y->dep d<=60->Yo (!peq d e) H->rNeD K x y H Q
def pS (g:JaG 64):Ym X .Eq (rEqD X.K):=by intro pins s σ H x y v u Q I b a h;let(d,e,f,c,i,q):=h;exact(rc_D I X.A d e x y v u f c b a (by lia)).1 _ _ _ _ (XE _ H I q)
def nH (g:JaG 64):Ym X .NotEq (rNeD X.K):=by intro pins s σ H x y v u Q I b a h;let(d,e,f,c,i,q):=h;exact(rc_D I X.A d e x y v u f c b a (by lia)).2 _ _ _ _ (XE _ H I q)
open Classical in
noncomputable def hitD (K:W.Frag) (H:Hp) (d:Dt) (u:Value):Bool:=decide (∃(v:V) (d':Dt),IH v/\Jkp d'/\JcL d' d)
open Classical in
def pU (I:Vm s){d d':Dt}{v:V}{u:Value}(r:IH v)(h:Jlv d' v):hitD X.K H d u=peq d' d:=by
 unfold hitD;cases e:peq d' d with
 |true=>exact dTq (v,d',r,h,e)
 |false=>
  apply dFq λh_=>?_;let(c,f,b,h',a):=h_;rw[b.inj r]at h';rw[Has.inj I _ _ _ h' h,e]at a;cases a
theorem k_ (I:Vm s){d:Dt}:∀{a:List Dt} {vs:List V} {us:List Value},JkH a vs->WD vs->us.any (JhZ H d)=a.any λd'=>peq d' d
 |[],vs,us,h,r=>by simp only[ar]at h;subst h;cases r;rfl
 |d'::a,vs,us,h,r=>by
  simp only[ar]at h;let(v,rs,rfl,f,e):=h;cases r with
  |cons c b=>rw[List.any_cons,List.any_cons,pU I c f,k_ I e b]
theorem jQ (I:Vm s){A:Around}{d:Dt}{x:V}{c:Value}(g:Jlv d x)(e:bn x c):∀{b:List Dt} {vs:List V} {us:List Value},JkH b vs->WD vs->XV (aD b)->∀u∈us,Jcd A u c (hitD X.K H d u)
 |[],vs,us,h,r,i,u,a=>by simp only[ar]at h;subst h;cases r;cases a
 | d' :: b,vs,us,h,r,i,u,a=>by
  simp only[ar]at h;let(v,rs,rfl,j,l):=h;simp only[aD]at i;cases r with
  |cons f k=>
   rcases List.mem_cons.mp a with rfl|a
   .rw[pU I f j];exact vh I d' d v x _ _ A j g f e (by lia)
   .exact jQ I g e l k (by lia) u a
inductive rInD (K)(neg:Bool):R2|m{x y H Q} p xs ds d:Xl y p->(JD p\/Q7 p)->VQ ds->Jko d x->JjK ds 60->Yo (if neg then !(ds.any λd'=>peq d' d) else ds.any λd'=>peq d' d) H->rInD K neg x y H Q
def vi (k:JaG 64):Ym X .In (rInD X.K false):=by
 intro pins s σ H x y v u Q I f i h;let(p,xs,j,d,rfl,b,hs,g,l,q):=h;cases i;let c:Xs (Jnb (aD j)):=by rw[Around.in1_units];lia
 rcases b with b|b
 .let(a,r,pl,hz):=I.list b;apply SeqAt.in_listAt _ pl.isList (λw e=>jQ I g f hs r c w (by simpa using e)) (XE _ H I ?_);rw[show a.toArray.any _=a.any (JhZ H d) by simp,k_ I hs r];exact q
 .let(a,r,pl,hz):=I.tuple b;apply SeqAt.in_tupleAt _ pl (λw e=>jQ I g f hs r c w (by simpa using e)) (XE _ H I ?_);rw[show a.toArray.any _=a.any (JhZ H d) by simp,k_ I hs r];exact q
def zx (k:JaG 64):Ym X .NotIn (rInD X.K true):=by
 intro pins s σ H x y v u Q I f i h;let(p,xs,j,d,rfl,b,hs,g,l,q):=h;cases i;let c:Xs (Jnb (aD j)):=by rw[Around.in1_units];lia
 rcases b with b|b
 .let(a,r,pl,hz):=I.list b;apply SeqAt.notIn_listAt _ pl.isList (λw e=>jQ I g f hs r c w (by simpa using e)) (XE _ H I ?_);rw[show a.toArray.any _=a.any (JhZ H d) by simp,k_ I hs r];exact q
 .let(a,r,pl,hz):=I.tuple b;apply SeqAt.notIn_tupleAt _ pl (λw e=>jQ I g f hs r c w (by simpa using e)) (XE _ H I ?_);rw[show a.toArray.any _=a.any (JhZ H d) by simp,k_ I hs r];exact q
inductive vj (K):V->List V->Hp->VK->Prop|m{x vs H Q} l xs ds y d j:Jis l (vs=[y]) (UL l) (VQ ds->Jko d y->JjK ds 60->(∃dj,ds[j]?=some dj/\JcL dj d)->(∀m dm,m<j->ds[m]?=some dm->Xx (peq dm d))->No (j:Nat) H->vj K x vs H Q)
def vk (Y:JaG 64):MtM X "list.index" (vj X.K):=by
 intro pins s σ H x vs v us Q I J L h;let(l,xs,p,y,d,j,rfl,rfl,S,hs,N,hd,(dj,G,R),B,q):=h;cases J;let(u,rfl,M):=L.one;let(z,a,n,r,Z,e):=I.lstM S;let E:=hs.length;let P:j<p.length:=(gEq G).1;let D:Xs (Jnb (aD p)):=by rw[Around.in1_units];lia
 let o:∀m (b:Jh0 m),∃k,p[m]?=some k/\hitD X.K H d a.toArray[m]=peq k d:=λm b=>by
  let f:m<p.length:=by rw[sAq]at b;lia
  let(w,c,i):=hs.getD (gG f);let(wv,W,U):=r.get c;let T:a.toArray[m]=wv:=by have:a[m]?=some wv:=W;simp only[List.getElem_toArray];rw[gG (by rw[sAq]at b;exact b)]at this;exact Option.some.inj this
  exact W7 (gG f) (by rw[T];exact pU I U i)
 let g:Jh0 j:=by rw[sAq];lia
 let t:(j:Int)<2^63-1:=by have:=sizeLine_eq;lia -ac
 apply call_meets F.slot_list_index (Jkq e) F.entry_list_index (F.args_list_index_2 _ _) (SeqAt.list_indexAt l a.toArray n none #[] u (JhZ H d) j g t ?_ ?_) (Id e ?_)
 .let(k,c,i):=o j g;rw[G]at c;cases c;rw[i,R]
 .intro m b C;let(k,c,i):=o m b;rw[i,B m k C c]
 .intro w O;exact jQ I N M hs r D w (by simpa using O)
 .exact Ji3 (j:Nat) H _ _ q
end
structure FB (P)(w)(K)(mg)(base)(CX:CXT)(k)(x)(f)(fd)(ps)(sp):Prop where
 ok:Xb P w K mg CX k f fd ps sp
 b:Uj fd ps
 kp:NW K f
 m:mg x=Ja f
def bsz (n)(h:Jt n):Ic n:=VR h
def hln (h:n<=200000):NE n:=by rw[sizeLine_eq];lia
def fc:PSs X ss (λx x x=>False):=λx x x x x x h=>h.elim
def gp (a:ag k A):XV 64:=a.units
def vl {ns:List Int}{i:Nat}{n:Int}(h:ns[i]?=some n):atI (ns.map V.int) (i:Int)=some (.int n):=ay (by rw[List.getElem?_map,h];rfl)
def bf {a:Type}{xs:List a}{i:Nat}{x:a}(h:xs[i]?=some x):xs.take (i+1)=xs.take i++[x]:=by rw[List.take_add_one,h];rfl
def aW (h:Gf p)(o):MU (Gk p o):=λb u q=>by rw[WM q h];exact q
def ap.upd (s:ap H0 H)(h:Jb3 l):ap H0 (Gk l o):=λb u q=>by rw[WM q h];exact s b u q
def ap.kt (s:Xd H):J4 H':=bj.of_same s
def ap.tup {K:W.Frag}{H H':Hp}{a:Addr}{xs:List V}(s:Xd H)(h:Q7 a):Jkm a xs:=s.kt.sq h
structure Wk (J:It)(n)(Ok:Hp->Prop):Prop where
 stop:∀i H,Ok H->n<=i->Jaz H
 go:∀i H,Ok H->i<n->JeV H
def vm {lo:Int}{n:Nat}:Wk (Itr lo n) n (λx=>True):=(λx x x h=>h,λx x x h=>h)
def cR {K:W.Frag}{a:Addr}{xs:List V}:Jc2 (Itl K a) (λH=>JD a):=(λx x h b=>(xs,h,b),λi x h b=>(xs,xs[i],h,by simp [b]))
def eJ {K:W.Frag}{a:Addr}{xs:List V}:Jc2 (Itt K a) (λH=>Q7 a):=(λx x h b=>(xs,h,b),λi x h b=>(xs,xs[i],h,by simp [b]))
def LcW (n:Nat)(D:Addr)(a:Nat->List V->Hp->Prop)(i m:Nat)(ys:List V)(H:Hp):Prop:=m=n-i/\i<=n/\JcW i/\Uo D ys/\a i ys H
def nI (n:Nat)(D:Addr)(c:Nat->List V->Hp->Prop)(i:Nat)(ys:List V):VK:=λy b=>Wa (b D) ys/\NE ys.length/\∃a,a<n-i/\LcW n D c (i+1) a (ys++[y]) (Qa b D (ys++[y]))
def vn (n:Nat)(D:Addr)(b:Nat->List V->Hp->Prop)(i:Nat)(ys:List V)(c:Hp):Prop:=∃a,a<n-i/\LcW n D b (i+1) a ys c
def cx (c:Ic n)(a:i<n)(d:JcW i)(b:Wa (H3 D) ys)(p:Pv (i+1) (ys++[y]) (Qa H3 D (ys++[y]))):nI n D Pv i ys y H3 :=
 (b,by lia,n-(i+1),by lia,rfl,a,by rw[lAq,lS];lia,ao,p)
def f_ (a:i<n)(c:JcW i)(b:Wa (H3 D) ys)(p:Pv (i+1) ys H3):vn n D Pv i ys H3 :=
 (n-(i+1),by lia,rfl,a,by lia,b,p)
def eK {J:It}{n:Nat}{k:Hp->Prop}{g:TE}{j:St}{o:Hp}{D:Addr}{R:Hp->Prop}(W:Wk J n k)(b)(c:∀i ys H,b i ys H->k H)(h0:b 0 [] (UC o D))
  (hs:∀i ys H' x a,i<n->JcW i->JgN D->b i ys H'->Ji5 a->g (Jau x j) a (nI n D b i ys))(r:∀ys H',JgN D->b n ys H'->R H'):
  ∃W:Nat->Nat->List V->Hp->Prop,(∃m,W 0 m [] (UC o D))/\∀i m ys H',W i m ys H'->JgN D/\
   ((JmK H' (R H'))\/(JeV H'/\∀x a,Ji5 a->g (Jau x j) a λy l=>Wa (l D) ys/\NE ys.length/\∃h,h<m/\W (i+1) h (ys++[y]) (Qa l D (ys++[y])))):=by
 apply Id (LcW n D b) (Qv n (Nat.zero_le _) (Nat.zero_le _) ao h0);rintro i m ys H' ⟨rfl,s,q,f,p⟩;apply Mm f;by_cases d:i<n
 .exact Yg (W.go i H' (c _ _ _ p) d) (λx a y=>hs i ys H' x a d q f p y)
 .let e:i=n:=by lia
  subst e;exact Uh (W.stop i H' (c _ _ _ p) (nRq _)) (r ys H' f p)
def gq {J:It}{n:Nat}{o:Hp→Prop}{tc:TT}{l:TE}{j:St}{r:Hp}{D:Addr}{R:Hp→Prop}(W:Wk J n o)(c)(f:∀i ys H,c i ys H→o H)(h0:c 0 [] (UC r D))
  (hs:∀i ys H' x a,i<n->JcW i->JgN D->c i ys H'->Ji5 a->tc (Jau x j) a λb h=>if Xh b then l (Jau x j) h (nI n D c i ys) else vn n D c i ys h)
  (t:∀ys H',JgN D->c n ys H'->R H'):
  ∃W:Nat->Nat->List V->Hp->Prop,(∃m,W 0 m [] (UC r D))/\∀i m ys H',W i m ys H'->JgN D/\
   ((JmK H' (R H'))∨(JeV H'∧∀x a,Ji5 a→tc (Jau x j) a λb h =>
    if Xh b then l (Jau x j) h λy q=>Wa (q D) ys/\NE ys.length/\∃d,d<m/\W (i+1) d (ys++[y]) (Qa q D (ys++[y]))
    else ∃d,d<m/\W (i+1) d ys h)):=by
 apply Id (LcW n D c) (Qv n (Nat.zero_le _) (Nat.zero_le _) ao h0);rintro i m ys H' ⟨rfl,u,s,k,p⟩;apply Mm k;by_cases g:i<n
 .exact Yg (W.go i H' (f _ _ _ p) g) (λx a y=>hs i ys H' x a g s k p y)
 .let e:i=n:=by lia
  subst e;exact Uh (W.stop i H' (f _ _ _ p) (nRq _)) (t ys H' k p)
def cL {J:It}{n:Nat}{o:Hp->Prop}{g:TG}{k:TS}{D:iZ}{a:St}{H:Hp}(W:Wk J n o)(b:Nat->St->Hp->Prop)(h:∀i a H,b i a H->o H)(h0:b 0 a H)
  (hs:∀i a H x H',i<n->b i a H->Ji4 H H'->g x a H' λc j=>k { D with nx:=b (i+1),ct:=b (i+1),bk:=D.nx } c j)(r:∀a H,b n a H->JkM H):
  ∃W:Nat->Nat->St->Hp->Prop,(∃m,W 0 m a H)/\∀i m a H,W i m a H->
   (JmK H (JkM H))\/(JeV H/\∃N:St->Hp->Prop,(∀d H',N d H'->∃l,l<m/\W (i+1) l d H')/\∀x H',Ji4 H H'->g x a H' λc j=>k { D with nx:=N,ct:=N,bk:=D.nx } c j):=by
 apply Id (λi m a H=>m=n-i/\i<=n/\b i a H) (JhJ n _ h0);rintro i m a H ⟨rfl,s,p⟩;by_cases f:i<n
 .exact NG (W.go i H (h _ _ _ p) f) (b _) (λd H' q=>Gn (n-(i+1)) (by lia) f q) (λx H' y=>hs i a H x H' f p y)
 .let e:i=n:=by lia
  subst e;exact Uh (W.stop i H (h _ _ _ p) (nRq _)) (r a H p)
def Has.int {K:W.Frag}{H:Hp}{i:Int}:Jko (.int i) (.int i):=by simp only[Has]
def ar.nil {K:W.Frag}{H:Hp}:Xu [] []:=by simp only[ar]
def ar.cons {K:W.Frag}{H:Hp}{d:Dt}{a:List Dt}{v:V}{vs:List V}(h:Jkp d)(r:Xu a vs):Xu (d::a) (v::vs):=by simp only[ar];exact Gn v vs h r
def Has.tup' {K:W.Frag}{H:Hp}{b:List Dt}{a:Addr}{xs:List V}(h:Q7 a)(r:VQ b):JU K (.tup b) a:=by simp only[Has];exact Gn a xs h r
def Has.lst' {K:W.Frag}{H:Hp}{b:List Dt}{a:Addr}{xs:List V}(h:JD a)(r:VQ b):JU K (.lst b) a:=by simp only[Has];exact Gn a xs h r
theorem ji {K:W.Frag}{H:Hp}:∀{ns:List Int} {vs:List V},JjV (ns.map Dt.int) vs (vs=ns.map V.int)
 |[],vs,h=>by simp only[List.map_nil,ar]at h;rw[h];rfl
 |n::ns,vs,h=>by simp only[List.map_cons,ar]at h;let(v,r,rfl,a,b):=h;simp only[Has]at a;rw[a,ji b];rfl
noncomputable def dP (t:Iz Int):Dt:=Jcv t.1 t.2
def has_dP {K:W.Frag}{H:Hp}{t:Int×Int}{v:V}(h:Jkp (dP t)):∃p,Xl v p/\SqT K H p (Qr t.1 t.2):=by unfold dP at h;simp only[Has]at h;let(a,xs,rfl,hs,b):=h;let e:=ji (ns:=[t.1,t.2]) b;rw[e]at hs;exact Nc a hs
def of_dP {K:W.Frag}{H:Hp}{t:Int×Int}{p:Addr}(h:Nw p (Qr t.1 t.2)):JU K (dP t) p:=Jiy (WL .int .int)
theorem cu:∀ts:Wl Int,WU (ts.map dP)
 |[]=>by simp [a_]
 |t::ts=>by simp only[List.map_cons,a_,dP,nol,Bool.true_and];exact cu ts
def gS {K:W.Frag}{H:Hp}{ts:List (Iz Int)}{xs:List V}{i:Nat}{x:V}(h:Jnm dP)(e:xs[i]?=some x):∃t p,ts[i]?=some t/\YK p/\SqT K H p (Qr t.1 t.2):=by
 let(d,a,c):=h.get e;rw[List.getElem?_map]at a;cases q:ts[i]? with
 |none=>rw[q]at a;cases a
 |some t=>
  rw[q]at a;cases a;let(p,rfl,b):=has_dP c;exact Jlk t p b
end L2
namespace PySem
open Sem (wp)
namespace F
def entry_dict_update_loop:entryFor table "dict.update.loop"=some Builtin.«dict.update.loop»:=entryFor_of_tree (by kernel_rfl)
def plain_dict_update_loop:Xh (plainId "dict.update.loop"):=by decide +kernel
def miss_list_keys:XD "list" "keys"=pure none:=by rw[typeLookup_type,builtinLookup_eq_fast];kernel_rfl
end F
theorem zy
  (hx:s.heap.get? a=some o)(hc:o.cls=.type "list")(hdat:JhP xs k)(hd:Uf o.dict)(hmiss:JcB (XD "list" name) none)(hname:(["__module__","__name__","__qualname__","__doc__","__annotations__"]:List Str).contains name=false)(hA:Uf A.handled)
  (h:∀h' tk e,Heap.NewExcOf s.heap h' e "AttributeError"->Q none { s with heap:=h',toks:=tk })(hsz:Ic (name.length+100):=by size_fits):
  wpAny (Ik w) A (getAttr? (.ref a) name) Q E s:=by
 let(c,dct,dat,sl):=o;simp only at hc hdat hd;subst hc hdat hd;let(hp,g,d,tk,os):=s;let hT:∀tk',((hp,g,d,tk',os):Shared).TypeIs (.ref a) "list":=λx=>Jkq hx;let f1:=sub_AttributeError;let f3:=F.slot_list_getattribute.lookup;let f4:=F.slot_list_getattribute.bind (.ref a);let f5:=am_list_getattr_none;unfold getAttr? getAttrBy? getAttrBy
 repeat (any_goals (first|assumption|exact hT _|((with_reducible show wpAny _ _ (call (Value.builtin "list.__getattribute__") _ _) _ _ _);apply call_meets F.slot_list_getattribute (hT _) am_entry_list_getattribute (F.args_list_getattribute_2 _ _) (meets_getattribute_miss_list a xs k sl name _ hmiss hname hsz) (hx,hA,λh' tk' e hx'=>?_))|wp_step))
 let(t',u',he):=hx'.there;unfold getattributeRaised
 repeat (any_goals (first|assumption|wp_step))
 exact h _ _ _ hx'.of
section
variable {prog:Program} {w:World} {K:Type} [DecidableEq K] {knd:KeyKind prog w K} {A:Around}
noncomputable def zcH (ks:Nat->K)(vals:Nat->Value)(n:Nat):Jf_ K:=(List.range n).foldl (λacc j=>stored acc (ks j) (vals j)) []
def pV (ks:Nat->K)(vals)(n):Ji8 (n+1)=stored (Ji8 n) (ks n) (vals n):=by unfold zcH;rw[List.range_succ,List.foldl_append];rfl
def zz (kvs)(k:K)(v):(stored kvs k v).length<=Jbr 1:=by
 unfold stored;split
 .rw[lM];lia
 .rw[lAq];simp
theorem pW (ks:Nat->K)(vals):∀n,(Ji8 n).length<=n
 |0=>nRq _
 |n+1=>by rw[pV];have:=zz (Ji8 n) (ks n) (vals n);have:=pW ks vals n;lia
def zA {R:Result->Shared->Prop}{h0:Heap}{l it d:Addr}{items:Array Value}{Ts:Nat->Addr}{keys vals:Nat->Value}{ks:Nat->K}{q:Value}(T:Uf A.handled)(Q:h0.IsList l items)(C:l≠it)(D:l≠d)(g:d≠it)(hsz:Ic items.size)
  (S:∀i,i<items.size->items[i]?=Ja (Ts i)/\h0.IsTuple (Ts i) #[keys i,vals i]/\Xh (knd.is (ks i) (keys i))/\Ts i≠it/\Ts i≠d):
  ∀k i s,items.size-i=k->i<=items.size->s.heap.IsListIter it l i->(∀b o,b≠it->b≠d->h0.get? b=some o->s.heap.get? b=some o)->s.heap.DictOf knd d (Ji8 i)->
   (∀h' tk,(∀b o,b≠it->b≠d->h0.get? b=some o->h'.get? b=some o)->h'.DictOf knd d (Ji8 items.size)->Jkt q { s with heap:=h',toks:=tk })->
   codeAny (Ik w) A (Wz "dict.update.loop" [.ref d,.ref it,rawInt i,q] []) R s:=by
 let lst:∀h:Heap,(∀b o,b≠it->b≠d->h0.get? b=some o->h.get? b=some o)->h.IsList l items:=λh E=>by let(o,z,r):=Q;exact J8 (E _ _ C D z) r
 intro k
 induction k with
 |zero=>
  intro i s E G f a L H;let e:i=items.size:=by lia
  subst e;apply Wn F.entry_dict_update_loop;rw[Jl F.plain_dict_update_loop];apply wpAny_bind (wpAny_pyNext_list_end (by simpa using T) f (lst _ a) (by simp) λh' N=>?_);apply Ui (wpAny_pure ?_);exact H h' s.toks (λb o p n j=>N b o p (a b o p n j)) (L.extBut N g)
 |succ k O=>
  intro i s E G f a L H;let B:i<items.size:=by lia
  let(e1,e2,e3,e4,Z):=S i B;apply Wn F.entry_dict_update_loop;rw[Jl F.plain_dict_update_loop];apply wpAny_bind (wpAny_pyNext_list_item f (lst _ a) e1 λh' v hs'=>?_);let c:∀b o,b≠it->b≠d->h0.get? b=some o->h'.get? b=some o:=λb o p n j=>(hs'.2 b p).trans (a b o p n j);let J:=L.sameBut hs' g;let(ot,P,y,nt,x):=id e2;let t:=c _ _ e4 Z P;let U:({ s with heap:=h' }:Shared).TypeIs (.ref (Ts i)) "tuple":=W7 t y;apply Vl (Vz ?_);apply VC U ?_;rw[if_pos (by decide)];apply Gg t x (wpAny_pure ?_);let M:=pW ks vals i;apply wpAny_holding (wpAny_dictSet_pairs e3 J (λn I u=>?_) (by lia));apply wpAny_pure (Mm (Vv F.plain_dict_update_loop));let Y:rawInt ((i:Int)+1)=rawInt (i+1:Int):=by rfl
  rw[Y];apply O _ _ (by lia) (by lia) ?_ ?_ ?_ ?_
  .let(o,z,r):=v;exact J8 ((u.2 it g.symm).trans z) r
  .exact λb o p n j=>(u.2 b n).trans (c b o p n j)
  .rw[pV];exact I
  .exact λj tk X W=>H j tk X W
def zB {E:Value->Shared->Prop}{s:Shared}{l:Addr}{o:Obj}{items:Array Value}{n:Nat}{Ts:Nat->Addr}{keys vals:Nat->Value}{ks:Nat->K}{Q:Value->Shared->Prop}(D:Uf A.handled)
  (x:s.heap.get? l=some o)(y:o.cls=.type "list")(N:Uf o.dict)(j:JhP items n)(hsz:Ic items.size)
  (M:∀i,i<items.size->items[i]?=Ja (Ts i)/\s.heap.IsTuple (Ts i) #[keys i,vals i]/\Xh (knd.is (ks i) (keys i)))
  (h:∀h' tk,(∀b o,s.heap.get? b=some o->h'.get? b=some o)->Iq (h'.DictOf knd s.heap.objs.size (Ji8 items.size)) s.heap.objs.size { s with heap:=h',toks:=tk }):
  wpAny (Ik w) A (JfW "dict" (Gj l)) Q E s:=by
 apply callType_codes (Q₁:=λu k=>Xl u s.heap.objs.size/\k={ s with heap:=s.heap.push { cls:=.type "dict",data:=.dict #[] } }) F.kt_called_dict (F.kt_typeCall_dict_1 _) F.entry_dict_init (kt_code_dict_new _ (Ye rfl)) ?_;rintro u k ⟨rfl,rfl⟩;let g:(s.heap.push { cls:=.type "dict",data:=.dict #[] }).DictOf knd s.heap.objs.size []:=Heap.DictOf.new s.heap;let q:(s.heap.push { cls:=.type "dict",data:=.dict #[] }).get? l=some o:=Xz x;let O:({ s with heap:=s.heap.push { cls:=.type "dict",data:=.dict #[] } }:Shared).TypeIs (.ref l) "list":=W7 q y;apply Id g.typeIs (F.args_dict_init_2 _ _);apply wpAny_bind ?_;apply wpAny_bind (wpAny_notOrdered_dict g.typeIs ?_);apply wpAny_pure ?_;show V5 (Builtin.Dict.updateFrom "dict.__init__" s.heap.objs.size (.ref l) [] .none) _;apply VC O ?_;rw[if_pos (by decide)];apply wpAny_bind (zy q y j N F.miss_list_keys (by decide +kernel) (by simpa using D) λp G e J=>?_);rw[if_pos (show(none:Option Value).isNone=true from rfl)];let k1:=J.keeps;apply Jo ?_;let B:p.IsList l items:=(o,k1 _ _ q,y,n,j);apply wpAny_bind (GJ B);apply wpAny_pure (Mm (Vv F.plain_dict_update_loop));let t:=hLq (k1 _ _ (Heap.get?_push_size _ rfl));let C:p.DictOf knd s.heap.objs.size []:=by let(I,es,ep,v,r):=g;exact(I,es,ep,k1 _ _ v,r)
 let f:∀b c,s.heap.get? b=some c->(p.push { cls:=.type "list_iterator",data:=.fields #[.ref l,Jiz 0] }).get? b=some c:=λb c e=>Xz (k1 _ _ (Xz e));let a:∀b c,s.heap.get? b=some c->b≠p.objs.size/\VS b:=λb c e=>by have:=hLq e;exact(Nat.ne_of_lt (Nat.lt_trans this t),Nat.ne_of_lt this)
 apply zA (knd:=knd) (items:=items) (Ts:=Ts) (keys:=keys) (vals:=vals) (ks:=ks) (by simpa using D) ?_ (a _ _ x).1 (a _ _ x).2 (Nat.ne_of_lt t) hsz ?_ items.size 0 _ (by lia) (Nat.zero_le _) ?_ (λm m m m e=>e) (C.push _) ?_
 .exact(o,f _ _ x,y,n,j)
 .intro i z;let(S,(H,v,r),R):=M i z;exact(S,(H,f _ _ v,r),R,(a _ _ v).1,(a _ _ v).2)
 .exact M_ _ (Heap.get?_push_size _ rfl)
 .intro h' tk L P;exact GM (h h' tk (λb c e=>L b c (a _ _ e).1 (a _ _ e).2 (f _ _ e)) P)
end
end PySem
namespace L2
open PySem PySem.Spec PyProof.Rows
section
variable [DecidableEq κ]
noncomputable def br (kvs:WT κ)(k:κ):Option V:=(kvs.find? λa=>decide (a.1=k)).map (·.2)
noncomputable def zaz (kvs:WT κ)(k:κ)(v:V):WT κ :=
 if Xh (kvs.any λa=>decide (a.1=k)) then kvs.map (λa=>if a.1=k then(a.1,v,) else a) else kvs++[(k,v,)]
noncomputable def zbP (kvs:WT κ)(k:κ):WT κ:=kvs.filter λa=>decide (a.1≠k)
def zC:Uf (br ([]:WT κ) k):=rfl
def eM {p:κ×V}{r:List (κ×V)}{k:κ}(e:p.1=k):br (p::r) k=some p.2:=by simp [br,List.find?_cons,e]
def eC {p:κ×V}{r:List (κ×V)}{k:κ}(e:¬p.1=k):br (p::r) k=br r k:=by simp [br,List.find?_cons,e]
theorem gU (k:κ):∀kvs:WT κ,(kvs.any λa=>decide (a.1=k))=(Ja3 k).isSome
 |[]=>rfl
 |p::r=>by
  rw[List.any_cons];by_cases e:p.1=k
  .simp only[eM e,dTq e,Bool.true_or,Option.isSome_some]
  .rw[eC e,dFq e,Bool.false_or];exact gU k r
theorem vo (k j:κ)(y):∀kvs:WT κ,br (kvs.map λa=>if a.1=k then(a.1,y,) else a) j=(Ja3 j).map λx=>if j=k then y else x
 |[]=>rfl
 | p :: r=>by
  let b:=vo k j y r;rw[List.map_cons];by_cases h:p.1=k
  .rw[if_pos h];by_cases e:p.1=j
   .rw[eM (p:=(p.1,y,)) e,eM e,Option.map_some,if_pos (e.symm.trans h)]
   .rw[eC (p:=(p.1,y,)) e,eC e,b]
  .rw[if_neg h];by_cases e:p.1=j
   .rw[eM e,eM e,Option.map_some,if_neg (λz=>h (e.trans z))]
   .rw[eC e,eC e,b]
theorem vp (k j:κ)(y):∀kvs:WT κ,Uf (Ja3 k)->br (kvs++[(k,y,)]) j=if j=k then some y else Ja3 j
 |[],_=>by
  by_cases e:k=j
  .rw[if_pos e.symm];exact eM e
  .rw[if_neg (λz=>e z.symm)];exact eC e
 |p::r,a=>by
  rw[List.cons_append];let b:¬p.1=k:=λz=>by rw[eM z]at a;cases a
  rw[eC b]at a;let c:=vp k j y r a;by_cases e:p.1=j
  .rw[eM e,eM e,if_neg (λz=>b (e.trans z))]
  .rw[eC e,eC e,c]
def gW (kvs)(k j:κ)(y):br (YL k y) j=if j=k then some y else br kvs j:=by
 unfold zaz;by_cases a:Xh (kvs.any λb=>decide (b.1=k))
 .rw[if_pos a,vo];rw[gU]at a;by_cases e:j=k
  .let(x,c):=Option.isSome_iff_exists.mp a;rw[if_pos e,e,c,Option.map_some,if_pos rfl]
  .rw[if_neg e];cases br kvs j with
   |none=>rfl
   |some x=>rw[Option.map_some,if_neg e]
 .rw[if_neg a];apply vp k j y kvs ?_;rw[gU]at a;cases q:Ja3 k with
  |none=>rfl
  |some x=>rw[q]at a;exact(a rfl).elim
def lu (kvs)(k:κ)(v):(YL k v).length<=Jbr 1:=by
 unfold zaz;split
 .rw[lM];lia
 .rw[lAq,List.length_cons,List.length_nil];lia
def cS.isSome_eq (r:cS o u):o.isSome=u.isSome:=by
 cases o with
 |none=>cases u with
  |none=>rfl
  |some _=>exact(show False from r).elim
 |some _=>cases u with
  |none=>exact(show False from r).elim
  |some _=>rfl
def cS.getD (r:cS o u)(a:bn d d'):bn (o.getD d) (u.getD d'):=by
 cases o with
 |none=>cases u with
  |none=>exact a
  |some _=>exact(show False from r).elim
 |some _=>cases u with
  |none=>exact(show False from r).elim
  |some _=>exact r
def KV.val {kvs:List (κ×V)}{vs:List (κ×Value)}(r:JcT vs)(k:κ):cS (Ja3 k) (valueAt vs k):=by
 induction r with
 |nil=>exact True.intro
 | @cons p q ps a h t f =>
  let(d,g):=h;by_cases e:p.1=k
  .let c:=d.symm.trans e;let b:valueAt (q :: a) k=some q.2:=by simp [valueAt,List.find?_cons,c]
   rw[eM e,b];exact g
  .let c:¬q.1=k:=λz=>e (d.trans z);let b:valueAt (q :: a) k=valueAt a k:=by simp [valueAt,List.find?_cons,c]
   rw[eC e,b];exact f
def KV.any (r:JcT vs)(k:κ):(kvs.any λa=>decide (a.1=k))=vs.any λa=>decide (a.1=k):=by
 induction r with
 |nil=>rfl
 |cons h t b=>rw[List.any_cons,List.any_cons,b,h.1]
def KV.repl (r:JcT vs)(k:κ){y:V}{u:Value}(c:IH y):
  KV (kvs.map λa=>if a.1=k then(a.1,y,) else a) (vs.map λa=>if a.1=k then(a.1,u,) else a):=by
 induction r with
 |nil=>exact .nil
 | @cons p q ps g h t d=>
  rw[List.map_cons,List.map_cons];apply Jjo d;let(b,f):=h;by_cases e:p.1=k
  .rw[if_pos e,if_pos (b.symm.trans e)];exact(b,c)
  .rw[if_neg e,if_neg (λz=>e (b.trans z))];exact(b,f)
def KV.put (r:JcT vs)(k:κ){y:V}{u:Value}(a:IH y):KV (YL k y) (stored vs k u):=by
 unfold zaz stored;rw[r.any k];by_cases e:Xh (vs.any λb=>decide (b.1=k))
 .rw[if_pos e,if_pos e];exact r.repl k a
 .rw[if_neg e,if_neg e];exact Paired.snoc r (GM a)
def KV.drop (r:JcT vs)(k:κ):KV (JmW k) (without vs k):=by
 unfold zbP without
 induction r with
 |nil=>exact .nil
 | @cons p q ps i h t d =>
  let(c,f):=h;rw[List.filter_cons,List.filter_cons];by_cases e:p.1=k
  .let a:¬decide (p.1≠k)=true:=by simp [e]
   let b:¬decide (q.1≠k)=true:=by simp [c.symm.trans e]
   rw[if_neg a,if_neg b];exact d
  .let g:¬q.1=k:=λz=>e (c.trans z);let a:decide (p.1≠k)=true:=by simp [e]
   let b:decide (q.1≠k)=true:=by simp [g]
   rw[if_pos a,if_pos b];exact .cons (c,f) d
def KV.keys {kvs:List (κ×V)}{vs:List (κ×Value)}(r:JcT vs):kvs.map (·.1)=vs.map (·.1):=by
 induction r with
 |nil=>rfl
 |cons h t a=>rw[List.map_cons,List.map_cons,a,h.1]
def KV.length (r:JcT vs):kvs.length=vs.length:=Paired.length r
def zD (kvs)(k:κ):(JmW k).length<=kvs.length:=YE _
end
def gX (r:IH (kV k)):(JkJ P).is k u=true:=by
 cases k with
 |inl i=>obtain⟨t,e⟩:=(show ∃t,u=YO i from r);subst e;exact ym P w i t
 |inr x=>obtain⟨t,e⟩:=(show ∃t,u=Jbl x from r);subst e;exact mX P w x t
theorem pX:∀{ks:List Key} {us:List Value},WD (ks.map kV)->ItemsAre (JkJ P) ks us
 |[],_,r=>by rw[List.map_nil]at r;cases r;exact .nil
 |k::ks,_,r=>by
  rw[List.map_cons]at r;cases r with
  |cons h t=>exact .cons (gX h) (pX t)
abbrev KT (H:Hp):WT (List Key)->Qb (List Key) (IL Value)->Prop:=Paired λp q=>p.1=q.1/\MB q.2.1 (p.1.map kV)/\bn p.2 q.2.2
def KT.val {H:Hp}{kvs:List (Jbd Key V)}{xs:List (Jbd Key (IL Value))}(r:KT H kvs xs)(k):cS (Ja3 k) ((JaI xs).map (·.2)):=by
 induction r with
 |nil=>exact True.intro
 | @cons p q ps a h t f =>
  let(d,_,g):=h;by_cases e:p.1=k
  .let c:=d.symm.trans e;let b:JaI (q :: a)=some q.2:=by simp [atKey,List.find?_cons,c]
   rw[eM e,b];exact g
  .let c:¬q.1=k:=λz=>e (d.trans z);let b:JaI (q :: a)=atKey a k:=by simp [atKey,List.find?_cons,c]
   rw[eC e,b];exact f
def KT.repl (r:KT H kvs xs)(k){y:V}{u:Value}(d:IH y):
  KT H (kvs.map λb=>if b.1=k then(b.1,y,) else b) (xs.map (putAt k u)):=by
 induction r with
 |nil=>exact .nil
 | @cons p q ps i h t f=>
  rw[List.map_cons,List.map_cons];apply Jjo f;let(a,c,g):=h;unfold putAt;by_cases e:p.1=k
  .rw[if_pos e,if_pos (a.symm.trans e)];exact(a,c,d)
  .rw[if_neg e,if_neg (λz=>e (a.trans z))];exact(a,c,g)
def KT.put (r:KT H kvs xs)(k){b:Addr}{y:V}{u:Value}(d:JfF b kV)(a:IH y):
  KT H (YL k y) (storedH xs k b u):=by
 let e:(kvs.any λc=>decide (c.1=k))=(JaI xs).isSome:=by rw[gU,(r.val k).isSome_eq,Option.isSome_map]
 unfold zaz storedH;rw[e];by_cases q:(JaI xs).isSome=true
 .rw[if_pos q,if_pos q];exact r.repl k a
 .rw[if_neg q,if_neg q];exact Paired.snoc r (rfl,d,a)
def KT.keeps (r:KT H kvs xs)(a:∀b ys,MB b ys->Vw b ys):KT H' kvs xs :=
 Paired.mapP r λx x z=>(z.1,a _ _ z.2.1,z.2.2)
def rd_of (b:Jkz h)(e:Rd H a u):bJ P w H h a u:=e.ok b
def jk (b:Jkz h)(e:Rd H a (.dK kvs)):Ic kvs.length/\Xx (a==sysModules)/\∃vs,JcT vs/\h.DictOf (JkJ P) a vs :=
 show bJ P w H h a _ from rd_of b e
def iw (b:Jkz h)(e:JY a):Ic kvs.length/\Xx (a==sysModules)/\∃vs,JcT vs/\h.DictOf (JkJ P) a vs:=jk b (.inl e)
def jR (d:Jkz h)(e:MB a (ks.map kV)):(N7 P w).is h ks a:=by let(_,b,r,o,g,c,n,f):=(show bJ P w H h a _ from d a _ e);replace c:=(Prod.mk.inj c).1;exact(o,b.toArray,n,g,c,f,by simpa using pX r)
def jm (d:Jkz h)(e:Rd H a (.dT kvs)):Ic kvs.length/\Xx (a==sysModules)/\
  ∃xs,KT H kvs xs/\h.DictOfH (N7 P w) a xs:=by
 let(z,y,xs,r,o,es,ep,s,n,k,j,i):=(show bJ P w H h a (.dT kvs) from rd_of d e);apply(z,y,xs,r,o,es,ep,s,n,k,j,λx b=>?_,i);let c:∀{l:List _} {m:List _},KT H l m->∀x∈m,(N7 P w).is h x.1 x.2.1:=by
  intro l m q
  induction q with
  |nil=>intro x b;exact nomatch b
  | @cons p q ps u f t g=>
   intro x b;rcases List.mem_cons.mp b with e|b
   .subst e;exact jR d (by rw[<-f.1];exact f.2.1)
   .exact g x b
 exact c r x b
def dt_of (b:Jkz h)(e:JnN a):Ic kvs.length/\Xx (a==sysModules)/\
  ∃xs,KT H kvs xs/\h.DictOfH (N7 P w) a xs:=jm b (.inl e)
def bV (H:Hp)(a:Addr)(y:V)(r:Option V):Prop :=
 (∃kvs k,Rd H a (.dK kvs)/\y=kV k/\r=Ja3 k)\/∃kvs k b,Rd H a (.dT kvs)/\Xl y b/\JfF b kV/\r=Ja3 k
def fe (H:Hp)(a:Addr)(y v:V)(H':Hp):Prop :=
 (∃kvs k,JY a/\y=kV k/\NE kvs.length/\H'=Qc H a (YL k v)) \/
 ∃kvs k b,JnN a/\Xl y b/\JfF b kV/\NE kvs.length/\H'=JfC (.dT (YL k v))
def bV.k {H:Hp}{a:Addr}{kvs:List (Jce V)}{k:Key}(e:JY a):bV H a (kV k) (Ja3 k):=.inl (Jh kvs k (.inl e) rfl)
def bV.t {H:Hp}{a b:Addr}{kvs:List (Jbd Key V)}{k:List Key}(e:JnN a)(eb:JfF b kV):bV H a (.ref b) (Ja3 k):=.inr (kvs,k,b,.inl e,rfl,eb,rfl)
def fe.k {H:Hp}{a:Addr}{kvs:List (Jce V)}{k:Key}{v:V}(e:JY a)(b:NE kvs.length):fe H a (kV k) v (Qc H a (YL k v)):=JaJ kvs k e rfl b rfl
def fe.t {H:Hp}{a b:Addr}{kvs:List (Jbd Key V)}{k:List Key}{v:V}(e:JnN a)(eb:JfF b kV)(c:NE kvs.length):
  fe H a (.ref b) v (JfC (.dT (YL k v))):=.inr (kvs,k,b,e,rfl,eb,c,rfl)
def Inv.big (I:Vm s):Ml sysModules:=by let h:=(I.mod.glob.keeps I.bk).lt;exact Nat.lt_trans (by decide) h
def zE (t:XV 1)(I:Vm s)(g:bV H a y (some v))(q:IH y)(h:∀f s',Vm s'->bn v f->Q f s'):
  wpAny (Qh X.w) A (Jjk a u) Q E s:=by
 rcases g with ⟨kvs,k,e,n,l⟩|⟨kvs,k,b,e,n,eb,l⟩
 .subst n;let(z,B,vs,d,dd):=JfX e;let(f,i,c):=cS.some_of (by rw[l];exact d.val k);exact wpAny_getItem_of (gX q) dd.mapOf i (JmT f _ _ c)
 .subst n;cases (show JeF u from q);let(z,B,xs,d,dd):=JfY e;let(f,i,c):=cS.some_of (by rw[l];exact d.val k);let(p,x,j):=Option.map_eq_some_iff.mp i;apply wpAny_getItem_heap (tupleKind_room_in1 t) (Jjp eb) dd x ?_;rw[j];exact JmT f _ _ c
def d_in (j:XV 1)(I:Vm s)(g:bV H a y o)(i:IH y)(h:∀s',Vm s'->JmS o.isSome s'):
  wpAny (Qh X.w) A (compareOp .In u (.ref a)) Q E s:=by
 rcases g with ⟨kvs,k,e,f,l⟩|⟨kvs,k,b,e,f,eb,l⟩
 .subst f;let(z,d,vs,c,dd):=JfX e;apply wpAny_in_of (gX i) d dd.mapOf ?_;rw[<-(c.val k).isSome_eq,<-l];exact JmX _ _
 .subst f;cases (show JeF u from i);let(z,d,xs,c,dd):=JfY e;apply wpAny_in_heap (tupleKind_room_in1 j) (Jjp eb) d dd ?_;let q:=(c.val k).isSome_eq;rw[Option.isSome_map]at q;rw[<-q,<-l];exact JmX _ _
def zF (j:XV 1)(I:Vm s)(g:bV H a y o)(i:IH y)(h:∀s',Vm s'->JmS (!o.isSome) s'):
  wpAny (Qh X.w) A (compareOp .NotIn u (.ref a)) Q E s:=by
 rcases g with ⟨kvs,k,e,f,l⟩|⟨kvs,k,b,e,f,eb,l⟩
 .subst f;let(z,d,vs,c,dd):=JfX e;apply wpAny_notIn_of (gX i) d dd.mapOf ?_;rw[<-(c.val k).isSome_eq,<-l];exact JmX _ _
 .subst f;cases (show JeF u from i);let(z,d,xs,c,dd):=JfY e;apply wpAny_notIn_heap (tupleKind_room_in1 j) (Jjp eb) d dd ?_;let q:=(c.val k).isSome_eq;rw[Option.isSome_map]at q;rw[<-q,<-l];exact JmX _ _
def jn (I:Vm s)(d:Jmc a)(hs:Jba a)(f:∃q,h'.get? a=some q)(c:WR (JfC ob) h' a ob):
  Inv X pins σ (JfC ob) { s with heap:=h',toks:=t' } :=
 I.write d (.inl rfl) (λb q g z=>(hs.2 b g).trans z) f c
def jS (z:Ic kvs.length)(c:Xx (a==sysModules))(b:JcT vs)(dd:h'.DictOf (JkJ P) a vs):
  bJ P w H' h' a (.dK kvs):=(z,c,vs,b,dd)
def zG (D:XV 1)(I:Vm s)(g:fe H a y v H')(x:IH y)(B:bn v r)(h:∀s',Qk H' s'->Q () s'):
  wpAny (Qh X.w) A (setItem (.ref a) u r) Q E s:=by
 rcases g with ⟨kvs,k,e,p,l,t⟩|⟨kvs,k,b,e,p,eb,l,t⟩
 .subst p t;let(z,n,vs,d,dd):=JdM e;let hz:Ic vs.length:=by rw[←d.length];exact z
  let j:(YL k v).length<=sizeLine:=by have:=lu kvs k v;lia
  apply wpAny_setItem_pairs (hsz:=hz) (gX x) dd λh' f hs=>h _ ?_;let F:∃q,h'.get? a=some q:=let (q,_,_,i,_):=f;(q,i);exact jn I (by rw[e];exact True.intro) hs F (jS j n (d.put k B) f)
 .subst p t;cases (show JeF u from x);let(z,n,xs,d,dd):=dt_of I.hok e;let hz:Ic xs.length:=by rw[←Paired.length d];exact z
  let j:(YL k v).length<=sizeLine:=by have:=lu kvs k v;lia
  apply wpAny_setItem_heap (hsz:=hz) (tupleKind_room_in1 D) (Jjp eb) dd λh' f hs=>h _ ?_;let(q,es,ep,i,L,K,J,_,G):=f;apply jn I (by rw[e];exact True.intro) hs (q,i) (j,n,_,(d.put k eb B).keeps λc ys C=>?_,q,es,ep,i,L,K,J,G);rw[Jmf C e (λz=>nomatch z)];exact C
def d_pop (I:Vm s)(e:JY a)(f:IH (kV k))(l:Xa (Ja3 k) v)(j:more=[]\/∃x,more=[x])
  (h:∀c s',Qk (Qc H a (JmW k)) s'->bn v c->Q c s'):Nv A (JR "dict.pop" (N3 a (u::more))) Q E s:=by
 let(z,y,vs,b,dd):=JdM e;let(c,n,g):=cS.some_of (by rw[<-l];exact b.val k);let p:(keyPart u).isSome=true:=by
  cases k with
  |inl i=>obtain⟨t,q⟩:=(show ∃t,u=YO i from f);subst q;rfl
  |inr x=>obtain⟨t,q⟩:=(show ∃t,u=Jbl x from f);subst q;rfl
 let B:argsOk "dict.pop" (WX (N3 a (u::more))):=by
  rcases j with q|⟨x,q⟩
  .subst q;exact PySem.F.args_dict_pop_2 _ _
  .subst q;exact PySem.F.args_dict_pop_3 _ _ _
 apply call_meetsIn PySem.F.slot_dict_pop dd.typeIs PySem.F.entry_dict_pop B (meets_dict_pop_there (Jcf X.w) a (gX f) more j p)
  (vs,c,dd,by rw[<-b.length];exact z,n,λh' d hs=>h c _ ?_ g)
 let r:∃q,h'.get? a=some q:=let (q,_,_,hq,_):=d;(q,hq);exact jn I (by rw[e];exact True.intro) hs r (jS (Nat.le_trans (zD kvs k) z) y (b.drop k) d)
def NoSl (i:Expr):Prop:=∀a b,JhW i a b=Jgx [a,b] a b
def zH {prog:Program}{w:World}{A:Around}{E:Value->Shared->Prop}{s:Shared}{env:Env}{b a:Expr}{l:Pos}{T id:String}{Q:Value->Shared->Prop}
  (p:JcB (XD T "__getitem__") (VE id))(hs:NoSl a)
  (h:XC w A (Jbn b) (λo f=>XC w A (Jbn a) (λi c=>c.TypeIs o T/\XC w A (getItem o i) Q E c) E f) E s):
  wpAny (Ik w) A (Jbn (.Subscript b a l)) Q E s:=by
 apply Subscript_ (wpAny_mono h (λo f k=>wpAny_mono k (λi c d=>?_) λy y x=>x) λy y x=>x);let(n,d):=d;apply wpAny_bind ?_;rw[getitemInPython_of_ne n.not_modules];apply Yt n p ?_;let g:XC w A (JhW a o i) (λr e=>XC w A (letTemporaryGo b o r>>=λy=>pure r) Q E e) E c:=by rw[hs o i];exact wpAny_operating (wpAny_mono d (λr e j=>wpAny_bind (wpAny_letTemporaryGo (wpAny_pure j))) λy y x=>x)
 first
  |exact wpAny_pure (wpAny_bind g)
  |exact wpAny_bind _
  |exact wpAny_bind g
def zI (I:Vm s)(g:bV H a y o):Q1 a "dict":=by
 rcases g with ⟨kvs,k,e,_,_⟩|⟨kvs,k,b,e,_,_,_⟩
 .let(_,_,vs,_,dd):=JfX e;exact dd.typeIs
 .let(_,_,xs,_,dd):=JfY e;exact dd.typeIs
def tDGet (d ty:TE):TE:=λb H Q=>d b H λx e=>ty b e λy c=>∃a v,YK a/\bV c a y (some v)/\Q v c
def tDIn (ty d:TE):TE:=λb H Q=>ty b H λy e=>d b e λx c=>∃a o,YK a/\bV c a y o/\Yo o.isSome c
def zJ (ty d:TE):TE:=λb H Q=>ty b H λy e=>d b e λx c=>∃a o,YK a/\bV c a y o/\Yo (!o.isSome) c
def sDPut (e ty d:TE):TS:=λD b H=>d b H λv h=>e b h λx g=>ty b g λy f=>∃a c,YK a/\fe f a y v c/\D.nx b c
def iM (p:JaG 1)(q:Qo o td)(r:Qo i ty)(hs:NoSl i):Qo (Jbf o i) (tDGet td ty):=by intro b s d H Q I h;apply zH PySem.F.slot_dict_getitem.lookup hs (thn (q b s d H _ I h) λu j (x,C,z,l,q1)=>thn (r b j d C _ z q1) λJ G h_=>?_);let(y,B,f,k,a,v,t,g,n):=h_;subst t;obtain rfl:u=Value.ref a:=l;exact(zI f g,zE p f g k λD E w c=>(v,B,w,c,n))
def lx (n:JaG 1)(q:Qo i ty)(p:Qo o td):PC X .In i o (tDIn ty td):=by intro b s c H Q I h;apply thn (q b s c H _ I h) λE d (y,B,w,f,q1)=>thn (p b d c B _ w q1) λu D h_=>?_;let(x,z,v,j,a,l,r,g,k):=h_;subst r;obtain rfl:u=Value.ref a:=j;exact d_in n v g f λC t=>XE l.isSome z t k
def iz (n:JaG 1)(q:Qo i ty)(p:Qo o td):PC X .NotIn i o (zJ ty td):=by intro b s c H Q I h;apply thn (q b s c H _ I h) λE d (y,B,w,f,q1)=>thn (p b d c B _ w q1) λu D h_=>?_;let(x,z,v,j,a,l,r,g,k):=h_;subst r;obtain rfl:u=Value.ref a:=j;exact zF n v g f λC t=>XE _ z t k
def gY (t:JaG 1)(w:Qo o td)(z:Qo i ty)(q:Qo value tv)(hs:JcB (Jgk value (.Subscript o i pos') pos.line) false):
  PS X (Jet (.Subscript o i pos') value pos) (sDPut td ty tv):=by intro b s c H D I h;apply wpAny_Assign_Subscript (thn (q b s c H _ I h) λr f (v,L,G,l,q1)=>thn (w b f c L _ G q1) λu d (x,K,F,k,p)=>thn (z b d c K _ F p) λO N h_=>?_) hs;let(y,P,E,j,a,J,B,g,n):=h_;subst B;obtain rfl:u=Value.ref a:=k;exact zG t E g j l λM C=>(c,J,C,n)
def vq (h:Heap)(a:N8 sysModules):bJ P w H (h.push { cls:=.type "dict",data:=.dict #[] }) h.objs.size (.dK []) :=
 (Nat.zero_le _,beq_eq_false_iff_ne.mpr (Ne.symm (Nat.ne_of_lt a)),[],.nil,Heap.DictOf.new h)
def tDNewK:TE:=λx H Q=>∀p,Jcu p p (Jfc H p)
def gZ:Qo (.Dict [] [] pos) tDNewK:=λb s c H Q I h=>
 wpAny_Dict_empty (JmH _ (t':=s.toks) (λx x q=>Xz q) _ (vq s.heap I.big) (h _ (Xp _)))
def bD (kvs a:WT Key):WT Key:=a.foldl (λacc b=>zaz acc b.1 b.2) kvs
def KV.merge:∀{a:List (Jce V)} {rs:List (Jce Value)} {kvs:List (Jce V)} {vs:List (Jce Value)},KV a rs->JcT vs->KV (JdN a) (merged vs rs):=by
 intro a rs kvs vs r;unfold KV at r
 induction r generalizing kvs vs with
 |nil=>intro q;exact q
 | @cons p q ps d h t c=>
  intro b;let e:KV (YL p.1 p.2) (stored vs q.1 q.2):=by have:=b.put p.1 h.2;rw[<-h.1];exact this
  exact c e
theorem pY:∀a kvs,(JdN a).length<=Jbr a.length
 |[],kvs=>by show WP (Jbr 0);lia
 |p::r,kvs=>by let c:=pY r (YL p.1 p.2);let b:=lu kvs p.1 p.2;show(bD _ r).length<=_;rw[List.length_cons];lia
structure M1 (X:Cx)(o)(m)(apos:Pos)(e)(cpos):Prop where
 base:Jhq o m o=Vc o
 few:Xh ((JaN [e]).all (λx=>!x.1)&&(Jnw []).all (λx=>x.1.isSome)
  && decide (([e]:List Expr).length+([]:List Keyword).length+(if([]:List Keyword).isEmpty then 0 else 1)<30))
 line:Xh (apos.endLine==cpos.line)
 trees:JaN [e]=[(false,Vc e,)]
structure M2 (X:Cx)(o)(m)(apos:Pos)(e f)(cpos):Prop where
 base:Jhq o m o=Vc o
 few:Xh ((JaN [e,f]).all (λx=>!x.1)&&(Jnw []).all (λx=>x.1.isSome)
  && decide (([e,f]:List Expr).length+([]:List Keyword).length+(if([]:List Keyword).isEmpty then 0 else 1)<30))
 line:Xh (apos.endLine==cpos.line)
 trees:JaN [e,f]=[(false,Vc e,),(false,Vc f,)]
def IsD (H:Hp)(a:Addr):Prop:=(∃kvs,Rd H a (.dK kvs))\/∃kvs,Rd H a (.dT kvs)
def pZ (I:Vm s)(d:IsD H a):
  s.TypeIs (.ref a) "dict"/\(∀b,Xl (Value.ref a) b->∃c,s.heap.get? b=some c/\Uf c.dict)/\Xx (a==sysModules):=by
 rcases d with ⟨kvs,e⟩|⟨kvs,e⟩
 .let(_,f,vs,_,dd):=JfX e;apply(dd.typeIs,λb q=>?_,f);cases q;let(c,_,_,h,g,_):=dd;exact(c,h,g.2.1)
 .let(_,f,xs,_,dd):=JfY e;apply(dd.typeIs,λb q=>?_,f);cases q;let(c,_,_,h,g,_):=dd;exact(c,h,g.2.1)
def d_get2 (q:XV 1)(I:Vm s)(g:bV H a y o)(n:IH y)(p:bn d r)(h:∀j s',Vm s'->bn (o.getD d) j->Q j s'):
  wpAny (Qh X.w) A (JR "dict.get" [.ref a,u,r]) Q E s:=by
 rcases g with ⟨kvs,k,e,i,l⟩|⟨kvs,k,b,e,i,eb,l⟩
 .subst i;let(z,f,vs,c,dd):=JfX e;apply Jfr PySem.F.slot_dict_get PySem.F.entry_dict_get (PySem.F.args_dict_get_3 _ _ _) (meets_dict_get_default (Jcf X.w) a (gX n) f r) (W7 dd.mapOf (JmT _ _ _ ?_));rw[l];exact(c.val k).getD p
 .subst i;cases (show JeF u from n);let(z,f,xs,c,dd):=JfY e;apply Jfr PySem.F.slot_dict_get PySem.F.entry_dict_get (PySem.F.args_dict_get_3 _ _ _) (meetsH_dict_get_default (N7 X.prog X.w) a b f r) (tupleKind_room_in1 q,k,xs,Jjp eb,dd,JmT _ _ _ ?_);rw[l];exact(c.val k).getD p
def tDGet2 (f ty e:TE):TE:=λb H Q=>f b H λx d=>∃a,YK a/\IsD d a/\ty b d λy g=>e b g λz c=>∃o,bV c a y o/\Q (o.getD z) c
def tDPop1 (e ty:TE):TE:=λb H Q=>e b H λx d=>∃a,YK a/\IsD d a/\ty b d λy c=>∃kvs k v,Xa (c a) (.dK kvs)/\y=kV k/\Xa (Ja3 k) v/\Q v (Qc c a (JmW k))
def jT (B:JaG 1)(C:Qo o td)(E:Qo e ty)(D:Qo f tx)(m:M2 X o "get" apos e f cpos):Qo (Jl6 o "get" [e,f]) (tDGet2 td ty tx):=by
 intro b s c H Q I h;apply wpAny_Call_method m.base m.few m.line PySem.F.plainAttrs_dict PySem.F.slot_dict_get PySem.F.type_dict_get (thn (C b s c H _ I h) λu p h_=>?_);let(x,O,j,t,a,G,d,q1):=h_;subst G;obtain rfl:u=Value.ref a:=t;let(l,k,_):=pZ j d;apply Id l k;rw[m.trees];apply Mq rfl (Calls.spliced_cons (thn (E b p c O _ j q1) λU n (y,N,L,r,w)=> Calls.spliced_cons (thn (D b n c N _ L w) λW S h_=>?_)));let(z,M,K,q,T,g,v):=h_;apply Calls.spliced_nil ?_
 exact d_get2 B K g r q λP R J i=>(_,M,J,i,v)
def vr (w:Qo o td)(z:Qo e ty)(m:M1 X o "pop" apos e cpos):Qo (Jl6 o "pop" [e]) (tDPop1 td ty):=by intro b s g H Q I h;apply wpAny_Call_method m.base m.few m.line PySem.F.plainAttrs_dict PySem.F.slot_dict_pop PySem.F.type_dict_pop (thn (w b s g H _ I h) λu p h_=>?_);let(x,G,i,r,a,B,d,q1):=h_;subst B;obtain rfl:u=Value.ref a:=r;let(n,j,_):=pZ i d;apply Id n j;rw[m.trees];apply Mq rfl (Calls.spliced_cons (thn (z b p g G _ i q1) λM L h_=>?_));let(y,N,E,q,kvs,k,v,C,A,l,t):=h_;apply Calls.spliced_nil ?_;subst A;exact d_pop E C q l (.inl rfl) λJ K D c=>(v,_,D,c,t)
def zK (kvs a)(b):JdN (a++[b])=zaz (JdN a) b.1 b.2:=by unfold bD;rw[List.foldl_append];rfl
theorem vt {kvs:List (Jce V)}{ks:Nat->Key}{vals:Nat->Value}:∀n,n<=kvs.length->(∀i a,i<n->kvs[i]?=some a->a.1=ks i/\bn a.2 (vals i))->KV (bD [] (kvs.take n)) (Ji8 n)
 |0,_,_=>.nil
 |n+1,c,h=>by let b:=gG c;let(e,d):=h n _ (Nat.lt_succ_self n) b;rw[pV,bf b,zK,<-e];exact KV.put (vt n (by lia) λi a f=>h i a (by lia)) _ d
def vu (hc:Xh X.calm):JbS X "dict" (λxs H Q=>∃p ys kvs,xs=Gj p/\JkB p ys/\JbE kvs.length/\(∀(i:Nat) y c,ys[i]?=some y->kvs[i]?=some c->∃a,Xl y a/\Jfl H a [kV c.1,c.2])/\
  ∀d,Jcu d d (Qc H d (bD [] kvs))):=by
 intro G s σ H xs us Q I r h;let(p,ys,kvs,rfl,Z,k,hT,q):=h;let(u,rfl,R):=fu r;cases (show Jf u p from R);let(b,v,(o,n,ho,F,E,l),hz):=I.list Z;let hl:b.length=kvs.length:=by rw[<-k,v.length]
 let ex:∀i:Nat,∃t:IL (Jce (Value×Value)),Jnc i->b[i]?=Ja t.1/\s.heap.IsTuple t.1 #[t.2.2.1,t.2.2.2]/\(Jcf X.w).is t.2.1 t.2.2.1=true/\∀c,kvs[i]?=some c->c.1=t.2.1/\bn c.2 t.2.2.2:=λi=>by
  by_cases x:Jnc i
  .let C:ys[i]?=some ys[i]:=gG (by have:=v.length;lia);let J:kvs[i]?=some kvs[i]:=gG (by lia);let(a,ea,ha):=hT i _ _ C J;rw[ea]at C;let(N,B,A):=v.get C;cases (show Jf N a from A);let(Y,S,W,_):=I.tuple ha;let(P,O,rfl,U,T):=jc S;exact((a,kvs[i].1,P,O,),λm=>(B,W,gX U,λc e=>by rw[J]at e;cases e;exact GM T))
  .exact((0,.inl 0,.none,.none,),λz=>IP x)
 let(f,L):=Classical.axiomOfChoice ex;apply zB (knd:=Jcf X.w) (Ts:=λi=>(f i).1) (keys:=λi=>(f i).2.2.1) (vals:=λi=>(f i).2.2.2) (ks:=λi=>(f i).2.1) (I.ok.hd hc) ho F E l ?_ (λi x=>?_) λh' tk j M=>?_
 .have:=v.length;simp only[sAq];lia
 .let D:Jnc i:=by simpa using x
  let(B,A,e3,_):=L i D;exact(by simpa using B,A,e3)
 .let g:=vt (kvs:=kvs) (vals:=λi=>(f i).2.2.2) kvs.length (nRq _) λi c x e=>(L i (by lia)).2.2.2 c e;rw[VM _]at g;let es:Jk_ kvs.length:=by simp only[sAq];exact hl
  rw[es]at M;let z:(bD [] kvs).length<=sizeLine:=by let B:=g.length;let A:=pW (λi=>(f i).2.1) (λi=>(f i).2.2.2) kvs.length;lia
  exact JmH (Gk s.heap.objs.size _) (t':=tk) j _ (jS z (beq_eq_false_iff_ne.mpr (Ne.symm (Nat.ne_of_lt I.big))) g M) (Jni _ _)
def zL (G:Xh X.calm):Iy X "any" (λxs H Q=>∃(p:Addr) (bs:List Bool),xs=Gj p∧JkB p (bs.map V.bl)∧Yo (bs.any id) H):=by
 intro l s M H xs us Q I r h;let(p,bs,rfl,z,q):=h;let(u,rfl,t):=fu r;cases (show Jf u p from t);let(a,k,pl,hz):=I.list z;let E:=k.length;rw[lM]at E;let B:Ml p:=by let(o,C,_):=pl.isList;exact hLq C
 let j:VS p:=Nat.ne_of_lt B;apply call_any_walk (GJ pl.isList);apply(s.heap.objs.size,[s.heap.objs.size,p],[s.heap.objs.size],a.toArray.size,_,_,λi=>NU i,rfl,JfU (show Uf X.A.in1.handled from I.ok.hd G) _ p j,Jfq (M_ _ (Heap.get?_push_size _ rfl)) _,?_,λh' tk F=>?_)
 .intro i v s' O P y J;let d:a[i]?=some v:=by simpa using y
  let g:i<a.length:=(gEq d).1;let c:bs[i]?=some (NU i):=by rw[List.getD_eq_getElem?_getD,gG (by lia)];rfl
  let(N,n,L):=k.get (i:=i) (x:=.bl (NU i)) (by rw[List.getElem?_map,c];rfl);rw[d]at n;cases n;cases (show Wx v _ from L);exact wpAny_truthy_bool J
 .let e:(List.range a.toArray.size).any (λi=>NU i)=bs.any id:=by
   rw[Bool.eq_iff_iff,List.any_eq_true,List.any_eq_true];constructor
   .rintro ⟨i,g,c⟩;let f:i<bs.length:=by have:=List.mem_range.mp g;simp only[sAq]at this;lia
    rw[List.getD_eq_getElem?_getD,gG f]at c;exact(bs[i],List.getElem_mem f,c)
   .rintro ⟨x,w,c⟩;let(i,g,rfl):=List.mem_iff_getElem.mp w;apply JbJ i (by simp only[sAq];lia);rw[List.getD_eq_getElem?_getD,gG g];exact c
  apply(.bl (bs.any id),H,I.kept (t':=tk) λb o eb=>F b o ?_ (Xz eb),congrArg Value.bool e,q);intro D;have:Jax b:=by simpa using D
  exact JfV eb (by rw[this];exact Nat.lt_irrefl _)
noncomputable def zcM (r:List Int):Dt:=.tup (r.map Dt.int)
theorem iO:∀ns:List Int,WU (ns.map Dt.int)
 |[]=>by simp [a_]
 |n::ns=>by simp only[List.map_cons,a_,nol,Bool.true_and];exact iO ns
def zM (r):Jbj (zcM r):=by simp only[zcM,nol,iO]
theorem du:∀Rs:Yl Int,WU (Rs.map zcM)
 |[]=>by simp [a_]
 |t::T=>by simp only[List.map_cons,a_,zM,Bool.true_and];exact du T
def vv {K:W.Frag}{H:Hp}{r:List Int}{x:V}(h:Jko (zcM r) x):∃q,YK q/\SqT K H q (r.map V.int):=by unfold zcM at h;simp only[Has]at h;let(a,xs,rfl,hs,b):=h;rw[ji b]at hs;exact Nc a hs
def nJ {K:W.Frag}{H:Hp}{r:List Int}{q:Addr}(h:Nw q (r.map V.int)):JU K (zcM r) q:=Jiy (ar.ints r)
def zN {K:W.Frag}{H:Hp}{Rs:List (List Int)}{xs:List V}{i:Nat}{x:V}(h:Jal zcM)(e:xs[i]?=some x):∃r q,Rs[i]?=some r/\YK q/\SqT K H q (r.map V.int):=by
 let(d,a,c):=h.get e;rw[List.getElem?_map]at a;cases q:Rs[i]? with
 |none=>rw[q]at a;cases a
 |some t=>
  rw[q]at a;cases a;let(p,rfl,b):=vv c;exact Jlk t p b
def zO {K:W.Frag}{H:Hp}{Rs:List (List Int)}{xs:List V}{i:Nat}{r:List Int}(h:Jal zcM)(e:Rs[i]?=some r):∃q,xs[i]?=Ja q/\SqT K H q (r.map V.int):=by let(v,c,b):=h.getD (by rw[List.getElem?_map,e];rfl);let(p,rfl,a):=vv b;exact(p,c,a)
def nM (K:W.Frag)(H:Hp)(q:Addr)(ps:List Int):Prop:=Jee q\/GY q
def nM.same {K:W.Frag}{H H':Hp}{q:Addr}{ps:List Int}(h:nM K H q ps)(s:Xd H):nM K H' q ps:=h.elim (λz=>.inl (s.seq z)) λz=>.inr (s.tup z)
def cz {ps:List Int}{i:Nat}{x:V}(h:(ps.map V.int)[i]?=some x):∃k,ps[i]?=some k/\x=.int k:=by
 rw[List.getElem?_map]at h;cases e:ps[i]? with
 |none=>rw[e]at h;cases h
 |some k=>
  rw[e]at h;exact Nc k ((Option.some.inj h).symm)
theorem nN (n):∀ps:List Int,inV (.int n) (ps.map V.int)=decide (n∈ps)
 |[]=>by simp [inV]
 |p::ps=>by
  let a:=nN n ps;unfold inV at a⊢;rw[List.map_cons,List.any_cons,a];show(p==n||decide _)=decide _;by_cases e:p=n
  .subst e;simp
  .let b:¬n=p:=λz=>e z.symm;simp [e,b]
def p_ (ps:List Int):(ps.map V.int).all zeo=true:=by rw[List.all_eq_true];intro x a;let(n,_,rfl):=List.mem_map.mp a;rfl
noncomputable def bp:JnA (JnA (List Int))
 |acc,[]=>acc
 |acc,p::ps=>bp (if p∈acc then acc else acc++[p]) ps
structure iP (H:Hp)(d)(hs:List Int):Prop where
 ex:∃kvs:WT Key,JY d/\(∀n:Int,(I0 n).isSome=decide (n∈hs))/\WP hs.length
def nO (kvs)(k:Key)(v):(YL k v).length<=Jbr 1:=by
 unfold zaz;split
 .rw[lM];lia
 .rw[lAq];simp
def zP (kvs:WT Key)(n m)(v):(Xg (WE kvs n v) m).isSome=(decide (m=n)||(I0 m).isSome):=by
 rw[gW];by_cases e:m=n
 .rw[if_pos (by rw[e]),dTq e];rfl
 .rw[if_neg (λz=>e (by injection z)),dFq e,Bool.false_or]
noncomputable def tkv (ps:List Int):WT Key:=ps.map λp=>(Sum.inl p,V.bl true,)
def jU:∀ps:List Int,(∀n:Int,(Xg (JcQ ps) n).isSome=decide (n∈ps))/\(JcQ ps).length<=ps.length:=by
 intro ps
 suffices h:∀kvs hs,(∀n:Int,(I0 n).isSome=decide (n∈hs))->WP hs.length->(∀n:Int,(Xg (MC kvs ps) n).isSome=decide (n∈hs++ps))/\(JdN _).length<=(hs++ps).length by have:=h [] [] (λn=>by simp [zC]) (nRq _);simpa using this
 induction ps with
 |nil=>intro kvs hs a b;simpa [tkv,bD] using (a,b)
 | cons p ps c =>
  intro kvs hs a b;let e:MC kvs (p::ps)=bD _ _:=rfl;rw[e,show hs++p::ps=hs++[p]++ps by simp];apply c _ _ (λn=>?_) ?_
  .rw[zP,a];by_cases e:n=p
   .subst e;simp
   .simp [e]
  .have:=nO kvs (Sum.inl p) (.bl true);rw[lAq];simp only[lS];lia
def iP.of:iP (Jeg H d ps) d ps:=(_,ao,(jU ps).1,(jU ps).2)
def iP.same (h:iP H d hs)(s:Xd H):iP H' d hs:=by let(kvs,c,b,a):=h.ex;exact(kvs,s _ _ c,b,a)
def nf (b a:List Int):List Int:=bp [] (b.filter λp=>decide (-p∉a))
noncomputable def aY (Rs:Yl Int)(h:Int):List Int:=Rs.getD h.toNat []
theorem zQ (a:Nat->Int):∀k,JdO (λi j=>decide (a i<a j))<=k/\∀i,i<=k->a (JdO (λi j=>decide (a i<a j)))<=a i
 | 0=>(nRq _,λi c=>by
   let e:i=0:=by lia
   subst e;exact Int.le_refl _)
 | k+1=>by
  let(f,d):=zQ a k;unfold argBest;by_cases e:a (k+1)<a (JdO (λi j=>decide (a i<a j)))
  .rw[N4 e];apply(nRq _,λi c=>?_);by_cases b:i=k+1
   .rw[b];exact Int.le_refl _
   .have:=JiA i;lia
  .rw[if_neg (λz=>e (oDq z))];apply Js (λi c=>?_);by_cases b:i=k+1
   .rw[b];lia
   .exact JiA i
theorem vw (a:Nat->Int):∀k,JdO (λi j=>decide (a i>a j))<=k/\∀i,i<=k->a i<=a (JdO (λi j=>decide (a i>a j)))
 | 0=>(nRq _,λi c=>by
   let e:i=0:=by lia
   subst e;exact Int.le_refl _)
 | k+1=>by
  let(f,d):=vw a k;unfold argBest;by_cases e:a (k+1)>a (JdO (λi j=>decide (a i>a j)))
  .rw[N4 e];apply(nRq _,λi c=>?_);by_cases b:i=k+1
   .rw[b];exact Int.le_refl _
   .have:=JiA i;lia
  .rw[if_neg (λz=>e (oDq z))];apply Js (λi c=>?_);by_cases b:i=k+1
   .rw[b];lia
   .exact JiA i
def zR {ns:List Int}{i:Nat}(h:i<ns.length):NM i∈ns:=by rw[List.getD_eq_getElem?_getD,gG h];exact List.getElem_mem h
def zS {ns:List Int}{n:Int}(h:n∈ns):∃i,i<ns.length/\NM i=n:=by let(i,a,e):=List.mem_iff_getElem.mp h;exact(i,a,by rw[List.getD_eq_getElem?_getD,gG a];exact e)
def qa {ns:List Int}{a:List Value}(c:bc (ns.map V.int) a):∀i (v:Value),a.toArray[i]?=some v->∃t,v=.int (NM i) t:=λi v e=>by
 let b:a[i]?=some v:=by simpa using e
 let k:i<a.length:=(gEq b).1;let f:=c.length;rw[lM]at f;let g:ns[i]?=some (NM i):=by rw[List.getD_eq_getElem?_getD,gG (by lia)];rfl
 let(j,d,h):=c.get (by rw[List.getElem?_map,g];rfl);rw[b]at d;cases d;exact h
def Inv.turnedLaid {X:Cx}{d:List (IL Obj)}{t:St}{H:Hp}{s:Shared}{h':Heap}{l:List Addr}{a:Addr}{o:HO}{t':Nat}(I:V8 d t)(j:∀b∈l,d_ X d H b)(k:∀b u,b∉l->s.heap.get? b=some u->h'.get? b=some u)(x:QS a)(p:WR (JfC o) h' a o):
  Inv X d t (JfC o) { s with heap:=h',toks:=t' }:=by
 let i:=I.hok.fresh x;let g:∀b u,JeE b u (b∉l):=λb u e z=>by rw[(j b z).1]at e;cases e
 let y:Jeq l H (JfC o) h':=(λb u q m m h=>k b u h q,λb u q m m h=>Jmd (k b u h q),λb u q n m=>by rw[aq (YB q x)];exact n,λb u q h=>(u,k b u h q),λb xs q=>by rw[WM q i];exact q,λb u xs q=>by rw[WM q i];exact q,λb ps q=>(#[],by rw[WM q i,q];simp))
 let r:Jd3 (JfC o) h':=λb u e=>by
  by_cases f:b=a
  .subst f;rw[ao]at e;cases e;exact p
  .rw[aq f]at e;apply(JfP u e).stay (λc v A q=>k c v ?_ q) (λc q=>by rw[WM q i];exact q) λc xs q=>by rw[WM q i];exact q
   rcases A with z|z
   .rw[z];exact g b u e
   .exact g c _ z
 exact I.call (g':=s.gens) (d':=s.drawn) y r I.bare λb f=>((j b f).2.2.2.1,(j b f).2.1,(j b f).2.2.2.2.1,(j b f).2.2.2.2.2)
def Ite (K:W.Frag)(a:Addr):It :=
 (λi H=>∃xs x,JD a/\xs[i]?=some x,λi H x H'=>∃p y,YK p/\Gf p/\H'=Mb H p (Xr i y)/\∀xs,JD a->xs[i]?=some y,λi H=>∃xs,JD a/\Jao i)
def nP {K:W.Frag}{a:Addr}{xs:List V}:Jc2 (Ite K a) (λH=>JD a):=(λx x h b=>(xs,h,b),λi x h b=>(xs,xs[i],h,by simp [b]))
def zT {P:Program}{w:World}{K:W.Frag}{A:List Expr}{x1:Nat}{J:Pos}(a e it)(r:e≠it):il P w K (.Tuple A x1 J) (Ite K a) [e,it] e (λi h=>(∃c,IsEnum h e it (i:Int) c)∧JdI it a) where
 mem:=by simp
 obj:=λi h st b d=>by
  let((c,g),o,R,Y,hd):=st;rcases List.mem_cons.mp d with rfl|d
  .exact W7 g (λv z=>by let z':=z;cases z')
  .let e':=mSq d;subst e';exact J8 R (λv z=>by rw[hd]at z;cases z)
 keep:=λi h h' st k=>(by let(c,g):=st.1;exact(c,QF e _ g),st.2.at λo q=>QF it o q)
 item:=by
  intro X hP O hK Y i l s σ H E I C st T;subst hP O hK;let(xs,x,B,N):=T;let(M,G,p,hz):=I.list B;let(u,hu,ru):=G.get N;let((c,g),j):=st;let(oi,Q,hci,hdi):=id j;apply wpAny_pyNext_enum_item g j p.isList (by simpa using hu) r λh' R F hT hsz hk=>?_;apply Yu (wpAny_letOwnedTupleGo_enum R λD U f=>?_);replace f:Heap.SameBut e h' D:=f;let t:=hLq g;let S:=hLq Q;let hT2:=(f.2 _ (Nat.ne_of_gt t)).trans hT;let kk:∀b o,b∉[e,it]->s.heap.get? b=some o->D.get? b=some o:=λb o d q=>by let y:b≠e:=λz=>d (by simp [z]);let Z:b≠it:=λz=>d (by simp [z]);exact(f.2 b y).trans (hk b o y Z q)
  let L:WR (Jel H (Xr i x)) D s.heap.objs.size (.tup (Xr i x)):=by
   apply(?_,[Jgr i,u],WL (Ye _) ru,_,hT2,?_)
   .exact VR (show Jt 2 by decide)
   .first|exact Ul rfl _ rfl|exact GB rfl _|exact Ye rfl
  apply(.ref s.heap.objs.size,_,I.turnedLaid (t':=s.toks+1) C kk (nRq _) L,rfl,(_,x,rfl,I.fresh,rfl,λys hy=>by rw[I.list_inj hy B];exact N),Mm (u,by simpa using U),?_)
  .exact F.at λo q=>(f.2 it (Ne.symm r)).trans q
  .intro b d;let n:Ml b:=by
    rcases List.mem_cons.mp d with rfl|d
    .exact t
    .rw[mSq d];exact S
   rw[aq (Nat.ne_of_lt n)];exact(C b d).1
 done:=by intro X hP O hK Y i l s σ H E I C st T;subst hP O hK;let(xs,B,N):=T;let(M,G,p,hz):=I.list B;let((c,g),j):=st;let(f0,f1,f2,f3,f4,f5):=JmY it;let hl:=G.length;exact wpAny_pyNext_enum_end (I.ok.hd Y) g j p.isList (by simp;lia) λh' eb=>MY (t':=s.toks) (λb o d q=>eb b o d q) f0 f1 f3 f4 f5
 self:=λm m m m m st h=>by let⟨(c,g)⟩:=st;exact wpAny_pyIter_enum g h
def iEnum (K:W.Frag)(d:TA):TI:=λc H R=>d c H λvs b=>∃a,vs=Gj a/\(∃xs,Vi b a xs)/\R (Ite K a) b
def nQ {i:List Expr}{v:Nat}{y:Pos}{a:Expr}{o:TA}{p f:Pos}(E:Jg9 "enumerate")(D:UG "enumerate")(F:PA X [a] o)(hs:Vb [a]=[(false,Vc a,)]:=by rfl):PI X (.Tuple i v y) (J7 "enumerate" p [a] f) (iEnum X.K o):=by
 intro c s n H R I h;apply JaE I E D boot_enumerate (thn (F f c s n H _ I h) λus d h_=>?_) hs rfl;let(vs,t,j,x,q1):=h_;let(a,e,(xs,C),q):=q1;subst e;let(u,rfl,w):=x.one;cases w;let(A,J,p,hz):=j.list C;apply call_enumerate_list p.isList λh' r k B z=>?_;apply wpAny_pyIter_enum r ?_;let G:=j.kept (t':=d.toks) z;apply(_,[d.heap.objs.size+1,d.heap.objs.size],_,Ite X.K a,t,rfl,G,zT a _ d.heap.objs.size (Nat.succ_ne_self _),(Qu r,k),λb l=>?_,q);let g:d.heap.objs.size<=b:=by
  rcases List.mem_cons.mp l with rfl|l
  .lia
  .rw[mSq l];exact nRq _
 exact j.fpOk g (j.hok.fresh g)
inductive rIsT (K):List V->Hp->VK->Prop|m{xs H Q} p ys n b:xs=IB p (.ty n)->Nw p ys->JkC K "tuple" n b->Yo b H->rIsT K xs H Q
def qb:JiY X (rIsT X.K):=by intro a s l H xs us Q I r h;let(p,ys,n,b,rfl,g,i,q):=h;let(u,c,rfl,e,d):=jc r;cases (show Jeu c n from d);cases e;let(f,t,(o,k,j,_),hz):=I.tuple g;exact W.kia_one W.kitx_tuple I.kIn (J8 k j) i (λz=>nomatch z) λtk=>XE b H (I.tok _) q
def zU:JiY X (λxs H Q=>∃p ys n b,xs=IB p (.ty n)/\JkB p ys/\JkC X.K "list" n b/\Yo b H):=by intro a s l H xs us Q I r h;let(p,ys,n,b,rfl,g,i,q):=h;let(u,c,rfl,e,d):=jc r;cases (show Jeu c n from d);cases e;let(f,t,pp,hz):=I.list g;let(o,k,j,_):=pp.isList;exact W.kia_one W.kitx_list I.kIn (J8 k j) i (λz=>nomatch z) λtk=>XE b H (I.tok _) q
end L2
namespace L2
open PySem
noncomputable def left (U hs:List Int):Nat:=(U.filter λp=>decide (p∉hs)).length
noncomputable def dQT (p:Int):Dt:=.tup (Jlr p)
theorem qd:∀ps:List Int,WU (ps.map dQT)
 |[]=>by simp [a_]
 |t::ts=>by simp only[List.map_cons,a_,dQT,nol,Bool.true_and];exact qd ts
def zV (h:Jkp (dQT p)):∃a,Xl v a/\SqT K H a (Jlr p):=by unfold dQT at h;simp only[Has,ar]at h;let(a,xs,rfl,hs,c,r,rfl,rfl,b,d,rfl,rfl,rfl):=h;exact Nc a hs
def vx (h:Nw a (Jlr p)):JU K (dQT p) a:=Jiy (WL .int (by simp only[Has]))
def vy (h:Xu (ps.map dQT) ys):ys.length=(tkv ps).length/\∀(i:Nat) y c,ys[i]?=some y->(tkv ps)[i]?=some c->∃a,Xl y a/\SqT K H a [kV c.1,c.2]:=by
 let f:MZ ys.length:=by rw[<-h.length,lM]
 apply(by rw[f];simp [tkv],λi y c j b=>?_);let(d,e,g):=h.get j;unfold tkv at b;rw[List.getElem?_map]at b e;cases q:ps[i]? with
 |none=>rw[q]at b;cases b
 |some p=>
  rw[q]at b e;cases b;cases e;exact zV g
structure TrOk (m)(ts:Wl Int):Prop where
 rng:∀t∈ts,t.1≠0/\-m<=t.1/\t.1<=m
 con:∀x∈ts.map Prod.fst,-x∉ts.map Prod.fst
def TrOk.nil:TrOk m []:=(λx h=>Vh h,λx h=>Vh h)
noncomputable def ins {a:Type}(xs:List a)(i:Nat)(y:a):List a:=xs.take i++y::xs.drop i
def vz:z∈ins xs i y↔z=y\/z∈xs:=by
 unfold ins;rw[List.mem_append,List.mem_cons];constructor
 .rintro (h | h | h)
  .exact .inr (List.mem_of_mem_take h)
  .exact .inl h
  .exact .inr (List.mem_of_mem_drop h)
 .rintro (h | h)
  .exact GZ h
  .rw[←JN xs]at h;rcases mPq h with h | h
   .exact .inl h
   .exact IN h
def zW (xs)(i)(y:α):(ins xs i y).length=Jhm 1:=by unfold ins;rw[lAq,List.length_cons,List.length_take,List.length_drop];lia
theorem ar.ins (h:Jkp d):∀i {c:List Dt} {vs:List V},JjV c vs (Xu (L2.ins c i d) (L2.ins vs i v))
 |0,_,_,b=>.cons h b
 |i+1,[],vs,b=>by
  let e:vs=[]:=by have:=b.length;cases vs with|nil=>rfl|cons a t=>cases this
  subst e;exact Wy h
 | i+1,d' :: c,vs,b=>by
  cases vs with
  |nil=>have:=b.length;cases this
  |cons j vs=>
   simp only[ar]at b;let(u,us,q,g,f):=b;cases q;exact .cons g (ar.ins h i f)
def cq (d:Addr)(H H':Hp):Prop:=∀b o,b≠d->JeR b o b o
def cq.refl (d)(H):cq d H H:=λx x x h=>h
def cq.trans (a:cq d H H1)(b:cq d H1 H2):cq d H H2:=λc o n h=>b c o n (a c o n h)
def ap.x (s:Xd H)(d):cq d H H':=λb o y h=>s b o h
def cq.put (H)(o):cq d H (Gk d o):=λb u n h=>by rw[aq n];exact h
def cq.kt (s:cq d H H')(h:JY d):J4 H':=λb us z=>by
 let a:b≠d:=λe=>by
  rw[e]at z;rcases z with z|⟨o,z⟩
  .rw[h]at z;cases z
  .rw[h]at z;cases z
 rcases z with z|⟨o,z⟩
 .exact .inl (s _ _ a z)
 .exact Yg o (s _ _ a z)
def iP.ne (h:iP H d hs)(a:UL l):l≠d:=λe=>by let(kvs,b,_):=h.ex;rw[e,b]at a;cases a
def cq.lst (s:cq d H H')(h:iP H d hs)(a:UL l):H' l=some (.lst xs):=s _ _ (h.ne a) a
end L2
namespace L2
open PySem PySem.Spec PyProof.Rows
noncomputable def Itv (K:W.Frag)(a:Addr)(n:Nat):It :=
 (λi H=>i<n/\∃xs,JD a/\Mz n,λi H x H'=>H'=H/\∀xs,JD a->xs[n-1-i]?=some x,λi H=>n<=i)
def qe {K:W.Frag}{a:Addr}{xs:List V}:Jc2 (Jmg K a) (λH=>JD a):=(λx x x b=>b,λx x h b=>(b,xs,h,rfl))
def zX {P:Program}{w:World}{K:W.Frag}{O:Expr}(a it)(n):il P w K O (Itv K a n) [it] it (λi h=>i<=n/\h.IsRevIter it a ((n:Int)-1-(i:Int))) where
 mem:=by simp
 obj:=λi h st b j=>by
  let e:b=it:=by simpa using j
  subst e;let(_,o,e,c,d):=st;exact J8 e (λv z=>by rw[d]at z;cases z)
 keep:=λi h h' st k=>(st.1,st.2.at λo e=>QF it o e)
 item:=by
  intro X A t B N i g s L H E I r st y;subst A t B;let(Z,xs,M,hl):=y;let(T,R,p,hz):=I.list M;let q:W4 (n-1-i):=by lia
  let(u,Y,S):=R.get (gG q);let(J,G,f2,F,D,C):=r it (by simp);let e:(n:Int)-1-(i:Int)=((n-1-i:Nat):Int):=by lia
  let f:=st.2;rw[e]at f;apply wpAny_pyNext_rev_item f p.isList (by simpa using Y) λh' l Q=>?_;let I1:=I.turned (t':=s.toks) (λb o j e=>(Q.2 b j).trans e) J G F D C;let(o,e1,c,d):=id l;apply Nc u (Jco e1 c d (xs[n-1-i],H,I1,S,GM (λys U=>by rw[I.list_inj U M];exact gG q),Mm (by lia),λb j=>(r b j).1));let e2:(n:Int)-1-((i+1:Nat):Int)=((n-1-i:Nat):Int)-1:=by lia
  rw[e2];exact l
 done:=by
  intro X A t B N i g s L H E I r st y;subst A t B;let(J,G,f2,F,D,C):=r it (by simp);let Z:i=n:=Nat.le_antisymm st.1 y;let f:=st.2;let e:(n:Int)-1-(i:Int)=-1:=by lia
  rw[e]at f;exact wpAny_pyNext_rev_end (I.ok.hd N) f λh' eb=>MY (t':=s.toks) (λb o j e=>eb b o j e) J G F D C
 self:=λx x x x x st h=>wpAny_pyIter_revIter st.2 h
def Itz (K:W.Frag)(a b:Addr):It :=
 (λi H=>∃xs ys x y,JD a∧JjW b∧xs[i]?=some x∧ys[i]?=some y,λi H x H'=>∃p y z,YK p∧Gf p∧H'=Mb H p [y,z]∧(∀xs,JD a→xs[i]?=some y)∧∀ys,JjW b→ys[i]?=some z,
  λi H=>∃xs ys,JD a/\JjW b/\(Jao i\/JcW i))
def zY {K:W.Frag}{a b:Addr}{xs ys:List V}(h:Mz ys.length):Jc2 (Itz K a b) (λH=>JD a/\JjW b) :=
 (λx x q c=>(xs,ys,q.1,q.2,.inl c),λi x q c=>(xs,ys,xs[i],ys[i]'(by lia),q.1,q.2,by simp [c],by simp))
def zZ {P:Program}{w:World}{K:W.Frag}{U:List Expr}{x1:Nat}{pos:Pos}(a b z TI TO j g)(D:ZipApart z TI TO j g a b):il P w K (.Tuple U x1 pos) (Itz K a b) [z,TI,TO,j,g] z
  (λi h=>IsZip h z TI TO .none/\Jkc TI (.ref j) (.ref g)/\(∃u v,Jkc TO u v)/\JdI j a/\JdI g b) where
 mem:=by simp
 obj:=λi h st c f=>by
  let(G,t,(u,v,F),(o4,C,c4,d4),(o5,B,c5,d5)):=st;simp only[List.mem_cons,List.not_mem_nil,or_false]at f;rcases f with rfl|rfl|rfl|rfl|rfl
  .exact W7 G (λv q=>by let N:=q;cases N)
  .exact W7 t (λv q=>by let N:=q;cases N)
  .exact W7 F (λv q=>by let N:=q;cases N)
  .exact(o4,C,λv q=>by rw[d4]at q;cases q)
  .exact(o5,B,λv q=>by rw[d5]at q;cases q)
 keep:=λi h h' st k=>by let(G,t,(u,v,F),C,B):=st;exact(QF z _ G,QF TI _ t,(u,v,QF TO _ F),C.at λo q=>QF j o q,B.at λo q=>QF g o q)
 item:=by
  intro X hP hw hK f i O s σ H E I A st hg;subst hP hw hK;let(xs,ys,x,y,hq,l,Z,hy):=hg;let(its,rv,p,hz):=I.list hq;let(R,J,p2,hz2):=I.list l;let(u,hu,ru):=rv.get Z;let(v,hv,rw'):=J.get hy;let(G,t,(u0,v0,F),C,B):=st;let lz:=hLq G;let lTI:Ml TI:=hLq t;let lTO:Ml TO:=hLq F;let l1:Ml j:=by let(o,e,_):=id C;exact hLq e
  let l2:Ml g:=by let(o,e,_):=id B;exact hLq e
  apply wpAny_pyNext_zip_item D G t F C B p.isList p2.isList (by simpa using hu) (by simpa using hv) λh' g1 g3 g4 g5 gT gz M=>?_;apply Yu (wpAny_letOwnedTupleGo_zip g1 λT g6 hs=>?_);replace hs:Heap.SameBut z h' T:=hs;let hT:=(hs.2 _ (Nat.ne_of_gt lz)).trans gT;let kk:∀c o,c∉[z,TI,TO,j,g]->s.heap.get? c=some o->T.get? c=some o:=λc o f q=>by let n1:c≠z:=λe=>f (by simp [e]);let n3:c≠TO:=λe=>f (by simp [e]);let n4:c≠j:=λe=>f (by simp [e]);let n5:c≠g:=λe=>f (by simp [e]);exact(hs.2 c n1).trans (M c o n1 n3 n4 n5 q)
  let new:WR (Jel H [x,y]) T s.heap.objs.size (.tup [x,y]) :=
   (VR (show Jt 2 by decide),[u,v],WL ru rw',_,hT,rfl,_,rfl)
  let gTI:=(hs.2 TI D.TIz).trans (M TI _ D.TIz D.TITO D.TIi1 D.TIi2 t);apply(.ref s.heap.objs.size,_,I.turnedLaid (t':=s.toks) A kk (nRq _) new,rfl,IR _ x y I.fresh rfl (λzs L=>by rw[I.list_inj L hq];exact Z) (λzs L=>by rw[I.list_inj L l];exact hy),(g6,gTI,W7 _ ((hs.2 TO D.TOz).trans g3),g4.at λo q=>(hs.2 j D.i1z).trans q,g5.at λo q=>(hs.2 g D.i2z).trans q),λc f=>?_);let lc:Ml c:=by let S:=f;simp only[List.mem_cons,List.not_mem_nil,or_false]at S;rcases S with rfl|rfl|rfl|rfl|rfl<;>assumption
  rw[aq (Nat.ne_of_lt lc)];exact(A c f).1
 done:=by
  intro X hP hw hK f i O s σ H E I A st hg;subst hP hw hK;let(xs,ys,hq,l,Z):=hg;let(its,rv,p,hz):=I.list hq;let(R,J,p2,hz2):=I.list l;let(G,t,(u0,v0,F),C,B):=st;let hl:=rv.length;let hl2:=J.length;apply wpAny_pyNext_zip_end (I.ok.hd f) D G t F C B p.isList p2.isList (Z.elim (λq=>.inl (by simp;lia)) λq=>.inr (by simp;lia)) λh' M=>Mm rfl;let un:Jeq [z,TI,TO,j,g] H H h':=(λc o q m m f=>M c o (λe=>f (by simp [e])) (λe=>f (by simp [e])) (λe=>f (by simp [e])) (λe=>f (by simp [e])) q,λc o q m m f=>(o.slots,M c o (λe=>f (by simp [e])) (λe=>f (by simp [e])) (λe=>f (by simp [e])) (λe=>f (by simp [e])) q),λm m m n m=>n,λc o q f=>(o,M c o (λe=>f (by simp [e])) (λe=>f (by simp [e])) (λe=>f (by simp [e])) (λe=>f (by simp [e])) q),λm m q=>q,λm m m q=>q,λm ps q=>(#[],by rw[q];simp))
  let Q:∀c u,JeE c u (c∉[z,TI,TO,j,g]):=λc u e q=>by rw[(A c q).1]at e;cases e
  let hok:Jd3 H h':=λc u e=>by
   apply(I.hok c u e).stay (λd v hd q=>?_) (λm q=>q) λm m q=>q;let Y:d∉[z,TI,TO,j,g]:=by
    rcases hd with r|r
    .rw[r];exact Q c u e
    .exact Q d _ r
   exact M d v (λe=>Y (by simp [e])) (λe=>Y (by simp [e])) (λe=>Y (by simp [e])) (λe=>Y (by simp [e])) q
  exact I.call (g':=s.gens) (d':=s.drawn) (t':=s.toks) un hok I.bare λc f=>((A c f).2.2.2.1,(A c f).2.1,(A c f).2.2.2.2.1,(A c f).2.2.2.2.2)
 self:=λm m m m m st h=>wpAny_pyIter_zip st.1 h
def Inv.freeze (I:Vm s)(h:JY d)(k:s.heap.get? d=some o):Qk (Gk d (Jd4 o)) s:=by
 let f:∀b u,JeE b u (u≠.dK kvs->b≠d):=λb u e n z=>by rw[z,h]at e;cases e;exact n rfl
 let u:NY X.fs [] H (Gk d (Jd4 o)) s.heap:=(λb a q x x x=>q,λb a q x x x=>(a.slots,q),λb a q n x=>by rw[aq (λz=>by rw[z,h]at n;cases n)];exact n,λb a q x=>(a,q),λb xs q=>by rw[aq (MR b _ q)];exact q,λb a xs q=>by rw[aq (MR b _ q)];exact q,λb ps q=>(#[],by rw[aq (MR b _ q),q];simp))
 let g:Jd3 (Gk d (Jd4 o)) s.heap:=λb j e=>by
  by_cases i:b=d
  .subst i;rw[ao]at e;cases e;exact(k,VL b h)
  .rw[aq i]at e;exact(JfP j e).stay (λc l x q=>q) (λc q=>by rw[aq (MR c _ q)];exact q) λc xs q=>by rw[aq (MR c _ q)];exact q
 exact I.un (t':=s.toks) (h':=s.heap) u g
def Inv.thaw (I:Vm s)(h:Gc d (Jd4 o))(h0:∀o u,X.H₀ d≠some (Jgq u)):Qk (Qc H d kvs) s:=by
 let a:∀b u,JeE b u (u≠Jgq _->b≠d):=λb u e n z=>by rw[z,h]at e;cases e;exact n rfl
 let g:∀b,VA b (b≠d):=λb e z=>by rw[z,h]at e;cases e
 apply(I.ok,I.os,I.bare,(I.base.keep,I.base.slot,λb f q n i=>by rw[aq (g b (Jbe f q n i))];exact Jbe f q n i,I.base.there,λb xs q=>by rw[JmC b _ (Jj_ b q)];exact Jj_ b q,λb f u q=>?_,λb ps q=>?_),I.loc,I.cell,by rw[aq (g _ I.free)];exact I.free,λx c e=>by rw[aq (g _ (JcV c e))];exact JcV c e,λp v=>?_,λb r e=>?_,I.len)
 .let t:b≠d:=λz=>h0 f u (by rw[<-z];exact q);rw[aq t];exact I.base.frzs b f u q
 .let(m,e):=I.base.tbls b ps q;exact(m,by rw[JmC b _ e];exact e)
 .let(y,k,w):=Jb9 v;exact(y,by rw[aq (g _ k)];exact k,w)
 .by_cases j:b=d
  .subst j;rw[ao]at e;cases e;let q:=VL b h;exact q.2.stay (λc l A q=>q) (λc q=>by rw[JmC c _ q];exact q) λc xs q=>by rw[JmC c _ q];exact q
  .rw[aq j]at e;exact(JfP r e).stay (λc l A q=>q) (λc q=>by rw[JmC c _ q];exact q) λc xs q=>by rw[JmC c _ q];exact q
def Itd (d:Addr)(o:Obj)(kvs:WT Key):It :=
 (λi H=>i<kvs.length/\Gc d (Jd4 o),λi H x H'=>H'=H/\∃k v,kvs[i]?=some (k,v,)/\x=kV k,λi H=>WP i/\Gc d (Jd4 o))
def z_:Wk (Itd d o kvs) kvs.length (λH=>Gc d (Jd4 o)):=(λx x h a=>(a,h),λx x h a=>(a,h))
def vA (h:JgM k u):IH (kV k):=by
 rcases gO h with ⟨i,t,rfl,rfl⟩|⟨x,t,rfl,rfl⟩
 .exact Ye t
 .exact Ye t
def Aa {P:Program}{w:World}{K:W.Frag}{tg:Expr}(d it)(o)(kvs)(ep)(y:∃es,JhO ep):il P w K tg (Itd d o kvs) [it] it (λi h=>h.IsKeyIter it d i kvs.length ep) where
 mem:=by simp
 obj:=λi h st b n=>by
  let e:b=it:=by simpa using n
  subst e;let(f,e,c,dd):=st;exact(f,e,λv z=>by rw[dd]at z;cases z)
 keep:=λi h h' st k=>st.at λf e=>QF it f e
 item:=by
  intro X M F N hc i j s σ H E I C st L;subst M F N;let(hi,G):=L;let(J,zl,t,vs,g,dd):=(show Jd5 H d (Jd4 o) from VL d G);let(p,B):=dd.dictAt;let(f,es,Z,e2,A,e4):=id B;let(U,l):=y;let Y:=Option.some.inj (Z.symm.trans J);subst Y;let q:p=ep:=by rw[l]at A;cases A;rfl
  subst q;let a:=g.length;let(T,S,f2,R,Q,O):=JmY it;let hk:=g.keys;let hv:vs[i]?=some vs[i]:=gG (by lia);let u:=gG hi;let ek:kvs[i].1=(vs[i]'(by lia)).1:=by
   let h1:(kvs.map (·.1))[i]?=some kvs[i].1:=by rw[List.getElem?_map,u];rfl
   let h2:(vs.map (·.1))[i]?=some (vs[i]'(by lia)).1:=by rw[List.getElem?_map,hv];rfl
   rw[hk,h2]at h1;exact(Option.some.inj h1).symm
  rw[a]at st;apply wpAny_pyNext_dict_item st B hv λD h' x r sb=>?_;let I1:=I.turned (t':=s.toks) (λb f n e=>(sb.2 b n).trans e) T S R Q O;let(oi,q1,q2,q3):=id r;apply Nc D (Jco q1 q2 q3 (kV kvs[i].1,H,I1,?_,(rfl,kvs[i].1,kvs[i].2,u,rfl),by rw[a];exact r,λb n=>(C b n).1));rw[ek];exact vA x
 done:=by
  intro X M F N hc i j s σ H E I C st L;subst M F N;let(hi,G):=L;let(J,zl,t,vs,g,dd):=(show Jd5 H d (Jd4 o) from VL d G);let(p,B):=dd.dictAt;let(f,es,Z,e2,A,e4):=id B;let(U,l):=y;let Y:=Option.some.inj (Z.symm.trans J);subst Y;let q:p=ep:=by rw[l]at A;cases A;rfl
  subst q;let a:=g.length;rw[a]at st;let(T,S,f2,R,Q,O):=JmY it;exact wpAny_pyNext_dict_end (I.ok.hd hc) st B (List.getElem?_eq_none (by lia)) λh' eb=>MY (t':=s.toks) (λb f n e=>eb b f n e) T S R Q O
 self:=λm m m m m st h=>wpAny_pyIter_keyiter st h
def iRev (K:W.Frag)(d:TA):TI:=λc H R=>d c H λvs b=>∃a xs,vs=Gj a/\Vi b a xs/\R (Jmg K a) b
def qf {a:Expr}{l:TA}{p g:Pos}(y:Jg9 "reversed")(x:UG "reversed")(A:PA X [a] l)(hs:Vb [a]=[(false,Vc a,)]:=by rfl):PI X tg (JcS p [a] g) (iRev X.K l):=by
 intro d s k H R I h;apply JaE I y x boot_reversed (thn (A g d s k H _ I h) λus f h_=>?_) hs rfl;let(vs,n,j,v,q1):=h_;let(a,xs,e,w,q):=q1;subst e;let(u,rfl,t):=v.one;cases t;let(c,r,pl,hz):=j.list w;let C:=r.length;apply call_reversed_list pl.isList ?_;let i:Heap.IsRevIter (f.heap.push (revObj a ((c.toArray.size:Int)-1))) f.heap.objs.size a _:=M_ _ (Heap.get?_push_size _ rfl);apply wpAny_pyIter_revIter i ?_;let B:Jr d k n { f with heap:=f.heap.push (revObj a ((c.toArray.size:Int)-1)) }:=j.kept (t':=f.toks) λb o e=>Xz e;apply(_,[f.heap.objs.size],_,Jmg X.K a,n,rfl,B,zX a f.heap.objs.size xs.length,Mm (Nat.zero_le _),λb z=>?_,q)
 .let e:(xs.length:Int)-1-((0:Nat):Int)=(c.toArray.size:Int)-1:=by simp;lia
  rw[e];exact i
 .rw[mSq z];exact j.fpOk (nRq _) j.fresh
def iZip (K:W.Frag)(e:TA):TI:=λd H R=>e d H λvs c=>∃a b,vs=JC a b/\(∃xs,Vi c a xs)/\(∃ys,Vi c b ys)/\R (Itz K a b) c
def Ab {l:List Expr}{C:Nat}{G:Pos}{a b:Expr}{x:TA}{p g:Pos}(S:Jg9 "zip")(Q:UG "zip")(T:PA X [a,b] x)(hs:Vb [a,b]=[(false,Vc a,),(false,Vc b,)]:=by rfl)(j:Vb [b]=[(false,Vc b,)]:=by rfl):PI X (.Tuple l C G) (J7 "zip" p [a,b] g) (iZip X.K x):=by
 intro d s w H R I h;apply JaE I S Q boot_zip (thn (T g d s w H _ I h) λus f h_=>?_) (by rw[hs,j]) (by rw[j];rfl);let(vs,B,n,F,q1):=h_;let(a,b,e,(xs,P),(ys,t),q):=q1;subst e;let(u,v,rfl,E,r):=F.two;cases E;cases r;let(M,rv,pl,hz):=n.list P;let(y,D,i,N):=n.list t;let la:N9 a:=by let(o,e,_):=pl.isList;exact hLq e
 let J:N9 b:=by let(o,e,_):=i.isList;exact hLq e
 apply call_zip_2 pl.isList i.isList λh' A Z Y W U O L=>?_;apply wpAny_pyIter_zip A ?_;let I2:=n.kept (t':=f.toks) L;apply(_,_,_,Itz X.K a b,B,rfl,I2,zZ a b _ _ _ _ _ (zipApart_new la J),(A,Z,W7 _ Y,W,U),λc z=>?_,q);let k:f.heap.objs.size<=c:=by
  simp only[List.mem_cons,List.not_mem_nil,or_false]at z;rcases z with rfl|rfl|rfl|rfl|rfl
  .exact JH _
  .exact JH _
  .exact JH _
  .exact nRq _
  .exact JH _
 exact n.fpOk k (n.hok.fresh k)
def iDict (c:TE):TI:=λb H R=>c b H λx a=>∃d kvs,YK d/\Xa (a d) (.dK kvs)/\∀o,R (Itd d o kvs) (upd a d (Jd4 o))
def Ac (u:Qo l tl):PI X tg l (iDict tl):=by
 intro a s k H R I h;apply thn (u a s k H _ I h) λv c h_=>?_;let(x,B,r,t,q1):=h_;let(d,kvs,e,n,q):=q1;subst e;cases t;let(C,f,vs,i,dd):=iw r.hok n;let(ep,p):=dd.dictAt;let(o,es,z,F,y,E):=id p;let g:=i.length;let j:=r.freeze n z;apply wpAny_pyIter_dict f p ?_;let A:Jr a k _ { c with heap:=c.heap.push { cls:=.type "dict_keyiterator",data:=.fields #[.ref d,Jiz 0,Jiz vs.length,Jiz ep] } }:=j.kept (t':=c.toks) λb D e=>Xz e;apply(_,[c.heap.objs.size],_,Itd d o kvs,_,rfl,A,Aa d c.heap.objs.size o kvs ep (es,y),?_,λb w=>?_,q o)
 .exact Yv _ (Heap.get?_push_size _ rfl) (by rw[g];rfl)
 .rw[mSq w];exact j.fpOk (nRq _) j.fresh
def Ad (h:Jlm e):Qo e (λb H Q=>te b H λx c=>∃d o kvs,Xa (c d) (Jd4 o)/\(∀o u,X.H₀ d≠some (Jgq u))/\Q x (Qc c d kvs)):=by intro a s b H Q I g;apply thn (h a s b H _ I g) λv l h_=>?_;let(x,c,k,f,d,o,kvs,j,i,q):=h_;exact(x,_,k.thaw j i,f,q)
inductive vB:V->List V->Hp->VK->Prop|m{x vs H Q} d b kvs more:Jis d (vs=Gj b) (d≠b) (JY d->Vu b more->Ic (Jbr more.length)->QP (Qc H d (JdN more))->vB x vs H Q)
def Ae:MtR X "dict.update" vB:=by intro p s D H x vs v us Q I y z h;let(d,b,kvs,e,rfl,rfl,n,r,C,hz,q):=h;cases y;let(u,rfl,A):=z.one;cases A;let(G,k,i,c,f):=JdM r;let(E,j,g,a,o):=JdM C;let l1:=c.length;let l2:=a.length;apply call_meetsIn PySem.F.slot_dict_update f.typeIs PySem.F.entry_dict_update (PySem.F.args_dict_update_2 _ _) (meets_dict_update (Jcf X.w) d b n j) (JmZ i g f o (λh' t K hs=>?_));let J:=pY e kvs;let l:=jS (H':=Qc H d (JdN e)) (h':=h') (by lia) k (a.merge c) t;let B:∃q,h'.get? d=some q:=let (q,_,_,hq,_):=t;(q,hq);exact Jh .non _ (jn I (by rw[r];exact True.intro) hs B l) q
set_option maxRecDepth 100000
def Af:XD "list_reverseiterator" "__len__"=pure none:=by rw[typeLookup_type,builtinLookup_eq_fast];kernel_rfl
def Ah:XD "list_reverseiterator" "__length_hint__"=pure (VE "list_reverseiterator.__length_hint__"):=by rw[typeLookup_type,builtinLookup_eq_fast];kernel_rfl
section
variable {prog:Program} {w:World} {A:Around} {E:Value->Shared->Prop} {s:Shared} {J:Addr} {fp wr:List Addr} {G:Array GenState->Array GenState->Prop} {n:Nat} {P:Nat->Value->Prop} {St:Nat->Shared->Prop}
def Ai (W:WalksS prog w A.in1 J fp wr G n P St)(ty:∀i u,St i u->J9 (.ref J))(l:St 0 s)(r:∀b∈fp,Ml b)(p:J∈fp)
  (q:∀s' acc,Moved wr G s s'->JbU P n->Q acc.toList s')(fits:Ic n):XC w A (collect (.ref J)) Q E s:=by
 let out:s.heap.objs.size∉fp:=λz=>Jgz (r _ z);let g:s.heap.objs.size≠J:=λe=>out (by rw[e];exact p);apply wpAny_bind (wpAny_runValue (Wn PySem.F.entry_proto_collect));rw[Jl PySem.F.plain_proto_collect];apply wpAny_bind (wpAny_newObj_type ?_);apply JcM PySem.F.plain_list_iadd (Wn PySem.F.entry_list_iadd);rw[Jl PySem.F.plain_list_iadd];let d:=W.frame 0 s (s.heap.push { cls:=.type "list",data:=.seq ([]:List Value).toArray }) s.toks l (nRq _) λb x o e=>Xz e;let j:Heap.get? (s.heap.push { cls:=.type "list",data:=.seq ([]:List Value).toArray }) s.heap.objs.size=some { cls:=.type "list",data:=.seq ([]:List Value).toArray }:=Heap.get?_push_size _ rfl;let f:Xx (Builtin.List.listSameRef (.ref s.heap.objs.size) (.ref J)):=by simp [Builtin.List.listSameRef,g]
 show GI (Builtin.List.listExtendWith (.ref s.heap.objs.size) (.ref J) (.ref s.heap.objs.size)) _;apply VC (ty 0 _ d) ?_;rw[if_neg (by rw[f];decide)];apply wpAny_bind (W.self 0 _ _ _ d (Vl ?_));apply Yt (ty 0 _ d) Af ?_;apply Yt (ty 0 _ d) Ah ?_;generalize k:("list_reverseiterator.__length_hint__":String)=v
 wp_delta
 rw[show Xa (splitId v) ("list_reverseiterator","__length_hint__",) from by subst k;decide +kernel];subst k;apply wpAny_bind (wpAny_isInstance (b:=true) (ty 0 _ d) (by rw[isSubtype_type];kernel_rfl) (wpAny_pure ?_));rw[if_neg (by decide)];apply JcM PySem.F.plain_extend_loop (codeAny_extend_loopS W fits _ out _ n 0 _ _ _ rfl (Nat.zero_le _) d j (ItemsOf.nil P) λs' acc c m h t=>?_);apply wpAny_bind (wpAny_load h (wpAny_pure (q s' acc (Moved.drop_new m (nRq _)) t)))
def Aj (W:WalksS prog w A.in1.in1 J fp wr G n P St)(ty:∀i u,St i u->J9 (.ref J))(a:St 0 s)(e:∀b∈fp,Ml b)(d:J∈fp)
  (q:∀s' acc,Moved wr G s s'->JbU P n->Q₁ (.ref s'.heap.objs.size) { s' with heap:=s'.heap.push { cls:=.type "tuple",data:=.seq acc } })(fits:Ic n):
  codeAny (Ik w) A (.call (.builtin "tuple.__new__") (WX [.type "tuple",.ref J])) (wants Q₁ E) s:=by
 apply codeAny_of_tree ?_;show GI _ s
 apply wpAny_bind (wpAny_of_eq (PySem.F.newCall_tuple_1 _) (JcM PySem.F.plain_tuple_new (Wn PySem.F.entry_tuple_new)));rw[Jl PySem.F.plain_tuple_new];let j:=sub_tuple_self;let h:=init_tuple_lookup;let g:=madeHere_tuple;let f:=ty 0 s a
 wp_walk using wpAny_typeOf f,Ai (fits:=fits) W ty a e d
 intro s' acc m c;show V5 (Builtin.Tuple.tupleExact acc.toList.toArray>>=λu=>ret u) _;apply Jab (wpAny_pure ?_) (by show Ic acc.toList.toArray.size;simp only[Array.toArray_toList];rw[c.1];exact fits);rw[show acc.toList.toArray=acc by simp];exact q s' acc m c
def Ak (W:WalksS prog w A.in1.in1.in1 J fp wr G n P St)(ty:∀i u,St i u->J9 (.ref J))(c:St 0 s)(e:∀b∈fp,Ml b)(d:J∈fp)
  (q:∀s' acc,Moved wr G s s'->Iq (JbU P n) s'.heap.objs.size { s' with heap:=s'.heap.push { cls:=.type "tuple",data:=.seq acc } })(fits:Ic n):XC w A (JfW "tuple" (Gj J)) Q E s:=by
 apply callType_codes (Q₁:=λa u=>u.TypeIs a "tuple"/\Q a u) PySem.F.called_tuple (PySem.F.typeCall_tuple_1 _) PySem.F.entry_object_init
  (Aj (fits:=fits) W ty c e d λs' acc m f=>(Jkq (Heap.get?_push_size _ rfl),q s' acc m f)) λa u z=>?_
 exact(z.1,PySem.F.args_object_init_2 a _,object_init_meets PySem.F.called_tuple.init.lookup PySem.F.called_tuple.made (by decide) prog w A.in1 _ u (Nc z.1 z.2))
end
set_option maxRecDepth 100000
def Al (a v):argsOk "max" ([a],[(Str.ofString "default",v,)]):=by unfold argsOk;kernel_rfl
section
variable {prog:Program} {w:World} {A:Around} {R:Result->Shared->Prop} {J:Addr} {fp wr:List Addr} {n:Nat} {P:Nat->Value->Prop} {St:Nat->Heap->Prop} {kw:List (U8 Value)}
def nS:(toString "max"++toString ".loop":String)="max.loop":=by decide
def Am (W:Walks prog w A.in1 J fp wr n P St)(u)(G:CmpOf prog w A.in1 .Gt P u)(B)(out:B∉fp):
  ∀k j s i c,n-(j+1)=k->j+1<=n->St (j+1) s.heap->Jjq u j i->
  s.heap.get? B=some { cls:=.type "list",dict:=none,data:=.seq #[i,i] c,slots:=#[] }->
  (∀v h' tk,Jjq u (n-1) v->(∀b o,b∉wr->b≠B->s.heap.get? b=some o->h'.get? b=some o)->Jkt v { s with heap:=h',toks:=tk })->
  codeAny (Ik w) A (Wz "max.loop" (Jf2 J .none B) kw) R s:=by
 let p:B∉wr:=λz=>out (W.sub _ z);intro k
 induction k with
 |zero=>
  intro j s i c K L st C f l;let I:j+1=n:=by lia
  apply Wn PySem.F.entry_max_loop;rw[Jl PySem.F.plain_max_loop];show GI (seqItems? (.ref B)>>=_) s;apply Jjf f;show GI (JnE J>>=_) s;apply Vz (W.done s _ _ (I▸st) λh' tk d=>?_);let a:=d B _ p f;show GI (updateSeq B (λm=>#[])>>=_) _;apply JG a rfl (Jgi ?_);exact l i _ tk (by rw[<-I];exact C) λb o t x e=>(Heap.get?_update_other _ _ (Ne.symm x)).trans (d b o t e)
 | succ k H =>
  intro j s i c K L st C f l;let E:j+1<n:=by lia
  apply Wn PySem.F.entry_max_loop;rw[Jl PySem.F.plain_max_loop];show GI (seqItems? (.ref B)>>=_) s;apply Jjf f;show GI (JnE J>>=_) s;apply Vz (W.item (j+1) s _ _ E st λv h' tk pv y d=>?_);let a:=d B _ p f;show GI (Jex (holding [v,v] (richCompare .Gt v i>>=_))>>=_) _;apply Vz (wpAny_holding (wpAny_bind (G (j+1) (argBest u j) v i _ _ _ pv C ?_)));apply Vl (wpAny_truthy_bool (Jgi ?_));cases eb:u (j+1) (argBest u j) with
  |true=>
   simp only[if_true];apply JG a rfl (Qx ?_);rw[nS];apply JcN (H (j+1) _ v _ (by lia) E (W.frame _ _ _ y λb M o e=>(Heap.get?_update_other _ _ (λz:B=b=>out (by rw[z];exact M))).trans e) (by simp only[argBest,eb,if_true];exact pv) (Heap.get?_update_self _ a rfl) λD r h q g=>?_);exact l D r h q λb o t x e=>g b o t x ((Heap.get?_update_other _ _ (Ne.symm x)).trans (d b o t e))
  |false=>
   simp only[Bool.false_eq_true,if_false];apply Qx ?_;rw[nS];apply JcN (H (j+1) _ i c (by lia) E y (by simp only[argBest,eb,Bool.false_eq_true,if_false];exact C) a λD r h q g=>?_);exact l D r h q λb o t x e=>g b o t x (d b o t e)
def An (W:Walks prog w A.in1 J fp wr n P St)(t)(r:CmpOf prog w A.in1 .Gt P t)(B)(out:B∉fp)(a:0<n){s:Shared}{c:Nat}(st:St 0 s.heap)
  (g:s.heap.get? B=some { cls:=.type "list",dict:=none,data:=.seq #[] c,slots:=#[] })
  (q:∀v h' tk,Jjq t (n-1) v->(∀b o,b∉wr->b≠B->s.heap.get? b=some o->h'.get? b=some o)->Jkt v { s with heap:=h',toks:=tk }):
  codeAny (Ik w) A (Wz "max.loop" (Jf2 J .none B) kw) R s:=by let j:B∉wr:=λz=>out (W.sub _ z);apply Wn PySem.F.entry_max_loop;rw[Jl PySem.F.plain_max_loop];show GI (seqItems? (.ref B)>>=_) s;apply Jjf g;show GI (JnE J>>=_) s;apply Vz (W.item 0 s _ _ a st λv h' tk pv k f=>?_);let d:=f B _ j g;show GI (updateSeq B (λm=>#[v,v])>>=_) _;apply JG d rfl ?_;rw[nS];apply JcN (Am W t r B out _ 0 _ v _ rfl a (W.frame _ _ _ k λb C o e=>(Heap.get?_update_other _ _ (λz:B=b=>out (by rw[z];exact C))).trans e) pv (Heap.get?_update_self _ d rfl) λy p i l h=>?_);exact q y p i l λb o u x e=>h b o u x ((Heap.get?_update_other _ _ (Ne.symm x)).trans (f b o u e))
def Ao (W:Walks prog w A.in1 J fp wr 0 P St)(B)(out:B∉fp){s:Shared}{c:Nat}{nm:Str}{d:Value}(st:St 0 s.heap)
  (f:s.heap.get? B=some { cls:=.type "list",dict:=none,data:=.seq #[] c,slots:=#[] })
  (g:∀h' tk,(∀b o,b∉wr->b≠B->s.heap.get? b=some o->h'.get? b=some o)->Jkt d { s with heap:=h',toks:=tk }):
  codeAny (Ik w) A (Wz "max.loop" (Jf2 J .none B) [(nm,d,)]) R s:=by apply Wn PySem.F.entry_max_loop;rw[Jl PySem.F.plain_max_loop];show GI (seqItems? (.ref B)>>=_) s;apply Jjf f;show GI (JnE J>>=_) s;apply Vz (W.done s _ _ st λh' tk a=>?_);apply Jak ?_;exact g h' tk λb o h x e=>a b o h e
end
section
variable {prog:Program} {w:World} {A:Around} {E:Value->Shared->Prop} {s:Shared}
theorem vC
  (h:XC w A.in1 (pyIter x) (λit s₂=>∃J fp wr n P St bt,Xl it J/\Walks prog w A.in1 J fp wr n P St/\St 0 s₂.heap/\(∀b∈fp,b<s₂.heap.objs.size)/\CmpOf prog w A.in1 .Gt P bt/\(n=0->∀h' tk,(∀b o,b∉wr->s₂.heap.get? b=some o->h'.get? b=some o)->Q d { s₂ with heap:=h',toks:=tk })/\(0<n->∀v h' tk,Jjq bt (n-1) v->(∀b o,b∉wr->s₂.heap.get? b=some o->h'.get? b=some o)->Q v { s₂ with heap:=h',toks:=tk })) E s):
  wpAny (Ik w) A (call (.builtin "max") [x] [(Str.ofString "default",d,)]) Q E s:=by
 apply PyProof.Rows.kmk_tree PySem.F.kind_max PySem.F.plain_max PySem.F.entry_max (Al _ _) ?_;show GI (Builtin.Builtins.bindParams "max" ["key","default"] 0 ([],[(Str.ofString "default",d,)])>>=_) s;apply wpAny_bind (wpAny_of_eq (show JcB (Builtin.Builtins.bindParams "max" ["key","default"] 0 ([],[(Str.ofString "default",d,)])) [none,some d] from rfl) (Ui ?_));apply wpAny_bind (wpAny_mono h (λit s₂ h₂=>?_) λy y e=>e);let(J,fp,wr,n,P,St,bt,rfl,W,st,low,cmp,q0,q1):=h₂;apply wpAny_bind (wpAny_newObj_type ?_);let out:s₂.heap.objs.size∉fp:=λz=>Jgz (low _ z);rw[nS];let st':=W.frame _ _ (s₂.heap.push { cls:=.type "list",data:=.seq ([]:List Value).toArray }) st λb y o e=>Xz e;rcases Nat.eq_zero_or_pos n with z|z
 .subst z;exact JcN (Ao W s₂.heap.objs.size out st' (Heap.get?_push_size _ rfl) λh' tk kept=>q0 rfl h' tk λb o bw e=>kept b o bw (WO e) (Xz e))
 .exact JcN (An W bt cmp s₂.heap.objs.size out z st' (Heap.get?_push_size _ rfl) λv h' tk pv kept=>q1 z v h' tk pv λb o bw e=>kept b o bw (WO e) (Xz e))
end
section
variable {X:Cx}
def tMaxd (K:W.Frag)(d tk:TA):TE:=λb H Q=>d b H λvs e=>tk b e λzs a=>∃p ns c,vs=Gj p/\zs=WY c/\nM K a p ns/\(ns=[]->No c a)/\∀m∈ns,(∀n∈ns,n<=m)->No m a
def Ap (S:Xh X.calm)(hg:Jg9 "max")(hm:UG "max")(ha:PA X [e] ta)(f:PK X [(some "default",d,kp)] tk)
  (he:Vb [e]=(false,Vc e,)::[]:=by rfl)(M:(Jfi [e]).any (·.1)=false:=by rfl)(P:(I_ pos [(some "default",d,kp)]).any (·.1.isNone)=false:=by rfl)
  (E:(I_ pos [(some "default",d,kp)]).all (·.1.isSome)=true:=by rfl)(O:(I_ pos [(some "default",d,kp)]).filterMap (·.1)=[Str.ofString "default"]:=by rfl):
  PE X (Wi "max" p [e] [(some "default",d,kp)] pos) (tMaxd X.K ta tk):=by
 intro g s J H Q I h;apply wpAny_Call_Name_kw (eV I hg hm PyProof.Rows.Boot.max ?_);apply PyProof.Rows.callWith_builtin_kwB M P ?_;let U:=ha pos g s J H _ I h;rw[he]at U⊢;apply evalArgs_kw E (thn U λus Z (vs,H1,I1,r1,q1)=>thn (f pos g Z J H1 _ I1 q1) λws c h_=>?_);let(zs,W,y,r2,pp,ns,R,ev,ez,C,q0,q):=h_;subst ev ez;let(u,rfl,ru):=r1.one;cases ru;let(v,rfl,t,rfl):=r2.one;rw[O];show V5 (call (.builtin "max") [Value.ref pp] [(Str.ofString "default",YO R,)]) c;let k:∀{it:Addr} {l:Obj} {h':Heap},(∀b o,b∉[c.heap.objs.size]->(c.heap.push l).get? b=some o->h'.get? b=some o)->∀b o,c.heap.get? b=some o->h'.get? b=some o:=λ{it l h'} f b o e=>f b o (λz=>by
  have:Jh1 b:=by simpa using z
  exact JfV e (by rw[this];exact Nat.lt_irrefl _)) (Xz e)
 let B:∀{l:Obj},JfB pp->∀b∈Jjr pp,b<(c.heap.push l).objs.size:=λ{l} x b T=>by
  rw[Heap.size_push];simp only[List.mem_cons,List.not_mem_nil,or_false]at T;rcases T with rfl|rfl
  .exact Nat.lt_succ_self _
  .exact Nat.lt_succ_of_lt x
 let w:∀{h':Heap} {tk:Nat},ns=[]->(∀b o,c.heap.get? b=some o->h'.get? b=some o)->EP X g J Q (MQ R) { c with heap:=h',toks:=tk }:=λ{h' tk} en f=>(.int R,W,y.kept (t':=tk) f,Ye t,q0 en);let G:∀{a:List Value} {v:Value} {h':Heap} {tk:Nat},bc (ns.map V.int) a->Jh0 0->a.toArray[argBest (λi j=>decide (NM i>NM j)) (JkQ 1)]?=some v->(∀b o,c.heap.get? b=some o->h'.get? b=some o)->EP X g J Q v { c with heap:=h',toks:=tk }:=λ{a v h' tk} r Y F f=>by
  let(t,rfl):=qa r _ _ F;let D:=r.length;rw[lM]at D;let n0:0<ns.length:=by simp only[sAq]at Y;lia
  let es:JkQ 1=ns.length-1:=by simp only[sAq];lia
  rw[es];let(b1,b2):=vw (λi=>NM i) (ns.length-1);exact(.int _,W,y.kept (t':=tk) f,Ye t,q _ (zR (by lia)) λn hn=>by let(i,hi,e):=zS hn;rw[<-e];exact b2 i (by lia))
 rcases C with C|C
 .let(a,r,pl,hz):=y.list C;let D:=r.length;rw[lM]at D;let x:JfB pp:=by let(o,N,_):=pl.isList;exact hLq N
  apply vC (GJ pl.isList);exact(c.heap.objs.size,Jjr pp,[c.heap.objs.size],a.toArray.size,_,_,λi j=>decide (NM i>NM j),rfl,JfU (show Uf X.A.in1.handled from y.ok.hd S) _ pp (Nat.ne_of_lt x),Jfq (M_ _ (Heap.get?_push_size _ rfl)) _,B x,CmpOf.ints_gt (λi=>NM i) (qa r),λz h' tk f=>w (List.length_eq_zero_iff.mp (by simp only[sAq]at z;lia)) (k (it:=pp) f),λz v h' tk F f=>G r z F (k (it:=pp) f))
 .let(a,r,pl,hz):=y.tuple C;let D:=r.length;rw[lM]at D;let L:=pl;let x:JfB pp:=by let(o,N,_):=id L;exact hLq N
  apply vC (Jcb L);exact(c.heap.objs.size,Jjr pp,[c.heap.objs.size],a.toArray.size,_,_,λi j=>decide (NM i>NM j),rfl,Walks.tuple (show Uf X.A.in1.handled from y.ok.hd S) _ pp (Nat.ne_of_lt x) a.toArray,(M_ _ (Heap.get?_push_size _ rfl),L.push _),B x,CmpOf.ints_gt (λi=>NM i) (qa r),λz h' tk f=>w (List.length_eq_zero_iff.mp (by simp only[sAq]at z;lia)) (k (it:=pp) f),λz v h' tk F f=>G r z F (k (it:=pp) f))
def Aq (K:W.Frag)(d:TA):TE:=λc H Q=>d c H λvs b=>∃a xs,vs=Gj a/\Vi b a xs/\∀l,Iq (Uf (b l)) l (Mb b l xs.reverse)
def Au (Y:Xh X.calm)(U:Jg9 "tuple")(T:UG "tuple")(D:Jg9 "reversed")(B:UG "reversed")(x:PA X [a] ta)(hs:Vb [a]=[(false,Vc a,)]:=by rfl)
  (v:Vb [JcS p2 [a] pos2]=[(false,Vc (JcS p2 [a] pos2),)]:=by rfl):
  PE X (Ji2 "tuple" p [JcS p2 [a] pos2]) (Aq X.K ta):=by
 intro k s y H Q I h;apply wpAny_Call_Name_kw (Yi I U T PyProof.Rows.Boot.tuple ?_ v rfl);rw[v];show JmJ (spliced [(false,Vc (JcS p2 [a] pos2),)]);apply Calls.spliced_cons (JaE I D B boot_reversed (thn (x pos2 k s y H _ I h) λus f h_=>?_) hs rfl);let(vs,N,E,P,q1):=h_;let(a,xs,e,S,q):=q1;subst e;let(u,rfl,O):=P.one;cases O;let(c,F,pl,hz):=E.list S;let hl:=F.length;let la:N9 a:=by let(o,v,_):=pl.isList;exact hLq v
 apply call_reversed_list pl.isList (Calls.spliced_nil ?_);let W:=Walks.listRev (prog:=X.prog) (w:=X.w) (A:=X.A.in1.in1.in1) (E.ok.hd Y) f.heap.objs.size a (Nat.ne_of_lt la) c.toArray;let C:Heap.IsRevIter (f.heap.push (revObj a ((c.toArray.size:Int)-1))) f.heap.objs.size a ((c.toArray.size:Int)-1):=M_ _ (Heap.get?_push_size _ rfl);apply Ak W.toS (λi u st=>st.2.1.typeIs) (Nat.zero_le _,by simpa using C,pl.isList.push _) (λb L=>?_) (by simp) (λs' acc r its'=>?_) (by simp only[sAq];lia)
 .show b<(f.heap.push _).objs.size;rw[Heap.size_push];simp only[List.mem_cons,List.not_mem_nil,or_false]at L;rcases L with rfl | rfl
  .exact Nat.lt_succ_self _
  .exact Nat.lt_succ_of_lt la
 .let l:∀b o,f.heap.get? b=some o→s'.heap.get? b=some o:=λb o e=>r.heap b o (λz=>by
   have:b=f.heap.objs.size:=by simpa using z
   exact JfV e (by rw[this];exact Nat.lt_irrefl _)) (Xz e)
  let Z:s'={ f with heap:=s'.heap,toks:=s'.toks }:=by let(J,g,d,t,R):=s';let a1:=r.gens;let a2:=r.drawn;let a3:=r.os;subst a1 a2 a3;rfl
  let n:acc=c.reverse.toArray:=by
   apply Array.ext' ?_;apply List.ext_getElem? ?_;intro j;let hsz:=its'.1;simp only[sAq]at hsz;rcases Nat.lt_or_ge j c.length with G|G
   .let x:acc[j]?=some (acc[j]'(by lia)):=Array.getElem?_eq_getElem (by lia);let J:=its'.2 j _ x;rw[Array.getElem?_toList,x,<-J];simp only[sAq];rw[List.getElem?_toArray,List.getElem?_reverse G]
   .rw[List.getElem?_eq_none (by simp;lia),List.getElem?_eq_none (by simp;lia)]
  let M:Jr k y N s':=by rw[Z];exact E.kept (t':=s'.toks) l
  let I3:Jr k y (Mb N s'.heap.objs.size xs.reverse) { s' with heap:=s'.heap.push { cls:=.type "tuple",data:=.seq acc } } :=
   M.laid (t':=s'.toks) (λb o e=>Xz e) (nRq _) (show WR _ _ _ (.tup xs.reverse) from(by rw[List.length_reverse];exact hz,c.reverse,F.reverse,by rw[n];exact fY.new _ _))
  exact Wt s'.heap.objs.size _ I3 (q _ M.fresh)
end
end L2
namespace HT
open PySem PyProof.Rows
def getItem_tuple_whole {t c:Addr}{items:Array Value}{i g:Value}{lo b:Option Int}{Q:Value->Shared->Prop}(a:Q_ t items)(hs:Jaf c i g)(pl:JkO i)(k:IsPart g b)
  (j:Jlt 0=0/\Qy items.size b=items.size)(h:Uc t s):XC w A (Jjk t (.ref c)) Q E s:=by
 let(l,d,e,n):=id hs;let f:Q1 c "slice":=(l,d,e);unfold getItem
 try with_reducible refine wpAny_holding ?_
 first|refine Ui ?_|skip
 apply wpAny_bind (wpAny_sequenceKey a.typeIs (by decide) ?_);apply wpAny_bind (wpAny_callSpecial?_slot (name:=Str.ofString "__getitem__") a.typeIs PyProof.Rows.slot_tuple_getitem (Jbw PyProof.Rows.slot_tuple_getitem a.typeIs entry_tuple_getitem (args_tuple_getitem _ _)))
 show JmJ (V1 t>>=_);apply wpAny_bind (tupleItemsOf_ a ?_);apply VC f ?_;rw[if_pos (by decide)];apply wpAny_bind (uI hs pl k ?_);let yes:Xh ((sIx items.size 0 lo:Int)==0&&(1:Int)==1&&(sIx items.size items.size b-Jlt 0)==items.size):=by rw[j.1,j.2];simp
 show JmJ (if Xh ((sIx items.size 0 lo:Int)==0&&(1:Int)==1&&(sIx items.size items.size b-Jlt 0)==items.size) then _ else _)
 rw[if_pos yes];apply wpAny_bind ?_;apply VC a.typeIs (wpAny_pure ?_);rw[if_pos (by decide)];exact Jak (Yu (wpAny_pure h))
end HT
namespace L2
open PySem PySem.Spec PyProof.Rows
inductive qg (K):V->Option Int->Option Int->Hp->VK->Prop|m{x lo hi H Q} a xs:Jis a (Q7 a) (WH 0 lo=0/\Jev (Jly hi)) (Uc a H->qg K x lo hi H Q)
def Av:SlR X (qg X.K):=by
 intro d s k H x v n l lo p o Q I f hs pl g h;let(a,xs,rfl,i,j,q):=h;cases f;let(c,r,e,hz):=I.tuple i;let b:Jev c.toArray.size:=by rw[sAq];exact r.length.symm
 apply("tuple",_,PyProof.Rows.slot_tuple_getitem.lookup,e.typeIs,?_);exact HT.getItem_tuple_whole e hs pl g (by rw[b];exact j) (Wt a H I q)
def qh (K:W.Frag):V->Option Int->Option Int->Hp->VK->Prop:=λx lo a H Q=>rSlT K x lo a H Q\/qg K x lo a H Q
def qj:SlR X (qh X.K):=uK.or Av
end L2
namespace L2
open PySem
noncomputable def zaS (t:Iz Int):Int:=if t.2=-1 then 1 else 0
def cnt:Wl Int->Int
 |[]=>0
 |t::ts=>zaS t+cnt ts
theorem gb:∀b bs,cnt (b++bs)=cnt b+cnt bs
 |[],bs=>by simp [cnt]
 |a::b,bs=>by simp only[List.cons_append,cnt,gb b bs];lia
def jV {ts:List (Iz Int)}{i:Nat}{t:Int×Int}(h:ts[i]?=some t):Im (i+1)=Im i+zaS t:=by rw[bf h,gb];simp [cnt]
theorem iA:∀ts:Wl Int,Jl1 0
 |[]=>Int.le_refl _
 |t::ts=>by have:=iA ts;simp only[cnt,zaS];split<;>lia
def gc (ts:Wl Int)(n:Nat):List Int:=(List.range n).map λi=>Im (i+1)
def Aw (ts)(n):gc ts (n+1)=gc ts n++[Im (n+1)]:=by unfold gc;rw[List.range_succ,mAq];rfl
def vD (ts)(n):(gc ts n).length=n:=by simp [gc]
def Ax (ts){n i:Nat}(h:i<n):(gc ts n)[i]?=some (Im (i+1)):=by unfold gc;rw[List.getElem?_map,List.getElem?_range h];rfl
noncomputable def negs (ts:Wl Int):List Int:=ts.map λt=>-t.1
def jW {ts:List (Iz Int)}{i:Nat}{t:Int×Int}(h:ts[i]?=some t):(negs ts)[i]?=some (-t.1):=by unfold negs;rw[List.getElem?_map,h];rfl
def g_ (ts):(negs ts).length=ts.length:=lM _
def vE:Jl_ p↔-p∈ts.map Prod.fst:=by
 unfold negs;rw[List.mem_map,List.mem_map];constructor
 .rintro ⟨t,a,e⟩;exact Jf3 t a
 .rintro ⟨t,a,e⟩;exact Jf3 t a
def lvF (ts:Wl Int)(p:Int):Int:=Im ((negs ts).idxOf p+1)
def c_ {ts:List (Iz Int)}{i:Nat}{t:Int×Int}(a:(negs ts).Nodup)(h:ts[i]?=some t):Gm (-t.1)=cnt (ts.take (i+1)):=by let c:=jW h;let(b,e):=gEq c;unfold lvF;rw[<-e,List.Nodup.idxOf_getElem a i b]
def Lev (H:Hp)(d:Addr)(ts:Wl Int):Prop:=∃kvs:List _,JY d/\∀p:Int,I0 p=if Jl_ p then Ya (Gm p) else none
def Lev.same (h:JgA H d)(s:Xd H):JgA H' d:=by let(kvs,b,a):=h;exact(kvs,s _ _ b,a)
def Kst (H:Hp)(d:Addr)(ks:List Int)(n:Nat):Prop:=∃kvs:List _,JY d/\(∀m:Int,(I0 m).isSome=decide (m∈ks))/\WP n/\∀a∈kvs,∃m:Int,XP a.1 m
def Kst.same (h:Kst H d ks n)(s:Xd H):Kst H' d ks n:=by let(kvs,b,a):=h;exact(kvs,s _ _ b,a)
def vF (kvs)(k j:Key):br (JmW k) j=if j=k then none else br kvs j:=by
 unfold zbP
 induction kvs with
 |nil=>simp [br]
 | cons c kvs d =>
  rw[List.filter_cons];by_cases e:c.1=k
  .rw[if_neg (by simp [e]),d];by_cases a:j=k
   .rw[if_pos a,if_pos a]
   .rw[if_neg a,if_neg a,eC (λz=>a (z.symm.trans e))]
  .rw[if_pos (by simp [e])];by_cases a:c.1=j
   .have:j≠k:=λz=>e (a.trans z);rw[eM a,if_neg this,eM a]
   .rw[eC a,d];by_cases b:j=k
    .rw[if_pos b,if_pos b]
    .rw[if_neg b,if_neg b,eC a]
def Kst.pop {H:Hp}{d:Addr}{ks:List Int}{n:Nat}{kvs:List (Jce V)}{p:Int}(g:∀m:Int,(I0 m).isSome=decide (m∈ks))(f:WP n)(c:∀a∈kvs,∃m:Int,XP a.1 m):Kst (Jl4 H d p) d (ks.filter λm=>decide (m≠p)) n:=by
 apply(_,ao,λm=>?_,JfG _ f,λa b=>c a ((List.mem_filter.mp b).1));rw[vF];by_cases e:m=p
 .subst e;rw[if_pos rfl];simp
 .rw[if_neg (λz=>e (by cases z;rfl)),g];simp [e]
def Ay:∀ps kvs m,(Xg (JdN (JcQ ps)) m).isSome=((I0 m).isSome||decide (m∈ps)):=by
 let c:∀a kvs m,(Xg (JdN a) m).isSome=((I0 m).isSome||(Xg a m).isSome):=by
  intro a
  induction a with
  |nil=>intro kvs m;simp [bD,br]
  |cons b a d=>
   intro kvs m;show(br (bD (YL b.1 b.2) a) _).isSome=_;rw[d,gW];by_cases e:XP b.1 m
   .rw[if_pos e.symm,eM e];simp
   .rw[if_neg (Ne.symm e),eC e]
 intro ps kvs m;rw[c,(jU ps).1]
def Az (a kvs:WT Key):(JdN a).length<=Jbr a.length:=pY a kvs
def AA {kvs:List (Jce V)}{k:Key}{v:V}(h:∀b∈kvs,∃m:Int,XP b.1 m)(d:∃m:Int,XP k m):∀b∈YL k v,∃m:Int,b.1=Sum.inl m:=by
 unfold zaz;split
 .intro b a;let(q,c,e):=List.mem_map.mp a;split at e
  .rw[<-e];exact h q c
  .rw[<-e];exact h q c
 .intro b a;rcases mPq a with q | q
  .exact h b q
  .rw[mSq q];exact d
def vG {a:List (Jce V)}(c:∀b∈a,∃m:Int,XP b.1 m):∀{kvs:List (Jce V)},(∀b∈kvs,∃m:Int,XP b.1 m)->∀b∈JdN a,∃m:Int,b.1=Sum.inl m:=by
 induction a with
 |nil=>exact λh=>h
 |cons b a d=>
  intro kvs h;exact d (λq e=>c q (Jb e)) (AA h (c b List.mem_cons_self))
def vH (ps):∀b∈JcQ ps,∃m:Int,b.1=Sum.inl m :=
 vG (λb a=>by let(p,_,e):=List.mem_map.mp a;exact(p,by rw[<-e])) (λx h=>Vh h)
def Kst.of:Kst (Jeg H d ps) d ps ps.length:=(_,ao,(jU ps).1,(jU ps).2,vH ps)
def cM (ts:Wl Int)(ks:List Int)(a p y:Int):Bool:=decide (p∈ks)&&(decide (y≠-1)&&(decide (Gm p=0)||(decide (Gm p=a)&&ks.any λo=>decide (o≠p)&&decide (Gm o=a))))
def fw (Rs:Yl Int)(ts:Wl Int)(a:Int)(st:Jbd Int (List Int))(t:Iz Int):List Int×List Int :=
 if Xh (cM ts st.1 a (-t.1) t.2) then((st.1.filter λm=>decide (m≠-t.1))++(NP t.2).filter (λm=>decide (m≠t.1)),st.2++[t.2],) else st
def lrn (Rs:Yl Int)(ts:Wl Int)(f:Int)(i:Nat):List Int×List Int:=(ts.reverse.take i).foldl (fw Rs ts (cnt ts)) (NP f,[f],)
def jX (h:ts.reverse[i]?=some t):NT (i+1)=fw Rs ts (cnt ts) (NT i) t:=by unfold lrn;rw[bf h,List.foldl_append];rfl
def gu (Rs:Yl Int)(ts:Wl Int)(f:Int):List Int:=(NT ts.length).1
def cA (Rs:Yl Int)(ts:Wl Int)(f:Int):List Int:=(NT ts.length).2
def aZ (Rs:Yl Int)(ts:Wl Int)(f:Int):List Int:=(negs ts).reverse.filter λp=>decide (p∈gu Rs ts f)
def jo (l:List Int)(m:Int):Prop:=(l=[]->m=0)/\(l≠[]->m∈l/\∀n∈l,n<=m)
structure ff (Rs:Yl Int)(ts)(f:Int):Prop where
 nd:(negs ts).Nodup
 f0:0<=f
 f1:f<(Rs.length:Int)
 fp:∀p∈NP f,Jl_ p
 why:∀t∈ts,t.2≠-1->0<=t.2/\t.2<(Rs.length:Int)/\∀p∈NP t.2,p≠t.1->Jl_ p
set_option tactic.hygienic true in
def nU (c:JiC f):∀i,∀p∈(NT i).1,p∈negs ts:=by
 intro i
 induction i with
 |zero=>exact c.fp
 | succ i b =>
  rcases Nat.lt_or_ge i ts.reverse.length with a|a
  .rw[jX (gG a)];let d:=List.mem_reverse.mp (List.getElem_mem a);unfold fw;split
   .rename_i e;intro p g;rcases mPq g with q | q
    .exact b p ((List.mem_filter.mp q).1)
    .let y:ts.reverse[i].2≠-1:=by unfold cM at e;rw[Bool.and_eq_true,Bool.and_eq_true]at e;exact oDq e.2.1
     have:=List.mem_filter.mp q;exact(c.why _ d y).2.2 p this.1 (oDq this.2)
   .exact b
  .let e:NT (i+1)=lrn Rs ts f i:=by unfold lrn;rw[tO (by lia),tO a]
   rw[e];exact b
def AB (Rs)(ts)(f):∀i,(NT i).2.length<=1+i:=by
 intro i
 induction i with
 |zero=>exact nRq _
 | succ i b =>
  rcases Nat.lt_or_ge i ts.reverse.length with a|a
  .rw[jX (gG a)];unfold fw;split
   .rw[lAq];simp only[lS];lia
   .lia
  .let e:NT (i+1)=lrn Rs ts f i:=by unfold lrn;rw[tO (by lia),tO a]
   rw[e];lia
def AD {K:W.Frag}{H:Hp}{a:Addr}{ps:List Int}{Q:VK}(h:GY a)(q:∀H' t,Jks (Jkm t ((ps.drop 1).map V.int)) t):qh K (.ref a) (some 1) none H Q:=by
 let b:HT.sIx (ps.map V.int).length 0 (some 1)=min 1 (ps.map V.int).length:=HT.sIx_nat _ _ 1;let f:HT.sIx (ps.map V.int).length (ps.map V.int).length none=(ps.map V.int).length:=HT.sIx_none _ _;cases ps with
 |nil=>exact J6 a _ rfl h (Ye rfl) (q H a (ap.refl _) h)
 | cons p ps =>
  apply JaJ a _ rfl h (λz=>?_) (λt d=>q _ t (Wm d) ?_)
  .let c:=z.1;rw[b,lM,List.length_cons]at c;lia
  .let e:eZ ((p :: ps).map V.int) (some 1) none=((p :: ps).drop 1).map V.int:=by unfold eZ;rw[b,f,lM,List.length_cons,Nat.min_eq_left (by lia),←List.map_drop,tO (by rw[lM,List.length_drop,List.length_cons];exact nRq _)]
   rw[e];exact SqT.of ao
def jY {ts:List (Iz Int)}{i:Nat}(h:UB i):ts.reverse[i]?=ts[Xt 1-i]?:=by rw[List.getElem?_reverse h]
def vI (ts):(negs ts).reverse=ts.reverse.map λt=>-t.1:=by unfold negs;rw[List.map_reverse]
def Kst.ne (h:Kst H d ks n)(a:UL l):l≠d:=λe=>by let(kvs,b,_):=h;rw[e,b]at a;cases a
def Lev.ne (h:JgA H d)(a:UL l):l≠d:=λe=>by let(kvs,b,_):=h;rw[e,b]at a;cases a
def TOk (Rs:Yl Int)(ts:Wl Int):Prop:=∀i t,ts[i]?=some t->
 t.1≠0/\(-60<=t.1/\t.1<=60)/\t.1∉(ts.take i).map Prod.fst/\-t.1∉(ts.take i).map Prod.fst/\
 (t.2=-1\/∃(k:Nat) (r:List Int),t.2=(k:Int)/\Rs[k]?=some r/\t.1∈r/\∀p∈r,p≠t.1->-p∈(ts.take i).map Prod.fst)
def TOk.nil (Rs):TOk Rs []:=λi t h=>by cases h
def nV {a:Type}{xs ys:List a}{i:Nat}(h:Jfn i):(xs++ys).take i=xs.take i:=by rw[List.take_append,show i-xs.length=0 by lia];simp
def TOk.snoc {Rs:List (List Int)}{ts:List (Iz Int)}{t:Int×Int}(h:Nz Rs)(h0:t.1≠0)(c:-60<=t.1/\t.1<=60)(b:t.1∉ts.map Prod.fst)(a:-t.1∉ts.map Prod.fst)
  (y:t.2=-1\/∃(k:Nat) (r:List Int),t.2=(k:Int)/\Rs[k]?=some r/\t.1∈r/\∀p∈r,p≠t.1->-p∈ts.map Prod.fst):TOk Rs (ts++[t]):=λi u e=>by
 rcases Nat.lt_or_ge i ts.length with q|q
 .rw[List.getElem?_append_left q]at e;rw[nV (Nat.le_of_lt q)];exact h i u e
 .rw[List.getElem?_append_right q]at e;let f:i-ts.length=0:=by let⟨z⟩:=gEq e;simp only[lS]at z;lia
  rw[f]at e;cases e;let d:i=ts.length:=by lia
  subst d;rw[nV (nRq _),List.take_length];exact(h0,c,b,a,y)
def TOk.nd (h:Nz Rs):∀i j:Nat,i<j->∀t u:Iz Int,ts[i]?=some t->ts[j]?=some u->t.1≠u.1/\t.1≠-u.1:=λi j a t u d c=>by
 let q:=h j u c;let b:t.1∈(ts.take j).map Prod.fst:=by apply JdY t ?_;apply mO (i:=i) ?_;rw[List.getElem?_take,if_pos a];exact d
 exact(λe=>q.2.2.1 (by rw[<-e];exact b),λe=>q.2.2.2.1 (by rw[<-e];exact b))
def TOk.negs (h:Nz Rs):(L2.negs ts).Nodup:=by rw[List.nodup_iff_pairwise_ne,List.pairwise_iff_getElem];intro i j b a c e;rw[g_]at b a;let q:=(h.nd i j c _ _ (gG b) (gG a)).1;let k:=jW (gG b);let g:=jW (gG a);rw[gG (by rw[g_];exact b)]at k;rw[gG (by rw[g_];exact a)]at g;let f:=Option.some.inj k;let d:=Option.some.inj g;rw[f,d]at e;lia
def TOk.atoms (h:Nz Rs):(ts.map λt=>t.1.natAbs).Nodup:=by rw[List.nodup_iff_pairwise_ne,List.pairwise_iff_getElem];intro i j c b a e;rw[lM]at c b;let q:=h.nd i j a _ _ (gG c) (gG b);rw[List.getElem_map,List.getElem_map]at e;lia
theorem jZ:∀n {xs:List Nat},xs.Nodup->(∀x∈xs,x<n)->Jao n
 |0,[],_,_=>nRq _
 |0,x::xs,_,h=>Xn (IJ x) _
 |n+1,xs,a,h=>by
  let q:=jZ n (a.erase n) (λx b=>by let z:=(List.Nodup.mem_erase_iff a).mp b;have:=h x z.2;have:=z.1;lia)
  rw[List.length_erase]at q;split at q<;>lia
def TOk.len (h:Nz Rs):JI 61:=by
 let q:=jZ 61 h.atoms (λx a=>by let(t,b,e):=List.mem_map.mp a;let(k,c):=List.mem_iff_getElem?.mp b;have:=(h k t c).2.1;lia)
 rw[lM]at q;exact q
def Fails (Rs:Yl Int)(ts:Wl Int)(f:Nat):Prop:=∃r,Rs[f]?=some r/\∀p∈r,-p∈ts.map Prod.fst
def nW {Rs:List (List Int)}{k:Nat}{r:List Int}(h:Rs[k]?=some r):NP (k:Int)=r:=by unfold aY;rw[Int.toNat_natCast,List.getD_eq_getElem?_getD,h];rfl
def TOk.ln {Rs:List (List Int)}{ts:List (Iz Int)}{f:Nat}(h:Nz Rs)(l:Fails Rs ts f):JiC (f:Int):=by
 let(r,c,g):=l;let o:f<Rs.length:=(gEq c).1;apply(h.negs,by lia,by lia,λp q=>?_,λt e y=>?_)
 .rw[nW c]at q;exact vE.mpr (g p q)
 .let(i,j):=List.mem_iff_getElem?.mp e;rcases(h i t j).2.2.2.2 with z | ⟨k,r',e1,e2,e3,e4⟩
  .exact IP y
  .let kl:k<Rs.length:=(gEq e2).1;apply(by lia,by lia,λp a b=>?_);rw[e1,nW e2]at a;let q:=e4 p a b;apply vE.mpr ?_;let(u,d,n):=List.mem_map.mp q;exact Vd u (List.mem_of_mem_take d) n
def TOk.more (h:Nz Rs):Nz (Rs++Qs):=λi t e=>by
 let(g,f,d,c,b):=h i t e;apply(g,f,d,c,?_);rcases b with z|⟨k,r,l,a,j⟩
 .exact .inl z
 .exact X4 k r l (by rw[List.getElem?_append_left (gEq a).1];exact a) j
noncomputable def zaW (i:Int):Int:=if i<0 then -i else i
structure FRow (ts:Wl Int)(row:List Int)(n):Prop where
 le:row.length<=n
 neg:∀p∈row,-p∈ts.map Prod.fst
 last:∀t,ts.getLast?=some t->-t.1∈row
def FRow.ins (h:FRow ts row n){t:Int×Int}(b:t∈ts)(i):FRow ts (L2.ins row i (-t.1)) (n+1):=by
 apply(by rw[zW];exact Nat.succ_le_succ h.le,λp c=>?_,λu a=>vz.mpr (.inr (h.last u a)));rcases vz.mp c with e|e
 .rw[e,Int.neg_neg];exact JdY t b
 .exact h.neg p e
def nX:Im i<=cnt ts:=by
 let e:cnt ts=Im i+cnt (ts.drop i):=by rw[<-gb,List.take_append_drop]
 have:=iA (ts.drop i);lia
def lB (p):Gm p<=cnt ts:=nX
def j_ (p):0<=lvF ts p:=iA _
def Plc (H:Hp)(d:Addr)(ts:Wl Int):Prop:=∃kvs:List _,JY d/\∀p:Int,I0 p=if p∈ts.map Prod.fst then Ya (Gm (-p)) else none
def Plc.same (h:Plc H d ts)(s:Xd H):Plc H' d ts:=by let(kvs,b,a):=h;exact(kvs,s _ _ b,a)
def gF (ts:Wl Int)(ks:List Int)(a p:Int):Bool:=decide (Gm p=0)||(decide (Gm p=a)&&!(((ks.filter λm=>decide (m≠p)).filter λo=>decide (Gm o=a)).isEmpty))
def TOk.y (h:Nz Rs):∀t∈ts,-1<=t.2:=λt a=>by let(i,b):=List.mem_iff_getElem?.mp a;rcases(h i t b).2.2.2.2 with z|⟨k,_,z,_⟩<;>lia
def iQ (h0:0<=y)(a:y<(Rs.length:Int)):Rs[y.toNat]?=some (NP y):=by unfold aY;rw[List.getD_eq_getElem?_getD,gG (by lia)];rfl
def iC {ts:List (Iz Int)}{i j:Nat}(h:i<=j):Im i<=cnt (ts.take j):=by
 let e:ts.take j=ts.take i++(ts.take j).drop i:=by have:=JN (ts.take j);rw[List.take_take,Nat.min_eq_left h]at this;exact this.symm
 rw[e,gb];have:=iA ((ts.take j).drop i);lia
def lC (h:Jl_ q):∃(i:Nat) (t:Iz Int),ts[i]?=some t/\q=-t.1:=by let(t,a,e):=List.mem_map.mp h;let(i,b):=List.mem_iff_getElem?.mp a;exact(i,t,b,e.symm)
def TOk.same_ix (a:Nz Rs){i j:Nat}{t u:Int×Int}(c:ts[i]?=some t)(b:ts[j]?=some u)(e:t.1=u.1):i=j:=by
 rcases Nat.lt_trichotomy i j with h|h|h
 .exact absurd e (a.nd i j h t u c b).1
 .exact h
 .exact absurd e.symm (a.nd j i h u t b c).1
def lD (h:Xh (cM ts ks last p y)):p∈ks/\y≠-1/\(Gm p=0\/(Gm p=last/\∃o∈ks,o≠p/\Gm o=last)):=by
 unfold cM at h;rw[Bool.and_eq_true,Bool.and_eq_true,Bool.or_eq_true,Bool.and_eq_true,List.any_eq_true]at h;apply Id (oDq h.1) (oDq h.2.1);rcases h.2.2 with z|⟨b,o,c,a⟩
 .exact .inl (oDq z)
 .rw[Bool.and_eq_true]at a;exact X4 (oDq b) o c (oDq a.1) (oDq a.2)
def vJ (g:p∈ks)(f:y≠-1)(e:Gm p=0\/(Gm p=last/\∃o∈ks,o≠p/\Gm o=last)):Xh (cM ts ks last p y):=by
 unfold cM;rw[Bool.and_eq_true,Bool.and_eq_true,Bool.or_eq_true,Bool.and_eq_true,List.any_eq_true];apply Id (dTq g) (dTq f);rcases e with z|⟨c,o,d,b,a⟩
 .exact .inl (dTq z)
 .exact NG (dTq c) o d (by rw[dTq b,dTq a];rfl)
def lE (d:Nz Rs){i:Nat}(x:UB i):∃t:Iz Int,ts[Xt 1-i]?=some t∧NT (i+1)=fw Rs ts (cnt ts) (NT i) t ∧
  ∀q:Int,q∈(NT (i+1)).1->q∈(NT i).1\/∃j u,j<Xt 1-i/\ts[j]?=some u/\q=-u.1/\JhG ts (NT i).1 ts (-t.1) t.2/\q∈aY Rs t.2:=by
 obtain⟨t,g⟩:∃t,ts[Xt 1-i]?=some t:=Jgg (by lia);let n:=jY x;rw[g]at n;let e:=jX (Rs:=Rs) (f:=f) n;apply(t,g,e,λq a=>?_);rw[e]at a;unfold fw at a;by_cases r:JhG ts (NT i).1 ts (-t.1) t.2
 .rw[if_pos r]at a;rcases mPq a with z | z
  .exact .inl (List.mem_filter.mp z).1
  .let(l,p):=List.mem_filter.mp z;let o:=oDq p;let s:=(lD r).2.1;rcases(d _ t g).2.2.2.2 with w | ⟨k,row,e1,e2,_,e4⟩
   .exact absurd w s
   .let b:=l;rw[e1,nW e2]at b;let w:=e4 q b o;let(u,v,y):=List.mem_map.mp w;let(j,h):=List.mem_iff_getElem?.mp v;let c:j<Xt 1-i:=by have:=(gEq h).1;rw[List.length_take]at this;lia
    rw[List.getElem?_take,if_pos c]at h;exact .inr (j,u,c,h,by lia,r,l)
 .rw[if_neg r]at a;exact .inl a
def qk (a:Nz Rs){i j:Nat}{u:Int×Int}(g:UB i)(d:ts[j]?=some u)(h:Xt 1-i<=j)(c:-u.1∈(NT (i+1)).1):-u.1∈(NT i).1:=by
 let(t,o,e,b):=lE a g;rcases b _ c with z|⟨n,l,q,k,p,_⟩
 .exact z
 .have:=a.same_ix d k (by lia);lia
def vK (b:Nz Rs){i:Nat}{t:Int×Int}(n:UB i)(d:ts[Xt 1-i]?=some t)(r:JhG ts (NT i).1 ts (-t.1) t.2):-t.1∉(NT (i+1)).1:=λl=>by
 let(t',c,e,o):=lE b n;rw[d]at c;cases c;let a:=l;rw[e]at a;unfold fw at a;rw[if_pos r]at a;rcases mPq a with z|z
 .exact(oDq (List.mem_filter.mp z).2) rfl
 .let(g,h):=List.mem_filter.mp z;let j:=(lD r).2.1;rcases(b _ t d).2.2.2.2 with w | ⟨k,row,e1,e2,_,e4⟩
  .exact j w
  .rw[e1,nW e2]at g;let w:=e4 _ g (oDq h);rw[Int.neg_neg]at w;exact(b _ t d).2.2.1 w
def vL (b:Nz Rs){i:Nat}{t:Int×Int}{q:Int}(g:UB i)(d:ts[Xt 1-i]?=some t)(c:q∈(NT i).1)(n:q≠-t.1\/Xx (JcD ts (NT i).1 ts (-t.1) t.2)):q∈(NT (i+1)).1:=by
 let(t',a,e,_):=lE b g;rw[d]at a;cases a;rw[e];unfold fw;by_cases r:JhG ts (NT i).1 ts (-t.1) t.2
 .rw[if_pos r];rcases n with n | n
  .exact Ma (Jdc c n)
  .rw[n]at r;cases r
 .rw[if_neg r];exact c
def AE (a:Nz Rs):∀i,Jaq i->∀j t,ts[j]?=some t->Xt i<=j->-t.1∈(NT i).1->Gm (-t.1)≠0:=by
 intro i
 induction i with
 |zero=>
  intro _ j t b h;have:=(gEq b).1;lia
 | succ i e =>
  intro k j t b h d;let c:=qk a (by lia) b (by lia) d;rcases Nat.lt_or_ge j (Xt i) with q|q
  .let g:j=Xt 1-i:=by lia
   subst g;intro z;let r:JhG ts (NT i).1 ts (-t.1) t.2:=by apply vJ c (λy=>?_) (.inl z);rw[N1 b,jV b]at z;have:=iA (ts.take (Xt 1-i));unfold zaS at z;rw[if_pos y]at z;lia
   exact vK a (by lia) b r d
  .exact e (by lia) j t b q c
def AF {Rs:List (List Int)}{ts:List (Iz Int)}{f:Int}(a:Nz Rs)(M:JiC f)(hL:Jl1 1)(h0:∃q∈NP f,Gm q=cnt ts):∀i,Jaq i→(∃q∈(NT i).1,Gm q=cnt ts) ∧
  ∀j t,ts[j]?=some t->Xt i<=j->-t.1∈(NT i).1->Gm (-t.1)=cnt ts->∀q∈(NT i).1,Gm q=cnt ts->q=-t.1:=by
 intro i
 induction i with
 |zero=>
  intro _;apply(h0,λj t b h=>?_);have:=(gEq b).1;lia
 | succ i R =>
  intro hi;let((H,x,l0),D):=R (by lia);let(t,g,e,A):=lE a (show UB i by lia);let d:UB i:=by lia
  let N:=N1 g;by_cases r:JhG ts (NT i).1 ts (-t.1) t.2
  .let(L,Z,K):=lD r;let B:=vK a d g r;rcases K with z | ⟨z,o,S,no,lo⟩
   .apply((H,vL a d g x (.inl (λw=>by rw[w]at l0;lia)),l0),λj u b h k l q n s=>?_);let p:=qk a d b (by lia) k;rcases Nat.lt_or_ge j (Xt i) with w | w
    .let C:j=Xt 1-i:=by lia
     subst C;rw[g]at b;cases b;lia
    .rcases A q n with v | ⟨Q,Y,h1,U,T,_⟩
     .exact D j u b w p l q v s
     .let P:=N1 U;rw[<-T]at P;have:=iC (ts:=ts) (show Q+1<=Xt 1-i+1 by lia);lia
   .apply(J8 (vL a d g S (.inl no)) lo,λj u b h k l q n s=>?_);let p:=qk a d b (by lia) k;rcases Nat.lt_or_ge j (Xt i) with w | w
    .let C:j=Xt 1-i:=by lia
     subst C;rw[g]at b;cases b;exact absurd k B
    .let I:=D j u b w p l _ L z;have:=a.same_ix g b (by lia);lia
  .let r':Xx (JcD ts (NT i).1 ts (-t.1) t.2):=by
    cases h:cM ts (NT i).1 _ _ t.2 with
    |true=>exact absurd h r
    |false=>rfl
   let X:(NT (i+1)).1=(NT i).1:=by rw[e];unfold fw;rw[if_neg r]
   rw[X];apply((H,x,l0),λj u b h k l q n s=>?_);rcases Nat.lt_or_ge j (Xt i) with w|w
   .let C:j=Xt 1-i:=by lia
    subst C;rw[g]at b;cases b;apply Decidable.byContradiction ?_;intro F;by_cases y:t.2=-1
    .let(G,u,E,W):=lC (nU M i q n);subst W;let O:=N1 E;rcases Nat.lt_trichotomy G (Xt 1-i) with c | c | c
     .let c1:=iC (ts:=ts) (show G+1<=Xt 1-i by lia);let J:=jV g;unfold zaS at J;rw[if_pos y]at J;lia
     .subst c;rw[g]at E;cases E;exact F rfl
     .let I:=D G u E (by lia) n s _ k l;exact F I.symm
    .exact r (vJ k y (X4 l q n F s))
   .exact D j u b w k l q n s
def nY (h:q∈WK f):Jl_ q/\q∈(NT ts.length).1:=by let(b,a):=List.mem_filter.mp h;exact(List.mem_reverse.mp b,oDq a)
def qm (a:Nz Rs)(h:q∈WK f):Gm q≠0:=by let(d,c):=nY h;let(j,t,b,e):=lC d;subst e;exact AE a ts.length (nRq _) j t b (by lia) c
def vM (a:Nz Rs)(h:cnt ts=0):WK f=[]:=by rw[List.eq_nil_iff_forall_not_mem];intro q b;let e:=qm a b;let d:=lB (ts:=ts) q;let c:=j_ (ts:=ts) q;lia
def AG {Rs:List (List Int)}{ts:List (Iz Int)}{f:Int}(c:Nz Rs)(w:JiC f)(D:Jl1 1)(h0:∃q∈NP f,Gm q=cnt ts):∃a rest,WK f=Xw a/\Gm a=cnt ts/\∀r∈rest,Gm r≠cnt ts:=by
 let((q,s,x),B):=AF c w D h0 ts.length (nRq _);let y:=nU w ts.length q s;let n:q∈aZ Rs ts f:=Jdc (List.mem_reverse.mpr y) s;let only:∀r∈WK f,Gm r=cnt ts->r=q:=λr g p=>by let(j,t,d,e):=lC y;subst e;exact B j t d (by lia) s x r (nY g).2 p
 let k:(WK f).Pairwise λa b=>Gm b<=lvF ts a:=by apply List.Pairwise.filter _ ?_;rw[List.pairwise_reverse,List.pairwise_iff_getElem];intro i j o d C;rw[g_]at o d;let A:=jW (gG o);let z:=jW (gG d);rw[gG (by rw[g_];exact o)]at A;rw[gG (by rw[g_];exact d)]at z;let v:=Option.some.inj A;let u:=Option.some.inj z;rw[v,u,c_ c.negs (gG o),c_ c.negs (gG d)];exact iC (by lia)
 let l:(WK f).Nodup:=List.Pairwise.filter _ (by rw[List.pairwise_reverse];exact List.Pairwise.imp (λh=>Ne.symm h) c.negs);generalize WK f=ps at n only k l
 match ps,n,only,k,l with
 | a :: rest,n,only,k,l =>
  let la:Gm a=cnt ts:=by
   rcases List.mem_cons.mp n with e|e
   .rw[<-e];exact x
   .let H:=(List.pairwise_cons.mp k).1 q e;let G:=lB (ts:=ts) a;lia
  apply Gn a rest la (λr g p=>?_);let F:=only r (Jb g) p;let E:=only a List.mem_cons_self la;rw[F,<-E]at g;exact(List.nodup_cons.mp l).1 g
theorem vN {Rs:List (List Int)}{hs:List Int}:∀{es:List (Iz Int)},(∀t∈es,t.2≠-1)->cnt es=0
 |[],_=>rfl
 |t::es,h=>by let c:=vN (Rs:=Rs) (hs:=hs) λu a=>h u (Jb a);let b:=IJ t;simp only[cnt,zaS,if_neg b,c];rfl
def TOk.cons (a:Nz Rs){q:Int}(h:q∈ts.map Prod.fst)(g:-q∈ts.map Prod.fst):False:=by
 let(u,f,n):=List.mem_map.mp h;let(v,e,l):=List.mem_map.mp g;let(i,d):=List.mem_iff_getElem?.mp f;let(j,b):=List.mem_iff_getElem?.mp e;let k:=(a i u d).1;rcases Nat.lt_trichotomy i j with c|c|c
 .exact(a.nd i j c u v d b).2 (by lia)
 .subst c;rw[d]at b;cases b;lia
 .exact(a.nd j i c v u b d).2 (by lia)
def AH (h:y<(Rs.length:Int)):aY (Rs++Qs) y=NP y\/y<0:=by
 by_cases h0:y<0
 .exact .inr h0
 .left;unfold aY;rw[List.getD_eq_getElem?_getD,List.getD_eq_getElem?_getD,List.getElem?_append_left (by lia)]
structure Got (K)(H:Hp)(rl tl)(xs zs)(Rs:Yl Int)(ts:Wl Int)(fl):Prop where
 r:UL rl
 rh:Jal zcM
 t:Uo tl zs
 th:QC dP zs
 ne:rl≠tl
 tok:Nz Rs
 ok:JiC fl
 last:Jl1 1->∃q∈NP fl,Gm q=cnt ts
 t61:JI 61
 r20:∀r∈Rs,U9 r.length
 R300:Jkh 300
def Got.same (g:Got K H rl tl xs zs Rs ts fl)(s:Xd H):Got K H' rl tl xs zs Rs ts fl :=
 (s _ _ g.r,ar.keep s.kt (du _) g.rh,s _ _ g.t,Nu s.kt _ g.th,g.ne,g.tok,g.ok,g.last,g.t61,g.r20,g.R300)
def Got.zl (g:Got K H rl tl xs zs Rs ts fl):Jdb ts.length:=by rw[<-g.th.length,lM]
def Got.xl (g:Got K H rl tl xs zs Rs ts fl):Mz Rs.length:=by rw[<-g.rh.length,lM]
end L2
namespace L2
open PySem PySem.Spec PyProof.Rows
set_option maxRecDepth 100000
end L2
namespace L2
open PySem
def NoF (Rs:Yl Int)(hs:List Int):Prop:=∀r∈Rs,∃q∈r,-q∉hs
def Comp (Rs:Yl Int)(ts:Wl Int):Prop:=∀i t,ts[i]?=some t->t.2=-1->NoF Rs ((ts.take i).map Prod.fst)
def Comp.nil (Rs):Comp Rs []:=λi t h=>by cases h
def TOk.take (h:Nz Rs)(j):TOk Rs (ts.take j):=λi t e=>by
 let a:i<j:=by have:=(gEq e).1;rw[List.length_take]at this;lia
 rw[List.getElem?_take,if_pos a]at e;rw[List.take_take,Nat.min_eq_left (Nat.le_of_lt a)];exact h i t e
def AI:∀ts,Jl1 1->∃i t,ts[i]?=some t/\t.2=-1/\Im i+1=cnt ts:=by
 intro ts;generalize a:ts.length=n
 induction n generalizing ts with
 |zero=>
  intro h;rw[List.length_eq_zero_iff.mp a]at h;exact Vq h
 | succ n g =>
  intro h;obtain⟨xs,t,rfl⟩:∃xs t,ts=xs++[t]:=(ts.dropLast,ts.getLast (by intro e;rw[e]at a;cases a),(List.dropLast_concat_getLast _).symm);rw[lAq]at a;simp only[lS]at a;let f:cnt (xs++[t])=cnt xs+zaS t:=by rw[gb];simp [cnt]
  by_cases y:t.2=-1
  .apply(xs.length,t,by rw[List.getElem?_append_right (nRq _),Nat.sub_self];rfl,y,?_);rw[nV (nRq _),List.take_length,f];unfold zaS;rw[if_pos y]
  .let d:cnt (xs++[t])=cnt xs:=by rw[f];unfold zaS;rw[if_neg y];lia
   rw[d]at h;let(i,u,c,k,j):=g xs (by lia) h;let b:=(gEq c).1;exact(i,u,by rw[List.getElem?_append_left b];exact c,k,by rw[nV (Nat.le_of_lt b),d];exact j)
structure fg (ts:Wl Int)(lv)(j):Prop where
 le:Jaq j
 low:∀m,m<j->Im (m+1)<=lv
 high:UB j->lv<Im (j+1)
def fg.inj (a:fg ts lv j)(b:fg ts lv k):j=k:=by
 rcases Nat.lt_trichotomy j k with h|h|h
 .let d:=b.low j h;let c:=a.high (by have:=b.le;lia);lia
 .exact h
 .let d:=a.low k h;let c:=b.high (by have:=a.le;lia);lia
structure lF (Rs)(ts)(f n)(j):Prop where
 tok:Nz Rs
 ok:JiC f
 last:Jl1 1->∃q∈NP f,Gm q=cnt ts
 mx:jo (((WK f).drop 1).map (lvF ts)) n
 cut:fg ts n j
def lF.n0 (R:lF Rs ts f n j):0<=n:=by
 by_cases e:((WK f).drop 1).map (lvF ts)=[]
 .rw[R.mx.1 e];decide
 .let(a,_,b):=List.mem_map.mp (R.mx.2 e).1;rw[<-b];exact j_ a
def lF.split (R:lF Rs ts f n j)(k:WK f≠[]):∃a rest,WK f=Xw a/\Gm a=cnt ts/\n<cnt ts/\(∀r∈rest,Gm r<=n)/\(1<=n->∃r∈rest,Gm r=n):=by
 let h:1<=cnt ts:=by apply Decidable.byContradiction ?_;intro z;have:=iA ts;exact k (vM R.tok (by lia))
 let(a,rest,e,la,l):=AG R.tok R.ok h (R.last h);let g:=R.mx;rw[e]at g;let b:=g;apply(a,rest,e,la,?_,λr d=>?_,λo=>?_)
 .by_cases z:rest.map (lvF ts)=[]
  .rw[b.1 z];lia
  .let(r,c,i):=List.mem_map.mp (b.2 z).1;let o:=l r c;let p:=lB (ts:=ts) r;lia
 .let z:rest.map (lvF ts)≠[]:=λz=>by rw[List.map_eq_nil_iff]at z;rw[z]at d;cases d
  exact(b.2 z).2 _ (JdY r d)
 .let z:rest.map _≠[]:=λz=>by have:=b.1 z;lia
  let(r,c,i):=List.mem_map.mp (b.2 z).1;exact(r,c,i)
def jq (a:Nz Rs)(h:q∈WK f):∃i t,ts[i]?=some t/\q=-t.1/\Gm q=cnt (ts.take (i+1)):=by let(i,t,b,e):=lC (nY h).1;exact(i,t,b,e,by rw[e];exact N1 b)
def AJ (b:Nz Rs){i m:Nat}{t:Int×Int}(d:ts[i]?=some t):t.1∈(ts.take m).map Prod.fst↔i<m:=by
 constructor
 .intro h;let(u,e,f):=List.mem_map.mp h;let(k,c):=List.mem_iff_getElem?.mp e;let a:k<m:=by have:=(gEq c).1;rw[List.length_take]at this;lia
  rw[List.getElem?_take,if_pos a]at c;rw[b.same_ix d c f.symm];exact a
 .intro h;apply JdY t (mO (i:=i) ?_);rw[List.getElem?_take,if_pos h];exact d
end L2
namespace L2
open PySem PySem.Spec PyProof.Rows
set_option maxRecDepth 100000
def AK (c:TA):TE:=λb H Q=>c b H λvs a=>∃j:Int,vs=WY j/\∀r,Iq (Uf (a r)) r (upd a r (.rng 0 j))
def vO (n:Jg9 "range")(l:UG "range")(u:PA X [a] ta)(hs:Vb [a]=[(false,Vc a,)]:=by rfl):Qo (Ji2 "range" p [a]) (AK ta):=by
 intro c s f H Q I h;apply JaE I n l boot_range (thn (u pos c s f H _ I h) λus g h_=>?_) hs rfl;let(vs,w,d,k,q1):=h_;let(j,e,q):=q1;subst e;cases k with
 |cons r i=>
  cases i;let(t,rfl):=r;apply call_range_1 ?_;apply Wt g.heap.objs.size _ (d.laid (λb v e=>Xz e) (nRq _) ?_) (q _ (JaP _));exact(_,_,_,Heap.get?_push_size _ rfl)
def vP (D:Xh X.calm):JbS X "list" (λxs H Q=>∃r j,xs=Gj r∧Gc r (.rng 0 j)∧0≤j∧Jh2 j∧∀l,Jcu l l (QZ l (((List.range j.toNat).map λi:Nat=>(i:Int)).map V.int))):=by
 intro k s J H xs us Q I r h;let(z,j,rfl,C,P,O,q):=h;let(u,rfl,y):=fu r;cases y;let(N,M,K,e):=VL z C;let E:Builtin.Range.rangeSize 0 j 1=(j.toNat:Int):=by rw[rangeSize_one];split<;>lia
 apply call_list_range (I.ok.hd D) e (small_one (by lia) (by lia) (by lia) (by lia)) E (by lia) λh' tk acc c A F a=>?_;let G:Jb2 j.toNat:=by rw[Array.length_toList];exact a.1
 let d:bc (((List.range j.toNat).map λi:Nat=>(i:Int)).map V.int) acc.toList:=by
  let f:∀n L o,L.length=n->(∀i v,L[i]?=some v->∃t,v=YO (0+(((o+i:Nat):Nat):Int)*1))->bc (((List.range' o n).map λi:Nat=>(i:Int)).map V.int) L:=by
   intro n
   induction n with
   |zero=>
    intro L o b _;cases L with
    |nil=>exact .nil
    |cons _ _=>cases b
   | succ n B =>
    intro L o b p
    match L,b with
    |x::L,b=>
     apply Jjo (B L _ (by simpa using b) λi v e=>?_)
     .let(t,e):=p 0 x rfl;exact(t,by rw[e];congr 1;show(0:Int)+(o+0:Int)*1=(o:Int);lia)
     .let(t,g):=p (i+1) v e;exact(t,by rw[g];congr 1;lia)
  have:=f j.toNat acc.toList 0 G λi v e=>by let(t,g):=a.2 i v (by rw[<-Array.getElem?_toList];exact e);exact(t,by rw[g,Nat.zero_add])
  rw[List.range_eq_range'];exact this
 apply JmH _ (t':=tk) A _ (show Jns _ h' _ (((List.range j.toNat).map λi:Nat=>(i:Int)).map V.int) from(?_,acc.toList,c,d,by rw[Array.toArray_toList];exact F)) (Jni _ _);rw[lM,lM,List.length_range,sizeLine_eq];lia
end L2
namespace L2
open PySem
noncomputable def loF (x y:Int):Int:=if y<x then y else x
noncomputable def hiF (x y:Int):Int:=if y>x then y else x
def mrg (c:UM Int)(a b:Int):UM Int:=λt=>if c t=hiF (c a) (c b) then loF (c a) (c b) else c t
structure Hd (N:Nat)(hd:UM Int):Prop where
 idem:∀t,hd (hd t)=hd t
 le:∀t,hd t<=t
 rng:∀t,hd t≠t->0<=hd t/\t<(N)
def Hd.zero (N):Hd N (λt=>t):=(λx=>rfl,λx=>Int.le_refl _,λx h=>GE h)
def lohi (x y):loF x y<=hiF x y/\((loF x y=x/\hiF x y=y)\/(loF x y=y/\hiF x y=x)):=by unfold loF hiF;split<;>split<;>lia
def Hd.in' (h:Hd N hd){a:Int}(b:0<=a/\a<(N:Int)):0<=hd a/\hd a<(N:Int):=by
 let c:=h.le a;by_cases e:hd a=a
 .rw[e];exact b
 .have:=h.rng a e;lia
def Hd.lo_id (h:Hd N hd)(a b):hd (Jdk a b)=loF (hd a) (hd b):=by rcases(lohi _ _).2 with ⟨e,_⟩|⟨e,_⟩<;>rw[e]<;>exact h.idem _
def Hd.hi_id (h:Hd N hd)(a b):hd (X_ a b)=hiF (hd a) (hd b):=by rcases(lohi _ _).2 with ⟨_,e⟩|⟨_,e⟩<;>rw[e]<;>exact h.idem _
def vQ (e:Jdk a b=X_ a b):mrg hd a b=hd:=by
 funext t;unfold mrg;by_cases c:hd t=X_ a b
 .rw[if_pos c,e,c]
 .rw[if_neg c]
def Hd.mrg (h:Hd N hd){a b:Int}(f:0<=a/\a<(N:Int))(d:0<=b/\b<(N:Int)):Hd N (mrg hd a b):=by
 let g:=lohi (hd a) (hd b);let la:=h.in' f;let i:=h.in' d;apply(λt=>?_,λt=>?_,λt=>?_)
 .by_cases e:Jdk a b=X_ a b
  .rw[vQ e];exact h.idem t
  .unfold L2.mrg;by_cases c:hd t=X_ a b
   .rw[if_pos c,h.lo_id,if_neg e]
   .rw[if_neg c,h.idem,if_neg c]
 .unfold L2.mrg;have:=h.le t;split<;>lia
 .unfold L2.mrg;intro z;by_cases c:hd t=X_ a b
  .rw[if_pos c]at z ⊢;apply Mm (by lia);by_cases w:hd t=t
   .lia
   .exact(Jm0 w).2
  .rw[if_neg c]at z⊢;exact Jm0 z
def nZ:mrg hd a b t=mrg hd a b u↔hd t=hd u\/(hd t=hd a/\hd u=hd b)\/(hd t=hd b/\hd u=hd a):=by
 let g:=(lohi (hd a) (hd b)).2;unfold mrg;by_cases c:hd t=X_ a b<;>by_cases d:hd u=X_ a b
 .rw[if_pos c,if_pos d];exact(λx=>.inl (by rw[c,d]),λx=>rfl)
 .rw[if_pos c,if_neg d];rcases g with ⟨f,e⟩ | ⟨f,e⟩ <;> rw[f] <;> rw[e]at c d
  .exact(λz=>.inr (Yg c z.symm),λz=>z.elim (λz=>Jad c d) λz=>z.elim (λz=>Jjt z.2) λz=>z.2.symm)
  .exact(λz=>.inr (Uh c z.symm),λz=>z.elim (λz=>Jad c d) λz=>z.elim (λz=>z.2.symm) λz=>Jjt z.2)
 .rw[if_neg c,if_pos d];rcases g with ⟨f,e⟩ | ⟨f,e⟩ <;> rw[f] <;> rw[e]at c d
  .exact(λz=>.inr (Uh z d),λz=>z.elim (λz=>Jz (z.trans d)) λz=>z.elim (λz=>z.1) λz=>Jz z.1)
  .exact(λz=>.inr (Yg z d),λz=>z.elim (λz=>Jz (z.trans d)) λz=>z.elim (λz=>Jz z.1) λz=>z.1)
 .rw[if_neg c,if_neg d];rcases g with ⟨f,e⟩ | ⟨f,e⟩ <;> rw[e]at c d
  .exact(.inl,λz=>z.elim id λz=>z.elim (λz=>Jjt z.2) λz=>Jz z.1)
  .exact(.inl,λz=>z.elim id λz=>z.elim (λz=>Jz z.1) λz=>Jjt z.2)
abbrev Lk:=Iz (Iz Int)
def hdL (ls:List Lk):UM Int:=ls.foldl (λa l=>mrg a l.1 l.2.1) λt=>t
def iD (ls)(l):hdL (ls++[l])=mrg (hdL ls) l.1 l.2.1:=by unfold hdL;rw[List.foldl_append];rfl
def InN (N:Nat)(ls:List Lk):Prop:=∀l∈ls,(0<=l.1/\l.1<(N:Int))/\0<=l.2.1/\l.2.1<(N:Int)
def vR (h:InN N ls):∀i,i<=ls.length->Hd N (hdL (ls.take i)):=by
 intro i
 induction i with
 |zero=>exact λx=>Hd.zero N
 |succ i b=>
  intro c;obtain⟨l,a⟩:∃l,ls[i]?=some l:=Jgg (by lia);rw[bf a,iD];have:=h l (mO a);exact(b (by lia)).mrg this.1 this.2
def vS (h:InN N ls):Hd N (hdL ls):=by have:=vR h ls.length (nRq _);rw[List.take_length]at this;exact this
def lG {b:Type}{P:List b->Prop}(h0:P [])(f:∀xs x,P xs->P (xs++[x])):∀xs,P xs:=by
 intro xs;generalize a:xs.length=n
 induction n generalizing xs with
 |zero=>rw[List.length_eq_zero_iff.mp a];exact h0
 |succ n d=>
  let c:xs≠[]:=λe=>by rw[e]at a;cases a
  rw[<-List.dropLast_concat_getLast c];apply f _ _ (d _ ?_);rw[List.length_dropLast];lia
def vT (S:Int->Prop):∀ls:List Lk,(∀l∈ls,S l.1↔S l.2.1)->∀t u,Ja4 t=Ja4 u->(S t↔S u):=by
 apply lG ?_ ?_
 .intro _ t u e;let i:t=u:=e;rw[i]
 .intro ls l f h t u e;rw[iD,nZ]at e;let a:=f λk g=>h k (Ma g);let d:=h l (Na List.mem_cons_self);rcases e with e | ⟨c,b⟩ | ⟨c,b⟩
  .exact a t u e
  .exact(a t l.1 c).trans (d.trans (a u l.2.1 b).symm)
  .exact(a t l.2.1 c).trans (d.symm.trans (a u l.1 b).symm)
def vU:∀ls:List Lk,∀l∈ls,Ja4 l.1=hdL ls l.2.1:=by
 apply lG (λl h=>Vh h) ?_;intro ls k a l b;rw[iD,nZ];rcases mPq b with z|z
 .exact .inl (a l z)
 .cases mSq z;exact GZ (Ye rfl)
def AL (h:Ja4 t=Ja4 u):hdL (ls++[l]) t=hdL (ls++[l]) u:=by rw[iD,nZ];exact .inl h
def n_ {ls:List Lk}{t u:Int}:∀a:List Lk,Ja4 t=Ja4 u->hdL (ls++a) t=hdL (ls++a) u:=by apply lG (λh=>by rw[List.append_nil];exact h) ?_;intro a l b h;rw[<-List.append_assoc];exact AL (b h)
theorem gv:∀(n:Nat) {xs:List Int},xs.Nodup->(∀x∈xs,0<=x/\x<(n:Int))->Jao n
 |0,[],_,_=>nRq _
 |0,x::xs,_,h=>by have:=IJ x;lia
 |n+1,xs,a,h=>by
  let q:=gv n (a.erase (n:Int)) (λx b=>by let z:=(List.Nodup.mem_erase_iff a).mp b;have:=h x z.2;have:=z.1;lia)
  rw[List.length_erase]at q;split at q<;>lia
noncomputable def dL (l:Lk):Dt:=JiX l.1 l.2.1 l.2.2
def has_dL (h:Jkp (dL l)):∃p,Xl v p/\SqT K H p (Gy l.1 l.2.1 l.2.2):=by let(a,xs,rfl,b,c):=h;let e:=ji (ns:=[l.1,l.2.1,l.2.2]) c;rw[e]at b;exact Nc a b
def oa (h:Nw p (Gy l.1 l.2.1 l.2.2)):JU K (dL l) p:=Jiy (.cons Has.int (Jcw Has.int))
theorem cG:∀ls:List Lk,WU (ls.map dL)
 |[]=>by simp [a_]
 |l::ls=>by simp only[List.map_cons,a_,dL,nol,Bool.true_and];exact cG ls
theorem vV:∀ls:List Lk,JjK (ls.map dL) 1
 |[]=>by simp [aD]
 |l::ls=>by let h:=vV ls;simp only[List.map_cons,aD,dL,dep];lia
def ka {K:W.Frag}{H:Hp}{ls:List Lk}{xs:List V}{i:Nat}{x:V}(h:JmG dL)(e:xs[i]?=some x):∃l p,ls[i]?=some l/\YK p/\SqT K H p (Gy l.1 l.2.1 l.2.2):=by let(d,b,a):=h.get e;rw[List.getElem?_map]at b;let(l,j,g):=Option.map_eq_some_iff.mp b;rw[<-g]at a;let(p,f,c):=has_dL a;exact(l,p,j,f,c)
def Mem (H:Hp)(kg:WT Key)(c:UM Int)(d:List Addr)(x:Int)(b:List Int):Prop:=b.Nodup/\(∀t,t∈b↔c t=x)/\((Uf (Xg kg x)/\b=[x])\/∃a,Xg kg x=Ja a/\Uo a (b.map V.int)/\a∉d)
structure GO (H:Hp)(C g ld gd)(N b)(hd)(av):Prop where
 h:Hd N hd
 ne:ld≠gd
 ex:∃dx kl kg,Jnp g [("least",.ref ld,),("gathered",.ref gd,)]/\Vu ld kl/\Vu gd kg/\(∀t:Int,(Xg kl t).getD (.int t)=.int (hd t))/\(∀x:Int,hd x=x->∃ms:List Int,Mem H kg hd av x ms)/\kl.length<=b*N/\kg.length<=b
def GO.same (G:Jjc H)(s:Xd H):Jjc H':=by
 let(dx,kl,kg,t,r,q,p,o,n,l):=G.ex;apply(G.h,G.ne,dx,kl,kg,s _ _ t,s _ _ r,s _ _ q,p,λx k=>?_,n,l);let(e,j,i,c):=o x k;apply JhK e j i;rcases c with c|⟨a,f,d⟩
 .exact .inl c
 .exact NG a f (s _ _ d.1) d.2
def GO.mono (G:Jjc H)(h:b<=b'):Jjb H b':=by let(dx,kl,kg,j,i,f,e,d,c,a):=G.ex;exact(G.h,G.ne,dx,kl,kg,j,i,f,e,d,Nat.le_trans c (Nat.mul_le_mul_right _ h),Nat.le_trans a h)
def bE (ld gd:Addr)(H H':Hp):Prop:=∀b o,b≠ld->b≠gd->JeR b o b o
def bE.trans (a:X2 H H1)(b:X2 H1 H2):X2 H H2:=λc o e d h=>b c o e d (a c o e d h)
def ap.g (s:Xd H):Jim H:=λb o x x h=>s b o h
def ap.ofG (s:MU H1)(d:Gf ld)(c:Gf gd)(x:X2 H1 H2):MU H2:=λb o a=>x b o (λe=>by rw[e,d]at a;cases a) (λe=>by rw[e,c]at a;cases a) (s b o a)
def bE.put1 (H)(o):X2 H (Gk ld o):=λb u a x h=>by rw[aq a];exact h
def bE.put2 (H)(o):X2 H (Gk gd o):=λb u x a h=>by rw[aq a];exact h
def vW (h:Hd N hd){x:Int}(g:0<=x/\x<(N:Int)){a:List Int}(b:a.Nodup)(f:∀t,t∈a↔hd t=x):Jm8 N:=by
 apply gv N b λt d=>?_;let e:=(f t).mp d;have:=h.le t;by_cases c:hd t=t
 .lia
 .have:=Jm0 c;lia
def GO.merged (h:Hd N hd)(q:ld≠gd)(G:0≤a∧a<(N:Int))(F:0≤c∧c<(N:Int))(f:Jdk a c≠X_ a c){dx:Addr}{kl kg:List (Jce V)}{p:Addr}{ml mh:List Int}
  (P:Jnp g [("least",.ref ld,),("gathered",.ref gd,)])(O:Vu ld kl)(M:Vu gd (WE kg (Jdk a c) (.ref p)))(L:∀t:Int,(Xg kl t).getD (.int t)=.int (if t∈mh then Jdk a c else hd t))
  (K:∀x:Int,hd x=x->∃i:List Int,Mem H kg hd av x i)(l1:ml.Nodup)(l2:∀t,t∈ml↔hd t=Jdk a c)(k1:mh.Nodup)(k2:∀t,t∈mh↔hd t=X_ a c)(E:Uo p ((ml++mh).map V.int))(J:kl.length<=b*N)(I:kg.length+1<=b)(j:p∉av):Je0 H C g N b (mrg hd a c):=by
 apply(h.mrg G F,q,dx,kl,_,P,O,M,λt=>?_,λx d=>?_,J,Nat.le_trans (nO _ _ _) I)
 .rw[L];unfold mrg;by_cases z:hd t=X_ a c
  .rw[if_pos ((k2 t).mpr z),if_pos z]
  .rw[if_neg (λw=>z ((k2 t).mp w)),if_neg z]
 .by_cases z:x=Jdk a c
  .subst z;apply(ml++mh,Yn l1 k1 (λu D v B e=>?_),λt=>?_,NG p (by rw[gW,if_pos rfl]) E j)
   .subst e;let o:=(l2 u).mp D;let n:=(k2 u).mp B;exact f (o.symm.trans n)
   .rw[List.mem_append,l2,k2];unfold mrg;by_cases w:hd t=X_ a c
    .rw[if_pos w];exact(λm=>rfl,λm=>.inr w)
    .rw[if_neg w];exact(λy=>y.resolve_right w,.inl)
  .let k:hd x≠hiF _ _:=λw=>by unfold mrg at d;rw[if_pos w]at d;exact z d.symm
   let l:hd x=x:=by unfold mrg at d;rw[if_neg k]at d;exact d
   let(i,A,s,r):=K x l;apply JhK i A (λt=>?_)
   .rw[s];unfold mrg;by_cases w:hd t=X_ a c
    .rw[if_pos w];exact(λy=>absurd (l.trans (y.symm.trans w)) k,λy=>absurd y.symm z)
    .rw[if_neg w]
   .rw[gW,if_neg (λy=>z (by injection y))];exact r
def GO.avoid (G:Jjc H)(n:Gf l):JeZ H C g N b hd (l::av):=by
 let(dx,kl,kg,v,u,t,s,r,q,p):=G.ex;apply(G.h,G.ne,dx,kl,kg,v,u,t,s,λx o=>?_,q,p);let(e,k,j,d):=r x o;apply JhK e k j;rcases d with d|⟨a,i,c,f⟩
 .exact .inl d
 .exact .inr (a,i,c,λz=>by
   rcases List.mem_cons.mp z with z|z
   .rw[z,n]at c;cases c
   .exact f z)
def GO.sub (G:Jjc H)(h:∀a∈av',a∈av):JeZ H C g N b hd av':=by
 let(dx,kl,kg,t,s,r,q,p,o,n):=G.ex;apply(G.h,G.ne,dx,kl,kg,t,s,r,q,λx l=>?_,o,n);let(d,k,j,c):=p x l;apply JhK d k j;rcases c with c|⟨a,i,f,e⟩
 .exact .inl c
 .exact NG a i f (λz=>e (h a z))
def GO.put (G:Jjc H)(c:l∈av\/∀xs,H l≠JfT xs)(j:l≠g)(n:l≠ld)(k:l≠gd):Jjc (Gk l o):=by
 let(dx,kl,kg,B,A,z,y,w,v,u):=G.ex;apply(G.h,G.ne,dx,kl,kg,by rw[JJ j];exact B,by rw[JJ n];exact A,by rw[JJ k];exact z,y,λx t=>?_,v,u);let(p,s,r,d):=w x t;apply JhK p s r;rcases d with d|⟨a,q,i,f⟩
 .exact .inl d
 .apply NG a q ?_ f;rw[aq (λe=>by
   rcases c with c|c
   .exact f (e▸c)
   .exact c _ (e▸i))]
  exact i
def Kd (H:Hp)(d:Addr)(F:List Int):Prop:=∃kvs:List _,JY d/\JiF (·.1)
def kb {kvs:List (Jce V)}{F:List Int}(h:JiF (·.1))(n):(I0 n).isSome=decide (n∈F):=by
 rw[<-gU,Bool.eq_iff_iff,List.any_eq_true,decide_eq_true_iff];constructor
 .rintro ⟨a,d,c⟩;let e:=oDq c;let m:a.1∈F.map Sum.inl:=by rw[←h];exact JdY a d
  let(k,g,b):=List.mem_map.mp m;rw[e]at b;injection b with b;rw[<-b];exact g
 .intro f;let m:(Sum.inl n:Key)∈kvs.map (·.1):=by rw[h];exact JdY n f
  let(a,d,c):=List.mem_map.mp m;exact(a,d,dTq c)
noncomputable def addK (F:List Int)(n:Int):List Int:=if n∈F then F else F++[n]
def vX {kvs:List (Jce V)}{F:List Int}(h:JiF (·.1))(n)(v):(WE kvs n v).map (·.1)=(addK F n).map Sum.inl:=by
 unfold zaz addK;by_cases c:n∈F
 .let a:Xh (kvs.any λb=>decide (XP b.1 n)):=by rw[gU,kb h];exact dTq c
  rw[if_pos a,if_pos c,List.map_map,<-h];apply List.map_congr_left ?_;intro b _;show(if XP b.1 n then(b.1,v,) else b).1=b.1
  split<;>rfl
 .let a:¬Xh (kvs.any λb=>decide (XP b.1 n)):=by rw[gU,kb h,dFq c];exact Bool.false_ne_true
  rw[if_neg a,if_neg c,mAq,mAq,h];rfl
def vY {kvs:List (Jce V)}{F:List Int}(h:JiF (·.1)):kvs.length=F.length:=by have:=UD h;rw[lM,lM]at this;exact this
def AM {kvs:List (Jce V)}{F:List Int}(h:JiF (·.1)):(kvs.map λa=>kV a.1)=F.map V.int:=by
 let e:(kvs.map λa=>kV a.1)=(kvs.map (·.1)).map kV:=by rw[List.map_map];rfl
 rw[e,h,List.map_map];rfl
def Kd.same (h:Kd H d F)(s:Xd H):Kd H' d F:=by let(kvs,b,a):=h;exact(kvs,s _ _ b,a)
structure RS (ls)(N:Nat)(s)(F:List Int):Prop where
 nd:F.Nodup
 st:s∈F
 inn:∀u∈F,(0<=u/\u<(N:Int))/\Ja4 u=Ja4 s
def RS.len (h:RS ls N s F):F.length<=N:=gv N h.nd λx a=>(h.inn x a).1
def AN {ls:List Lk}{n:Nat}{k:Int}(f:UM Int)(h0:0<=k)(a:k<(n:Int)):atI (((List.range n).map λi:Nat=>f (i:Int)).map V.int) k=some (.int (f k)):=by
 let e:k=(k.toNat:Int):=by lia
 have:=vl (ns:=(List.range n).map λi:Nat=>f (i:Int)) (i:=k.toNat) (by rw[List.getElem?_map,List.getElem?_range (by lia)];show Jng (f (k.toNat:Int)) (f k);rw[<-e])
 rw[<-e]at this;exact this
noncomputable def zaT (v:UM Bool)(p:Int):Bool:=if 0<p then v p else !v (-p)
def AO (h:p≠0):zaT v (-p)=!zaT v p:=by
 unfold zaT;rcases Int.lt_or_gt_of_ne h with c|c
 .rw[if_pos (by lia),if_neg (by lia),Bool.not_not]
 .rw[if_neg (by lia),if_pos c,Int.neg_neg]
def SatR (v:UM Bool)(r:List Int):Prop:=∃p∈r,Xh (zaT v p)
def gx (v:UM Bool)(rs:Yl Int):Prop:=∀r∈rs,SatR v r
def og (h0:0<=f)(a:f<(rs.length:Int)):aY rs f∈rs:=by have:=iQ h0 a;exact mO this
def AQ (d:Nz rs)(g:JiB rs f){v:Int→Bool}(h:gx v rs):∀i,Jaq i→SatR v (Jp rs f i).1:=by
 intro i
 induction i with
 |zero=>exact λm=>h _ (og g.f0 g.f1)
 | succ i s =>
  intro B;let(q,n,b):=s (by lia);let l:ts.reverse[i]?=some (ts[Xt 1-i]'(by lia)):=by rw[jY (by lia)];exact gG _
  generalize u:ts[Xt 1-i]'(by lia)=t at l;let j:t∈ts:=by rw[<-u];exact List.getElem_mem _
  rw[jX l];unfold fw;by_cases c:JhG ts (Jp rs f i).1 ts (-t.1) t.2
  .rw[if_pos c];by_cases e:q=-t.1
   .let y:=(lD c).2.1;let w:=g.why t j y;let(p,x,a):=h _ (og w.1 w.2.1);let r:p≠t.1:=λz=>by let(k,A):=List.getElem?_of_mem j;let o:=(d _ _ A).1;rw[e,AO o,←z,a]at b;cases b
    exact(p,Na (Jdc x r),a)
   .exact(q,Ma (Jdc n e),b)
  .rw[if_neg c];exact(q,n,b)
def vZ (a:Nz rs)(b:JiB rs f){v:Int->Bool}(h:gx v rs):SatR v (MJ rs f):=by let(q,c,d):=AQ a b h _ (nRq _);apply(q,?_,d);exact Jdc (List.mem_reverse.mpr (nU b _ q c)) c
noncomputable def wgt (n:Nat):Nat->Wl Int->Nat
 |_,[]=>0
 |i,t::r=>(if t.2=-1 then 1 else 2^(n-i))+NJ (i+1) r
theorem lI (n):∀b bs i,NJ i (b++bs)=NJ i b+NJ (JkV i) bs
 |[],bs,i=>by simp [wgt]
 |a::b,bs,i=>by show _+NJ (i+1) (b++bs)=_+NJ (i+1) b+_;rw[lI n b bs (i+1),List.length_cons,show JkV (i+1)=i+(b.length+1) by lia];lia
theorem lJ (n):∀b i,JkV i<=n->NJ i b+2<=2^(n-i+1)
 |[],i,h=>by have:1<=2^(n-i):=Nat.one_le_two_pow;show 0+2<=_;rw[Nat.pow_succ];lia
 |a::b,i,h=>by
  rw[List.length_cons]at h;let c:=lJ n b (i+1) (by lia);let e:n-(i+1)+1=n-i:=by lia
  rw[e]at c;have:1<=2^(n-i):=Nat.one_le_two_pow;show(if a.2=-1 then 1 else 2^(n-i))+NJ _ b+2<=_
  rw[Nat.pow_succ];split<;>lia
def AR (n)(ts)(t):NJ 0 ts<wgt n 0 (ts++[t]):=by
 have:1<=2^(n-ts.length):=Nat.one_le_two_pow;rw[lI,Nat.zero_add];show _<_+((if t.2=-1 then 1 else 2^(n-ts.length))+0)
 split<;>lia
def AS (i:JI n)(h:ts[j]?=some t)(d:t.2=-1)(f:k≠-1):NJ 0 ts<wgt n 0 (ts.take j++[(p,k,)]):=by
 let b:=(gEq h).1;let e:ts=ts.take j++t::ts.drop (j+1):=by
  have:=List.take_append_drop j ts;rw[List.drop_eq_getElem_cons b]at this;let g:ts[j]=t:=by have:=gG b;rw[h]at this;injection this with this;exact this.symm
  rw[g]at this;exact this.symm
 let a:(ts.take j).length=j:=by rw[List.length_take];lia
 let l1:NJ 0 ts=NJ 0 (ts.take j)+(1+NJ (j+1) (ts.drop (j+1))):=by
  conv=>lhs;rw[e]
  rw[lI,a,Nat.zero_add];show _+((if t.2=-1 then 1 else _)+_)=_
  rw[if_pos d]
 let l2:NJ 0 (ts.take j++[(p,k,)])=NJ 0 (ts.take j)+2^(n-j):=by
  rw[lI,a,Nat.zero_add];show _+((if k=-1 then 1 else _)+0)=_
  rw[if_neg f];rfl
 let c:=lJ n (ts.drop (j+1)) (j+1) (by rw[List.length_drop];lia);rw[show n-(j+1)+1=n-j by lia]at c;lia
noncomputable def bsF:Nat->Wl Int->List Int
 |_,[]=>[]
 |i,t::r=>if t.2=-1 then(i:Int)::bsF (i+1) r else bsF (i+1) r
theorem qo:∀b bs i,bsF i (b++bs)=bsF i b++bsF (JkV i) bs
 |[],bs,i=>rfl
 |a::b,bs,i=>by
  let c:=qo b bs (i+1);rw[show JkV (i+1)=i+(a::b).length by rw[List.length_cons];lia]at c;show(if a.2=-1 then(i:Int)::bsF _ (b++bs) else bsF _ (b++bs))=(if a.2=-1 then(i:Int)::bsF _ b else bsF _ b)++_
  split<;>rw[c]<;>rfl
def oh (ts)(t):JkW (ts++[t])=if t.2=-1 then JkW ts++[(ts.length:Int)] else bsF 0 ts:=by
 rw[qo,Nat.zero_add];show JkW ts++(if t.2=-1 then(ts.length:Int)::[] else [])=_
 split
 .rfl
 .rw[List.append_nil]
def oj:∀ts:Wl Int,((JkW ts).length:Int)=cnt ts:=by
 apply lG rfl ?_;intro ts t a;rw[oh,gb];let e:cnt [t]=if t.2=-1 then 1 else 0:=by show zaS t+0=_;unfold zaS;rw[Int.add_zero]
 rw[e];split
 .rw[lAq];show((_+1:Nat):Int)=_;lia
 .lia
def AU:∀ts:Wl Int,JkW ts≠[]->∃j t,ts[j]?=some t/\t.2=-1/\JkW ts=JkW (ts.take j)++[(j:Int)]/\Im j+1=cnt ts:=by
 apply lG (λh=>GE h) ?_;intro ts t b h;rw[oh]at h⊢;by_cases c:t.2=-1
 .rw[if_pos c];apply(ts.length,t,by rw[List.getElem?_append_right (nRq _),Nat.sub_self];rfl,c,?_,?_)
  .rw[XY _,List.take_length]
  .rw[XY _,List.take_length,gb];show _=_+(zaS t+0);unfold zaS;rw[if_pos c,Int.add_zero]
 .rw[if_neg c]at h ⊢;let(j,u,a,g,f,e):=b h;let d:=(gEq a).1;apply(j,u,by rw[List.getElem?_append_left d];exact a,g,?_,?_)
  .rw[List.take_append_of_le_length (by lia)];exact f
  .rw[List.take_append_of_le_length (by lia),gb,e];show _=_+(zaS t+0);unfold zaS;rw[if_neg c,Int.add_zero,Int.add_zero]
structure HS where
 rs:Yl Int
 pp:List Dt
 ts:Wl Int
 lk:Nat
 bs:List Int
 wt:JdZ (Iz Int)
 wg:UM (List Int)
 od:List Int
 la:JdZ Int
abbrev HS.hs (S:HS):List Int:=S.ts.map Prod.fst
noncomputable def HS.hold (S:HS)(p y:Int):HS:={ S with ts:=S.ts++[(p,y,)] }
noncomputable def HS.setW (S:HS)(r a b:Int):HS:={ S with wt:=λx=>if x=r then some (a,b,) else S.wt x }
noncomputable def HS.addG (S:HS)(c r:Int):HS:={ S with wg:=λx=>if x=c then S.wg x++[r] else S.wg x }
noncomputable def HS.setG (S:HS)(c:Int)(ns:List Int):HS:={ S with wg:=λx=>if x=c then ns else S.wg x }
def HS.watch (S:HS)(r a b:Int):HS:=((Jh3 a b).addG a r).addG b r
def fy (a:List Int)(o:Int)(hs:List Int):Option Int:=a.find? λq=>decide (q≠o)&&decide (-q∉hs)
def AV (h:Xa (fy row o hs) q):q∈row/\q≠o/\-q∉hs:=by let b:=List.mem_of_find?_eq_some h;let a:=List.find?_some h;simp only[Bool.and_eq_true,decide_eq_true_eq]at a;exact(b,a.1,a.2)
def v_ (h:Uf (fy row o hs))(b:q∈row)(a:q≠o):-q∈hs:=by have:=List.find?_eq_none.mp h q b;simp only[Bool.and_eq_true,decide_eq_true_eq,not_and,Decidable.not_not]at this;exact this a
noncomputable def zat (S:HS)(c r:Int):Int:=let p:=(S.wt r).getD (0,0,);if p.1=c then p.2 else p.1
abbrev LkS:=HS×Jbd Int (Option Int)
def stepK (c:Int)(st:LkS)(r:Int):LkS :=
 if JfI st.1∈st.1.hs then(st.1,st.2.1++[r],st.2.2,)
 else match fy (aY st.1.rs r) (JfI st.1) st.1.hs with
  |some q=>((st.1.setW r (JfI st.1) q).addG q r,st.2.1,st.2.2,)
  |none=>if -(JfI st.1)∈st.1.hs then(st.1,st.2.1++[r],some r,) else(st.1.hold (JfI st.1) r,st.2.1++[r],st.2.2,)
def cN (S:HS)(c:Int)(i:Nat):LkS:=((S.wg c).take i).foldl (stepK c) (S,[],none,)
def wa (h:(S.wg c)[i]?=some r):cN S c (i+1)=stepK c (cN S c i) r:=by unfold cN;rw[bf h,List.foldl_append];rfl
def Wp (ts:Wl Int)(k:Nat)(a b:Int):Prop:=∀i t,i<k->ts[i]?=some t->t.1=-a->∃j u,ts[j]?=some u/\u.1=b/\Im (j+1)<=Im (i+1)
structure WOk (S:HS)(g:UM (List Int))(k):Prop where
 has:∀(r:Nat) (row),S.rs[r]?=some row->2<=row.length->∃a b,NX r (a,b,)
 is:∀(r a b),NX r (a,b,)->a∈JaK r/\b∈JaK r/\a≠b/\0<=r/\r<(S.rs.length:Int)
 gw:∀r c,r∈g c↔∃a b,NX r (a,b,)/\(c=a\/c=b)
 nd:∀c,(g c).Nodup
 wp:∀r a b,NX r (a,b,)->Wp S.ts k a b/\Wp S.ts k b a
 one:∀a,[a]∈S.rs->∃(j:Nat) (u:Iz Int),S.ts[j]?=some u/\u.1=a/\UE (j+1)=0
 nil:[]∉S.rs
def eQ {ts es:List (Iz Int)}{i:Nat}{t:Int×Int}(h:ts[i]?=some t):(ts++es)[i]?=some t/\cnt ((ts++es).take (i+1))=cnt (ts.take (i+1)):=by let a:=(gEq h).1;exact(by rw[List.getElem?_append_left a];exact h,by rw[List.take_append_of_le_length (by lia)])
def Wp.more {ts:List (Iz Int)}{k:Nat}{a b:Int}(h:Wp ts k a b)(n:Jaq k)(es):Wp (ts++es) k a b:=by intro i t f c e;rw[List.getElem?_append_left (by lia)]at c;let(j,u,d,l,g):=h i t f c e;apply(j,u,(eQ d).1,l,?_);rw[(eQ d).2,(eQ c).2];exact g
def iR {ts:List (Iz Int)}{p:Int}(h:p∈ts.map Prod.fst):∃(i:Nat) (t:Iz Int),ts[i]?=some t/\t.1=p:=by let(t,c,b):=List.mem_map.mp h;let(i,a):=List.getElem?_of_mem c;exact(i,t,a,b)
def eR {ts:List (Iz Int)}{i:Nat}{t:Int×Int}(h:ts[i]?=some t):t.1∈ts.map Prod.fst:=JdY t (mO h)
structure LkI (n k)(c)(S0:HS)(L:List Int)(i)(st:LkS):Prop where
 rs:st.1.rs=S0.rs
 eq:st.1.pp=S0.pp/\st.1.lk=S0.lk/\st.1.bs=S0.bs/\st.1.od=S0.od/\st.1.la=S0.la
 ex:∃es,st.1.ts=S0.ts++es/\∀t∈es,t.2≠-1
 tok:TOk st.1.rs st.1.ts
 rng:∀t∈st.1.ts,t.1.natAbs<=n
 w:WOk st.1 (λx=>if x=c then Q4 st.2.1 i else st.1.wg x) k
 wc:st.1.wg c=L
 ol:Uf st.2.2->∀r∈st.2.1,∃a b,Xa (st.1.wt r) (a,b,)/\((a=c/\b∈st.1.hs)\/(b=c/\a∈st.1.hs))
 fl:∀f,Xa st.2.2 f->0<=f/\f<(S0.rs.length:Int)/\c∈aY S0.rs f/\∀p∈aY S0.rs f,-p∈st.1.hs
def we (W:WOk S g k){c r:Int}(h:r∈g c):(NX r (c,JfI S,)\/NX r (JfI S,c,))/\JfI S≠c/\JfI S∈JaK r/\c∈JaK r/\0<=r/\r<(S.rs.length:Int):=by
 let(a,b,e,f):=(W.gw r c).mp h;let d:=W.is r a b e;unfold zat;rw[e];show(Jng _ (c,if a=c then b else a,)\/Jng _ (if a=c then b else a,c,))/\(if a=c then b else a)≠c/\(if a=c then b else a)∈_/\_
 rcases f with rfl|rfl
 .rw[if_pos rfl];exact(.inl rfl,Ne.symm d.2.2.1,d.2.1,d.1,d.2.2.2)
 .rw[if_neg d.2.2.1];exact(.inr rfl,d.2.2.1,d.1,d.2.1,d.2.2.2)
def jr (h:∀t∈es,t.2≠-1):cnt es=0:=vN (Rs:=[]) (hs:=[]) h
def mid_nd (h:(as++x::bs).Nodup):x∉as++bs/\(as++bs).Nodup:=by let a:=(List.perm_middle.nodup_iff).mp h;exact List.nodup_cons.mp a
def LkI.step (I:LkI n k c S0 L i st){r:Int}(hr:L[i]?=some r)(hk:k≤S0.ts.length)(hc:-c∈S0.hs)(n60:n≤60)
  (hrow:∀W∈S0.rs,∀p∈W,p≠0/\UX n):LkI n k c S0 L (i+1) (stepK c st r):=by
 let(S,o,fl):=st;let hi:=(gEq hr).1;let ed:L.drop i=r::L.drop (i+1):=by rw[List.drop_eq_getElem_cons hi];have:=gG hi;rw[hr]at this;injection this with this;rw[this]
 let(C,M,(es,K,Q),s,w,g,H,O,P):=I;let T:=C;let J:=K;let hk':Jm_ k:=by rw[J,lAq];lia
 let hc':-c∈S.hs:=by show -c∈S.ts.map Prod.fst;rw[J,mAq];exact Ma hc
 let hrc:r∈(λx=>if x=c then Q4 o i else S.wg x) c:=by
  show r∈if c=c then Q4 o i else S.wg c
  rw[if_pos rfl,ed];exact Na List.mem_cons_self
 let(ow,oc,E,crow,r0,r1):=we g hrc;let gE:(λx=>if x=c then Q4 o i else S.wg x)=λx=>if x=c then Q4 (o++[r]) (i+1) else S.wg x:=by funext x;rw[ed,List.append_assoc];rfl
 let hol:∀d∈o++[r],d∈o\/d=r:=λd h=>(mPq h).imp id mSq;let wE:∃a b,NX r _/\((a=c/\b=JfI S)\/(b=c/\a=JfI S)):=ow.elim (λz=>(_,_,z,JaU rfl)) λz=>(_,_,z,Jgc rfl);unfold stepK;show LkI n k c S0 L _ _
 by_cases c1:JfI S∈S.hs
 .rw[if_pos c1];apply(C,M,(es,K,Q),s,w,gE ▸ g,H,λY d h'=>?_,P);rcases hol d h' with z | rfl
  .exact O Y d z
  .let(a,b,v,y):=wE;exact(a,b,v,y.imp (λ z=>(z.1,by rw[z.2];exact c1)) λ z=>(z.1,by rw[z.2];exact c1))
 rw[if_neg c1];show LkI n k c S0 L _ _
 cases hf:fy _ _ S.hs with
 | some q =>
  let(q1,q2,q3):=AV hf;let qc:q≠c:=λz=>q3 (z▸hc');let ndc:=g.nd c;let R:(Q4 o i).Nodup:=by
   have:(if c=c then Q4 o i else S.wg c).Nodup:=ndc
   rwa [if_pos rfl]at this
  rw[ed]at R;let md:=mid_nd R;let wtE:∀x a b,((Jh3 _ q).addG q r).wt x=some _->(x=r/\a=JfI S/\b=q)\/(x≠r/\NX x _):=λx a b h=>by
   let h':(if x=r then some _ else S.wt x)=some (a,b,):=h
   by_cases e:x=r
   .rw[if_pos e]at h';injection h' with h';injection h' with v y;exact Qi e v.symm y.symm
   .rw[if_neg e]at h';exact Yg e h'
  let U:∀x,x≠r->((Jh3 (JfI S) q).addG q r).wt x=S.wt x:=λx e=>if_neg e;let wtR:((Jh3 (JfI S) q).addG q r).wt r=some _:=if_pos rfl;let old:∀x,x≠c->(r∈S.wg x↔x=JfI S):=λx hx=>by
   have:=g.gw r x;let this:=this
   rw[if_neg hx]at this;rw[this];let(a,b,v,y):=wE;constructor
   .rintro ⟨a',b',N,D⟩;rw[v]at N;injection N with N;injection N with h5 h6;rcases y with ⟨e1,Z⟩ | ⟨e1,Z⟩
    .rcases D with D | D
     .exact absurd (D.trans (h5.symm.trans e1)) hx
     .exact D.trans (h6.symm.trans Z)
    .rcases D with D | D
     .exact D.trans (h5.symm.trans Z)
     .exact absurd (D.trans (h6.symm.trans e1)) hx
   .intro e;apply JhK a b v;rcases y with ⟨_,Z⟩ | ⟨_,Z⟩
    .exact .inr (e.trans Z.symm)
    .exact .inl (e.trans Z.symm)
  apply(C,M,(es,K,Q),s,w,(λx W hx hl=>?_,λx a b h=>?_,λd x=>?_,λx=>?_,λx a b h=>?_,g.one,g.nil),?_,λY d h'=>?_,P)
  .by_cases e:(x:Int)=r
   .rw[e];exact W7 _ wtR
   .rw[U _ e];exact g.has x W hx hl
  .rcases wtE x a b h with ⟨rfl,rfl,rfl⟩ | ⟨_,h⟩
   .exact(E,q1,Ne.symm q2,r0,r1)
   .exact g.is x a b h
  .show(d∈if x=c then Q4 o _ else if x=q then Jft x [r] else S.wg x)↔_
   by_cases e:d=r
   .subst e;let rhs:(∃a b,((S.setW d (IO S d) q).addG q d).wt d=some (a,b,)∧(x=a∨x=b))↔(x=IO S d∨x=q):=by
     rw[wtR];constructor
     .rintro ⟨a,b,N,D⟩;injection N with N;injection N with h5 h6;rw[h5,h6];exact D
     .exact λh=>Yv _ _ h
    rw[rhs];by_cases B:x=c
    .rw[if_pos B];exact(λh=>absurd h md.1,λh=>h.elim (λz=>Jad B oc) λz=>Jad B qc)
    .rw[if_neg B];by_cases G:x=q
     .rw[if_pos G];exact(λm=>.inr G,λm=>Na List.mem_cons_self)
     .rw[if_neg G,old x B];exact(.inl,λh=>h.elim id λz=>IP G)
   .rw[U _ e];have:=g.gw d x;rw[←this];show _↔(d∈if x=c then Q4 o i else S.wg x)
    by_cases B:x=c
    .rw[if_pos B,if_pos B,ed,List.mem_append,List.mem_append,List.mem_cons];exact(λh=>h.imp id .inr,λh=>h.imp id λz=>z.elim (λz=>IP e) id)
    .rw[if_neg B,if_neg B];by_cases G:x=q
     .rw[if_pos G,List.mem_append,List.mem_singleton];exact(λh=>h.elim id λz=>IP e,.inl)
     .rw[if_neg G]
  .show(if x=c then Q4 o _ else if x=q then Jft x [r] else S.wg x).Nodup
   by_cases B:x=c
   .rw[if_pos B];exact md.2
   .rw[if_neg B];let nx:=g.nd x;let nx:=nx
    rw[if_neg B]at nx;by_cases G:x=q
    .rw[if_pos G];apply Ja_ nx (λa ha b hb e=>?_);let hb:=mSq hb;rw[e,hb]at ha;exact q2 (G.symm.trans ((old x B).mp ha))
    .rw[if_neg G];exact nx
  .rcases wtE x a b h with ⟨rfl,rfl,rfl⟩ | ⟨_,h⟩
   .apply(λj t hj A e=>?_,λj t hj A e=>?_)
    .let wpc:=ow.elim (λz=>(g.wp _ _ _ z).2) λz=>(g.wp _ _ _ z).1;let(l,u,v,y,_):=wpc j t hj A e;exact absurd (s.cons (y▸eR v) hc') id
    .exact absurd (e▸eR A) q3
   .exact g.wp x a b h
  .show(if c=q then Jft c [r] else S.wg c)=L
   rw[if_neg (Ne.symm qc)];exact H
  .let hne:d≠r:=λe=>md.1 (Ma (e▸h'));let(a,b,v,y):=O Y d h';exact(a,b,(U _ hne).trans v,y)
 | none =>
  by_cases c2:-(JfI S)∈S.hs
  .rw[if_pos c2];apply(C,M,(es,K,Q),s,w,gE ▸ g,H,λY=>?_,λf F=>?_)
   .cases Y
   .injection F with F;subst F;rw[←T];apply(r0,r1,crow,λp hp=>?_);by_cases e:p=JfI S
    .rw[e];exact c2
    .exact v_ hf hp e
  .rw[if_neg c2];let hro:=hrow _ (T ▸ og r0 r1) _ E;let X:(S.hold (JfI S) r).hs=S.hs++[JfI S]:=by show(S.ts++[(JfI S,r,)]).map Prod.fst=_;rw[mAq];rfl
   apply(C,M,(es++[(JfI S,r,)],?_,λt A=>?_),?_,λt A=>?_,?_,H,λY d h'=>?_,λf F=>?_)
   .show S.ts++[(JfI S,r,)]=S0.ts++(es++[(JfI S,r,)]);rw[J,List.append_assoc]
   .rcases mPq A with A | A
    .exact Q t A
    .rw[mSq A];lia
   .apply Jm1 s hro.1 c1 c2 (J6 r.toNat (JaK r) ?_ (iQ r0 r1) E (λp hp ne=>v_ hf hp ne));lia
   .rcases mPq A with A | A
    .exact w t A
    .rw[mSq A];exact hro.2
   .apply(g.has,g.is,?_,?_,λx a b h=>((g.wp x a b h).1.more hk' _,(g.wp x a b h).2.more hk' _),λa h=>?_,g.nil)
    .exact(gE▸g:WOk S (λx=>if x=c then Q4 (o++[r]) _ else S.wg x) k).gw
    .exact(gE▸g:WOk S (λx=>if x=c then Q4 (o++[r]) _ else S.wg x) k).nd
    .let(j,u,v,y,N):=g.one a h;exact(j,u,(eQ v).1,y,(eQ v).2.trans N)
   .rcases hol d h' with z | rfl
    .let(a,b,v,y):=O Y d z;apply JhK a b v;show(a=c/\b∈(S.hold _ r).hs)\/(b=c/\a∈(S.hold _ r).hs);rw[X];exact y.imp (λz=>(z.1,Ma z.2)) λz=>(z.1,Ma z.2)
    .let(a,b,v,y):=wE;apply JhK a b v;show(a=c/\b∈(S.hold _ d).hs)\/(b=c/\a∈(S.hold _ d).hs);rw[X];exact y.imp (λ z=>(z.1,by rw[z.2];exact Na List.mem_cons_self)) λ z=>(z.1,by rw[z.2];exact Na List.mem_cons_self)
   .have:=P f F;apply(this.1,this.2.1,this.2.2.1,λp hp=>?_);rw[X];exact Ma (this.2.2.2 p hp)
def iS (E:List Int->Prop)(v:UM Bool):Prop:=∀r,E r->SatR v r
def CF (E:List Int->Prop)(ts:Wl Int):Prop:=∀j t,ts[j]?=some t->t.2=-1->∀r,E r->∃p∈r,-p∉(ts.take j).map Prod.fst
def CF.more (h:CF E ts)(d:∀t∈es,t.2≠-1):CF E (ts++es):=λj t a b=>by
 rcases Nat.lt_or_ge j ts.length with c|c
 .rw[List.getElem?_append_left c]at a;rw[List.take_append_of_le_length (by lia)];exact h j t a b
 .rw[List.getElem?_append_right c]at a;exact absurd b (d t (mO a))
def CF.take (h:CF E ts)(m):CF E (ts.take m):=λj t a b=>by
 rw[List.getElem?_take]at a;split at a
 .rw[List.take_take,Nat.min_eq_left (by lia)];exact h j t a b
 .cases a
noncomputable def putW (r:Int)(lat:List Int)(c:JdZ (Iz Int)):Int->Option (Iz Int):=match lat with
 |a::b::_=>λx=>if x=r then some (a,b,) else c x
 |_=>c
noncomputable def putG (r:Int)(lat:List Int)(wg:UM (List Int)):Int->List Int:=match lat with
 |a::b::_=>λx=>if x=b then(if x=a then wg x++[r] else wg x)++[r] else if x=a then wg x++[r] else wg x
 |_=>wg
def HS.put (S:HS)(l:Dt)(ps lat:List Int):HS:={ S with rs:=S.rs++[ps],pp:=S.pp++[l],wt:=putW (S.rs.length:Int) lat S.wt,wg:=putG (S.rs.length:Int) lat S.wg }
inductive qr (S0)(f):HS->Prop
 |same:qr S0 f S0
 |put (l) (ps):f=(S0.rs.length:Int)->ps.Nodup->qr S0 f (S0.put l ps ((negs S0.ts).reverse.filter λp=>decide (p∈ps)))
structure HB (n)(B)(E)(S:HS):Prop where
 tok:Jju S.rs
 rng:∀t∈S.ts,t.1.natAbs<=n
 row:∀r∈S.rs,r.Nodup/\∀p∈r,p≠0/\UX n
 snd:∀v,iS E v->gx v B->gx v S.rs
 sub:∀r∈B,r∈S.rs
 len:S.rs.length=B.length+S.pp.length
 bs:S.bs=JkW S.ts
 od:∀a:Int,a∈S.od↔1<=a/\a<=n
 odn:S.od.Nodup
 la:∀a x,Xa (S.la a) x->x=a\/x=-a
 cf:CF E S.ts
structure cH (n)(B)(E)(S):Prop where
 b:HB n B E S
 w:WOk S S.wg S.lk
 lk:Jm_ S.lk
 lv:∀i,S.lk<=i->JcE i->UE (i+1)=cnt S.ts
structure eS (n)(B)(E)(S)(f):Prop where
 b:HB n B E S
 ln:ff S.rs S.ts f
 last:Jfs 1 S.ts->∃q∈JaK f,Jjv q=cnt S.ts
 w:Jfs 1 S.ts->∃S0 k,WOk S0 S0.wg k/\(∀i,JcE i->UE (i+1)<cnt S.ts->i<k)/\qr S0 f S
structure fz (S S':HS):Prop where
 rs:S'.rs=S.rs
 pp:S'.pp=S.pp
 ts:∃es,S'.ts=S.ts++es/\∀t∈es,t.2≠-1
def fz.refl (S):fz S S:=(rfl,rfl,[],by rw[List.append_nil],λx h=>nomatch h)
def fz.trans (a:fz S T)(b:fz T U):fz S U:=by let(es,g,f):=a.ts;let(h,e,d):=b.ts;exact(b.rs.trans a.rs,b.pp.trans a.pp,es++h,by rw[e,g,List.append_assoc],λt c=>(mPq c).elim (f t) (d t))
def fz.wgt (a:fz S T)(n):JgR 0<=wgt n 0 T.ts:=by let(es,b,_):=a.ts;rw[b,lI];lia
def HB.tlen (h:HB n B E S):S.ts.length<=n:=by
 let l:=h.tok.atoms;let d:=jZ n (xs:=S.ts.map λt=>t.1.natAbs-1) ?_ ?_
 .rw[lM]at d;exact d
 .rw[show(S.ts.map λt=>t.1.natAbs-1)=(S.ts.map λt=>t.1.natAbs).map (· - 1) by rw[List.map_map];rfl];apply List.pairwise_map.mpr (l.imp_of_mem λ{x y} b f e z=>e ?_);let(t,a,rfl):=List.mem_map.mp b;let(u,g,rfl):=List.mem_map.mp f;let(i,c):=List.getElem?_of_mem a;let(j,k):=List.getElem?_of_mem g;have:=(h.tok _ _ c).1;have:=(h.tok _ _ k).1;lia
 .intro x b;let(t,a,rfl):=List.mem_map.mp b;let(i,c):=List.getElem?_of_mem a;have:=(h.tok _ _ c).1;have:=Jm0 a;lia
def HB.rlen (h:HB n B E S)(b:n<=40):∀r∈S.rs,U9 r.length:=λr a=>by
 let f:=gv 81 (xs:=r.map λp=>p+40) ?_ ?_
 .rw[lM]at f;lia
 .apply List.pairwise_map.mpr ((h.row r a).1.imp λ{x y} e z=>e (by lia))
 .intro x c;let(p,d,rfl):=List.mem_map.mp c;have:=((h.row r a).2 p d).2;lia
theorem qt:∀es i,(∀t∈es,t.2≠-1)->bsF i es=[]
 |[],_,_=>rfl
 |e::es,i,h=>by
  show(if e.2=-1 then _ else bsF (i+1) es)=[]
  rw[if_neg (IJ e)];exact qt es _ λt a=>h t (Jb a)
def da (S:HS)(c:Int):HS×Option Int:=((cN S c (S.wg c).length).1.setG c (cN S c (S.wg c).length).2.1,(cN S c (S.wg c).length).2.2,)
def LkI.zero (M:cH n B E S)(c):LkI n S.lk c S (S.wg c) 0 (S,[],none,):=by
 apply(rfl,Jfe rfl rfl rfl,([],(List.append_nil _).symm,λy h=>nomatch h),M.b.tok,M.b.rng,?_,rfl,λy r h=>(nomatch h),λf h=>(nomatch h));let e:(λx=>if x=c then([]:List Int)++(S.wg c).drop 0 else S.wg x)=S.wg:=by
  funext x;by_cases h:x=c
  .rw[if_pos h,h];rfl
  .rw[if_neg h]
 rw[e];exact M.w
def LkI.all (M:cH n B E S)(d:n<=60){c:Int}(g:-c∈S.hs):∀i,i<=(S.wg c).length->LkI n S.lk c S (S.wg c) i (cN S c i):=by
 intro i
 induction i with
 |zero=>exact λx=>LkI.zero M c
 |succ i f=>
  intro j;obtain⟨r,e⟩:∃r,(S.wg c)[i]?=some r:=Jgg (by lia);rw[wa e];exact(f (by lia)).step e M.lk g d λa h=>(M.b.row a h).2
def cH.look (M:cH n B E S)(Z:n≤60){s:Int × Int}(W:S.ts[S.lk]?=some s) :
  fz S (da S (-s.1)).1/\((da S (-s.1)).2=none->cH n B E { (da S (-s.1)).1 with lk:=S.lk+1 })/\∀f,(da S (-s.1)).2=some f->eS n B E { (da S (-s.1)).1 with lk:=S.lk+1 } f:=by
 let hc:- -s.1∈S.hs:=by rw[Int.neg_neg];exact eR W
 let I:=LkI.all M Z hc _ (nRq _);let ec:s.1=- -s.1:=(Int.neg_neg _).symm;unfold da;generalize -s.1=c at hc I ec;generalize cN S c (S.wg c).length=st at I;let(d,G,fl):=st;let(g,o,(es,l,w),p,C,k,Iwc,R,F):=I;let gE:(λx=>if x=c then G++(S.wg c).drop (S.wg c).length else d.wg x)=(d.setG c G).wg:=by funext x;rw[List.drop_length,List.append_nil];rfl
 rw[gE]at k;let hk:=(gEq W).1;let ce:=jr w;let cE:cnt d.ts=cnt S.ts:=by rw[l,gb,ce,Int.add_zero]
 let P:d.ts[S.lk]?=some s:=by rw[l];exact(eQ W).1
 let N:JbV (S.lk+1)=cnt d.ts:=by rw[cE,l,(eQ W).2];exact M.lv _ (nRq _) hk
 let L:∀i,S.lk<=i->i<d.ts.length->JbV (i+1)=cnt d.ts:=λi A H=>by let h3:=Jfu (ts:=d.ts) (i:=S.lk+1) (j:=i+1);let h4:=nX (ts:=d.ts) (i:=i+1);lia
 let hb:HB n B E { d.setG c G with lk:=S.lk+1 }:=by
  apply(p,C,?_,?_,?_,?_,?_,?_,?_,?_,by show CF E d.ts;rw[l];exact M.b.cf.more w)
  .show ∀r∈d.rs,_;rw[g];exact M.b.row
  .show ∀v,iS E v->gx v B->gx v d.rs;rw[g];exact M.b.snd
  .show ∀r∈B,r∈d.rs;rw[g];exact M.b.sub
  .show d.rs.length=B.length+d.pp.length;rw[g,o.1];exact M.b.len
  .show d.bs=JkW d.ts;rw[o.2.2.1,l,qo,qt es _ w,List.append_nil];exact M.b.bs
  .show ∀a:Int,a∈d.od↔_;rw[o.2.2.2.1];exact M.b.od
  .show d.od.Nodup;rw[o.2.2.2.1];exact M.b.odn
  .show ∀a x,Xa (d.la a) x->_;rw[o.2.2.2.2];exact M.b.la
 apply((g,o.1,es,l,w),λhn=>(hb,(k.has,k.is,k.gw,k.nd,?_,k.one,k.nil),?_,λi A H=>L i (by have:S.lk+1<=i:=A;lia) H),λf hf=>(hb,?_,λm=>Id c ?_,λm=>({ d.setG c G with lk:=S.lk+1 },S.lk,(k.has,k.is,k.gw,k.nd,k.wp,k.one,k.nil),λi A H=>?_,.same)))
 .intro r a b h;let h':d.wt r=some _:=h;let J:=k.wp r a b h;let ab:=(k.is r a b h).2.2.1;let K:∀x y,(x=a∧y=b)∨(x=b∧y=a)→Wp d.ts S.lk x y→Wp d.ts (S.lk+1) x y:=by
   intro x y O wp i t hi q e;by_cases c1:i<S.lk
   .exact wp i t c1 q e
   let ei:i=S.lk:=by lia
   rw[ei]at q⊢;rw[P]at q;injection q with q;let T:x=c:=by rw[<-q,ec]at e;lia
   let hr:=(k.gw r c).mpr (a,b,h,O.elim (λz=>.inl (T.symm.trans z.1)) λz=>.inr (T.symm.trans z.1));let Q:r∈if c=c then G else d.wg c:=hr
   rw[if_pos rfl]at Q;let(a',b',U,w2):=R hn r Q;rw[h']at U;injection U with U;injection U with e1 e2;let yh:y∈d.hs:=by
    rcases O with ⟨Y,X⟩|⟨Y,X⟩
    .rcases w2 with ⟨_,D⟩ | ⟨D,_⟩
     .rw[X,e2];exact D
     .exact absurd ((Y.symm.trans T).trans (D.symm.trans e2.symm)) ab
    .rcases w2 with ⟨D,_⟩ | ⟨_,D⟩
     .exact absurd ((e1.trans D).trans (T.symm.trans Y)) ab
     .rw[X,e1];exact D
   let(j,u,hj,hu):=iR yh;exact(j,u,hj,hu,by rw[N];exact nX)
  exact(K a b (JaU rfl) J.1,K b a (Jgc rfl) J.2)
 .show S.lk+1<=d.ts.length;rw[l,lAq];lia
 .let A:=F f hf;let H:Fails d.rs d.ts f.toNat:=(aY d.rs f,by rw[g];exact iQ A.1 A.2.1,by rw[g];exact A.2.2.2);let h3:=p.ln H;rw[show(f.toNat:Int)=f by lia]at h3;exact h3
 .show c∈aY d.rs f;rw[g];exact(F f hf).2.2.1
 .show X6 c=cnt d.ts;rw[show c=-s.1 by lia,c_ p.negs P];exact N
 .let h2':JbV (i+1)<cnt d.ts:=H;rcases Nat.lt_or_ge i S.lk with z | z
  .exact z
  .rw[L i z A]at h2';lia
noncomputable def HS.pick (S:HS)(a:Int):HS:={ S with ts:=S.ts++[((S.la a).getD (-a),-1,)],bs:=S.bs++[(S.ts.length:Int)] }
def cH.pick (M:cH n B E S)(G:n<=60)(O:V4 S.lk){a:Int}(L:a∈S.od)(v:a∉S.hs)(s:-a∉S.hs)(F:∀r,E r->∃p∈r,-p∉S.hs):cH n B E (S.pick a):=by
 let l:(S.la a).getD (-a)=a\/(S.la a).getD (-a)=-a:=by
  cases e:S.la a with
  |none=>exact .inr rfl
  |some x=>exact M.b.la a x e
 let N:=(M.b.od a).mp L;generalize K:(S.la a).getD _=p at l;let d:(S.pick a).ts=S.ts++[(p,-1,)]:=by show S.ts++[((S.la a).getD (-a),-1,)]=_;rw[K]
 let I:=l.elim (λz=>z▸v) λz=>z▸s;let H:=l.elim (λz=>z▸s) λz=>by rw[z,Int.neg_neg];exact v
 let q:p≠0/\UX n:=by rcases l with z|z<;>rw[z]<;>lia
 apply JhK (?_,?_,M.b.row,M.b.snd,M.b.sub,M.b.len,?_,M.b.od,M.b.odn,M.b.la,?_) (M.w.has,M.w.is,M.w.gw,M.w.nd,?_,?_,M.w.nil) ?_
 .rw[d];exact Jm1 M.b.tok q.1 I H (.inl rfl)
 .rw[d];intro t f;rcases mPq f with f | f
  .exact M.b.rng t f
  .rw[mSq f];exact q.2
 .rw[d,oh,if_pos rfl];show S.bs++[(S.ts.length:Int)]=_;rw[M.b.bs]
 .rw[d];intro j t o f;rcases Nat.lt_or_ge j S.ts.length with c | c
  .rw[List.getElem?_append_left c]at o;rw[List.take_append_of_le_length (by lia)];exact M.b.cf j t o f
  .have:=(gEq o).1;rw[lAq]at this;let this:j<S.ts.length+1:=this;rw[show V4 j by lia,List.take_left];exact F
 .rw[d];intro r x y h;exact((M.w.wp r x y h).1.more M.lk _,(M.w.wp r x y h).2.more M.lk _)
 .rw[d];intro x J;let(j,u,k,g,A):=M.w.one x J;exact(j,u,(eQ k).1,g,(eQ k).2.trans A)
 .rw[d,lAq];show S.lk<=_;lia
 .rw[d];intro i k g;let D:S.lk<=i:=k;rw[lAq]at g;rw[tO (by rw[lAq];show S.ts.length+1<=_;lia)]
def cH.yes (M:cH n B E S)(D:V4 S.lk)(h:∀a∈S.od,a∈S.hs\/-a∈S.hs):∀r∈B,∃p∈r,p∈S.hs:=by
 intro r d;let d:=M.b.sub r d;let g:∀p∈r,p∈S.hs\/-p∈S.hs:=λp C=>by
  let f:=(M.b.row r d).2 p C;rcases Int.lt_or_gt_of_ne f.1 with c|c
  .have:=h (-p) ((M.b.od _).mpr (by lia));rw[Int.neg_neg]at this;exact this.symm
  .exact h p ((M.b.od _).mpr (by lia))
 match r,d,g with
 |[],d,_=>exact absurd d M.w.nil
 |[a],d,_=>
  let(j,u,f,o,_):=M.w.one a d;exact(a,List.mem_cons_self,o▸eR f)
 |a::b::l,d,g=>
  let(k,s):=List.getElem?_of_mem d;let(x,y,q):=M.w.has k _ s (by simp only[List.length_cons];lia);let f:=M.w.is _ _ _ q;let e:JaK (k:Int)=a::b::l:=by have:=iQ f.2.2.2.1 f.2.2.2.2;rw[Int.toNat_natCast,s]at this;injection this with this;exact this.symm
  rw[e]at f;rcases g x f.1 with z|z
  .exact(x,f.1,z)
  .let(i,t,v,A):=iR z;let(j,u,o,F,_):=(M.w.wp _ _ _ q).1 i t (by rw[D];exact(gEq v).1) v A;exact(y,f.2.1,F▸eR o)
def HS.cut (S:HS)(j:Nat)(la:JdZ Int):HS:={ S with ts:=S.ts.take j,bs:=bsF 0 (S.ts.take j),lk:=j,la:=la }
def wh (h0:0<=r)(a:r<(rs.length:Int)):aY (rs++[ps]) r=aY rs r:=by
 rcases AH a with h|h
 .exact h
 .lia
def qu (rs)(ps):aY (rs++[ps]) (rs.length:Int)=ps:=by unfold aY;rw[Int.toNat_natCast,List.getD_eq_getElem?_getD,List.getElem?_append_right (nRq _),Nat.sub_self];rfl
def WOk.put (W:WOk S S.wg k){l:Dt}{ps lat:List Int}(D:lat.Nodup)(t:∀p,p∈lat↔p∈ps)(n:MZ lat.length)(L:ps≠[])(J:∀a,lat=[a]→∃j u,S.ts[j]?=some u∧u.1=a∧UE (j+1)=0)
  (I:∀a b d,lat=a::b::d->Wp S.ts k a b/\Wp S.ts k b a):WOk (Jnx lat) (Jnx lat).wg k:=by
 let E:∀x a b,NX x _->x≠(S.rs.length:Int):=λx a b h=>by have:=(W.is x a b h).2.2.2.2;lia
 match lat,D,t,n,J,I with
 |[],_,_,n,_,_=>exact absurd (List.length_eq_zero_iff.mp n.symm) L
 | [a],_,t,n,J,_ =>
  obtain⟨b,rfl⟩:∃b,ps=[b]:=List.length_eq_one_iff.mp n.symm;obtain rfl:b=a:=mSq ((t b).mpr List.mem_cons_self);apply(λr g H B=>?_,λr x y h=>?_,W.gw,W.nd,W.wp,λx G=>?_,λh=>?_)
  .let f:(S.rs++[[b]])[r]?=some g:=H;rcases Nat.lt_or_ge r S.rs.length with c | c
   .rw[List.getElem?_append_left c]at f;exact W.has r g f B
   .have:=mO (by rw[List.getElem?_append_right c]at f;exact f);rw[mSq this]at B;exact Vh B
  .have:=W.is r x y h;show x∈aY (S.rs++[[b]]) r/\y∈aY (S.rs++[[b]]) r/\x≠y/\0<=r/\r<((S.rs++[[b]]).length:Int);rw[wh this.2.2.2.1 this.2.2.2.2,lAq];exact(this.1,this.2.1,this.2.2.1,this.2.2.2.1,by simp only[List.length_cons,List.length_nil];lia)
  .let s:=G;rcases mPq s with h | h
   .exact W.one x h
   .have:=mSq h;injection this with this;rw[this];exact J _ rfl
  .let h':=h;rcases mPq h' with h | h
   .exact W.nil h
   .cases mSq h
 | a :: b :: d,D,t,n,_,I =>
  let ab:a≠b:=λe=>by rw[e]at D;exact(List.nodup_cons.mp D).1 List.mem_cons_self
  let A:∀x y z,(Jnx (a::b::d)).wt x=some (y,z,)->(x=(S.rs.length:Int)/\y=a/\z=b)\/(x≠(S.rs.length:Int)/\NX x _):=λx y z h=>by
   let h':(if x=(S.rs.length:Int) then some _ else S.wt x)=some _:=h
   by_cases e:x=(S.rs.length:Int)
   .rw[if_pos e]at h';injection h' with h';injection h' with i o;exact Qi e i.symm o.symm
   .rw[if_neg e]at h';exact Yg e h'
  let v:(Jnx (a::b::d)).wt _=some _:=if_pos rfl;let w:∀x,x≠(S.rs.length:Int)->(Jnx (a::b::d)).wt x=S.wt x:=λx e=>if_neg e;let O:∀x,(Jnx (a::b::d)).wg x=if x=a\/x=b then Jft x [(S.rs.length:Int)] else S.wg x:=λx=>by
   show(if x=b then(if x=a then Jft x [_] else S.wg x)++[_] else if x=a then Jft x [_] else S.wg x)=_
   by_cases i:x=a
   .rw[if_neg (λz=>ab (i.symm.trans z)),if_pos i,if_pos (.inl i)]
   .by_cases o:x=b
    .rw[if_pos o,if_neg i,if_pos (.inr o)]
    .rw[if_neg o,if_neg i,if_neg (λz=>z.elim i o)]
  let K:∀x,(S.rs.length:Int)∉S.wg x:=λx h=>by let(y,z,C,_):=(W.gw _ x).mp h;exact E _ _ _ C rfl
  apply(λr g H B=>?_,λr x y h=>?_,λr x=>?_,λx=>?_,λr x y h=>?_,λx G=>?_,λh=>?_)
  .let f:(S.rs++[ps])[r]?=some g:=H;rcases Nat.lt_or_ge r S.rs.length with c | c
   .rw[List.getElem?_append_left c]at f;rw[w _ (by lia)];exact W.has r g f B
   .have:=(gEq f).1;rw[lAq]at this;let this:r<S.rs.length+1:=this;rw[show r=S.rs.length by lia];exact(a,b,v)
  .show x∈aY (S.rs++[ps]) r∧y∈aY (S.rs++[ps]) r∧x≠y∧0≤r∧r<((S.rs++[ps]).length:Int);rw[lAq];show _∧_∧_∧_∧r<(S.rs.length+1:Int);rcases A r x y h with ⟨rfl,rfl,rfl⟩ | ⟨_,h⟩
   .rw[qu];exact Jcq ((t _).mp List.mem_cons_self) ((t _).mp (Jb List.mem_cons_self)) ab (by lia)
   .have:=W.is r x y h;rw[wh this.2.2.2.1 this.2.2.2.2];exact(this.1,this.2.1,this.2.2.1,this.2.2.2.1,by lia)
  .rw[O x];by_cases e:r=(S.rs.length:Int)
   .rw[e,v];by_cases z:x=a∨x=b
    .rw[if_pos z];exact(λm=>Yv a b z,λm=>Na List.mem_cons_self)
    .rw[if_neg z];apply(λh=>absurd h (K x),λh_=>?_);let(y,P,C,N):=h_;injection C with C;injection C with i o;rw[<-i,<-o]at N;exact absurd N z
   .rw[w r e,←W.gw r x];by_cases z:x=a∨x=b
    .rw[if_pos z,List.mem_append,List.mem_singleton];exact(λh=>h.elim id λq=>absurd q e,.inl)
    .rw[if_neg z]
  .rw[O x];by_cases z:x=a∨x=b
   .rw[if_pos z];apply Ja_ (W.nd x) (λy M P F e=>?_);rw[e,mSq F]at M;exact K x M
   .rw[if_neg z];exact W.nd x
  .rcases A r x y h with ⟨rfl,rfl,rfl⟩ | ⟨_,h⟩
   .exact I x y d rfl
   .exact W.wp r x y h
  .let s:=G;rcases mPq s with h | h
   .exact W.one x h
   .have:=mSq h;rw[<-this]at n;cases n
  .let h':=h;rcases mPq h' with h | h
   .exact W.nil h
   .exact absurd (mSq h).symm L
def js {ts:List (Iz Int)}{i j:Nat}{t:Int×Int}(a:i<j)(h:ts[i]?=some t):(ts.take j)[i]?=some t/\cnt ((ts.take j).take (i+1))=cnt (ts.take (i+1)):=by apply Mm (by rw[List.getElem?_take,if_pos a];exact h);rw[List.take_take,Nat.min_eq_left (by lia)]
def iE {ts:List (Iz Int)}{i j:Nat}{t:Int×Int}(h:(ts.take j)[i]?=some t):i<j/\ts[i]?=some t:=by
 rw[List.getElem?_take]at h;split at h
 .exact(by assumption,h)
 .cases h
def fg.ix (c:fg ts m j)(h:ts[i]?=some t):Im (i+1)<=m↔i<j:=by
 let a:UB i:=(gEq h).1;constructor
 .intro e;rcases Nat.lt_or_ge i j with z | z
  .exact z
  .let d:=c.high (by lia);let b:=Jfu (ts:=ts) (i:=j+1) (j:=i+1);lia
 .exact c.low i
def WOk.cut {S:HS}{g:Int->List Int}{k:Nat}(W:WOk S g k){m:Int}{j:Nat}(c:JiG m j)(B:0<=m)(E:m<cnt S.ts)(A:∀i,JcE i->UE (i+1)<cnt S.ts->i<k){la:Int->Option Int}{a y:Int}{od:List Int}:
  WOk { (JaB j).hold a y with od:=od } g j:=by
 let D:(S.ts.take j).length=j:=by rw[List.length_take];have:=c.le;lia
 let p:∀x y,Wp S.ts k x y->Wp (S.ts.take j) j x y:=by intro x y h i t q w e;let b:=iE w;let s:=(gEq b.2).1;let C:=(c.ix b.2).mpr q;let(l,u,f,o,d):=h i t (A i s (by lia)) b.2 e;let n:=(c.ix f).mp (by lia);apply(l,u,(js n f).1,o,?_);rw[(js n f).2,(js q b.2).2];exact d
 apply(W.has,W.is,W.gw,W.nd,λr x z h=>((p _ _ (W.wp r x z h).1).more (by lia) _,(p _ _ (W.wp r x z h).2).more (by lia) _),λx v=>?_,W.nil);let(l,u,b,f,o):=W.one x v;let n:=(c.ix b).mp (by lia);let d:=js n b;exact(l,u,(eQ d.1).1,f,(eQ d.1).2.trans (d.2.trans o))
def wj (a:Nz Rs):(negs ts).Pairwise λx y=>Gm x<=lvF ts y:=by rw[List.pairwise_iff_getElem];intro i j c b d;rw[g_]at c b;let f:=gG c;let e:=gG b;let h:(negs ts)[i]=-ts[i].1:=List.getElem_map _;let g:(negs ts)[j]=-ts[j].1:=List.getElem_map _;rw[h,g,N1 f,N1 e];exact iC (by lia)
def AW (a:Nz Rs):(WK f).Pairwise λx y=>Gm y<=lvF ts x:=by exact(List.pairwise_reverse.mpr (wj a)).filter _
def om (a:Nz Rs):(WK f).Nodup:=by exact(List.pairwise_reverse.mpr (a.negs.imp Ne.symm)).filter _
def AX (Rs)(ts)(f):((negs ts).reverse.filter λp=>decide (p∈WK f))=aZ Rs ts f:=by unfold aZ;apply List.filter_congr λp a=>decide_eq_decide.mpr ?_;rw[List.mem_filter,decide_eq_true_eq];exact(λh=>h.2,λh=>(a,h))
def AY:∀i,Jaq i->1<=(NT i).2.length/\((NT i).2.length=1->NT i=(NP f,[f],)):=by
 intro i
 induction i with
 |zero=>exact λx=>(nRq _,λx=>rfl)
 |succ i a=>
  intro e;let(d,c):=a (by lia);let b:ts.reverse[i]?=some (ts[Xt 1-i]'(by lia)):=by rw[jY (by lia)];exact gG _
  rw[jX b];unfold fw;split
  .simp only[lAq,List.length_cons,List.length_nil];exact Js (λh=>JgB h)
  .exact(d,c)
def wm (a:JiC f)(h:(cA Rs ts f).length=1){q:Int}:q∈WK f↔q∈aY Rs f:=by let e:=(AY _ (nRq ts.length)).2 h;unfold aZ gu;rw[e,List.mem_filter,decide_eq_true_eq];exact(λh=>h.2,λh=>(List.mem_reverse.mpr (a.fp q h),h))
def eS.no (C:eS n B E S f)(h:YF f=[])(v)(c:iS E v):¬gx v B:=λz=>by let(p,a,_):=vZ C.b.tok C.ln (C.b.snd v c z);rw[h]at a;cases a
def eS.zero (C:eS n B E S f)(h:YF f≠[]):1<=cnt S.ts:=by
 have:=iA S.ts;by_cases e:cnt S.ts=0
 .exact absurd (vM C.b.tok e) h
 .lia
def AZ (a:Nz Rs)(v:Jl1 1)(u:∀q∈NP f,Gm q=cnt ts->q=q0):∀i,Jaq i->∀q∈(NT i).1,(Gm q=cnt ts->q=q0)/\(q∈NP f\/Gm q=0):=by
 intro i
 induction i with
 |zero=>exact λy q c=>(u q c,.inl c)
 |succ i b=>
  intro s q c;let b:=b (by lia);let(t,k,_,h):=lE a (show UB i by lia);rcases h q c with h|⟨j,x,p,g,rfl,r,_⟩
  .exact b q h
  let(e,_,d):=lD r;let l0:=d.resolve_right λ(z,o,l,no,lo)=>no (((b o l).1 lo).trans ((b _ e).1 z).symm);rw[N1 k]at l0;let l1:=N1 g;let l2:=Jfu (ts:=ts) (i:=j+1) (j:=Xt 1-i+1);let n:=j_ (ts:=ts) (-x.1);exact(λz=>by lia,.inr (by lia))
def eS.wk (C:eS n B E S f)(D:JiG m j)(m0:0≤m)(mL:m<cnt S.ts){a:Int}{rest:List Int}(eP:YF f=Xw a)(lA:Jjv a=cnt S.ts)(l1:1≤m→∃r∈rest,Jjv r=m){la:Int→Option Int}{y:Int}(hy:y≠-1){od:List Int} :
  WOk { (JaB j).hold a y with od:=od } S.wg j:=by
 let hL:1<=cnt S.ts:=by lia
 let tok:=C.b.tok;let cl:=C.last hL;let lf:=C.ln.fp;let(d,k,W,hk,po):=C.w hL;let cj:UE j<=m:=by
  rcases Nat.eq_zero_or_pos j with z|z
  .rw[z];exact m0
  .have:=D.low (j-1) (by lia);rw[show j-1+1=j by lia]at this;exact this
 let P:(S.ts.take j).length=j:=by rw[List.length_take];have:=D.le;lia
 cases po with
 |same=>exact W.cut D m0 mL hk
 | put l ps ef nd =>
  let rf:aY (d.rs++[ps]) f=ps:=by rw[ef];exact qu _ _
  let L:∃q∈aY (d.rs++[ps]) f,X6 q=cnt d.ts:=cl;let U:∀p∈aY (d.rs++[ps]) f,p∈negs d.ts:=lf;let g:TOk (d.rs++[ps]) d.ts:=tok;let Z:aZ (d.rs++[ps]) d.ts f=Xw a:=eP;let lA':=lA;let hL':=hL;let mL':m<cnt d.ts:=mL;let G:fg d.ts m j:=D;let cj':JbV j<=m:=cj;let Q:(d.ts.take j).length=j:=P;let X:1<=m->∃r∈rest,X6 r=m:=l1;rw[rf]at L U;generalize el:((negs d.ts).reverse.filter λp=>decide (p∈ps))=lat;let M:∀p,p∈lat↔p∈ps:=λp=>by rw[<-el,List.mem_filter,List.mem_reverse,decide_eq_true_eq];exact(λh=>h.2,λh=>(U p h,h))
  let pw:lat.Pairwise λx y=>X6 y<=lvF d.ts x:=by rw[<-el];exact(List.pairwise_reverse.mpr (wj g)).filter _
  let ln:lat.Nodup:=by rw[<-el];exact(List.pairwise_reverse.mpr (g.negs.imp Ne.symm)).filter _
  let le:=(List.perm_ext_iff_of_nodup ln nd |>.mpr M).length_eq;let R:∀q0∈ps,(∀q∈ps,X6 q=cnt d.ts->q=q0)->a=q0/\∀r∈rest,r∈ps/\r≠q0:=λq0 V u=>by
   let h:=AZ g hL' (by rw[rf];exact u) _ (nRq d.ts.length);let hp:∀q∈Xw a,q∈(lrn _ d.ts f d.ts.length).1/\X6 q≠0:=λq o=>by rw[<-Z]at o;exact((nY o).2,qm g o)
   let O:=(h a (hp a List.mem_cons_self).1).1 lA';let T:=om (f:=f) g;rw[Z]at T;apply(O,λr K=>?_);let F:=hp r (Jb K);apply(?_,λe=>(List.nodup_cons.mp T).1 (by rw[O,<-e];exact K));have:=(h r F.1).2.resolve_right F.2;rwa [rf]at this
  let Y:∀q,X6 q=cnt d.ts->∀i t,i<j->(JaL j [(a,y,)])[i]?=some t->t.1=-q->False:=λq o i t N v e=>by rw[List.getElem?_append_left (by lia)]at v;let F:=iE v;have:=(G.ix F.2).mpr N;let h4:=c_ g.negs F.2;rw[e,Int.neg_neg]at h4;lia
  let top:∀x s,lat=x::s->X6 x=cnt d.ts:=λx s e=>by
   let(q,o,lq):=L;have:=(M q).mpr o;rw[e]at this pw;rcases List.mem_cons.mp this with z|z
   .rw[<-z];exact lq
   .let h5:=(List.pairwise_cons.mp pw).1 q z;let h6:=lB (ts:=d.ts) x;lia
  let atJ:(JaL j [(a,y,)])[j]?=some (a,y,):=by rw[List.getElem?_append_right (by lia),Q,Nat.sub_self];rfl
  let cJ:cnt ((JaL j [(a,y,)]).take (j+1))=cnt (d.ts.take j):=by rw[tO (by rw[lAq,Q];show j+1<=_;lia),gb,show cnt [(a,y,)]=0 from jr λt v=>by rw[mSq v];exact hy,Int.add_zero]
  apply WOk.put (lat:=lat) (W.cut G m0 mL' hk) ln M le (λz=>?_) (λx I=>?_) λx H s I=>?_
  .let(q,o,_):=L;rw[z]at o;cases o
  .let px:ps=[x]:=by
    let h7:ps.length=1:=by rw[<-le,I];rfl
    let(b,rfl):=List.length_eq_one_iff.mp h7;have:=(M b).mpr List.mem_cons_self;rw[I]at this;rw[mSq this]
   let(O,K):=R x (by rw[px];exact List.mem_cons_self) (by rw[px];exact λq o V=>mSq o);apply(j,(a,y,),atJ,O,?_);show cnt ((JaL j [(a,y,)]).take (j+1))=0;rw[cJ];let m1:¬1<=m:=λz=>by let(r,A,_):=X z;have:=K r A;rw[px]at this;exact this.2 (mSq this.1)
   have:=iA (d.ts.take j);lia
  .apply(λi t N v e=>(Y x (top _ _ I) i t N v e).elim,λi t N v e=>?_);by_cases c:X6 H=cnt d.ts
   .exact(Y H c i t N v e).elim
   rw[I]at pw;let pw':=(List.pairwise_cons.mp (List.pairwise_cons.mp pw).2).1;let inL:∀q∈ps,q=x\/q=H\/q∈s:=λq o=>by have:=(M q).mpr o;rw[I]at this;simpa using this
   let up:∀q∈ps,q≠x->X6 q<=lvF d.ts H:=λq o nq=>by
    rcases inL q o with z|z|z
    .exact IP nq
    .rw[z];exact Int.le_refl _
    .exact pw' q z
   let(O,K):=R x ((M x).mp (by rw[I];exact List.mem_cons_self)) λq o lq=>Decidable.byContradiction λnq=>by have:=up q o nq;have:=lB (ts:=d.ts) H;lia
   apply(j,(a,y,),atJ,O,?_);show Jfs (cnt ((JaL j [(a,y,)]).take (j+1))) ((JaL j [(a,y,)]).take (i+1));let J:(JaL j [(a,y,)])[i]?=some t:=v;rw[List.getElem?_append_left (by lia)]at J;rw[cJ,(eQ J).2];let F:=iE J;rw[(js N F.2).2];let ly:X6 H=cnt (d.ts.take (i+1)):=by have:=c_ g.negs F.2;rw[e,Int.neg_neg]at this;exact this
   rw[<-ly];have:=j_ (ts:=d.ts) H;by_cases m1:1<=m
   .let(r,A,hr2):=X m1;have:=up r (K r A).1 (K r A).2;lia
   .lia
def cH.clash (M:cH n B E S)(F:V4 S.lk)(l){ps:List Int}(e:E ps)(o:ps.Nodup)(A:∀p∈ps,-p∈S.hs):eS n B E (Jnx ((negs S.ts).reverse.filter λp=>decide (p∈ps))) (S.rs.length:Int):=by
 let a:=M.b.tok;let x:∀p∈ps,∃(i:Nat) (t:Iz Int),S.ts[i]?=some t/\p=-t.1:=λp h=>by let(i,t,c,e):=iR (A p h);exact(i,t,c,by lia)
 let G:(S.rs++[ps])[S.rs.length]?=some ps:=by rw[List.getElem?_append_right (nRq _),Nat.sub_self];rfl
 apply((a.more,M.b.rng,λr d=>?_,λv g C r d=>?_,λr d=>Ma (M.b.sub r d),?_,M.b.bs,M.b.od,M.b.odn,M.b.la,M.b.cf),a.more.ln (ps,G,A),λH=>?_,λm=>(S,S.ts.length,?_,λi c m=>c,.put l ps rfl o))
 .rcases mPq d with h | h
  .exact M.b.row r h
  .rw[mSq h];apply(o,λp h=>?_);let(i,t,c,rfl):=x p h;let N:=(a i t c).1;let L:=M.b.rng t (mO c);lia
 .rcases mPq d with h | h
  .exact M.b.snd v g C r h
  .rw[mSq h];exact g ps e
 .show(S.rs++[ps]).length=B.length+(S.pp++[l]).length;rw[lAq,lAq,M.b.len];exact Nat.add_assoc _ _ _
 .show ∃q∈aY (S.rs++[ps]) (S.rs.length:Int),Jjv q=cnt S.ts;rw[qu];let(j,t,y,s,J):=AI S.ts H;let(p,k,D):=M.b.cf j t y s ps e;apply Id p k;let(i,u,c,rfl):=x p k;rw[N1 c];let I:j≤i:=by
   rcases Nat.lt_or_ge i j with z|z
   .exact absurd (by rw[Int.neg_neg];exact(AJ a c).mpr z) D
   .exact z
  let f:=Jfu (ts:=S.ts) (i:=j+1) (j:=i+1);let K:=nX (ts:=S.ts) (i:=i+1);rw[jV y]at f;unfold zaS at f;rw[if_pos s]at f;lia
 .rw[<-F];exact M.w
def eS.next (C:eS n B E S f)(n60:n≤60)(ne:YF f≠[])(mx:jo (((YF f).drop 1).map (lvF S.ts)) m)(g:JiG m j)
  {la:Int->Option Int}(P:∀a x,Xa (la a) x->x=a\/x=-a){od:List Int}(o1:∀a:Int,a∈od↔1<=a/\a<=n)(o2:od.Nodup):∃a rest,YF f=Xw a/\
   (∀l,cH n B E { ((S.put l (YF f) (YF f)).cut j la).hold a (S.rs.length:Int) with od:=od })/\
   ((QT f).length=1->cH n B E { (JaB j).hold a f with od:=od })/\∀y,y≠-1->JgR 0<wgt n 0 (QA j [(a,y,)]):=by
 let c:=C.b.tok;let R:lF S.rs S.ts f m j:=(c,C.ln,C.last,mx,g);let(a,rest,u,lA,X,lR,l1):=R.split ne;let m0:=R.n0;let jl:JcE j:=by
  rcases Nat.lt_or_ge j S.ts.length with z|z
  .exact z
  .let e:V4 j:=by have:=g.le;lia
   rcases Nat.eq_zero_or_pos S.ts.length with z|z
   .rw[List.length_eq_zero_iff.mp z]at X;have:m<0:=X;lia
   .have:=g.low (S.ts.length-1) (by lia);rw[show V4 (S.ts.length-1+1) by lia,List.take_length]at this;lia
 let cj:UE j<=m:=by
  rcases Nat.eq_zero_or_pos j with z|z
  .rw[z];exact m0
  .have:=g.low (j-1) (by lia);rw[show j-1+1=j by lia]at this;exact this
 let hj:=gG jl;let ch:(S.ts[j]).2=-1:=by
  let D:=g.high jl;rw[jV hj]at D;unfold zaS at D;by_cases z:(S.ts[j]).2=-1
  .exact z
  .rw[if_neg z]at D;lia
 let w:∀q∈YF f,q≠0/\q.natAbs<=n:=λq Y=>by let(i,t,s,e,_):=jq c Y;let D:=(c i t s).1;let h2:=C.b.rng t (mO s);lia
 let I:a∈aZ S.rs S.ts f:=by rw[u];exact List.mem_cons_self
 let k:∀q∈rest,-q∈(S.ts.take j).map Prod.fst:=λq Y=>by
  let hq':q∈aZ S.rs S.ts f:=by rw[u];exact Jb Y
  let(i,t,s,e,lv):=jq c hq';let ij:=(g.ix s).mp (by rw[<-lv];exact lR q Y);rw[e,Int.neg_neg];exact eR (js ij s).1
 let a2:-a∉(S.ts.take j).map Prod.fst:=λz=>by let(i,t,s,e,lv):=jq c I;let(i',t',K,e'):=iR z;let D:=iE K;let ii:=c.same_ix s D.2 (by rw[e'];lia);have:=(g.ix s).mpr (by lia);lia
 let a1:a∉(S.ts.take j).map Prod.fst:=λz=>by let(i,t,s,e,lv):=jq c I;let(i',t',K,e'):=iR z;exact c.cons (e'▸eR (iE K).2) (by rw[e,Int.neg_neg];exact eR s)
 let d:(S.ts.take j).length=j:=by rw[List.length_take];lia
 let G:∀y,∀t∈QA j [(a,y,)],t.1.natAbs<=n:=λy t A=>by
  rcases mPq A with h|h
  .exact C.b.rng t (List.mem_of_mem_take h)
  .rw[mSq h];exact(w a I).2
 let U:∀y,y≠-1->WF 0 j=bsF 0 (QA j [(a,y,)]):=λy O=>by rw[oh,if_neg O]
 let M:∀y i,j<=i->i<(QA j [(a,y,)]).length->cnt ((QA j [(a,y,)]).take (i+1))=cnt _:=λy i D h2=>by rw[tO (by rw[lAq,d];show j+1<=_;lia)]
 let N:∀y,j<=(QA j [(a,y,)]).length:=λy=>by rw[lAq,d];lia
 let T:∀y,y≠-1->CF E (QA j [(a,y,)]):=λy O=>(C.b.cf.take j).more λt A=>by rw[mSq A];exact O
 let W:-60<=a/\a<=60:=by have:=w a I;lia
 apply(a,rest,u,λl=>?_,λD=>?_,λy O=>AS C.b.tlen hj ch O)
 .let L:(S.rs.length:Int)≠-1:=by lia
  let W1:=C.wk g m0 X u lA l1 (la:=la) L (od:=od);let W2:=WOk.put W1 (l:=l) (om c) (λV=>Iff.rfl) rfl ne (λx F=>?_) (λx y more F=>?_)
  .apply((?_,G _,?_,?_,?_,?_,U _ L,o1,o2,P,T _ L),W2,N _,M _)
   .show TOk (S.rs++[YF f]) (QA j [(a,(S.rs.length:Int),)]);apply TOk.snoc ((c.take j).more) (w a I).1 W a1 a2 (J6 S.rs.length (YF f) rfl ?_ I (λp J np=>?_))
    .rw[List.getElem?_append_right (nRq _),Nat.sub_self];rfl
    .rw[u]at J;exact k p ((List.mem_cons.mp J).resolve_left np)
   .intro r H;rcases mPq H with h | h
    .exact C.b.row r h
    .rw[mSq h];exact(om c,w)
   .intro v ve hv r H;rcases mPq H with h | h
    .exact C.b.snd v ve hv r h
    .rw[mSq h];exact vZ c C.ln (C.b.snd v ve hv)
   .exact λr H=>Ma (C.b.sub r H)
   .show(S.rs++[YF f]).length=B.length+(S.pp++[l]).length;rw[lAq,lAq,C.b.len];exact Nat.add_assoc _ _ _
  .let e:rest=[]:=by rw[u]at F;injection F
   let Z:x=a:=by rw[u]at F;injection F with F;exact F.symm
   let m00:m=0:=mx.1 (by rw[u,e];rfl);apply(j,(a,(S.rs.length:Int),),?_,Z.symm,?_)
   .show(QA j [(a,(S.rs.length:Int),)])[j]?=_;rw[List.getElem?_append_right (by lia),d,Nat.sub_self];rfl
   .show cnt ((QA j [(a,(S.rs.length:Int),)]).take (j+1))=0;rw[tO (by rw[lAq,d];show j+1<=_;lia),gb,show cnt [(a,(S.rs.length:Int),)]=0 from jr λt A=>by rw[mSq A];exact L];have:=iA (S.ts.take j);lia
  .rw[u]at F;injection F with Z er;apply(λi t s A e=>?_,λi t s A e=>?_)
   .let o:(QA j [(a,(S.rs.length:Int),)])[i]?=some t:=A;rw[List.getElem?_append_left (by lia)]at o;exact absurd (show -a∈_ by rw[Z,<-e];exact eR o) a2
   .let o:(QA j [(a,(S.rs.length:Int),)])[i]?=some t:=A;rw[List.getElem?_append_left (by lia)]at o;apply(j,(a,(S.rs.length:Int),),?_,Z,?_)
    .show(QA j [(a,(S.rs.length:Int),)])[j]?=_;rw[List.getElem?_append_right (by lia),d,Nat.sub_self];rfl
    .show Jfs (cnt ((QA j [(a,(S.rs.length:Int),)]).take (j+1))) ((QA j [(a,(S.rs.length:Int),)]).take (i+1));rw[tO (by rw[lAq,d];show j+1≤_;lia),gb,show cnt [(a,(S.rs.length:Int),)]=0 from jr λt A=>by rw[mSq A];exact L,(eQ o).2];let h3:=iE o;rw[(js s h3.2).2];let yr:y∈rest:=by rw[er];exact List.mem_cons_self
     let yP:y∈aZ S.rs S.ts f:=by rw[u];exact Jb yr
     let ly:Jjv y=cnt (S.ts.take (i+1)):=by have:=c_ c.negs h3.2;rw[e,Int.neg_neg]at this;exact this
     let y0:=qm c yP;let y1:=j_ (ts:=S.ts) y;let y2:=lR y yr;let(r,H,Q):=l1 (by lia);let pw:=AW (f:=f) c;rw[u,er]at pw;let pw2:=(List.pairwise_cons.mp (List.pairwise_cons.mp pw).2).1;have:m<=lvF S.ts y:=by
      rw[er]at H;rcases List.mem_cons.mp H with z|z
      .rw[<-Q,z];exact Int.le_refl _
      .rw[<-Q];exact pw2 r z
     lia
 .let f0:f≠-1:=by have:=C.ln.f0;lia
  apply((?_,G _,C.b.row,C.b.snd,C.b.sub,C.b.len,U _ f0,o1,o2,P,T _ f0),C.wk g m0 X u lA l1 f0,N _,M _);apply TOk.snoc (c.take j) (w a I).1 W a1 a2 (J6 f.toNat (JaK f) ?_ (iQ C.ln.f0 C.ln.f1) ((wm C.ln D).mp I) (λp J np=>?_))
  .have:=C.ln.f0;lia
  .let J:=(wm C.ln D).mpr J;rw[u]at J;exact k p ((List.mem_cons.mp J).resolve_left np)
structure cF (n:Nat)(B)(i)(S:HS):Prop where
 rs:S.rs=B
 pp:S.pp=[]
 lk:S.lk=0
 bs:S.bs=[]
 od:∀a:Int,a∈S.od↔1<=a/\a<=n
 odn:S.od.Nodup
 la:∀a x,Xa (S.la a) x->x=a\/x=-a
 tok:Jju B
 rng:∀t∈S.ts,t.1.natAbs<=n
 fo:∀t∈S.ts,t.2≠-1
 w:WOk { S with rs:=B.take i } S.wg 0
def wp0 (ts)(a b):Wp ts 0 a b:=λx x h=>Xn h _
def cF.zero {n:Nat}{B:List (List Int)}{S:HS}(rs:S.rs=B)(pp:S.pp=[])(g:S.lk=0)(bs:S.bs=[])(od:∀a:Int,a∈S.od↔1<=a/\a<=n)(d:S.od.Nodup)(la:∀a,Uf (S.la a))(ts:S.ts=[])(e:∀r,Uf (S.wt r))(wg:∀c,S.wg c=[]):cF n B 0 S:=by
 apply(rs,pp,g,bs,od,d,λa x h=>(by rw[la]at h;cases h),(by rw[ts];exact TOk.nil _),(by rw[ts];exact λy h=>(nomatch h)),(by rw[ts];exact λy h=>(nomatch h)),(λr f h=>?_,λr a b h=>?_,λr c=>?_,λc=>?_,λr a b h=>?_,λa h=>?_,λh=>?_))
 .cases h
 .let h':=h;rw[e]at h';cases h'
 .rw[wg];apply(λh=>(nomatch h),λh_=>?_);let(a,b,h,_):=h_;let h':=h;rw[e]at h';cases h'
 .rw[wg];exact List.Pairwise.nil
 .exact(wp0 _ _ _,wp0 _ _ _)
 .cases h
 .cases h
def A0 {B:List (List Int)}{i:Nat}{r:List Int}(h:B[i]?=some r):(B.take i).length=i:=by have:=(gEq h).1;rw[List.length_take];lia
def cnt0 (h:cF n B i S)(j):UE j=0:=jr λt a=>h.fo t (List.mem_of_mem_take a)
def cF.add {n:Nat}{B:List (List Int)}{i:Nat}{S v:HS}{r:List Int}(h:cF n B i S)(d:B[i]?=some r)(y:r.Nodup)(x:r≠[])(F:∀a,r=[a]->a∈S.hs)(es:v={ S with wt:=putW (i:Int) r S.wt,wg:=putG (i:Int) r S.wg }):cF n B (i+1) v:=by
 subst es;apply(h.rs,h.pp,h.lk,h.bs,h.od,h.odn,h.la,h.tok,h.rng,h.fo,?_);let W:=WOk.put h.w (l:=.int 0) y (λm=>Iff.rfl) rfl x (λa e=>?_) λa b t m=>(wp0 _ _ _,wp0 _ _ _)
 .let s:=A0 d;let e:(({ S with rs:=B.take i }:HS).put (.int 0) r r).wg=putG (i:Int) r S.wg:=by show putG ((B.take i).length:Int) r S.wg=_;rw[s]
  let q:(({ S with rs:=B.take i }:HS).put (.int 0) r r).wt=putW (i:Int) r S.wt:=by show putW ((B.take i).length:Int) r S.wt=_;rw[s]
  rw[e]at W;apply(λk p o A=>?_,λk a b o=>?_,λk c=>?_,W.nd,λk a b o=>?_,λa C=>?_,λz=>?_)
  .have:=W.has k p (by show(B.take i++[r])[k]?=_;rw[<-bf d];exact o) A;rw[q]at this;exact this
  .have:=W.is k a b (by rw[q];exact o);rw[bf d];exact this
  .have:=W.gw k c;rw[q]at this;exact this
  .exact(wp0 _ _ _,wp0 _ _ _)
  .let g:=C;rw[bf d]at g;exact W.one a g
  .let f:=z;rw[bf d]at f;exact W.nil f
 .let(j,u,E,D):=iR (F a e);exact(j,u,E,D,cnt0 h _)
def cF.hold (h:cF n B i S)(o:n<=60)(d:B[i]?=some [a])(f:a≠0/\a.natAbs<=n)(v:a∉S.hs)(s:-a∉S.hs):cF n B (i+1) (S.hold a i):=by
 let h':cF n B i (S.hold a i):=by
  apply(h.rs,h.pp,h.lk,h.bs,h.od,h.odn,h.la,Jm1 h.tok f.1 v s (J6 i [a] rfl d List.mem_cons_self (λp r l=>absurd (mSq r) l)),λt b=>?_,λt b=>?_,(h.w.has,h.w.is,h.w.gw,h.w.nd,λy y y y=>(wp0 _ _ _,wp0 _ _ _),λx q=>?_,h.w.nil))
  .rcases mPq b with z | z
   .exact Jm0 z
   .rw[mSq z];exact f.2
  .rcases mPq b with z | z
   .exact h.fo t z
   .rw[mSq z];show(i:Int)≠-1;lia
  .let(j,u,c,k,g):=h.w.one x q;exact(j,u,(eQ c).1,k,(eQ c).2.trans g)
 apply h'.add d (by simp) (by simp) (λx e=>?_) rfl;injection e with e;show x∈(S.ts++[(a,(i:Int),)]).map Prod.fst;rw[mAq,<-e];exact Na List.mem_cons_self
def cF.hb (h:cF n B i S)(e:∀r∈B,r.Nodup/\∀p∈r,p≠0/\UX n):HB n B E S:=by apply(h.rs▸h.tok,h.rng,h.rs▸e,λv x a=>h.rs▸a,λr c=>h.rs▸c,by rw[h.rs,h.pp];rfl,?_,h.od,h.odn,h.la,λj t d b=>absurd b (h.fo t (mO d)));rw[h.bs,qt _ _ h.fo]
def cF.fail (h:cF n B i S)(c:∀r∈B,r.Nodup/\∀p∈r,p≠0/\UX n)(a:B[i]?=some r)(b:∀p∈r,-p∈S.hs):eS n B E S (i:Int):=by let d:cnt S.ts=0:=jr h.fo;exact(h.hb c,(h.rs▸h.tok:Jju S.rs).ln (r,h.rs▸a,b),λz=>IP (by lia),λz=>IP (by lia))
def cF.mid (h:cF n B B.length S)(a:∀r∈B,r.Nodup/\∀p∈r,p≠0/\UX n):cH n B E S:=by
 let e:({ S with rs:=B.take B.length }:HS)=S:=by rw[List.take_length,<-h.rs]
 let w:=h.w;rw[e]at w;apply(h.hb a,by rw[h.lk];exact w,by rw[h.lk];exact Nat.zero_le _,λi x x=>?_);rw[cnt0 h,jr h.fo]
def kc (S:HS):Option Int:=S.od.find? λa=>decide (a∉S.hs)&&decide (-a∉S.hs)
def gy (ps od:List Int):List Int:=ps.map zaW++od.filter λa=>decide (a∉ps.map zaW)
def lnD (ps hs:List Int):Dt:=.tup [.str "learnt",.tup (ps.map Dt.int),.tup (hs.map Dt.int)]
def LaP (ts:Wl Int)(D:Nat->Prop)(a la:JdZ Int):Prop:=∀z,(∀i t,D i->ts[i]?=some t->zaW t.1=z->Xa (la z) t.1)/\((∀i t,D i->ts[i]?=some t->zaW t.1≠z)->la z=a z)
def A1 (h:zaW a=zaW b):a=b\/a=-b:=by unfold zaW at h;split at h<;>split at h<;>lia
def LaP.put (h:LaP ts D la0 la)(b:Nz rs)(f:ts[k]?=some u)(g:∀x,D' x↔D x\/x=k):LaP ts D' la0 λz=>if z=zaW u.1 then some u.1 else la z:=λz=>by
 apply(λi t l a e=>?_,λj=>?_)
 .show(if z=zaW u.1 then some u.1 else la z)=_
  by_cases c:z=zaW u.1
  .rw[if_pos c];rcases A1 (e.trans c) with e | e
   .rw[e]
   .exact(b.cons (eR a) (by rw[e,Int.neg_neg];exact eR f)).elim
  .rw[if_neg c];rcases(g i).mp l with d | d
   .exact(h z).1 i t d a e
   .subst d;rw[f]at a;cases a;exact Jz e.symm
 .show(if z=zaW u.1 then some u.1 else la z)=_
  rw[if_neg λc=>j k u ((g k).mpr (.inr rfl)) f c.symm];exact(h z).2 λi t d=>j i t ((g i).mpr (.inl d))
def LaP.det (a:LaP ts D la0 la)(b:LaP ts D la0 la'):la=la':=by
 funext z;by_cases c:∃i t,D i/\ts[i]?=some t/\zaW t.1=z
 .let(i,t,f,e,d):=c;rw[(a z).1 i t f e d,(b z).1 i t f e d]
 .rw[(a z).2 λi t f e d=>c (i,t,f,e,d),(b z).2 λi t f e d=>c (i,t,f,e,d)]
def LaP.imp (h:LaP ts D la0 la)(d:∀x,UB x->(D' x↔D x)):LaP ts D' la0 la:=λz=>by let c:∀{i t},ts[i]?=some t->UB i:=λ{i t} h=>(gEq h).1;exact(λi t b a=>(h z).1 i t ((d i (c a)).mp b) a,λe=>(h z).2 λi t b a=>e i t ((d i (c a)).mpr b) a)
structure LStp (most)(S:HS)(f)(S'):Prop where
 ex:∃(a:Int) (rest:List Int) (m:Int) (j:Nat) (la:JdZ Int),YF f=Xw a/\jo (((YF f).drop 1).map (lvF S.ts)) m/\JiG m j/\LaP S.ts (λx=>j<=x) S.la la/\
  (((QT f).length=1/\S'={ (JaB j).hold a f with od:=gy (Xw a) S.od }) \/ ((QT f).length≠1/\(S.pp.length:Int)<most/\S'={ ((S.put (lnD (Xw a) (QT f).reverse) (Xw a) (Xw a)).cut j la).hold a (S.rs.length:Int) with od:=gy (Xw a) S.od }))
def LStp.det (x:LStp most S f S1)(y:LStp most S f S2):S1=S2:=by
 let(a,rest,m,j,la,s,g,r,o,n):=x.ex;let(C,b,k,B,l,i,h,v,u,t):=y.ex;rw[s]at i;injection i with A z;subst A z;let w:m=k:=by
  by_cases e:((YF f).drop 1).map (lvF S.ts)=[]
  .rw[g.1 e,h.1 e]
  .exact Int.le_antisymm ((h.2 e).2 _ (g.2 e).1) ((g.2 e).2 _ (h.2 e).1)
 subst w;cases r.inj v;cases o.det u;rcases n with ⟨p,q⟩|⟨p,_,q⟩<;>rcases t with ⟨d,c⟩|⟨d,_,c⟩
 .rw[q,c]
 .exact Jjt p
 .exact absurd d p
 .rw[q,c]
inductive Ph where
 |beg (i:Nat)
 |grow
 |ask
 |rest
 |odds (f:Int)
def begR (S:HS)(i:Nat):JnA (HS×Ph)
 |[]=>(S,.odds i,)
 |[a]=>if -a∈S.hs then(S,.odds i,) else if a∈S.hs then(S,.beg (i+1),) else(S.hold a i,.beg (i+1),)
 |a::b::_=>(S.watch i a b,.beg (i+1),)
def gA (S:HS)(i:Nat):HS×Ph:=match S.rs[i]? with
 |none=>(S,.grow,)
 |some r=>begR S i r
noncomputable def phO:JjJ Int Ph
 |none=>.grow
 |some f=>.odds f
def hC (S:HS):HS×Ph:=match S.ts[S.lk]? with
 |none=>(S,.ask,)
 |some t=>({ (da S (-t.1)).1 with lk:=S.lk+1 },phO (da S (-t.1)).2,)
abbrev Cl:=Wl Int->Option (Dt×List Int)->Prop
def Cl.One (c:Cl):Prop:=∀ts a b,c ts a->c ts b->a=b
def hF (ts:Wl Int)(ps:List Int):List Int:=(negs ts).reverse.filter λp=>decide (p∈ps)
def askS (a:Int)(S:HS)(y:HS×Ph):Option (Dt×List Int)->Prop
 |none=>y=(S,.rest,)
 |some q=>(S.pp.length:Int)<a/\y=(S.put q.1 q.2 (JgC q.2),.odds (S.rs.length:Int),)
def Stp (c:Cl)(b:Int)(x y:HS×Ph):Prop:=match x.2 with
 |.beg i=>y=gA x.1 i
 |.grow=>y=hC x.1
 |.ask=>∃o,c x.1.ts o/\askS b x.1 y o
 |.rest=>∃a,Xa (kc x.1) a/\y=(x.1.pick a,.grow,)
 |.odds f=>LStp b x.1 f y.1/\y.2=.grow
def Stp.det (o:cl.One){x y z:HS×Ph}(a:Jkd cl x y)(b:Jkd cl x z):y=z:=by
 let(S,p):=x;cases p with
 |beg i=>exact JaQ a b
 |grow=>exact JaQ a b
 |ask=>
  let(c,j,h):=a;let(d,g,e):=b;cases o _ _ _ j g;cases c with
  |none=>exact JaQ h e
  |some q=>exact JaQ h.2 e.2
 |rest=>
  let(c,j,h):=a;let(d,g,e):=b;rw[j]at g;cases g;rw[h,e]
 |odds f=>exact Prod.ext (a.1.det b.1) (a.2.trans b.2.symm)
inductive Rch (cl:Cl)(most)(x):HS×Ph->Prop
 |refl:Jmz x x
 |step {y z:HS×Ph}:Jmz x y->Jkd cl y z->Jmz x z
def Rch.trans (a:Jmz x y)(b:Jmz y z):Jmz x z:=by
 induction b with
 |refl=>exact a
 |step _ s c=>exact c.step s
def Rch.head (h:Jmz x y):x=y\/∃z,Jkd cl x z/\Rch cl most z y:=by
 induction h with
 |refl=>exact .inl rfl
 |step a b c=>
  rcases c with rfl|⟨z,e,d⟩
  .exact .inr (W7 b .refl)
  .exact .inr (z,e,d.step b)
def Rch.one (o:cl.One){x y z:HS×Ph}(a:Jmz x y):Jmz x z->Jmz y z\/Rch cl most z y:=by
 induction a with
 |refl=>exact .inl
 | step a b d =>
  intro c;rcases d c with h|h
  .rcases h.head with rfl | ⟨w,f,e⟩
   .exact .inr (.step .refl b)
   .cases f.det o b;exact .inl e
  .exact .inr (h.step b)
inductive Wd where
 |long
 |yes
 |no
 deriving DecidableEq
def Fnd (b:Cl)(a:Int)(x:HS×Ph)(w:Wd):Prop:=match x.2 with
 |.ask=>∃q,b x.1.ts (some q)/\a<=(x.1.pp.length:Int)/\w=.long
 |.rest=>Uf (kc x.1)/\w=.yes
 |.odds f=>(¬((cA x.1.rs x.1.ts f).length=1/\aZ x.1.rs x.1.ts f≠[])/\a<=(x.1.pp.length:Int)/\w=.long)\/(aZ x.1.rs x.1.ts f=[]/\(x.1.pp.length:Int)<a/\w=.no)
 |_=>False
def Fnd.stop (o:cl.One){x y:HS×Ph}{w:Wd}(h:Jke cl x w):¬Stp cl most x y:=λs=>by
 let(S,p):=x;cases p with
 |beg i=>exact h
 |grow=>exact h
 |ask=>
  let(q,d,b):=h;let(c,k,l):=s;cases o _ _ _ d k;let g:=l.1;let b:=b;lia
 |rest=>
  let(a,d,_):=s;let b:=h.1;rw[d]at b;cases b
 | odds f =>
  let(a,rest,m,j,la,d,_,_,_,g):=s.1.ex;rcases h with ⟨b,k⟩|⟨b,_⟩
  .rcases g with g | g
   .exact b (g.1,λe=>by let d:=d;let e:=e;rw[d]at e;cases e)
   .have:=g.2.1;lia
  .let d:=d;let b:=b;rw[d]at b;cases b
def Fnd.det (a:Jke cl x w)(b:Jke cl x u):w=u:=by
 let(S,p):=x;cases p with
 |beg i=>exact a.elim
 |grow=>exact a.elim
 |ask=>
  let(_,_,_,h):=a;let(_,_,_,g):=b;rw[h,g]
 |rest=>rw[a.2,b.2]
 |odds f=>
  rcases a with ⟨_,e,c⟩|⟨_,e,c⟩<;>rcases b with ⟨_,j,d⟩|⟨_,j,d⟩
  .rw[c,d]
  .lia
  .lia
  .rw[c,d]
def Ans (cl:Cl)(most:Int)(S:HS)(x:HS×Ph)(w:Wd):Prop:=Jmz (S,.beg 0,) x/\Jke cl x w
def Ans.det (o:cl.One){S:HS}{x y:HS×Ph}{w u:Wd}(a:JiH cl S x w)(b:JiH cl S y u):x=y/\w=u:=by
 let e:x=y:=by
  rcases a.1.one o b.1 with h|h
  .rcases h.head with e | ⟨z,s,_⟩
   .exact e
   .exact absurd s (a.2.stop o)
  .rcases h.head with e | ⟨z,s,_⟩
   .exact e.symm
   .exact absurd s (b.2.stop o)
 subst e;exact GM (a.2.det b.2)
end L2
namespace L2
open PySem PySem.Spec PyProof.Rows
section
variable {P:Program} {w:World}
abbrev Sgn:=U8 (List Key)
def eD (P:Program)(w:World)(h:Heap)(k:Sgn)(a:Addr):Prop :=
 ∃o t q n,h.get? a=some o/\o.cls=.type "tuple"/\o.data=.seq #[.str k.1 t,.ref q] n/\IsTupleKey (JkJ P) h k.2 q
def eD.typeIs {s:Shared}{k:Sgn}{a:Addr}(x:Jc4 P w k a):Q1 a "tuple":=let (o,_,_,_,ho,hc,_):=x;J8 ho hc
def eD.inj (i:eD P w h x a)(g:eD P w h y a):x=y:=by let(o,t,q,n,j,_,l,k):=i;let(A,t',f,B,b,_,d,c):=g;cases j.symm.trans b;let e:=l.symm.trans d;injection e with e _;let z:=Jb_ e;injection z with v u;injection v with s _;injection u with r _;injection r with p;subst p;exact Prod.ext s (k.inj c)
def eD.keeps (x:eD P w h k a)(f:h.get? d=some o)(g:JhO ep)(hs:Vt d h):eD P w h' k a:=by
 let(i,t,q,n,c,l,b,j):=x;let e:a≠d:=by rintro rfl;cases c.symm.trans f;rw[g]at b;exact nomatch b
 exact(i,t,q,n,(hs.2 a e).trans c,l,b,j.keeps f g hs)
def qv (P:Program)(w:World)(k:Sgn):Int:=reduceHash (Builtin.Tuple.tupleHashOf [(JkJ P).hash (.inr k.1),tupleKeyHash (JkJ P) k.2])
variable {A:Around} {E:Value->Shared->Prop} {s:Shared}
def A3 {k:Sgn}{a:Addr}{Q:Int→Shared→Prop}(u:XV 10)(i:Jc4 P w k a)(h:Q (qv P w k) { s with toks:=s.toks+(k.2.length+3) }) :
  wpAny (Jca P) A (pyHash (.ref a)) Q E s:=by
 let d:=i.typeIs;let(o,t,q,n,l,_,r,p):=i;unfold pyHash
 first|unfold pyHashByItsType|skip
 first|refine wpAny_bind (wpAny_cRoomFor_or (.inr (by lia)) ?_)|skip
 apply Yt d F.slot_tuple_hash.lookup ?_;show Xi _ _ Q E s
 rw[if_neg (by rw[beq_builtin_none];exact Bool.false_ne_true)];apply Yt d F.slot_tuple_hash.lookup ?_;apply wpAny_bind (wpAny_callSpecialIfBoundUnlessNone?_slot d F.slot_tuple_hash (Jbw F.slot_tuple_hash d F.entry_tuple_hash (F.args_tuple_hash_1 _)));show JmJ (V1 a>>=_);apply Jac l r ?_;apply wpAny_bind ?_;rw[<-Array.forIn_toList];apply wpAny_forIn_list _
  (λrest b s'=>(rest=[.str k.1 t,.ref q]/\b=#[]/\s'=s)\/(rest=Gj q/\b=#[(JkJ P).hash (.inr k.1)]/\s'={ s with toks:=s.toks+1 }) \/ (rest=[]/\b=#[(JkJ P).hash (.inr k.1),tupleKeyHash (JkJ P) k.2]/\s'={ s with toks:=s.toks+1+(k.2.length+1) }))
  _ ?_ ?_ _ _ (.inl (Jlf rfl))
 .rintro x rest b s' (⟨e,rfl,rfl⟩ | ⟨e,rfl,rfl⟩ | ⟨e,rfl,rfl⟩)
  .injection e with g f;subst g f;apply wpAny_bind ((JkJ P).pyHash (mX P w k.1 t) ?_)
   first
    |exact wpAny_pure (GZ (Jlf rfl))
    |exact wpAny_bind _
  .injection e with g f;subst g f;apply wpAny_bind (wpAny_pyHash_tuple (knd:=JkJ P) (by lia) p ?_)
   first
    |exact wpAny_pure (IN (Jlf rfl))
    |exact wpAny_bind _
  .exact nomatch e
 .rintro b s' (⟨e,rfl,rfl⟩ | ⟨e,rfl,rfl⟩ | ⟨e,rfl,rfl⟩)
  .exact nomatch e
  .exact nomatch e
  apply wpAny_ret_mkInt ?_;let j:s.toks+(k.2.length+3)=s.toks+1+(k.2.length+1)+1:=by lia
  rw[j]at h;unfold qv reduceHash at h;generalize Builtin.Tuple.tupleHashOf _=z at h⊢;show Xi _ (if Xh (decide (-2^63<=z)&&decide (z<2^63)) then _ else _) Q E _
  by_cases c:Xh (decide (-2^63<=z)&&decide (z<2^63))
  .rw[if_pos c];rw[if_pos c]at h;exact wpAny_pure h
  .rw[if_neg c];rw[if_neg c]at h;exact Jak h
def A4 {x y:Sgn}{a b:Addr}{R:Fin->Shared->Prop}(Q:XV 5)(I:Jc4 P w x a)(H:Jc4 P w y b)(h:R (.done (.ret (.bool (decide (x=y))))) s):
  wpAny (Jca P) A (Builtin.«tuple.__eq__» (WX (JC a b))) R E s:=by
 let o:=H.typeIs;let(M,D,G,O,i,_,n,k):=I;let(L,C,F,N,g,_,l,j):=H;show JmJ (isInstance (.ref b) (.type "tuple")>>=_);apply Jhv o ?_;simp only[Bool.not_true,Bool.false_eq_true,if_false];apply Jac i n ?_;apply Jac g l ?_;apply wpAny_bind ?_;apply wpAny_forIn_list _
  (λrest r s'=>Uf r.1/\s'=s/\((rest=[(.str x.1 D,.str y.1 C,),(.ref G,.ref F,)])\/(rest=[(.ref G,.ref F,)]/\x.1=y.1)\/(rest=[]/\x=y)))
  _ ?_ ?_ _ _ (Jlf (.inl rfl))
 .rintro ⟨u,v⟩ rest r s' ⟨f,rfl,e | ⟨e,d⟩ | ⟨e,d⟩⟩
  .injection e with B t;injection B with q p;subst t q p;apply wpAny_bind ((JkJ P).eqBool (mX P w x.1 D) (mX P w y.1 C) ?_);by_cases c:x.1=y.1
   .rw[dTq (show(Sum.inr x.1:Key)=.inr y.1 by rw[c])];simp only[Bool.not_true,Bool.false_eq_true,if_false];exact Jjl (by trivial) (by trivial) (.inr (Uh (by trivial) c))
   .rw[dFq (show ¬(Sum.inr x.1:Key)=.inr y.1 from λz=>c (Sum.inr.inj z))];simp only[Bool.not_false,if_true];rw[dFq (show ¬x=y from λz=>c (by rw[z]))]at h;exact Ui (My h)
  .injection e with B t;injection B with q p;subst t q p;apply wpAny_bind (wpAny_eqBool_tuple (knd:=JkJ P) (by lia) k j ?_);by_cases c:x.2=y.2
   .rw[dTq c];simp only[Bool.not_true,Bool.false_eq_true,if_false];exact Jjl (by trivial) (by trivial) (.inr (Yg (by trivial) (Prod.ext d c)))
   .rw[dFq c];simp only[Bool.not_false,if_true];rw[dFq (show ¬x=y from λz=>c (by rw[z]))]at h;exact Ui (My h)
  .exact nomatch e
 .rintro ⟨K,J⟩ s' ⟨f,rfl,e | ⟨e,d⟩ | ⟨e,d⟩⟩
  .exact nomatch e
  .exact nomatch e
  simp only at f;subst f;apply wpAny_pure ?_;rw[dTq d]at h;exact h
def A5 {x y:Sgn}{a b:Addr}{Q:Bool->Shared->Prop}(g:XV 10)(d:Jc4 P w x a)(f:Jc4 P w y b)(h:Q (decide (x=y)) s):
  wpAny (Jca P) A (eqBool (.ref a) (.ref b)) Q E s:=by
 unfold eqBool
 try with_reducible refine wpAny_holding ?_
 by_cases c:Xh (Value.ref a==Value.ref b)
 .rw[if_pos c];let e:a=b:=by have:=eq_of_beq c;injection this
  subst e;cases d.inj f;exact Jak (by simpa using h)
 .rw[if_neg c];exact wpAny_bind (wpAny_richCompare_same_room d.typeIs f.typeIs F.slot_tuple_eq (wpAny_call_entry F.slot_tuple_eq d.typeIs F.entry_tuple_eq (A4 (by show Xs (JV 1+5);lia) d f (Ul _ (λe=>nomatch e) (wpAny_truthy_bool h))) (F.args_tuple_eq_2 _ _)) (by lia))
def quiet7 (e:IsTupleKey (JkJ P) s.heap ks a)(h:Q true s):Ga P w A (eqIsQuiet 7 (.ref a)) Q E s:=by
 let f:=e.typeIs;let(o,items,n,g,_,j,i):=e;unfold eqIsQuiet;apply Yt f F.slot_tuple_eq.lookup ?_;apply Jhv f ?_;simp only[Bool.not_true,Bool.false_eq_true,if_false];apply Gg g j ?_;apply wpAny_bind ?_;rw[<-Array.forIn_toList];apply wpAny_forIn_list _ (λrest r s'=>Uf r.1/\s'=s/\∀v∈rest,Xh (carriedByValue v)) _ ?_ ?_ _ _ (Jlf i.byValue)
 .rintro v rest r s' ⟨d,rfl,b⟩;rw[eqIsQuiet_byValue _ (b v List.mem_cons_self)];apply Ui ?_;simp only[Bool.not_true,Bool.false_eq_true,if_false];exact U0 rfl (λu c=>b u (Jb c))
 .rintro ⟨l,k⟩ s' ⟨d,rfl,_⟩;simp only at d;subst d;exact wpAny_pure h
def A6 {k:Sgn}{a:Addr}{Q:Bool->Shared->Prop}(f:Jc4 P w k a)(h:Q true s):Ga P w A (eqIsQuiet 8 (.ref a)) Q E s:=by
 let g:=f.typeIs;let(o,t,q,n,i,_,l,j):=f;unfold eqIsQuiet;apply Yt g F.slot_tuple_eq.lookup ?_;apply Jhv g ?_;simp only[Bool.not_true,Bool.false_eq_true,if_false];apply Gg i l ?_;apply wpAny_bind ?_;rw[<-Array.forIn_toList];apply wpAny_forIn_list _ (λrest r s'=>Uf r.1/\s'=s/\∀v∈rest,Xh (carriedByValue v)\/Xl v q) _ ?_ ?_ _ _ (Jlf (λv d=>?_))
 .rintro v rest r s' ⟨e,rfl,b⟩;rcases b v List.mem_cons_self with d | rfl
  .rw[eqIsQuiet_byValue _ d];apply Ui ?_;simp only[Bool.not_true,Bool.false_eq_true,if_false];exact U0 rfl (λu c=>b u (Jb c))
  .apply wpAny_bind (quiet7 j ?_);simp only[Bool.not_true,Bool.false_eq_true,if_false];exact U0 rfl (λu c=>b u (Jb c))
 .rintro ⟨x,p⟩ s' ⟨e,rfl,_⟩;simp only at e;subst e;exact wpAny_pure h
 .rcases List.mem_cons.mp d with rfl | d
  .exact .inl rfl
  .exact .inr (mSq d)
end
def oo (P)(w):HeapKind P w Sgn where
 is:=eD P w
 hash:=qv P w
 draws:=λk=>k.2.length+3
 room:=λA=>XV 10
 inj:=λb a=>b.inj a
 keeps:=λx e f hs=>x.keeps e f hs
 pyHash:=λc d h=>A3 c d h
 eqBool:=λc b a h=>A5 c b a h
 quiet:=λd h=>A6 d h
section
variable {prog:Program} {w:World} {K:Type} [DecidableEq K] {knd:HeapKind prog w K} {A:Around} {E:Value->Shared->Prop} {s:Shared}
def A7 {d a:Addr}{xs:List (K×IL Value)}{k:K}{c:Value}{Q:Value->Shared->Prop}(u:knd.room A)(b:knd.is s.heap k a)(z:Jf4 knd d)
  (D:∀p,Xa (JaI xs) p->Q p.2 { s with toks:=s.toks+knd.draws k })
  (C:Uf (JaI xs)->∀h',h'.DictOfH knd d (xs++[(k,a,c,)])->Jba d->Q c { s with heap:=h',toks:=s.toks+knd.draws k })
  (hsz:Ic xs.length):XC w A (dictSetDefault d (.ref a) c) Q E s:=by
 let(o,es,ep,h,B,g,q,n,r):=z;unfold dictSetDefault
 try with_reducible refine wpAny_holding ?_
 apply wpAny_bind (knd.pyHash u b ?_);apply wpAny_bind (wpAny_dictFind_heap u b h g q n r ?_ ?_)
 .intro l;let i:=not_mem_keys_of_get l;apply Jo (wpAny_bind (wpAny_updateDictKeys (hz:=by let e:=size_of_entries q;lia) h g (wpAny_pure (C (atKey_none_of_get l) _ (_,_,ep+1,Heap.get?_update_self _ h (Obj.isFreed_of_dict (Obj.data_mapDictKeys g _)),B.mapDictKeys _,Obj.data_mapDictKeys g _,?_,?_,?_) (Heap.SameBut.update ..)))))
  .simp [q,entryOfKey]
  .intro x f;rcases mPq f with f | f
   .exact knd.keeps (n x f) h g (Heap.SameBut.update ..)
   .simp only[List.mem_singleton]at f;subst f;exact knd.keeps b h g (Heap.SameBut.update ..)
  .rw[mAq,List.nodup_append];apply Id r (by simp);intro x f y t;simp only[List.map_cons,List.map_nil,List.mem_singleton]at t;subst t;exact λe=>i (e▸f)
 .intro j p v;apply wpAny_bind (wpAny_dictEntries h g ?_);rw[entry_at q j,v];exact Jak (D p (atKey_of_get r v))
def A8 (knd:HeapKind prog w K)(d a)(j:Xx (d==sysModules))(b):
  MeetsIn prog w (Builtin.«dict.setdefault» (WX [.ref d,.ref a,b])) (λA R s=>knd.room A.in1/\∃k xs,knd.is s.heap k a/\Jf4 knd d/\Ic xs.length/\(∀p,Xa (JaI xs) p->Jkt p.2 { s with toks:=s.toks+knd.draws k })/\(Uf (JaI xs)->∀h',h'.DictOfH knd d (xs++[(k,a,b,)])->Jba d->Jkt b { s with heap:=h',toks:=s.toks+knd.draws k })) :=
 .of_wp λA R s (g,k,xs,c,f,hz,n,l)=>by
  apply wpAny_bind ?_;apply wpAny_bind (wpAny_notOrdered_dict f.typeIs ?_);apply wpAny_pure ?_;show JmJ (if Xh (d==sysModules) then _ else(dictSetDefault d (.ref a) b>>=_))
  rw[if_neg (by rw[j];exact Bool.false_ne_true)];exact wpAny_bind (A7 g c f (λp h=>U0 p.2 (n p h)) (λi h' e hs'=>U0 b (l i h' e hs')) hz)
end
abbrev SE:=Sgn×IL V
def lK (p:SE)(q:Sgn×IL Value):Prop:=p.1=q.1/\p.2.1=q.2.1/\bn p.2.2 q.2.2
def iF (P:Program)(w:World)(a:Addr)(kvs:List SE):HO:=.ext λh=>Xx (a==sysModules)/\∃xs:List _,Paired lK kvs xs/\
 ∃o es ep,h.get? a=some o/\o.ExactDict/\JhO ep/\es.toList=JcU (oo P w)/\(xs.map (·.1)).Nodup
def SD (P:Program)(w:World)(H:Hp)(a:Addr)(kvs:List SE):Prop:=(Vu a []/\kvs=[])\/Gc a (iF P w a kvs)
def gB (K:W.Frag)(H:Hp)(k:Sgn)(p:Addr):Prop:=∃q,JgU p k.1 q/\Nw q (k.2.map kV)
noncomputable def atS (kvs:List SE)(k:Sgn):Option SE:=kvs.find? λe=>decide (e.1=k)
def wo (r:Paired lK kvs xs)(k):
  (∃e q,JhE k e/\Xa (JaI xs) q/\bn e.2.2 q.2)\/(Jnz k/\Uf (JaI xs)):=by
 induction r with
 |nil=>exact Jgc rfl
 | @cons p q ps b h t c =>
  by_cases a:p.1=k
  .apply .inl (p,q.2,?_,?_,h.2.2)
   .unfold atS;rw[List.find?_cons_of_pos (by exact dTq a)]
   .unfold atKey;rw[List.find?_cons_of_pos (by exact dTq (h.1.symm.trans a))];rfl
  .let f:atS (p :: ps) k=atS ps k:=by unfold atS;rw[List.find?_cons_of_neg (by simpa using a)]
   let d:JaI (q::b)=atKey b k:=by unfold atKey;rw[List.find?_cons_of_neg (by simpa using λz=>a (h.1.trans z))]
   rw[f,d];exact c
def wq (I:Vm s)(h:gB X.K H k p):Jc4 P w k p:=by
 let(q,j,i):=h;let(g,r,(o,z,y,n,x),_):=I.tuple j;let(f,c,(d,v,u,e,l),_):=I.tuple i;cases r with
 | cons b t =>
  cases t with
  |cons a t=>
   cases t;let(tk,rfl):=b;cases a;exact(o,tk,q,n,z,y,x,d,f.toArray,e,v,u,l,by simpa using pX c)
inductive qw (P)(w)(K):V->List V->Hp->VK->Prop|m{x vs H Q} d p k v kvs:Jis d (vs=IB p v) (JgD P w H d) (NE kvs.length->(∀e∈kvs,gB K H e.1 e.2.1)->gB K H k p->((∃e,JhE k e/\Q e.2.2 H)\/(Jnz k/\Q v (Gk d (iF P w d (kvs++[(k,p,v,)])))))->qw P w K x vs H Q)
def A9 (hu:JaG 64):MtR X "dict.setdefault" (qw X.prog X.w X.K):=by
 intro pins s σ H x vs v us Q I rx rv h;let(d,p,k,y,kvs,rfl,rfl,hd,hz,B,hk,q):=h;cases rx;cases rv with
 |cons rp t=>
 cases t with
 | @cons _ y' _ _ ry t=>
 cases t;cases rp;let P:Xx (d==sysModules)/\Jmc d/\∃xs:List _,Paired lK kvs xs/\
   ∃o es ep,s.heap.get? d=some o/\o.ExactDict/\JhO ep/\es.toList=JcU (oo X.prog X.w)/\(xs.map (·.1)).Nodup:=by
  rcases hd with ⟨e,rfl⟩|e
  .let(z,i,ws,c,o,es,ep,O,N,M,L,D,h6):=JdM e;cases c;apply(i,by rw[e];exact True.intro,[],.nil,o,es,ep,O,N,M,?_,List.nodup_nil);cases es with
   |mk l=>
    cases l with
    |nil=>rfl
    |cons a r=>exact Jan D
  .let⟨(i,xs,r)⟩:=VL d e;exact(i,by rw[e];exact True.intro,xs,r)
 let(i,mu,xs,c,o,es,ep,O,N,M,L,D):=P;let all:∀x∈xs,(oo X.prog X.w).is s.heap x.1 x.2.1:=by
  clear q L D hz hd
  induction c with
  |nil=>intro x j;exact nomatch j
  | @cons a b E bs r t J=>
   intro x j;rcases List.mem_cons.mp j with rfl|j
   .have:=B a List.mem_cons_self;rw[r.1,r.2.1]at this;exact wq I this
   .exact J (λe he=>B e (Jb he)) x j
 let dd:Jf4 _ d:=(o,es,ep,O,N,M,L,all,D);let ll:=Paired.length c;apply call_meetsIn PySem.F.slot_dict_setdefault dd.typeIs PySem.F.entry_dict_setdefault (PySem.F.args_dict_setdefault_3 _ _ _) (A8 (oo X.prog X.w) d p i y')
  ((by show Xs (QV 1+10);lia),k,xs,wq I hk,dd,by lia,λu n=>?_,λhn h' Y hs=>?_)
 .rcases wo c k with ⟨e,u2,g,f,r2⟩ | ⟨_,f⟩
  .cases n.symm.trans f;rcases q with ⟨e',q1,C⟩ | ⟨q1,_⟩
   .cases q1.symm.trans g;exact QE _ H _ r2 C
   .rw[q1]at g;exact nomatch g
  .rw[n]at f;exact nomatch f
 .rcases wo c k with ⟨e,u2,g,f,r2⟩ | ⟨g,f⟩
  .rw[hn]at f;exact nomatch f
  rcases q with ⟨e',q1,C⟩|⟨_,C⟩
  .rw[q1]at g;exact nomatch g
  let(o',T,W,R,g2,g3,g4,g5,g6):=Y;let G:WR (Gk d (iF X.prog X.w d (kvs++[(k,p,y,)]))) h' d (iF X.prog X.w d (kvs++[(k,p,y,)])):=by
   apply((i,_,?_,o',T,W,R,g2,g3,g4,g6),Qu R,λa b z kp=>?_)
   .let Z:∀ {E:List SE} {bs:List _},Paired lK E bs→Paired lK (E++[(k,p,y,)]) (bs++[(k,p,y',)]):=by
     intro E bs r
     induction r with
     |nil=>exact Wy (Jlf ry)
     |cons r t J=>exact Jbm J
    exact Z c
   .let(z1,ys,z2,o2,S,U,z3,z4):=z;exact(z1,ys,z2,o2,S,U,kp _ z3,z4)
  exact(y,_,jn I mu hs (Qu R) G,ry,C)
def sd_is (I:Vm s)(h:JgD X.prog X.w H d):
  s.TypeIs (.ref d) "dict"/\∀a,Xl (Value.ref d) a->∃f,s.heap.get? a=some f/\Uf f.dict:=by
 let z:∃o,s.heap.get? d=some o/\o.ExactDict:=by
  rcases h with ⟨e,_⟩|e
  .let(_,_,_,_,o,_,_,c,b,_):=VL d e;exact J8 c b
  .let⟨(_,_,_,o,_,_,c,b,_)⟩:=VL d e;exact J8 c b
 let(o,e,b):=z;apply(J8 e b.1,λa g=>?_);cases g;exact J8 e b.2.1
def tSetd (P:Program)(w:World)(K:W.Frag)(c:TE)(t:TA):TE:=λa H Q=>c a H λx b=>(∃d kvs,YK d/\JgD P w b d)/\t a b λxs e=>qw P w K x xs e Q
def A_ (y:JaG 64)(z:Qo o to)(B:JmM t)
  (f:Jhq o "setdefault" o=eval o X.env:=by rfl)
  (g:Xh ((JaN (ML e)).all (λx=>!x.1)&&(Jnw []).all (λx=>x.1.isSome)
   && decide ((ML e).length+([]:List Keyword).length+(if([]:List Keyword).isEmpty then 0 else 1)<30)):=by rfl)
  (c:Xh (apos.endLine==cpos.line):=by rfl)(hs:Jbk e=(false,Vc e,)::starEach es X.env:=by rfl)(b:(JaN es).any (·.1)=false:=by rfl):
  PE X (Jl6 o "setdefault" (ML e)) (tSetd X.prog X.w X.K to t):=by intro a s i H Q I h;apply JbT f g c (thn (z a s i H _ I h) λv p h_=>?_);let(x,L,k,r,(d,kvs,E,l),q1):=h_;subst E;cases r;let(D,C):=sd_is k l;apply("dict","dict.setdefault",PySem.F.plainAttrs_dict,PySem.F.slot_dict_setdefault,PySem.F.type_dict_setdefault,D,C,?_);let j:=B cpos a p i L _ k q1;rw[hs]at j⊢;apply Mq (by show Xx (false||(JmV _).any _);rw[b]<;>rfl) ?_;exact thn j λus n h_=>by let(vs,J,G,q,u):=h_;exact A9 y a n i J (.ref d) vs _ us Q G rfl q u
end L2
namespace L2
open PySem
abbrev Tm:=U8 (List Int)
noncomputable def dTm (t:Tm):Dt:=JmF t.1 (.tup (t.2.map Dt.int))
def Ba (h:Jkp (dTm t)):∃p q,Xl v p/\JgU p t.1 q/\SqT K H q (t.2.map V.int):=by
 let(a,xs,rfl,i,g):=h;let(c,u,r,k,f):=g;let(s,d,o,j,e):=f;cases r;cases o;let n:d=[]:=by have:=ar.length e;exact List.length_eq_zero_iff.mp this.symm
 subst n;let l:=k;subst l;let(b,ys,rfl,k1,k2):=j;rw[ji k2]at k1;exact Gn a b i k1
theorem ki:∀ts:List Tm,WU (ts.map dTm)
 |[]=>by simp [a_]
 |t::ts=>by simp only[List.map_cons,a_,dTm,nol,Bool.true_and,Bool.and_eq_true];exact((iO _,trivial),ki ts)
def tm_at {K:W.Frag}{H:Hp}{ts:List Tm}{xs:List V}{i:Nat}{x:V}(h:Jnm dTm)(e:xs[i]?=some x):∃t p q,ts[i]?=some t/\YK p/\JgU p t.1 q/\SqT K H q (t.2.map V.int):=by let(d,b,a):=h.get e;rw[List.getElem?_map]at b;let(t,k,j):=Option.map_eq_some_iff.mp b;rw[<-j]at a;let(p,q,g,f,c):=Ba a;exact(t,p,q,k,g,f,c)
def kj (ts:List Tm)(c:UM Int)(a b:Int):Prop:=∃t u,ts[a.toNat]?=some t/\ts[b.toNat]?=some u/\t.1=u.1/\t.2.map c=u.2.map c
structure LkOk (ts:List Tm)(gs:Wl Int)(pre)(l:Lk):Prop where
 a:0<=l.1/\l.1<(ts.length:Int)
 b:0<=l.2.1/\l.2.1<(ts.length:Int)
 new:hdL pre l.1≠hdL pre l.2.1
 how:(0<=l.2.2/\gs[l.2.2.toNat]?=some (l.1,l.2.1,))\/(l.2.2=-1/\kj ts (hdL pre) l.1 l.2.1)
def bz (ts:List Tm)(a:Wl Int)(ls:List Lk):Prop:=∀i l,ls[i]?=some l->LkOk ts a (ls.take i) l
def bz.nil (ts)(a):bz ts a []:=λi l h=>by simp at h
def bz.snoc (h:Jc6 ls)(k:LkOk ts gs ls l):Jc6 (ls++[l]):=λi m a=>by
 let b:=(gEq a).1;rw[lAq]at b;let b:i<ls.length+1:=b;by_cases c:i<ls.length
 .rw[List.getElem?_append_left c]at a;rw[List.take_append_of_le_length (by lia)];exact h i m a
 .let e:i=ls.length:=by lia
  subst e;rw[List.getElem?_append_right (nRq _),Nat.sub_self]at a;cases a;rw[XY _,List.take_length];exact k
def bz.inn (h:Jc6 ls):InN ts.length ls:=λl d=>by let(i,c):=List.mem_iff_getElem?.mp d;exact((h i l c).a,(h i l c).b)
def bz.his (h:Jc6 ls):∀n,n<=ls.length->∃xs:List Int,Mz n/\xs.Nodup/\∀x∈xs,(0<=x/\x<(ts.length:Int))/\JkX n x≠x:=by
 intro n
 induction n with
 |zero=>exact λy=>Ul [] List.nodup_nil (λx c=>nomatch c)
 |succ n o=>
  intro s;let(xs,j,i,e):=o (by lia);obtain⟨l,f⟩:∃l,ls[n]?=some l:=Jgg (by lia);let k:=h n l f;let d:=vR h.inn n (by lia);let q:=lohi (JkX n l.1) (JkX n l.2.1);let la:=d.in' k.a;let r:=d.in' k.b;let g:=d.hi_id l.1 l.2.1;let p:=k.new;apply(hiF _ _::xs,by rw[List.length_cons,j],JZ (λz=>(e _ z).2 g) i,λx c=>?_);rw[bf f,iD];rcases List.mem_cons.mp c with rfl|c
  .apply Mm (by lia);unfold mrg;rw[if_pos g];lia
  .apply Mm ((e x c).1);have:=(e x c).2;have:=d.le x;unfold mrg;split<;>lia
def bz.len (h:Jc6 ls):Jaq ls.length:=by let(xs,c,b,a):=h.his ls.length (nRq _);rw[<-c];exact gv _ b λx d=>(a x d).1
def fh (ts:List Tm)(c:UM Int):Prop:=∀(a b:Nat) t u,ts[a]?=some t->ts[b]?=some u->t.1=u.1->t.2.map c=u.2.map c->c (a:Int)=c (b:Int)
def fj (b:Wl Int)(a:UM Int):Prop:=∀p∈b,a p.1=a p.2
def fj.more (h:J0 gs ls)(a):J0 gs (ls++a):=λp b=>n_ a (h p b)
def wu (N:Nat)(a:Wl Int):Prop:=∀p∈a,(0<=p.1/\p.1<(N:Int))/\0<=p.2/\p.2<(N:Int)
noncomputable def zc2 (t:Tm)(a:UM Int):Sgn:=(t.1,(t.2.map a).map Sum.inl,)
def Bb (b:t.1=u.1)(a:t.2.map hd=u.2.map hd):zc2 t hd=zc2 u hd:=by unfold zc2;rw[b,a]
theorem wx:∀{c bs:List Int},Jne (Sum.inl:UM Key) Sum.inl->c=bs
 |[],[],_=>rfl
 |[],b::bs,h=>by cases h
 |a::c,[],h=>by cases h
 |a::c,b::bs,h=>by rw[List.map_cons,List.map_cons]at h;injection h with d e;injection d with d;rw[d,wx e]
def oq (ts:List Tm)(a:UM Int)(i:Nat)(kvs:List SE):Prop:=∀e∈kvs,∃(j:Nat) (t:Tm) (es:List Int),JcA e.2.2 (j:Int)/\j<i/\ts[j]?=some t/\e.1=(t.1,es.map Sum.inl,)/\es.map a=t.2.map a
theorem wy (c):∀{d bs:List Int},Jnd (d.map (hdL ls)) (hdL ls)->Jnd (d.map (hdL (ls++c))) (hdL (ls++c))
 |[],[],_=>rfl
 |[],b::bs,h=>by cases h
 |a::d,[],h=>by cases h
 |a::d,b::bs,h=>by rw[List.map_cons,List.map_cons]at h⊢;injection h with f e;rw[n_ c f,wy c e]
def oq.more (h:oq ts (hdL ls) i kvs)(a)(b:i<=j):oq ts (hdL (ls++a)) j kvs:=λe c=>by let(k,t,es,l,n,g,f,d):=h e c;exact(k,t,es,l,by lia,g,f,wy a d)
def Bc (h:JhE k e):e∈kvs/\e.1=k:=(List.mem_of_find?_eq_some h,by have:=List.find?_some h;exact oDq this)
def Be {kvs:List SE}{k k2:Sgn}{e e2:SE}(h:JhE k e):atS (kvs++[e2]) k=some e:=by unfold atS at h⊢;rw[List.find?_append,h];rfl
def Bf (h:Jnz k):atS (kvs++[(k,p,v,)]) k=some (k,p,v,):=by unfold atS at h⊢;rw[List.find?_append,h,List.find?_cons_of_pos (by exact dTq rfl)];rfl
def GO.ktG (G:Jjc H)(s:Jim H):J4 H':=λc xs h=>by
 let(dx,kl,kg,e,d,a,_):=G.ex;rcases h with h|⟨o,h⟩
 .exact .inl (s _ _ (Gd h d) (Gd h a) h)
 .exact Yg o (s _ _ (Gd h d) (Gd h a) h)
def GO.seqG (G:Jjc H)(s:Jim H)(h:JD a):Vi H' a xs:=by
 let(dx,kl,kg,e,d,c,_):=G.ex;rcases h with h|h
 .rcases h with h | ⟨o,h⟩
  .exact UZ (s _ _ (Gd h d) (Gd h c) h)
  .exact Jem o (s _ _ (Gd h d) (Gd h c) h)
 .exact .inr h
def GO.lstG (G:Jjc H)(s:Jim H)(h:UL a):H' a=some (.lst xs):=by let(dx,kl,kg,e,d,c,_):=G.ex;exact s _ _ (Gd h d) (Gd h c) h
def bE.grow (s:Jim H)(n:Gf l):X2 H (upd H' l o):=λb u c a h=>by rw[WM h n];exact s b u c a h
def GO.putL (G:Jjc H)(a:l∈av)(h:UL l):Jjc (Gk l o):=by let(dx,kl,kg,e,d,c,_):=id G.ex;exact G.put (.inl a) (Gd h e) (Gd h d) (Gd h c)
def qx {K:W.Frag}{H:Hp}{ts:List (Iz Int)}{xs:List V}{i:Nat}{x:V}(h:Jnm dP)(e:xs[i]?=some x):∃t p,ts[i]?=some t/\YK p/\SqT K H p (Qr t.1 t.2):=gS h e
def bj.sd (h:JgD P w H d):J4 (Gk d o):=λb xs q=>by
 let a:b≠d:=λe=>by
  subst e;rcases h with ⟨h,_⟩|h
  .rcases q with q | ⟨u,q⟩
   .rw[h]at q;cases q
   .rw[h]at q;cases q
  .rcases q with q | ⟨u,q⟩
   .rw[h]at q;cases q
   .rw[h]at q;cases q
 rcases q with q|⟨u,q⟩
 .exact .inl (by rw[aq a];exact q)
 .exact Yg u (by rw[aq a];exact q)
def SD.nol (h:JgD P w H d)(xs):H d≠some (.lst xs):=λe=>by
 rcases h with ⟨h,_⟩|h
 .rw[h]at e;cases e
 .rw[h]at e;cases e
def SD.noi (h:JgD P w H d){C dx:Addr}{a:List (U8 V)}(e:Jnp d a):False:=by
 rcases h with ⟨h,_⟩|h
 .rw[h]at e;cases e
 .rw[h]at e;cases e
def SD.to (h:JgD P w H d)(k:∀o,JeR d o d o):JgD P w H' d:=h.imp (λz=>(k _ z.1,z.2)) λz=>k _ z
def gB.keep (h:gB K H k p)(a:J4 H'):gB K H' k p:=by let(q,c,b):=h;exact(q,a.sq c,a.sq b)
def qy (ts:List Tm)(a:UM Int)(i:Nat)(kvs:List SE):Prop:=∀j t,j<i->ts[j]?=some t->∃e k,JhE (zc2 t a) e/\JcA e.2.2 k/\a k=a (j:Int)
def qy.closed (h:qy ts hd ts.length kvs):fh ts hd:=λa b t u f d p o=>by let(e,k,c,i,g):=h a t (gEq f).1 f;let(r,q,n,l,j):=h b u (gEq d).1 d;rw[Bb p o]at c;cases c.symm.trans n;have:=i.symm.trans l;injection this with this;subst this;exact g.symm.trans j
def km (st:Jbd Lk Nat)(p:Iz Int):Jbd Lk Nat:=(if hdL st.1 p.1=hdL st.1 p.2 then st.1 else st.1++[(p.1,p.2,(st.2:Int),)],st.2+1,)
def gvF (a:Wl Int):List Lk:=(a.foldl km ([],0,)).1
def jt (ls:List Lk)(st:Jbd Lk (Wl Sgn×Nat))(t:Tm):Jbd Lk (Wl Sgn×Nat) :=
 match st.2.1.find? λe=>decide (e.1=QD t (ls++st.1)) with
 |some e=>if hdL (ls++st.1) e.2=hdL (ls++st.1) (st.2.2:Int) then(st.1,st.2.1,st.2.2+1,) else(st.1++[(e.2,(st.2.2:Int),-1,)],st.2.1,st.2.2+1,)
 |none=>(st.1,st.2.1++[(QD t (ls++st.1),(st.2.2:Int),)],st.2.2+1,)
def alF (ts:List Tm)(ls:List Lk):List Lk:=(ts.foldl (jt ls) ([],[],0,)).1
def lkF (ts:List Tm):Nat->Jbs Lk (List Lk)
 |0,a=>a
 |n+1,a=>if JiI a=[] then a else lkF ts n (a++JiI a)
def gC (ts:List Tm)(a:Wl Int):List Lk:=lkF ts (ts.length+1) (gvF a)
def NtR (kvs:List SE)(a:Wl Sgn):Prop:=kvs.map (λe=>(e.1,e.2.2,))=a.map λx=>(x.1,V.int x.2,)
theorem NtR.at:∀{kvs:List SE} {a:List (Sgn×Int)},NtR kvs a->(∃e x,JhE k e/\a.find? (λe=>decide (e.1=k))=some x/\JcA e.2.2 x.2)\/(Jnz k/\a.find? (λe=>decide (e.1=k))=none)
 |[],[],_=>Jgc rfl
 |[],x::a,h=>by cases h
 |e::kvs,[],h=>by cases h
 | e :: kvs,x :: a,h=>by
  unfold NtR at h;rw[List.map_cons,List.map_cons]at h;injection h with g f;injection g with b d;by_cases c:e.1=k
  .apply .inl (e,x,?_,?_,d)
   .unfold atS;rw[List.find?_cons_of_pos (by exact dTq c)]
   .rw[List.find?_cons_of_pos (by exact dTq (b▸c))]
  .let i:atS (e :: kvs) k=atS kvs k:=by unfold atS;rw[List.find?_cons_of_neg (by simpa using c)]
   rw[i,List.find?_cons_of_neg (by simpa using (λz=>c (b.trans z)))];exact NtR.at f
def NtR.snoc (h:NtR kvs nt):NtR (kvs++[(k,p,.int i,)]) (nt++[(k,i,)]):=by unfold NtR at h⊢;rw[mAq,mAq,h];rfl
def nwH (h:Gf a)(o):∃H',JfC o=H'/\Xd H/\H' a=some o:=Ul _ (aW h o) ao
inductive Ex2 {α₁ α₂:Type}(p:α₁->α₂->Prop):Prop|m (a:α₁) (b:α₂):p a b->Ex2 p
inductive Ex3 {α₁ α₂ α₃:Type}(p:α₁->α₂->α₃->Prop):Prop|m (a:α₁) (b:α₂) (c:α₃):p a b c->Ex3 p
inductive Ex4 {α₁ α₂ α₃ α₄:Type}(p:α₁->α₂->α₃->α₄->Prop):Prop|m (a:α₁) (b:α₂) (c:α₃) (d:α₄):p a b c d->Ex4 p
inductive Ex5 {α₁ α₂ α₃ α₄ α₅:Type}(p:α₁->α₂->α₃->α₄->α₅->Prop):Prop|m (a:α₁) (b:α₂) (c:α₃) (d:α₄) (e:α₅):p a b c d e->Ex5 p
inductive Ex6 {α₁ α₂ α₃ α₄ α₅ α₆:Type}(p:α₁->α₂->α₃->α₄->α₅->α₆->Prop):Prop|m (a:α₁) (b:α₂) (c:α₃) (d:α₄) (e:α₅) (f:α₆):p a b c d e f->Ex6 p
inductive Ex7 {α₁ α₂ α₃ α₄ α₅ α₆ α₇:Type}(p:α₁->α₂->α₃->α₄->α₅->α₆->α₇->Prop):Prop|m (a:α₁) (b:α₂) (c:α₃) (d:α₄) (e:α₅) (f:α₆) (g:α₇):p a b c d e f g->Ex7 p
inductive An3 (a b c:Prop):Prop|m:a->b->c->An3 a b c
inductive An4 (a b c d:Prop):Prop|m:a->b->c->d->An4 a b c d
inductive An5 (a b c d e:Prop):Prop|m:a->b->c->d->e->An5 a b c d e
inductive An6 (a b c d e f:Prop):Prop|m:a->b->c->d->e->f->An6 a b c d e f
inductive An7 (a b c d e f g:Prop):Prop|m:a->b->c->d->e->f->g->An7 a b c d e f g
inductive An8 (a b c d e f g h:Prop):Prop|m:a->b->c->d->e->f->g->h->An8 a b c d e f g h
inductive An11 (a b c d e f g h i j k:Prop):Prop|m:a->b->c->d->e->f->g->h->i->j->k->An11 a b c d e f g h i j k
def TmIn (zs:List Str)(n:Nat)(t:Tm):Prop:=t.1∈zs/\t.2.length<=3/\∀x∈t.2,0<=x/\x<(n:Int)
def TmW (zs:List Str)(ts:List Tm):Prop:=∀i t,ts[i]?=some t->TmIn zs i t
def TmW.nil (zs):TmW zs []:=λi t h=>by simp at h
theorem ar.take:∀{a:List Dt} {vs:List V} (n:Nat),JjV a vs (Xu (a.take n) (vs.take n))
 |_,_,0,_=>ar.nil
 |[],vs,n+1,h=>by let e:=ar.length h;let f:=List.length_eq_zero_iff.mp e.symm;subst f;exact ar.nil
 |d::a,vs,n+1,h=>by let(v,r,e,c,b):=h;cases e;rw[List.take_succ_cons,List.take_succ_cons];exact ar.cons c (ar.take n b)
def hI (x y):decide (Jjj x y)=decide (x=y):=Ja6 (λz=>by injection z) (λz=>by rw[z])
noncomputable def hdsG (a:UM Int)(n:Nat):List Int:=(List.range n).map λi:Nat=>a (i:Int)
def wz (a){n:Nat}{k:Int}(h0:0<=k)(b:k<(n:Int)):atI ((hdsG a n).map V.int) k=some (.int (a k)):=AN (ls:=[]) a h0 b
end L2
namespace L2
open PySem PySem.Spec PyProof.Rows
def TuI (h:Heap)(it t:Addr)(i:Nat)(xs:Array Value):Prop:=Jiv it t/\h.IsTuple t xs
abbrev zpT1 (h:Heap)(l1:Addr):Heap:=h.push { cls:=.type "tuple_iterator",data:=.fields #[.ref l1,Jiz 0] }
abbrev zpT2 (h:Heap)(l1 l2:Addr):Heap:=(zpT1 h l1).push { cls:=.type "tuple_iterator",data:=.fields #[.ref l2,Jiz 0] }
abbrev zpT3 (h:Heap)(l1 l2:Addr):Heap:=(zpT2 h l1 l2).push { cls:=.type "tuple",data:=.seq #[.ref h.objs.size,.ref (zpT1 h l1).objs.size] }
abbrev zpT4 (h:Heap)(l1 l2:Addr):Heap:=(zpT3 h l1 l2).push { cls:=.type "tuple",data:=.seq #[.none,.none] }
abbrev iT (h:Heap)(l1 l2:Addr):Heap:=(zpT4 h l1 l2).push { cls:=.type "zip",data:=.fields #[.none,.bool false,.bool false,.ref (zpT2 h l1 l2).objs.size,.ref (zpT3 h l1 l2).objs.size] }
def Bg (l1 l2)(xs ys):
  Meets (Builtin.«zip.__new__» (WX (Jf0 (.type "zip") l1 l2))) (λx R s=>s.heap.IsTuple l1 xs/\s.heap.IsTuple l2 ys/\Jkt (.ref (zpT4 s.heap l1 l2).objs.size) { s with heap:=iT s.heap l1 l2 }) :=
 .of_wp λprog w A R s h=>by
  let(j,g,d,tk,f):=s;let(b,a,h):=h;let i:=sub_zip;let e:=b;let c:Heap.IsTuple (Shared.heap (j.push { cls:=.type "tuple_iterator",data:=.fields #[.ref l1,Jiz 0] },g,d,tk,f)) l2 ys:=Heap.IsTuple.push a _
  wp_walk using wpAny_pyIter_tuple e,wpAny_pyIter_tuple c
  exact Yu h
def Bj (j:s.heap.IsTuple l1 xs)(i:s.heap.IsTuple l2 ys)
  (h:∀h',IsZip h' (Yd 4) (Yd 2) (Yd 3) .none→JgE (Yd 2) (.ref s.heap.objs.size) (.ref (Yd 1)) →
   JgE (Yd 3) .none .none->h'.IsTupleIter s.heap.objs.size l1 0->h'.IsTupleIter (Yd 1) l2 0->h'.objs.size=Yd 5 -> (∀c o,s.heap.get? c=some o->h'.get? c=some o)->Uc (Yd 4) { s with heap:=h' }):
  wpAny (Ik w) A (JfW "zip" (JC l1 l2)) Q E s:=by
 apply callType_new F.called_zip (by decide) (F.typeCall_zip_2 _ _) (F.newCall_zip_2 _ _) (λg=>F.args_object_init_3 g _ _) F.entry_zip_new (Bg l1 l2 xs ys) (Id j i);let f:(zpT1 s.heap l1).objs.size=Yd 1:=Heap.size_push ..;let d:(zpT2 s.heap l1 l2).objs.size=Yd 2:=by rw[Heap.size_push,f]
 let b:(zpT3 s.heap l1 l2).objs.size=Yd 3:=by rw[Heap.size_push,d]
 let a:(zpT4 s.heap l1 l2).objs.size=Yd 4:=by rw[Heap.size_push,b]
 let q:(JlW l2).objs.size=Yd 5:=by rw[Heap.size_push,a]
 let k:(JlW l2).get? (zpT4 s.heap l1 l2).objs.size=some _:=Heap.get?_push_size _ rfl;let l:(JlW l2).get? (zpT3 s.heap l1 l2).objs.size=some _:=Xz (Heap.get?_push_size _ rfl);let n:(JlW l2).get? (zpT2 s.heap l1 l2).objs.size=some _:=Jb6 (Heap.get?_push_size _ rfl);let p:(JlW l2).get? (zpT1 s.heap l1).objs.size=some _:=Jb6 (Xz (Heap.get?_push_size _ rfl));let t:(JlW l2).get? s.heap.objs.size=some _:=Xz (Jb6 (Xz (Heap.get?_push_size _ rfl)));let r:∀c o,s.heap.get? c=some o->(JlW l2).get? c=some o:=λc o e=>Jb6 (Jb6 (Xz e));show _/\_;rw[d,b,a]at k;rw[f,d]at n;rw[b]at l;rw[f]at p;rw[a];exact(Jkq k,h _ k n l (M_ _ t) (M_ _ p) q r)
def qz (K)(c:X.K=K)(a:JeH e)(b:Jhq e f e=Vc e):Qo (Ja0 e pos) (tFld K ta f):=by subst c;exact aV a b
def qA:Iy X "sorted" (λxs H Q=>∃p ns,xs=Gj p/\JkB p (ns.map V.int)/\ns.length<64/\∀l (a:List Int),VA l (a.Perm ns->Iq (a.Pairwise (·<=·)) l (QZ l (a.map V.int)))):=by intro g s A H xs us Q I r h;let(p,ns,rfl,k,x,q):=h;let(u,rfl,j):=fu r;cases j;let(d,f,pl,hz):=I.list k;let n:=pJ f;let c:=f.length;rw[lM]at c;apply sorted_ints pl.isList n (by lia) λout a z i y=>?_;let(e,t):=sortedAll_at s.heap d out;let ml:=i.length_eq;exact Wt _ _ (I.laid (t':=s.toks) (λb o v=>sortedAll_old v) (Nat.le_succ _) (show Jns _ _ _ (a.map V.int) from(VR (by rw[lM];lia),out.toList,e,nz z,t))) (q _ a (I.hok.fresh (Nat.le_succ _)) i y)
def Bk {t b:Addr}{vs i:List Value}{Q:Value->Shared->Prop}(v:Q_ t vs.toArray)(x:Q_ b i.toArray)(u:vs=[])(h:Uc b s):XC w A (binaryOp .Add (.ref t) (.ref b)) Q E s:=by
 let((y,dd,o,q),j,l,n,k):=id v;let((p,f,g,e),a,d,r,c):=id x;simp only at l k d c;subst l k d c;exact concat_meets (Jkq j) (Jkq a) noFill_tuple_add seq_tuple_add PySem.F.slot_tuple_add PySem.F.entry_tuple_add (Jat _)
   (tuple_addW0 t b vs.toArray i.toArray n r dd f q e (by simp [u])) (j,a,h)
inductive rCatA (K):R2|m{x y H Q} a b xs ys:Jis a (Xl y b) (Q7 a) (Nw b ys->JnH ys.length->(∀H' p,Jks (Jkm p (xs++ys)) p)->rCatA K x y H Q)
def Bl:ME X .Add (rCatA X.K):=by
 intro c s n H x y v u Q I i g h;let(a,b,xs,ys,l,k,f,e,hz,q):=h;by_cases d:xs=[]
 .subst l k;cases i;cases g;let(w,o,t,_):=I.tuple f;let(j,B,r,_):=I.tuple e;apply Bk t r (o.nil_iff.mpr d) (Wt b H I (q H b (ap.refl _) ?_));rw[d];exact e
 .apply y_ c s n H x y v u Q I i g (a,b,xs,ys,l,k,f,e,d,hz,λz=>?_,λz p A=>q _ p (Wm A) (SqT.of ao));apply q H a (ap.refl _) ?_;rw[z,List.append_nil];exact f
section
variable {P:Program} {w:World} {H H':Hp} {h h' B:Heap} {a:Addr} {o:HO}
def bJ.there (x:bJ P w H h a o):∃b,h.get? a=some b:=by
 cases o with
 |lst xs=>obtain⟨_,_,_,_,q⟩:=x;exact Qu q
 |tup xs=>obtain⟨_,_,_,b,q,_⟩:=x;exact Qu q
 |dK kvs=>obtain⟨_,_,_,_,o,_,_,q,_⟩:=x;exact Qu q
 |dT kvs=>obtain⟨_,_,_,_,o,_,_,q,_⟩:=x;exact Qu q
 |set S n=>obtain⟨o,_,_,_,q,_⟩:=x;exact Qu q
 |ins C dx c=>obtain⟨_,_,_,q,_⟩:=x;exact Qu q
 |own y=>exact x
 |xd c=>obtain⟨_,⟨_,_,_,q,_⟩,_⟩:=x;exact Qu q
 |rng lo e=>obtain⟨_,_,_,q⟩:=x;exact Qu q
 |frz b u=>exact Qu x.1
 |tbl ps=>exact Qu (show h.get? a=some _ from x)
 |met f y=>exact Qu (show h.get? a=some _ from x)
 |ext d=>exact x.2.1
def Trk (H:Hp)(h B:Heap):Prop:=∀b c,JkT b->h.get? b=some c->B.get? b=some c
def Old (e:List Addr)(H:Hp)(h B:Heap):Prop:=∀b d,h.get? b=some d->b∉e->∃c,B.get? b=some c/\(VA b (c=d))
def HOk.stays (c:Jkz h)(t:Trk H h B)(k:B.StaysIn h'):Jkz h':=λa o e=>
 (c a o e).stay (λb u d q=>k b u (t b u (d.elim (λz=>by rw[z,e];exact nofun) λz=>by rw[z];exact nofun) q)) (λx q=>q) λx x q=>q
def Trk.stays (g:Jkz h)(t:Trk H h B)(k:B.StaysIn h'):Trk H h' B:=λb j f e=>by
 cases q:H b with
 |none=>exact absurd q f
 |some u=>
  let(c,i):=(g b u q).there;let z:=t b c f i;let d:=k b c z;rw[e]at d;cases d;exact z
end
def CX1 (P:Program)(w:World):CXT:=λouter H s E e s'=>∃a C H' B b,Xl e a/\s'.os=s.os/\AllBare s'.gens/\Jep outer [] H H' s'.heap/\Jky H' s'.heap/\
 Heap.FlyingW B outer a (.ref C) b s'.heap/\Trk H' s'.heap B/\Old (frs outer) H s.heap B/\JgV C
structure Xe1 (X:Cx)(E):Prop where
 xe:X.xe=λe s'=>Ny (leaving X.env e) (λ_ s''=>CX1 X.prog X.w X.outer X.H₀ X.s₀ E e s'') (λe' s''=>CX1 X.prog X.w X.outer X.H₀ X.s₀ E e' s'') s'
 stk:X.stack=M4 X.env
 fr:JgL X.env.frame
 ex:X.ex=[]
section
variable {X:Cx} {E:XK} {pins:List (IL Obj)} {σ:St} {H H':Hp} {s s':Shared} {B:Heap} {ea C:Addr} {a0:Value}
def wA (x:Xe1 X E)(I:Vm s){d:Shared}(L:d.os=s.os)(o:AllBare d.gens)(u:Jeq [] H H' s'.heap)(D:JlY s'.heap)
  (F:JcF B X.outer ea C a0 d.heap)(J:s'.heap.UpToSlots d.heap)(trk:Trk H' s'.heap B)(t:Old (frs X.stack) H s.heap B)(P:JgV C):
  CX1 X.prog X.w X.outer X.H₀ X.s₀ E (.ref ea) d:=by
 let y:frs X.stack=X.env.locals::X.fs:=by rw[x.stk];unfold frs;rw[List.filterMap_cons,x.fr];rfl
 let h:∀b,b∉X.ex:=λb c=>by rw[x.ex]at c;cases c
 let nf:∀b a,X.s₀.heap.get? b=some a->b∉X.fs->b∉frs X.stack:=λb a e c z=>by
  rw[y]at z;rcases List.mem_cons.mp z with z|z
  .exact absurd (Qg e I.ok.above) (by rw[z];exact Nat.lt_irrefl _)
  .exact c z
 let st:=F.1;let U:=I.base;let f:Old X.fs X.H₀ X.s₀.heap B:=λb a e c=>by let(v,j):=U.there b a e (h b);let(l,i,A):=t b v j (nf b a e c);apply(l,i,λn=>?_);let k:=U.keep b a e n c (h b);rw[j]at k;cases k;exact A (U.free b a e n (h b))
 let g:∀b a,X.s₀.heap.get? b=some a->Jms b->b∈X.fs->∃r,d.heap.get? b=some { a with slots:=r }:=λb a e n c=>by let(r,k):=U.slot b a e n c (h b);let(K,k2):=u.any k (U.free b a e n (h b)) (by simp);let(_,R,G,O):=I.ok.funs.mem c;rw[e]at G;cases G;let(p,k3):=J b _ k2 λvs q=>O vs q;exact(p,k3)
 apply(ea,C,H',B,a0,rfl,L.trans I.os,o,(λb a e n c m=>?_,λb a e n c m=>g b a e n c,λb a e n m=>?_,λb a e m=>?_,λb xs q=>u.tups b xs (U.tups b xs q),λb a xs q=>u.frzs b a xs (U.frzs b a xs q),λb ps q=>?_),D.stays trk st,F,Trk.stays D trk st,f,P)
 .let(l,i,A):=f b a e c;rw[A n]at i;exact st b a i
 .let(v,j):=U.there b a e (h b);exact u.free b v j (U.free b a e n (h b)) (by simp)
 .by_cases c:b∈X.fs
  .let(r,k):=g b a e (I.ok.frf b c) c;exact Qu k
  .let(l,i,_):=f b a e c;exact(l,st b l i)
 .let(N,j):=U.tbls b ps q;let(M,Q):=u.tbls b _ j;exact(N++M,by rw[Q,Array.append_assoc])
def eE (a:Xe1 X E):ir (CX1 X.prog X.w) X E:=by
 intro pins σ H s e s' I h;let(ea,C,H',B,a0,rfl,j,c,u,k,n,trk,d,l):=h;rw[a.xe];let b:=n;rw[a.stk]at b;let f:X.A.frames=some (M4 X.env):=by rw[I.ok.frames,a.stk]
 exact wpAny_leaves_onW f a.fr b λh' g i=>wA a I j c u k g i trk d l
def Bo (c:Xe1 X E)(I:Vm s)(m:Heap.MadeExcOf s.heap h' ea (.ref C) vs)(u:QU C H):X.xe (.ref ea) { s with heap:=h' }:=by
 rw[c.xe];let o:=W.funFrames_hide I.stack λenv p a r=>JaH env p r;let f:s.heap.FunFrames (W.hideAll s.heap (frs X.stack)) (M4 X.env):=by let z:=o;rw[show X.stack=M4 X.env from c.stk]at z⊢;exact z
 let g:X.A.frames=some (M4 X.env):=by rw[I.ok.frames,c.stk]
 apply wpAny_leaves_madeW (base:=W.hideAll s.heap _) g c.fr (λb d q=>W.of_hideAll _ q) f m λw t x h h k=>?_;apply wA (s':={ s with heap:=h' }) c I rfl I.bare (Un.kept m.keeps) (I.hok.kept m.keeps) x k (λb d e q=>?_) (λb d q e=>(d,W.hideAll_get _ q e,λh=>rfl)) u;cases z:H b with
 |none=>exact IP e
 |some v=>
  let(n,j):=(JfP v z).there;let i:=m.keeps b n j;let l:=q;rw[l]at i;cases i;exact W.hideAll_get _ j λy=>e (I.stkFree b y)
variable {e0:Expr} {rest:List Expr} {t:TA} {x:Str} {np cpos pos:Pos} {Bn newId initId:String} {bm:List Value}
def tRaise (E:XK)(C:Addr)(t:TA):TS:=λx σ H=>t σ H λvs a=>Ic vs.length/\QU C a
end
abbrev Cx.susp (X:Cx)(ea:Addr):Cx:={ X with A:=X.A.mark (Ja ea),calm:=false,xe:=λx x=>False }
abbrev Cx.tryc (X:Cx)(pins:JaM Obj)(E1:Value->Shared->Prop):Cx:={ X with pn:=X.pn++pins,xe:=E1 }
def Inv.susp (I:Vm s)(ea):Ue (X.susp ea) H s :=
 (Jl8 (I.ok.mod,I.ok.kind,I.ok.glob,I.ok.blt,I.ok.above,I.ok.inj,I.ok.has,I.ok.cab,λz=>(by cases z),I.ok.frames,I.ok.stk,I.ok.exf,I.ok.bs,I.ok.bsz,I.ok.noex,I.ok.exfs,I.ok.funs,I.ok.frf))
def Inv.unsusp (a:X.Ok)(I:Ue (X.susp ea) H s):Vm s:=Jl8 a
def SP.unsusp (c:X.Ok)(h:SP (X.susp ea) pins D f s):SP X pins D f s:=by
 cases f with
 |next=>obtain⟨a,b,I,q⟩:=h;exact(a,b,I.unsusp c,q)
 |brk=>obtain⟨a,b,I,q⟩:=h;exact(a,b,I.unsusp c,q)
 |cont=>obtain⟨a,b,I,q⟩:=h;exact(a,b,I.unsusp c,q)
 |ret u=>obtain⟨v,a,b,I,r,q⟩:=h;exact(v,a,b,I.unsusp c,r,q)
def Inv.tryc (I:Vm s)(E1):Jgv (Jm2 E1) σ H s :=
 (Jg8 (I.ok.mod,I.ok.kind,I.ok.glob,I.ok.blt,I.ok.above,I.ok.inj,I.ok.has,I.ok.cab,I.ok.hd,I.ok.frames,I.ok.stk,I.ok.exf,I.ok.bs,I.ok.bsz,I.ok.noex,I.ok.exfs,I.ok.funs,I.ok.frf) (λp a=>Jb9 (by simpa using a)))
def Inv.untryc (a:X.Ok)(I:Inv (Jm2 E1) pins1 σ H s):Vm s :=
 (Jg8 a (λp b=>Jb9 (Ma b)))
def SP.untryc (c:X.Ok)(h:SP (Jm2 E1) pins1 D f s):SP X pins D f s:=by
 cases f with
 |next=>obtain⟨a,b,I,q⟩:=h;exact(a,b,I.untryc c,q)
 |brk=>obtain⟨a,b,I,q⟩:=h;exact(a,b,I.untryc c,q)
 |cont=>obtain⟨a,b,I,q⟩:=h;exact(a,b,I.untryc c,q)
 |ret u=>obtain⟨v,a,b,I,r,q⟩:=h;exact(v,a,b,I.untryc c,r,q)
structure Came (X)(pins)(σ:St)(H)(s)(H')(B)(s':Shared):Prop where
 I:Vm s
 os:s'.os=s.os
 bare:AllBare s'.gens
 u:Jeq [] H H' s'.heap
 ok:JlY s'.heap
 trk:Trk H' s'.heap B
 old:Old (frs X.stack) H s.heap B
def Came.inv (c:Came X pins σ H s H' B s'){h':Heap}(st:B.StaysIn h')(p:s'.heap.UpToSlots h'):Qk H' { s' with heap:=h' }:=by
 let g:∀b a,s.heap.get? b=some a->Gf b->b∈frs X.stack->∃j,h'.get? b=some { a with slots:=j }:=λb a e n d=>by let(j,k):=c.u.slot b a e n d (by simp);let(_,v,o,r):=c.I.stack.mem d;rw[e]at o;cases o;let(i,k3):=p b _ k λvs q=>r vs q;exact(i,k3)
 apply c.I.call' (s':={ s' with heap:=h' }) (ch:=[]) c.os (λb a e n d x=>?_,λb a e n d x=>g b a e n d,λb a e n x=>c.u.free b a e n (by simp),λb a e x=>?_,c.u.tups,c.u.frzs,c.u.tbls) (c.ok.stays c.trk st) c.bare (λb d=>by cases d)
 .let(l,h,t):=c.old b a e d;rw[t n]at h;exact st b a h
 .by_cases d:b∈frs X.stack
  .let(j,k):=g b a e (c.I.stkFree b d) d;exact Qu k
  .let(l,h,_):=c.old b a e d;exact(l,st b l h)
def PH (X:Cx)(hs:List ExceptHandler)(a:Addr->TS):Prop :=
 ∀pins σ H s H' B s' D ea C a0 h',Came X pins σ H s H' B s'->JcF B X.stack ea C a0 h'->s'.heap.UpToSlots h'->a C D σ H'->
  wpAny (Qh X.w) X.A (handleBy (.ref ea) X.env hs) (SP X pins D) X.xe { s' with heap:=h' }
def Bq:PH X hs (λx=>yw):=λx x x x x x x x x x x x x x x z=>z.elim
def tExc (K:W.Frag)(c:Addr)(ts:TS)(a:Addr->TS):Addr->TS:=λC D σ H=>∃b,Xa (Jkf K C (.ref c)) b/\if Xh b then ts D σ H else a C D σ H
def Br {x:Str}{r i:Pos}{o:Stmt}{a:List Stmt}{rest:List ExceptHandler}{p:Addr}{ts:TS}{n:Addr->TS}(v:Jg9 x)(u:X.mg x=Ja p)(hs:∀ea,PSs (X.susp ea) (o::a) ts)(t:PH X rest n)
  (j:Xx (x==("__debug__":Str)):=by decide):PH X (Xw (.ExceptHandler (some (VG r)) none (o::a) i)) (tExc X.K p ts n):=by
 intro pins σ H s H' B s' D ea C a0 h' c d g h;let(b,z,h):=h;let I:=c.inv d.1 g;let F:=I.susp ea;let(J,y,k):=d.there;let A:W.Looks (Qh X.w) h' (typeOf (.ref ea)) (.ref C):=k▸(W.Looks.ld y).andThen .now;apply wpAny_handleBy_cons (codeAny_handlers_test (iI F v u ?_ j)) (by intro q;cases q);apply W.exm_one I.kIn A z _ _ _ _ (λm m q=>q) ?_;cases b with
 |true=>
  apply codeAny_handlers_suite (lands_againW d λL l e=>?_);let E:=(c.inv l.1 (g.trans e)).susp ea;exact wpAny_mono (hs ea pins _ σ H' D E h) (λf G q=>q.unsusp I.ok) λm m q=>q.elim
 |false=>exact t pins σ H s H' B s' D ea C a0 h' c d g h
def Came.apart (c:Came X pins σ H s H' B s'){h':Heap}(e:JcF B X.stack ea C a0 h'):s.heap.get? ea=none:=by
 cases q:s.heap.get? ea with
 |none=>rfl
 |some h=>
  by_cases d:ea∈frs X.stack
  .let(_,_,k,l,vs,_,_,_,i,_,j,_):=e;let(_,o,b,a):=k.mem d;rw[i]at b;cases b;exact absurd j (a vs)
  .let(n,g,_):=c.old ea h q d;rw[e.2.1]at g;cases g
def Bu (a:StrKeys es)(h:x∉es.toList.map λe=>match e.key with | .str n _=>n|_=>Str.empty):Uf (nsFind es x):=by
 unfold nsFind findBy;cases c:es.find? λe=>e.key.isStr x with
 |none=>rfl
 |some e=>
  let p:=Array.find?_some c;let m:=Array.mem_of_find?_eq_some c;let(n,t,k):=a e m;rw[k]at p;exact absurd (Vd e (Array.mem_toList_iff.mpr m) (by rw[k];exact eq_of_beq p)) h
theorem Bv (u:Xe1 X E)(A:Xh X.calm)(w:Jg9 x)(f:Jcy X.K x C)(F:ExcBaseFacts Bn newId initId bm)(q:Xh (W.excIn X.K C bm newId))(G:PA X (ez::ers) t)
  (i:Xx (x==("__debug__":Str)):=by decide)(b:Vb (ez::ers)=(false,Vc ez,)::starEach ers X.env:=by rfl)(d:(JaN ers).any (·.1)=false:=by rfl):
  PS X (.Raise (some (J7 x np (ez::ers) cpos)) none pos) (tRaise E C t):=by
 intro a s k H D I h;let(Q,B,j):=I.mod.blt;let(o,es,ep,R,S,v,z):=id I.mod.glob;let(f,l,N,nm,r,bs,hdct,sn,sub,ab,col,dd,k0,k1,k2,k3,k5,mN,M,J,e,T):=W.own_of_in (p:=X.prog) I.mod.kin (I.mod.glob,B,I.mod.nolimit,j,λx V h V V V=>(z x).symm.trans (Bu v h)) f q;apply wpAny_Raise_call_subT (C:=C) (nm:=nm) (q:=r) (N:=N) (bs:=bs) (bm:=l) (hdct:=hdct) (sn:=sn) (sub:=sub) (ab:=ab) (col:=col) (dd:=dd) (k0:=k0) (k1:=k1) (k2:=k2) (k3:=k3) (k5:=k5) F (mN:=mN)
  (T.hasType F.hasBase) (I.ok.hd A) (by rw[b];show Xx (false||(JaN ers).any (·.1));rw[d];rfl) e (iI I w f (Mm rfl) i)
 let g:=G cpos a s k H _ I h;rw[b]at g⊢;apply Calls.evalArgs_plain (wpAny_mono g (λvs P h_=>?_) λV V y=>y);let(O,Y,c,n,hz,L):=h_;exact(rfl,by rw[<-n.length];exact hz,c.bk _ _ M,J.keeps c.bk,T.keeps c.bk,λh' U m=>Bo u c m L)
def Bx (K:W.KdlSrc prog w T r d n P OK)(p:Uf A.handled)(c:OK s.heap)(k:Ic n)
  (t:∀h' tk a,(∀b o,s.heap.get? b=some o->h'.get? b=some o)->JkY s.heap.objs.size->ItemsOf P a n->Q a.toList { s with heap:=h',toks:=tk }):
  wpAny (Ik w) A (collect (.ref r)) Q E s:=by
 let f:=K.there _ c;let i:∀R:Result->Shared->Prop,(∀h' tk a j,(∀b o,VS b->(s.heap.push _).get? b=some o->h'.get? b=some o)->h'.get? s.heap.objs.size=some { cls:=.type "list",dict:=none,data:=.seq a j,slots:=#[] }->ItemsOf P a n->R _ { s with heap:=h',toks:=tk })->
   codeAny (Ik w) A (Wz "list.__iadd__" (JC s.heap.objs.size r) []) R { s with heap:=s.heap.push _ }:=λR q=>by apply Wn entry_list_iadd';rw[Jl PySem.F.plain_list_iadd];exact W.kdl_extend K p (K.keep _ _ c λb x o e=>Xz e) _ (Nat.ne_of_gt f.1) (Nat.ne_of_gt f.2) _ 0 (Heap.get?_push_size _ rfl) q k
 apply wpAny_bind (wpAny_runValue (Wn entry_proto_collect'));show JmJ _
 apply wpAny_bind (wpAny_newList (Yr (Code.quiet_builtin _ (by decide +kernel)) (i _ λh' tk a j l h g=>?_)));show Xi A (do
   let o <-load s.heap.objs.size
   match o.data with
   |.seq xs _=>pure xs.toList
   |_=>unsupported "internal:collect") Q E _
 apply wpAny_bind (wpAny_load h ?_);exact wpAny_pure (t h' tk a (λb o e=>l b o (WO e) (Xz e)) (hLq h) g)
def By (K:W.KdlSrc prog w T r d n P OK)(t:Uf A.handled)(k:OK s.heap)(p:n<64)
  (y:∀acc:Array Value,JbU P n->∃ns,Ja1 acc.toList)
  (x:∀h' tk acc out ns c e (a:Addr),(∀b o,s.heap.get? b=some o->h'.get? b=some o)->QS a->h'.get? a=some (seqObj "list" out e)->JbU P n->Ja1 acc.toList->IntsAre out.toList c->c.Perm ns->c.Pairwise (·<=·)->Uc a { s with heap:=h',toks:=tk }):
  wpAny (Ik w) A (JR "sorted" (Gj r)) Q E s:=by
 apply Calls.call_function_entry kind_sorted plain_sorted entry_sorted (args_sorted1 _) ?_;apply Ui ?_;apply wpAny_bind (Bx K t k (Mg (Nat.le_of_lt p)) λh' tk acc q l f=>?_);let z:Jb2 n:=by rw[Array.length_toList];exact f.1
 apply wpAny_bind (wpAny_newList (hsz:=by rw[z];exact Mg (Nat.le_of_lt p)) ?_);let(ns,i):=y acc f;let g:(h'.push _).get? h'.objs.size=some (seqObj "list" acc.toList.toArray 0):=Heap.get?_push_size _ rfl;apply Vl (wpAny_call_entry slot_list_sort (Jkq g) entry_list_sort (list_sort_tree g i (by lia) λout c D C B=>Yu ?_) (args_list_sort _));let(e,u):=sortedHeap_at (out:=out) g;apply Jb5 (x _ tk acc out ns c e _ (λb o v=>?_) (Nat.le_of_lt l) u f i D C B);let j:=q b o v;let h:=hLq j;rw[sortedHeap_old (Nat.ne_of_lt h) (by rw[size_push'];exact Nat.lt_succ_of_lt h),Heap.get?_push_ne _ _ _ (Nat.ne_of_lt h)];exact j
theorem wB:∀{vs:List Value} {ns c:List Int},Ja1 vs->IntsAre vs c->ns=c
 |_,_,_,.nil,.nil=>rfl
 |_,_,_,.cons n t a,.cons _ _ b=>by rw[wB a b]
def Bz (Z:Xh X.calm):Iy X "sorted" (λxs H Q=>∃d kvs ns,xs=Gj d∧JY d∧JiD (λS=>kV S.1) (ns.map V.int)∧ns.length<64∧∀l (B:List Int),VA l (B.Perm ns→Iq (B.Pairwise (·≤·)) l (QZ l (B.map V.int)))):=by
 intro G s σ H xs us Q I r h;let(d,kvs,ns,rfl,K,D,h64,q):=h;let(u,rfl,P):=fu r;cases P;let(N,z,c,f,o):=JdM K;let(ep,M):=o.dictAt;let l1:=f.length;let kl:kvs.length=ns.length:=by have:=UD D;rw[lM,lM]at this;exact this
 let items:∀acc:Array Value,JbU (λi v=>∃k x,c[i]?=some (k,x,)/\JgM k v) c.length->bc (ns.map V.int) acc.toList:=λacc b=>by
  let t:Jb2 c.length:=by rw[Array.length_toList];exact b.1
  let g:∀j x,acc.toList[j]?=some x->∃k y,c[j]?=some _/\JgM k x:=λj x E=>b.2 j x (by rw[<-Array.getElem?_toList];exact E);rw[<-D];clear b N l1 M o q K D kl;generalize acc.toList=L at t g
  induction f generalizing L with
  |nil=>
   match L,t with
   |[],_=>exact .nil
  | @cons p p' ps R a _ U =>
   match L,t with
   |x::L,t=>
    let(k,y,e1,e2):=g 0 x rfl;cases e1;apply Jjo (U L (by simpa using t) λj x E=>g (j+1) x E);have:=vA e2;show bn (kV p.1) x;rw[show p.1=k from a.1];exact this
 apply By (W.kdl_dict (kvs:=c) z) (I.ok.hd Z) M (by lia) (λacc b=>(ns,pJ (items acc b))) λh' tk acc out A n e a T J ha b Y C F O=>?_;let en:=wB Y (pJ (items acc b));subst en;let ml:=F.length_eq;exact Wt a _ (I.laid (t':=tk) T J (show Jns _ h' _ (n.map V.int) from(VR (by rw[lM];lia),out.toList,e,nz C,by rw[Array.toArray_toList];exact ha))) (q _ n (I.hok.fresh J) F O)
def tD1 (tk c:TE):TE:=λa H Q=>∀d,Gf d->tk a (Jfc H d) λx e=>c a e λy b=>∃k,x=kV k/\Xa (b d) (.dK [])/\Uc d (Qc b d [(k,y,)])
def pe_d1 (C:Qo ke tk)(B:Qo ve tv)
  (e:(evalEachOpt [some ke] X.env).zip ((evalEach [ve] X.env).map λv=>do let x <-v;standAt pos;pure x)=([(Vc ke,do let x <-Vc ve;standAt pos;pure x,)]:Qb (Sem Value) (Sem Value)).map λp=>(some p.1,p.2,):=by rfl):Qo (.Dict [some ke] [ve] pos) (tD1 tk tv):=by intro b s f H Q I h;apply wpAny_Dict_pairs (knd:=Jcf X.w) e (by simp) (by show 1<=15;decide) ?_;let G:=JT (t':=s.toks) (λm m q=>Xz q) _ (vq s.heap I.big);let h0:=h _ (Xp _);apply evalPairs_cons (thn (C b _ f _ _ G h0) λM r h_=>?_);let(x,J,F,u,q1):=h_;apply wpAny_bind (thn (B b r f J _ F q1) λj L h_=>?_);let(y,O,i,t,k,E,g,A):=h_;apply IG (wpAny_pure (evalPairs_nil ?_));subst E;let(z,l,K,d,dd):=iw i.hok g;cases d;apply([(k,j,)],Nc (gX u) True.intro,dd,λh' c n=>?_);let(o,es,ep,D,N):=id c;exact Wt _ _ (jn i (by rw[g];exact True.intro) n (Qu D) (jS (by show Ic 1;decide) l (Wy (GM t)) c)) A
inductive lL:V->List V->Hp->VK->Prop|m{x vs H Q} (d) (k) (v) (kvs):Jis d (vs=[kV k,v]) (JY d) (NE kvs.length->((∃u,Xa (Ja3 k) u/\Q u H)\/(Uf (Ja3 k)/\Q v (Qc H d (YL k v))))->lL x vs H Q)
def BB:MtR X "dict.setdefault" lL:=by
 intro l s J H x vs v us Q I p r h;let(d,k,y,kvs,rfl,rfl,n,hz,q):=h;cases p;cases r with
 |cons A t=>
 cases t with
 | @cons _ o _ _ j t=>
 cases t;let(z,i,f,b,dd):=JdM n;let B:Ic f.length:=by rw[<-b.length];exact z
 let a:=b.val k;apply Jfr PySem.F.slot_dict_setdefault PySem.F.entry_dict_setdefault (PySem.F.args_dict_setdefault_3 _ _ _) (kt_meets_setdefault (Jcf X.w) d (gX A) i o) (f,dd,B,λu C=>?_,λD h' c hs=>?_)
 .rw[C]at a;rcases q with ⟨g,q1,e⟩ | ⟨q1,_⟩
  .rw[q1]at a;exact QE g H _ a e
  .rw[q1]at a;exact a.elim
 .rw[D]at a;rcases q with ⟨g,q1,e⟩ | ⟨q1,e⟩
  .rw[q1]at a;exact a.elim
  .let G:∃q,h'.get? d=some q:=let (q,_,_,hq,_):=c;(q,hq);let E:(YL k y).length≤sizeLine:=by have:=lu kvs k y;lia
   exact(y,_,jn I (by rw[n];exact True.intro) hs G (jS E i (b.put k j) c),j,e)
def tSetK (c:TE)(t:TA):TE:=λa H Q=>c a H λx b=>(∃d kvs,YK d/\Xa (b d) (.dK kvs))/\t a b λxs e=>lL x xs e Q
def lN (w:Qo o to)(y:JmM t)
  (f:Jhq o "setdefault" o=eval o X.env:=by rfl)
  (g:Xh ((JaN (ML e)).all (λx=>!x.1)&&(Jnw []).all (λx=>x.1.isSome)
   && decide ((ML e).length+([]:List Keyword).length+(if([]:List Keyword).isEmpty then 0 else 1)<30)):=by rfl)
  (c:Xh (apos.endLine==cpos.line):=by rfl)(hs:Jbk e=(false,Vc e,)::starEach es X.env:=by rfl)(b:(JaN es).any (·.1)=false:=by rfl):
  PE X (Jl6 o "setdefault" (ML e)) (tSetK to t):=by intro a s i H Q I h;apply JbT f g c (thn (w a s i H _ I h) λv p h_=>?_);let(x,E,k,r,(d,kvs,B,l),q1):=h_;subst B;cases r;let(A,z,_):=pZ k (Jay kvs l);apply("dict","dict.setdefault",PySem.F.plainAttrs_dict,PySem.F.slot_dict_setdefault,PySem.F.type_dict_setdefault,A,z,?_);let j:=y cpos a p i E _ k q1;rw[hs]at j⊢;apply Mq (by show Xx (false||(JmV _).any _);rw[b]<;>rfl) ?_;exact thn j λus n h_=>by let(vs,D,C,q,u):=h_;exact BB a n i D (.ref d) vs _ us Q C rfl q u
def TuI.eb {h h':Heap}{it t b i:Nat}{xs:Array Value}(x:TuI h it t i xs)(hs:Vt b h)(c:it≠b)(a:t≠b):TuI h' it t i xs:=(x.1.extBut hs.extBut c,x.2.extBut hs.extBut a)
def eb {h h':Heap}{a b:Nat}{o:Obj}(x:Vt a h)(n:b≠a):h.get? b=some o->h'.get? b=some o:=x.extBut b o n
def ib {h h':Heap}{a b t i:Nat}(x:Jiv b t)(hs:Vt a h)(n:b≠a):h'.IsTupleIter b t i:=x.extBut hs.extBut n
def Kp (n:Nat)(h h':Heap):Prop:=∀c o,c≠n->c≠n+1->c≠n+3->c≠n+4->h.get? c=some o->h'.get? c=some o
def hO (h:Heap)(n:Nat)(b a:Value):Prop:=h.get? (n+4)=some { cls:=.type "zip",dict:=none,data:=.fields #[b,a,.bool false,.ref (n+2),.ref (n+3)],slots:=#[] }
structure ZSt (n:Nat)(h:Heap)(a b k:Nat)(xs ys:Array Value):Prop where
 l:xs.size=ys.size
 la:a<n
 lb:b<n
 ln:N8 (n+5)
 ow:∃f0 f1,hO h n f0 f1/\(f0=.none\/∃(p:Nat) (u v:Value),f0=rawInt p/\Jkc p u v/\n+5<p)
 ti:Jkc (n+2) (.ref n) (.ref (n+1))
 to:∃u v,Jkc (n+3) u v
 ia:TuI h n a k xs
 ib:TuI h (n+1) b k ys
def wC (h:Heap)(e:Addr):Prop:=∃o,h.get? e=some o/\o.cls=.type "StopIteration"
section
variable {prog:Program} {w:World} {A:Around} {E:Value->Shared->Prop} {s:Shared}
def ou (j:Uf A.handled)(h:TuI s.heap it t i items)(l:∀x h',items[i]?=some x->h'.IsTupleIter it t (i+1)->Jba it->Q x { s with heap:=h' })
  (n:∀h' e,items[i]?=none->Heap.ExtBut it s.heap h'->wC h' e->E (.ref e) { s with heap:=h' }):XC w A (YA it) Q E s:=by
 let(b,p,f,_,q,g):=h;let(o,d,k,c):=id b;unfold Builtin.SmallTypes.nextOf;apply wpAny_bind (wpAny_callSpecial?_slot (name:=Str.ofString "__next__") b.typeIs F.slot_tuple_iterator_next (Jbw F.slot_tuple_iterator_next b.typeIs F.entry_tuple_iterator_next (F.args_tuple_iterator_next_1 _)));show JmJ (JcG it 0>>=_);apply Uu d c (x:=.ref t) rfl ?_;show JmJ (if Xh (Value.ref t==Value.none) then _ else _)
 rw[if_neg (show ¬(Xh (Value.ref t==Value.none)) from Bool.false_ne_true)];show JmJ (JcG it 1>>=_);apply Uu d c (x:=Jiz i) rfl ?_;show JmJ (seqItems? (.ref t)>>=_);apply Gg f g ?_;cases hx:items[i]? with
 |some x=>
  simp only[Int.toNat_natCast,hx];apply wpAny_bind (wpAny_setField d c (by simp) (U0 x (wpAny_pure (l _ _ hx ?_ (Heap.SameBut.update ..)))));exact(_,Heap.get?_update_self _ d (Obj.isFreed_of_fields (Obj.data_mapFields c _)),(Obj.cls_mapFields ..).trans k,by rw[Obj.data_mapFields c];simp [rawInt])
 |none=>
  simp only[Int.toNat_natCast,hx];apply Jo (wpAny_bind (wpAny_setField d c (by simp) ?_));show V5 (newExc (.type "StopIteration") []>>=_) _;apply wpAny_bind ?_;simp only[newExc,newTuple];apply Jab ?_ (by size_fits);apply wpAny_bind (m:=firstArgMember _ _) (wpAny_of_eq (a:=Value.none) (by first|rfl|(simp only[firstArgMember];rfl)) ?_)
  apply wpAny_newObj_type ?_ (by size_fits);unfold raiseNew;apply wpAny_bind (wpAny_handled ?_)
  first|rw[show Uf A.in1.handled from j]|rw[j]
  apply Ui (wpAny_throw ?_);exact n _ _ hx (((Heap.SameBut.update ..).extBut.push _).push _) (Jkq (Heap.get?_push_size _ rfl))
def BI (h:Q (s.heap.get? a) s):wpAny M A (loadIfAlive a) Q E s:=λc p b=>by unfold loadIfAlive;rw[Sem.wp_loadIfAlive];simpa [Sem.wp] using h
def BN {n p:Nat}{e u v:Value}{Q:Bool->Shared->Prop}(hz:Jm3 s.heap n p e)(h:IsPair s.heap p u v)
  (g:∀h' f,Jm3 h' n p f->Jba (n+4)->Q false { s with heap:=h' }):XC w A (Builtin.SmallTypes.ownedTupleIsFree (.ref (n+4))) Q E s:=by
 unfold Builtin.SmallTypes.ownedTupleIsFree;apply Uu hz rfl (x:=rawInt p) rfl ?_;show V5 (loadIfAlive ((p:Int).toNat)>>=_) _;apply wpAny_bind (BI ?_);rw[Int.toNat_natCast,h];show V5 (JcG (n+4) 1>>=_) _;apply Uu hz rfl (x:=e) rfl ?_;by_cases c:Xh (e != .bool true)
 .rw[if_pos c];apply wpAny_bind (wpAny_setField_rec hz (by simp) λd a b=>?_);exact wpAny_pure (g d (.bool true) a b)
 .rw[if_neg c];exact wpAny_pure (g s.heap e hz (GM (λy y=>rfl)))
def ZSt.next {n a b k:Nat}{xs ys:Array Value}{h h':Heap}{d z:Value}(Z:ZSt n h a b k xs ys)(c:Kp n h h')(hz:JfO h'.objs.size)(j:hO h' n d z)(r:d=.none\/∃(p:Nat) (u v:Value),d=rawInt p/\JgE p u v/\n+5<p)(e:∃u v,JgE (n+3) u v)(y:h'.IsTupleIter n a (k+1))(x:h'.IsTupleIter (n+1) b (k+1)):ZSt n h' a b (k+1) xs ys:=by let(l,la,t,C,_,f,_,(_,q,B,i),_,o,eb,g):=Z;exact(l,la,t,by lia,(_,_,j,r),c _ _ (by lia) (by lia) (by lia) (by lia) f,e,(y,q,c _ _ (by lia) (by lia) (by lia) (by lia) B,i),x,o,c _ _ (by lia) (by lia) (by lia) (by lia) eb,g)
theorem BQ {n a b k:Nat}{xs ys:Array Value}{Q:Value->Shared->Prop}(hh:Uf A.handled)(Z:ZSt n s.heap a b k xs ys)
  (hQ:∀x y h',xs[k]?=some x->ys[k]?=some y->ZSt n h' a b (k+1) xs ys->JgE s.heap.objs.size x y->h'.objs.size=Yd 1->Jc8 n h'->Uc s.heap.objs.size { s with heap:=h' })
  (hE:∀h' e,xs[k]?=none->Jc8 n h'->wC h' e->E (.ref e) { s with heap:=h' }):
  wpAny (Ik w) A (Builtin.«zip.__next__» (JmI (n+4))) (λfin s'=>∃v,fin=.done (.ret v)/\Q v s') E s:=by
 let(l,la,lb,ln,(f0,f1,hz,ow),ti,(u0,v0,hTO),h1,h2):=id Z;let no:∀x,xs[k]?=some x->ys[k]?=none->False:=λx e1 e2=>by have:=(Array.getElem?_eq_some_iff.mp e1).1;have:=Array.getElem?_eq_none_iff.mp e2;lia
 show V5 (JcG (n+4) 2>>=_) _;apply Uu hz rfl (x:=.bool false) rfl ?_;show V5 (JcG (n+4) 3>>=_) _;apply Uu hz rfl (x:=.ref (n+2)) rfl ?_;apply Jjf ti;show V5 (Builtin.SmallTypes.ownedTupleIsFree (.ref (n+4))>>=_) _;apply wpAny_bind ?_;rcases ow with rfl|⟨p,u,v,rfl,hp,np⟩
 .unfold Builtin.SmallTypes.ownedTupleIsFree;apply Uu hz rfl (x:=.none) rfl (wpAny_pure ?_);simp only[if_true];apply Jo ?_;apply Uu hz rfl (x:=.ref (n+3)) rfl ?_;apply wpAny_bind (wpAny_setField_rec hz (by simp) λW r g=>?_);replace r:JiJ W n f1:=r;apply wpAny_bind ?_;simp only[List.zipIdx_cons,List.zipIdx_nil,List.forIn_cons,List.forIn_nil];apply QM (wpAny_onRaise ?_);show V5 (YA n >>= _) _;apply wpAny_bind (ou hh (h1.eb g (by lia) (by lia)) (λx B U J d=>wpAny_pure ?_) λB e U d (oe,hoe,hce)=>?_)
  .let L:IsPair B (n+3) u0 v0:=JjX d g hTO;apply Jjf L;apply wpAny_bind (wpAny_updateSeq_pair L λN D j=>?_);replace D:IsPair N (n+3) x v0:=D;apply Jgi ?_;apply QM (wpAny_onRaise ?_);show V5 (YA (n+1) >>= _) _;apply wpAny_bind (ou hh (((h2.eb g (by lia) (by lia)).eb d (by lia) (by lia)).eb j (by lia) (by lia)) (λy q hy I h=>wpAny_pure ?_) λm m hy m m=>(no x U hy).elim);let K:IsPair q (n+3) x v0:=XH h D;apply Jjf K;apply wpAny_bind (wpAny_updateSeq_pair K λi t C=>?_);replace t:IsPair i (n+3) x y:=t;apply Qx (My ?_);apply Jjf t;apply wpAny_bind (wpAny_newTuple ?_);let hsz:Jax i.objs.size:=by rw[C.1,h.1,j.1,d.1,g.1]
   let hz₅:JiJ i n f1:=XH C (JjX h j (XH d r));let kp:Jc8 n i:=λc o M c2 c3 S e=>eb C c3 (eb h c2 (eb j c3 (eb d M (eb g S e))));show V5 (Builtin.SmallTypes.ownedTupleHandOut (.ref (n+4)) (.ref i.objs.size)>>=_) _;apply wpAny_bind ?_;unfold Builtin.SmallTypes.ownedTupleHandOut;let Y:JiJ (i.push { cls:=.type "tuple",data:=.seq #[x,y] }) n f1:=Xz hz₅;apply wpAny_bind (wpAny_setField_rec Y (by simp) λh₇ G R=>?_);replace G:Jm3 h₇ n i.objs.size f1:=G;apply wpAny_setField_rec G (by simp) λz F P=>?_;replace F:Jm3 z n i.objs.size (.bool false):=F;let up:∀(c:Nat) o,c≠n+4->(i.push { cls:=.type "tuple",data:=.seq #[x,y] }).get? c=some o->z.get? c=some o:=λc o M e=>eb P M (eb R M e);let T:∀(c:Nat) o,c≠n+4->i.get? c=some o->z.get? c=some o:=λc o M e=>up c o M (Xz e);let H:IsPair z i.objs.size x y:=up _ _ (by lia) (Heap.get?_push_size _ rfl);let hz8:z.objs.size=i.objs.size+1:=by rw[P.1,R.1,Heap.size_push]
   let kp8:Jc8 n z:=λc o M c2 c3 S e=>T c o S (kp c o M c2 c3 S e);apply Jb5 ?_;show Uc i.objs.size _;let Z8:=Z.next kp8 (by lia) F (J6 _ x y rfl H (by lia)) (x,y,T _ _ (by lia) t) ((Jeh (Jeh (Jeh J j) h) C).at λo e=>T _ o (by lia) e) ((Jeh I C).at λo e=>T _ o (by lia) e);rw[hsz]at H hz8⊢;exact hQ x y z U hy Z8 H hz8 kp8
  .let O:JiJ B n f1:=d _ _ (show n+4≠n by lia) r;let hez:e≠n+4:=λx=>by subst x;rw[show B.get? (n+4)=_ from O]at hoe;cases hoe;simp at hce
   exact wpAny_setField_rec O (by simp) λN m j=>hE N e U (λc o M m m S x=>eb j S (d _ _ M (eb g S x))) (oe,eb j hez hoe,hce)
 .apply BN hz hp λW f r g=>?_;simp only[Bool.false_eq_true,if_false];apply wpAny_bind ?_;rw[←Array.forIn_toList];simp only[List.forIn_cons,List.forIn_nil];apply wpAny_bind (Vl ?_);show V5 (YA n >>= _) _;apply wpAny_bind (ou hh (h1.eb g (by lia) (by lia)) (λx B U J d=>My ?_) λB e U d he=>hE B e U (λc o M m m S x=>d _ _ M (eb g S x)) he);apply wpAny_bind (Vl ?_);show V5 (YA (n+1) >>= _) _;apply wpAny_bind (ou hh ((h2.eb g (by lia) (by lia)).eb d (by lia) (by lia)) (λy q hy I h=>wpAny_pure (My ?_)) λm m hy m m=>(no x U hy).elim);apply wpAny_bind (wpAny_newTuple ?_ (show Ic 2 by rw[sizeLine_eq];decide));let hsz:Jax q.objs.size:=by rw[h.1,d.1,g.1]
  let kp:Jc8 n (q.push { cls:=.type "tuple",data:=.seq #[x,y] }):=λc o M c2 m S e=>Xz (eb h c2 (eb d M (eb g S e)));apply Jb5 ?_;show Uc q.objs.size _;let hT:IsPair (q.push { cls:=.type "tuple",data:=.seq #[x,y] }) q.objs.size x y:=Heap.get?_push_size _ rfl;let X:(q.push { cls:=.type "tuple",data:=.seq #[x,y] }).objs.size=q.objs.size+1:=Heap.size_push ..;let Z8:=Z.next kp (by lia) (Xz (JjX h d r)) (J6 p u v rfl (kp _ _ (by lia) (by lia) (by lia) (by lia) hp) np) (u0,v0,Xz (XH h (JjX d g hTO))) ((Jeh J h).at λo e=>Xz e) (I.at λo e=>Xz e);rw[hsz]at hT X⊢;exact hQ x y _ U hy Z8 hT X kp
def wD (h:Uf A.handled)(Z:ZSt n s.heap a b k xs ys)
  (l:∀x y h',xs[k]?=some x->ys[k]?=some y->ZSt n h' a b (k+1) xs ys->JgE s.heap.objs.size x y->h'.objs.size=Yd 1->Jc8 n h'->Q (Ja s.heap.objs.size) { s with heap:=h' })
  (p:∀h',xs[k]?=none->Jc8 n h'->Q none { s with heap:=h' }):XC w A (UK (n+4)) Q E s:=by
 let c:Q1 (n+4) "zip":=by let(_,_,e,_):=Z.ow;exact Jkq e
 unfold pyNext;apply wpAny_bind (wpAny_attempt (wpAny_callSpecial?_slot (name:=Str.ofString "__next__") c F.slot_zip_next (wpAny_call_entry F.slot_zip_next c F.entry_zip_next (BQ h Z (λx y h' z v u t r q=>wpAny_pure (l x y h' z v u t r q)) λh' e d g i=>?_) (F.args_zip_next_1 _))))
 let(o,f,j):=i;apply wpAny_bind (wpAny_isInstance (T:="StopIteration") (b:=true) (J8 f j) isSubtype_stop ?_);exact wpAny_pure (p _ d g)
end
def ZSt.keep {n a b k:Nat}{xs ys:Array Value}{h h':Heap}(Z:ZSt n h a b k xs ys)(d:∀c o,c≠n+5->h.get? c=some o->h'.get? c=some o)(f:JkY (n+5)):ZSt n h' a b k xs ys:=by let(l,la,y,E,(C,B,r,w),i,(u,v,g),(z,t,D,q),ib,s,eb,j):=Z;exact(l,la,y,f,(C,B,JaR _ _ r,w.imp id λh_=>by let(p,u,v,e,A,x):=h_;exact(p,u,v,e,JaR _ _ A,x)),JaR _ _ i,(u,v,JaR _ _ g),(z.at λo e=>JaR _ o e,t,JaR _ _ D,q),ib.at λo e=>JaR _ o e,s,JaR _ _ eb,j)
structure PrV (n)(h)(xs ys:List V)(ps:List Addr)(J:Hp):Prop where
 at_:∀(j:Nat) p,ps[j]?=some p->∃x y,xs[j]?=some x/\ys[j]?=some y/\Xa (J p) (.tup [x,y])
 is:∀(c:Nat) o,Xa (J c) o->n+5<c/\∃x y ux uy,o=.tup [x,y]/\bn x ux/\bn y uy/\Jkc c ux uy
def PrV.keep {n:Nat}{h h':Heap}{xs ys:List V}{ps:List Addr}{J:Hp}(P:PrV n h xs ys ps J)(a:∀c o,n+5<c->h.get? c=some o->h'.get? c=some o):PrV n h' xs ys ps J :=
 (P.at_,λc o e=>let (l,x,y,ux,uy,e1,e2,e3,e4):=P.is c o e;(l,x,y,ux,uy,e1,e2,e3,a c _ l e4))
def IsLs (h:Heap)(S:Nat)(xs:Array Value)(c:Nat):Prop:=h.get? S=some { cls:=.type "list",dict:=none,data:=.seq xs c,slots:=#[] }
def wF (r:WD xs){j:Nat}{u:Value}(h:us[j]?=some u):∃x,xs[j]?=some x/\bn x u:=by
 let a:W4 j:=by rw[r.length];exact(gEq h).1
 let(d,c,b):=r.get (gG a);cases c.symm.trans h;exact W7 (gG a) b
section
variable {prog:Program} {w:World} {A:Around} {E:Value->Shared->Prop} {n a b:Nat} {xs ys:List V} {us vs:List Value}
def BR {R:Result→Shared→Prop}(I:Uf A.handled)(X:WD xs)(W:bc ys vs)(hn:Ic us.length) :
  ∀(m k:Nat) (s:Shared) (ps:List Addr) (c:Nat) (J:Hp),us.length-k=m->ps.length=k->k<=us.length->ZSt n s.heap a b k us.toArray vs.toArray->IsLs s.heap (n+5) (ps.map Value.ref).toArray c->PrV n s.heap xs ys ps J->
  (∀h' d C D,(∀(c:Nat) o,c<n->s.heap.get? c=some o->h'.get? c=some o)->IsLs h' (n+5) (X0 d).toArray C->d.length=us.length->PrV n h' xs ys d D->Jkt .none { s with heap:=h' })->
  codeAny (Ik w) A (Wz "list.extend.loop" [.ref (n+5),.ref (n+4),.none] []) R s:=by
 intro m
 induction m with
 |zero=>
  intro k s ps c J hk r hi Z u P v;apply Wn F.entry_extend_loop;rw[Jl F.plain_extend_loop];show GI (UK (n+4)>>=_) s;apply wpAny_bind (wD I Z (λx y h' e=>?_) λh' _ g=>?_)
  .have:=(gEq (show us[k]?=some x by simpa using e)).1;lia
  .exact wpAny_pure (v h' ps c J (λc o f e=>Jjz c o e) (Jjz _ _ u) (by lia) (P.keep λc o f e=>Jjz c o e))
 | succ m Y =>
  intro k s ps c J hk r hi Z u P v;apply Wn F.entry_extend_loop;rw[Jl F.plain_extend_loop];show GI (UK (n+4)>>=_) s;apply wpAny_bind (wD I Z (λH G h' ex ey Z' gT gz g=>?_) λh' e _=>?_)
  .let i:IsLs h' (n+5) _ c:=Jjz _ _ u;let(x,T,S):=wF X (show us[k]?=some H by simpa using ex);let(y,O,N):=wF W (show vs[k]?=some G by simpa using ey);let ln:=Z.ln;show GI (updateSeq (n+5) (·.push (.ref s.heap.objs.size)) >>= _) _;apply wpAny_bind ?_;let l:∀(b:Nat) o,b≠n+5→h'.get? b=some o→(h'.update (n+5) (Obj.mapSeq (·.push (.ref s.heap.objs.size)))).get? b=some o:=λb o hb e=>(Heap.get?_update_other _ _ (Ne.symm hb)).trans e;obtain⟨M,t⟩:∃M,IsLs (h'.update (n+5) (Obj.mapSeq (·.push (.ref s.heap.objs.size)))) (n+5) (X0 (ps++[s.heap.objs.size])).toArray M:=Qu (by rw[show(X0 (ps++[s.heap.objs.size])).toArray=(X0 ps).toArray.push (.ref s.heap.objs.size) by simp];exact Heap.get?_update_self _ i rfl)
   let P':=P.keep λc o f e=>l c o (by lia) (Jjz c o e);apply wpAny_updateSeq i rfl (JcM F.plain_extend_loop (Y (k+1) _ (ps++[s.heap.objs.size]) _ (Jel J [x,y]) (by lia) (by rw[lAq,r];rfl) (by lia) (Z'.keep l (by show n+5<(h'.update _ _).objs.size;rw[(Heap.SameBut.update ..).1];lia)) t (λj p h=>?_,λc o e=>?_) λB d C D q=>v B d C D λc o f e=>q c o f (l c o (by lia) (Jjz c o e))))
    (by rw[sAq,lM];lia) (by show(Array.push _ _).size<=sizeLine+1;rw[Array.size_push,sAq,lM];lia)
   .rcases Nat.lt_or_ge j ps.length with f | ge
    .rw[List.getElem?_append_left f]at h;let(U,Q,h1,h2,K):=P.at_ j p h;apply(U,Q,h1,h2,?_);rw[aq λz=>?_]
     .exact K
     .let(_,_,_,_,_,_,_,_,e):=P.is p _ K;rw[z]at e;exact Jgz (hLq e)
    .let f:=(gEq h).1;rw[lAq]at f;let e:j=k:=by have:j<ps.length+1:=f;lia
     subst e;rw[<-r,List.getElem?_append_right (nRq _),Nat.sub_self]at h;cases h;exact(x,y,T,O,ao)
   .by_cases L:Jax c
    .subst L;rw[ao]at e;cases e;exact Jdp (by lia) x y H G S N (l _ _ (by lia) gT)
    .rw[aq L]at e;exact P'.is c o e
  .have:=Array.getElem?_eq_none_iff.mp e;rw[sAq]at this;lia
variable {s:Shared}
def BU {Q:Value->Shared->Prop}(U:Uf A.handled)(N:WD xs)(M:bc ys vs)(S:Ic us.length)(hs:s.heap.objs.size=n+5)(L:IsZip s.heap (n+4) (n+2) (n+3) .none)(Z:∀h',(∀c o,s.heap.get? c=some o->h'.get? c=some o)->JkY (n+5)->ZSt n h' a b 0 us.toArray vs.toArray)
  (X:∀h' ps c J,(∀c o,c<n->s.heap.get? c=some o->h'.get? c=some o)->IsLs h' (n+5) (X0 ps).toArray c->ps.length=us.length->Iq (PrV n h' xs ys ps J) (n+5) { s with heap:=h' }):
  wpAny (Ik w) A (JfW "list" (Gj (n+4))) Q E s:=by
 apply callType_codes (Q₁:=λx q=>YK s.heap.objs.size/\q={ s with heap:=s.heap.push { cls:=.type "list",data:=.seq #[] } }) PySem.F.called_list (PySem.F.typeCall_list_1 _) PySem.F.entry_list_init
  (code_list_new _ (Ye rfl)) λx q y=>?_
 let(rfl,rfl):=y;let v:IsLs (s.heap.push { cls:=.type "list",data:=.seq #[] }) s.heap.objs.size #[] 0:=Heap.get?_push_size _ rfl;let h0:(s.heap.push { cls:=.type "list",data:=.seq #[] }).objs.size=Yd 1:=Heap.size_push ..;let k0:∀c o,s.heap.get? c=some o->(s.heap.push { cls:=.type "list",data:=.seq #[] }).get? c=some o:=λc o e=>Xz e;rw[hs]at v h0⊢;generalize s.heap.push { cls:=.type "list",data:=.seq #[] }=h₀ at v h0 k0;let K:=Z h₀ k0 (by lia);apply Id (Jkq v) (PySem.F.args_list_init_2 _ _);show V5 _ _
 apply wpAny_bind ?_;unfold Builtin.List.listItems;apply JiQ v (wpAny_pure ?_);apply JG v rfl ?_;let l:=Heap.get?_update_self (Obj.mapSeq (λm=>(#[]:Array Value))) v rfl;let i:∀(h:Heap) (f:Array Value->Array Value) (b:Nat) o,b≠n+5->h.get? b=some o->(h.update (n+5) (Obj.mapSeq f)).get? b=some o:=λh f b o W e=>(Heap.get?_update_other _ _ (Ne.symm W)).trans e;let r:∀{h:Heap} {f:Array Value->Array Value},N8 (n+5)->n+5<(h.update (n+5) (Obj.mapSeq f)).objs.size:=λh=>by rw[(Heap.SameBut.update ..).1];exact h
 let B:=K.keep (i _ λm=>#[]) (r K.ln);apply Qx ?_;unfold Builtin.List.listExtendWith;let G:∀{h:Heap} {g d t os},ZSt n h a b 0 us.toArray vs.toArray->((h,g,d,t,os):Shared).TypeIs (.ref (n+4)) "zip":=λZ=>by let(_,_,e,_):=Z.ow;exact Jkq e
 apply wpAny_bind (wpAny_typeOf (T:="zip") (G B) ?_);let Y:Xx (Builtin.List.listSameRef (.ref (n+5)) (.ref (n+4))):=by simp [Builtin.List.listSameRef]
 simp only[Y,show Xx (Value.type "zip" == Value.type "list") from by decide +kernel,show Xx (Value.type "zip" == Value.type "tuple") from by decide +kernel,Bool.or_false,Bool.false_eq_true,if_false];apply wpAny_bind (wpAny_pyIter_zip (i _ (λm=>#[]) _ _ (by lia) (k0 _ _ L)) ?_);let l1:XD "zip" "__len__"=pure none:=by rw[typeLookup_type,builtinLookup_eq_fast];kernel_rfl
 let l2:XD "zip" "__length_hint__"=pure none:=by rw[typeLookup_type,builtinLookup_eq_fast];kernel_rfl
 let z:∀{A:Around} {E:Value->Shared->Prop} {s:Shared} {Q:Bool->Shared->Prop},Q1 (n+4) "zip"->Q true s->wpAny (Ik w) A (Builtin.List.listLengthHint (.ref (n+4))) Q E s:=λ{A E s Q} G h=>by
  unfold Builtin.List.listLengthHint
  repeat (any_goals (first|assumption|wp_step))
 apply Vl (z (G B) ?_);apply wpAny_ite_split (λ_=>?_) (λD=>GE D);apply Jo ?_;apply wpAny_bind ?_;apply JG l rfl ?_;let k:=Heap.get?_update_self (Obj.mapSeq (·.push Value.none)) l rfl;apply wpAny_updateSeq (hz:=by seq_fits) k rfl ?_;let u:=Heap.get?_update_self (Obj.mapSeq (·.pop)) k rfl;let I:=B.keep (i _ (·.push Value.none)) (r B.ln);let Z4:=I.keep (i _ (·.pop)) (r I.ln);apply JcM PySem.F.plain_extend_loop (BR (A:=A.in1) U N M S us.length 0 _ [] _ (λm=>none) rfl rfl (Nat.zero_le _) Z4 u (λj p e=>(nomatch e),λc o e=>(nomatch e)) λh' ps c J R H pl P=>?_);exact GM (X h' ps c J (λb o O e=>R b o O (i _ _ b o (by lia) (i _ _ b o (by lia) (i _ _ b o (by lia) (k0 b o e))))) H pl P)
end
section
variable {X:Cx} {pins:List (IL Obj)} {σ:St} {H H2:Hp} {s:Shared}
def Inv.grow (I:Vm s)(f:∀c o,s.heap.get? c=some o->h'.get? c=some o)(a:∀c o,JeE c o (Xa (H2 c) o))
  (d:∀c o,Xa (H2 c) o->Gc c o\/(QS c/\WR H2 h' c o)):Qk H2 { s with heap:=h',toks:=t' }:=by
 apply I.un (λb u q x x x=>f b u q,λb u q x x x=>Jmd (f b u q),λb u q n x=>?_,λb u q x=>(u,f b u q),λb xs q=>a _ _ q,λb u xs q=>a _ _ q,λb ps q=>(#[],by rw[a _ _ q];simp)) λb u e=>?_
 .cases z:H2 b with
  |none=>rfl
  |some o=>
   rcases d b o z with e|⟨e,_⟩
   .rw[n]at e;cases e
   .exact Mr (Qg q e) _
 .rcases d b u e with e | ⟨_,e⟩
  .exact(JfP u e).stay (λc v x q=>f c v q) (λc q=>a _ _ q) λc xs q=>a _ _ q
  .exact e
def wG:∀ps:List Addr,bc (ps.map V.ref) (ps.map Value.ref)
 |[]=>.nil
 |_::ps=>.cons rfl (wG ps)
def tLZip (K:W.Frag)(e:TA):TE:=λσ H Q=>e σ H λvs d=>∃a b xs ys,vs=JC a b/\Mh d a xs/\Mh d b ys/\Mz ys.length/\∀H2 l (ps:List Addr),Uf (d l)->(∀c o,Xa (d c) o->Xa (H2 c) o)->Wa (H2 l) (ps.map V.ref)->
 (∀(j:Nat) x y,xs[j]?=some x->ys[j]?=some y->∃p,ps[j]?=some p/\Mh H2 p [x,y])->Jev ps.length->Uc l H2
def BV {a b:Expr}{N:TA}{p p2 d g:Pos}(hc:Xh X.calm)(hg:Jg9 "zip")(hm:UG "zip")(G:Jg9 "list")(F:UG "list")(ha:PA X [a,b] N)
  (hs:Vb [a,b]=[(false,Vc a,),(false,Vc b,)]:=by rfl)(A:Vb [b]=[(false,Vc b,)]:=by rfl)
  (w:Vb [J7 "zip" p [a,b] d]=[(false,Vc (J7 "zip" p [a,b] d),)]:=by rfl):
  PE X (J7 "list" p2 [J7 "zip" p [a,b] d] g) (tLZip X.K N):=by
 intro pins s σ H Q I h;unfold tLZip at h;apply JaE I G F PyProof.Rows.Boot.list ?_ w rfl;rw[w];show JmJ (spliced ((false,Vc (J7 "zip" p [a,b] d),)::backTo g []));apply Calls.spliced_cons ?_;apply JaE I hg hm boot_zip (thn (ha d pins s σ H _ I h) λus f h_=>?_) (by rw[hs,A]) (by rw[A];rfl);let(vs,L,l,r1,q1):=h_;let(a,b,xs,ys,e,hq,E,hl,q):=q1;subst e;let(u,v,rfl,ru,B):=r1.two;cases ru;cases B;let(C,O,pl,hz):=l.tuple hq;let(t,r,i,hz2):=l.tuple E;let la:N9 a:=by let(o,e,_):=pl;exact hLq e
 let lb:N9 b:=by let(o,e,_):=i;exact hLq e
 let l1:=O.length;let l2:=r.length;apply Bj (show f.heap.IsTuple a C.toArray from pl) (show f.heap.IsTuple b t.toArray from i) λh' h1 h2 h3 h4 h5 D U=>?_;apply Calls.spliced_nil ?_;apply BU (s:={ f with heap:=h' }) (a:=a) (b:=b) (l.ok.hd hc) O r (by lia) D h1 (λk k2 ln=>?_) λk ps cn J kp hS pl P=>?_
 .let T:∀{c:Addr} {zs:Array Value},f.heap.IsTuple c zs->k.IsTuple c zs:=λ(o,e1,e2)=>J8 (k2 _ _ (U _ _ e1)) e2;exact(by simp;lia,la,lb,ln,(_,_,k2 _ _ h1,.inl rfl),k2 _ _ h2,W7 _ (k2 _ _ h3),(h4.at λo e=>k2 _ o e,T pl),h5.at λo e=>k2 _ o e,T i)
 generalize Z:f.heap.objs.size=n at *
 letI H2:Hp:=λc=>if c=n+5 then JfT (ps.map V.ref) else(J c <|> L c)
 let hJ:∀{c o},Xa (J c) o->H2 c=some o:=λ{c o} e=>by
  have:=(P.is c o e).1;show(if c=n+5 then _ else _)=_
  rw[if_neg (Nat.ne_of_gt this),e];rfl
 let M:∀c o,Xa (L c) o->H2 c=some o:=λc o e=>by
  let S:c<n:=Z▸l.hok.lt e;let nj:Uf (J c):=by
   cases z:J c with
   |none=>rfl
   |some R=>exact absurd (P.is c R z).1 (Nat.not_lt_of_lt (Nat.lt_of_lt_of_le S (JH _)))
  show(if c=n+5 then _ else _)=_
  rw[if_neg (Nat.ne_of_lt (Nat.lt_of_lt_of_le S (JH _))),nj];exact e
 apply Wt (n+5) H2 (Inv.grow (s:=f) (h':=k) (t':=f.toks) l (λc o e=>kp c o (Z▸hLq e) (U c o e)) M λc o e=>?_) (q H2 (n+5) ps (l.hok.fresh (by lia)) M (if_pos rfl) (λj x y W hy=>?_) (by lia))
 .by_cases ec:c=n+5
  .subst ec;rw[show Wa (H2 (n+5)) (ps.map V.ref) from if_pos rfl]at e;cases e;exact J6 (by lia) (by rw[lM];lia) (ps.map Value.ref) cn (wG ps) hS
  .rw[show H2 c=(J c <|> L c) from if_neg ec]at e;cases z:J c with
   |none=>
    rw[z]at e;exact .inl e
   |some R=>
    rw[z]at e;cases e;let(g0,x,y,ux,uy,rfl,g3,g4,g5):=P.is c _ z;exact .inr (by lia,VR (show Jt 2 by decide),[ux,uy],WL g3 g4,_,g5,rfl,_,rfl)
 .let lj:j<ps.length:=by have:=(gEq W).1;lia
  let Y:=gG lj;let(x',y',k1,k2,k3):=P.at_ j _ Y;rw[W]at k1;rw[hy]at k2;cases k1;cases k2;exact W7 Y (UZ (hJ k3))
end
end L2
namespace L2
open PySem
structure Two (F O H):Prop where
 f:ap F H
 o:ap O H
 d:∀b,JkS (O b)->Uf (F b)
def Two.own (T:Jj6 F){a:Addr}(h:JkS (O a))(u):Two F (Jj9 O) (JfC u):=by
 apply(λb o e=>?_,λb o e=>?_,λb e=>?_)
 .rw[aq (λz=>by rw[z,T.d a h]at e;cases e)];exact T.f b o e
 .by_cases z:b=a
  .rw[z,ao]at e⊢;exact e
  .rw[aq z]at e⊢;exact T.o b o e
 .by_cases z:b=a
  .rw[z];exact T.d a h
  .rw[aq z]at e;exact T.d b e
def Two.newO (T:Jj6 F){a:Addr}(h:Gf a)(u):Two F (Jj9 O) (JfC u):=by
 let c:Uf (F a):=by
  cases e:F a with
  |none=>rfl
  |some o=>rw[T.f a o e]at h;cases h
 apply(λb o e=>?_,λb o e=>?_,λb e=>?_)
 .rw[aq (λz=>by rw[z,c]at e;cases e)];exact T.f b o e
 .by_cases z:b=a
  .rw[z,ao]at e⊢;exact e
  .rw[aq z]at e⊢;exact T.o b o e
 .by_cases z:b=a
  .rw[z];exact c
  .rw[aq z]at e;exact T.d b e
def Two.swap (T:Jj6 F):Two O F H:=(T.o,T.f,λb e=>by
 cases h:O b with
 |none=>rfl
 |some o=>exact absurd (T.d b (by rw[h];exact λz=>nomatch z)) e)
def Two.frm (T:Jj6 F){a:Addr}(h:JkS (F a))(u):Jhb (Jj9 F) (JfC u):=(T.swap.own h u).swap
def Two.newF (T:Jj6 F){a:Addr}(h:Gf a)(u):Jhb (Jj9 F) (JfC u):=(T.swap.newO h u).swap
def Two.base (T:Jj6 F)(s:ap F0 F):Jj6 F0:=(s.trans T.f,T.o,λb e=>by
 cases h:F0 b with
 |none=>rfl
 |some o=>have:=s b o h;rw[T.d b e]at this;cases this)
def Two.none (T:Jj6 F){a:Addr}(h:JcX (H a)):JcX (O a)/\JcX (F a):=by
 constructor
 .cases e:O a with
  |none=>rfl
  |some o=>rw[T.o a o e]at h;cases h
 .cases e:F a with
  |none=>rfl
  |some o=>rw[T.f a o e]at h;cases h
def bj.oth (h:Gc a u)(n:∀xs,Jm4 u xs)(d:∀q xs,u≠.frz q (.tup xs)):J4 (JfC o):=λb zs q=>by
 let c:b≠a:=λz=>by
  rw[z]at q;rcases q with q|⟨w,q⟩<;>rw[h]at q<;>injection q with q
  .exact n _ q
  .exact d _ _ q
 unfold Rd at q⊢;rw[aq c];exact q
def wH (kvs)(k:Key)(v):(k∈kvs.map Prod.fst/\(YL k v).map Prod.fst=kvs.map Prod.fst)\/(k∉kvs.map Prod.fst/\(YL k v).map Prod.fst=kvs.map Prod.fst++[k]):=by
 unfold zaz;by_cases c:Xh (kvs.any (λb=>decide (b.1=k)))
 .rw[if_pos c];let(x,a,e):=List.any_eq_true.mp c;apply Uh (Vd x a (oDq e)) ?_;rw[List.map_map];apply List.map_congr_left λy w=>?_;simp only[Function.comp_apply];split<;>simp_all
 .rw[if_neg c];apply Yg (λz=>?_) (by rw[mAq];rfl);let(x,a,e):=List.mem_map.mp z;exact c (UY x a (dTq e))
structure DI (kvs:WT Key)(g:JdZ V):Prop where
 nd:(kvs.map Prod.fst).Nodup
 ks:∀k∈kvs.map Prod.fst,∃m:Int,XP k m/\-100<=m/\JdP m
 val:∀p:Int,I0 p=g p
def DI.nil:DI [] λx=>none:=(List.Pairwise.nil,λk h=>(nomatch h),λx=>rfl)
def DI.put (h:DI kvs g){p:Int}(f:-100<=p/\JdP p)(v):DI (WE kvs p v) λx=>if x=p then some v else g x:=by
 apply(?_,λk d=>?_,λx=>?_)
 .rcases wH kvs _ v with ⟨c,e⟩ | ⟨c,e⟩ <;> rw[e]
  .exact h.nd
  .exact Ja_ h.nd (λa j b i e=>c (by rw[mSq i]at e;rw[<-e];exact j))
 .rcases wH kvs _ v with ⟨c,e⟩ | ⟨c,e⟩ <;> rw[e]at d
  .exact h.ks k d
  .rcases mPq d with z | z
   .exact h.ks k z
   .exact(p,mSq z,f)
 .rw[gW,h.val];by_cases e:x=p
  .rw[if_pos (by rw[e]),if_pos e]
  .rw[if_neg (λz=>JfM z),if_neg e]
def DI.drop (h:DI kvs g)(p):DI (QB kvs p) λx=>if x=p then none else g x:=by
 let sub:((QB kvs p).map Prod.fst).Sublist _:=List.Sublist.map _ List.filter_sublist;apply(h.nd.sublist sub,λk a=>h.ks k (sub.subset a),λx=>?_);rw[vF,h.val];by_cases e:x=p
 .rw[if_pos (by rw[e]),if_pos e]
 .rw[if_neg (λz=>JfM z),if_neg e]
noncomputable def keyI:Key->Int
 |.inl m=>m+100
 |.inr _=>0
def DI.len (h:DI kvs g):WP 200000:=by
 have:=gv 200000 (xs:=(kvs.map Prod.fst).map keyI) ?_ ?_
 .rw[lM,lM]at this;exact this
 .apply List.pairwise_map.mpr (h.nd.imp_of_mem λ{x y} a c e z=>e ?_);let(m,rfl,_):=h.ks x a;let(b,rfl,_):=h.ks y c;let f:m+100=b+100:=z;rw[show m=b by lia]
 .intro x a;let(k,d,rfl):=List.mem_map.mp a;let(m,rfl,j,i):=h.ks k d;show 0<=m+100/\m+100<_;lia
structure HA where
 h:Addr
 dx:Addr
 kn:Addr
 pp:Addr
 tr:Addr
 hd:Addr
 bg:Addr
 wd:Addr
 wg:Addr
 od:Addr
 lt:Addr
noncomputable def HA.st (A:HA):List Addr:=[A.h,A.kn,A.pp,A.tr,A.hd,A.bg,A.wd,A.wg,A.od,A.lt]
noncomputable def zby (A:HA)(b:Addr)(a:Int)(c:Nat):WT Str:=[("problem",.ref b,),("most",.int a,),("known",.ref A.kn,),("paper",.ref A.pp,),("trail",.ref A.tr,),("held",.ref A.hd,),("looked",.int c,),("begins",.ref A.bg,),("watched",.ref A.wd,),("watching",.ref A.wg,),("order",.ref A.od,),("lately",.ref A.lt,)]
structure HC where
 xs:List V
 ys:List V
 zs:List V
 kh:WT Key
 kw:WT Key
 gw:JdZ V
 kg:WT Key
 gg:JdZ V
 kl:WT Key
def gD (C:Addr)(A:HA)(b:Addr)(a:Int)(S:HS)(R:HC):List HO:=[Q6 C (zby A b a S.lk),.lst R.xs,.lst R.ys,.lst R.zs,.dK R.kh,.lst (S.bs.map V.int),.dK R.kw,.dK R.kg,.lst (S.od.map V.int),.dK R.kl]
inductive WdR (K)(H):Option V->Option (Iz Int)->Prop
 |no:WdR K H none none
 |is {q:Addr} {a b:Int}:Nw q (Qr a b)->WdR K H (Ja q) (some (a,b,))
inductive WgR (O:Hp)(A:HA)(gg:JdZ V)(c):List Int->Prop
 |no:Uf (gg c)->WgR O A gg c []
 |is {l:Addr} {ns:List Int}:gg c=Ja l->Wa (O l) (ns.map V.int)->l∉A.st->(∀c',gg c'=Ja l->c'=c)->WgR O A gg c ns
def gH (hs:List Int):Int->Option V:=λp=>if p∈hs then some (.bl true) else none
structure HuO (K)(C)(O H:Hp)(A:HA)(pr)(most)(S)(hs)(R):Prop where
 nd:A.st.Nodup
 at_:∀(i:Nat) (a) (o),A.st[i]?=some a->(Ji9 C A S R)[i]?=some o->Xa (O a) o
 kn:Xu (S.rs.map zcM) R.xs
 pp:Xu S.pp R.ys
 pn:WU S.pp
 tr:Xu (S.ts.map dP) R.zs
 hd:DI R.kh (gH hs)
 wd:DI R.kw R.gw
 wr:∀r,WdR K H (R.gw r) (S.wt r)
 wg:DI R.kg R.gg
 gr:∀c,WgR O A R.gg c (S.wg c)
 lt:DI R.kl λa=>(S.la a).map V.int
def NTup (o:HO):Prop:=(∀xs,Jm4 o xs)/\∀q xs,o≠.frz q (.tup xs)
def NoT (O:Hp):Prop:=∀b o,Xa (O b) o->NTup o
def NoT.upd (h:NoT O){a:Addr}{u:HO}(n:NTup u):NoT (Jj9 O):=λb o e=>by
 by_cases z:b=a
 .rw[z,ao]at e;injection e with e;exact e▸n
 .rw[aq z]at e;exact h b o e
structure Hu (K)(C)(F O H)(A)(pr)(most)(S)(hs)(R):Prop where
 n:NoT O
 t:Jj6 F
 u:HuO K C O H A pr most S hs R
def at_upd {g:List Addr}{k:List HO}{O:Hp}(l:g.Nodup)(h:∀(i:Nat) a o,g[i]?=some a->k[i]?=some o->Xa (O a) o){i:Nat}{a:Addr}{u:HO}(d:g[i]?=some a):
  ∀(j:Nat) b o,g[j]?=some b->(k.set i u)[j]?=some o->upd O a u b=some o:=by
 intro j b o f c;rw[List.getElem?_set]at c;by_cases e:i=j
 .rw[if_pos e]at c;split at c
  .rw[e,f]at d;injection d with d;injection c with c;rw[d,c,ao]
  .cases c
 .rw[if_neg e]at c;let n:b≠a:=λz=>by rw[z]at f;let q:=(gEq d);let p:=(gEq f);exact e ((List.getElem_inj l).mp (q.2.trans p.2.symm))
  rw[aq n];exact h j b o f c
def WdR.keep (k:J4 H')(h:WdR K H g p):WdR K H' g p:=by
 cases h with
 |no=>exact .no
 |is h=>exact .is (k.sq h)
def WgR.upd (h:WgR O A gg c ns)(g:a∈A.st\/Uf (O a))(i:∀l∈A'.st,l∈A.st\/Uf (O l)):WgR (Jj9 O) A' gg c ns:=by
 cases h with
 |no h=>exact .no h
 | @is l ns k b d j=>
  apply .is k ?_ (λz=>(i _ z).elim d λe=>by rw[b]at e;cases e) j;let f:l≠a:=λz=>g.elim (λq=>d (by rw[z];exact q)) λe=>by rw[<-z,b]at e;cases e
  rw[aq f];exact b
def Hu.heap (U:X1 F)(k:J4 H')(t:Jhb F' H'):VW F' H':=(U.n,t,{ U.u with kn:=U.u.kn.keep k (du _),pp:=U.u.pp.keep k U.u.pn,tr:=U.u.tr.keep k (cu _),wr:=λr=>(U.u.wr r).keep k })
def Hu.newF (U:X1 F){a:Addr}(h:Gf a)(u):VW (Jj9 F) (JfC u):=U.heap (bj.new h) (U.t.newF h u)
def Hu.base (U:X1 F)(s:ap F0 F):X1 F0:=(U.n,U.t.base s,U.u)
def Hu.frmL (U:X1 F){a:Addr}{xs:List V}(h:Wa (F a) xs)(u):VW (Jj9 F) (JfC u):=U.heap (bj.oth (U.t.f _ _ h) (λx z=>nomatch z) λx x z=>nomatch z) (U.t.frm (by rw[h];exact λz=>nomatch z) u)
def Hu.at' (U:X1 F)(i:Nat){a:Addr}{o:HO}(c:A.st[i]?=some a)(b:(Ji9 C A S R)[i]?=some o):H a=some o:=U.t.o _ _ (JiK a o c b)
def Hu.ins (U:X1 F):H A.h=some (JmN C A):=V7 0
def Hu.set (U:X1 F)(i){a:Addr}{o u:HO}(d:A.st[i]?=some a)(p:(Ji9 C A S R)[i]?=some o)(n:∀xs,Jm4 o xs)(h:∀q xs,o≠.frz q (.tup xs))(g:NTup u):
  NoT (Jj9 O)/\Two F (Jj9 O) (JfC u)/\J4 (JfC u)/\(∀(j:Nat) b e,A.st[j]?=some b->((Ji9 C A S R).set i u)[j]?=some e->Xa (upd O a u b) e)/\∀c,WgR (Jj9 O) A R.gg c (S.wg c):=by let f:=JiK a o d p;apply(U.n.upd g,U.t.own (by rw[f];exact λz=>nomatch z) u,bj.oth (U.t.o _ _ f) n h,at_upd U.u.nd U.u.at_ d,λc=>(U.u.gr c).upd (.inl (mO d)) λl k=>.inl k)
def cB:(∀ys,Jm4 (HO.lst xs) ys)/\∀q ys,HO.lst xs≠.frz q (.tup ys):=(λx z=>(nomatch z),λx x z=>(nomatch z))
def dc:(∀ys,Jm4 (HO.dK xs) ys)/\∀q ys,HO.dK xs≠.frz q (.tup ys):=(λx z=>(nomatch z),λx x z=>(nomatch z))
def gJ:(∀ys,Jm4 (HO.ins C dx fs) ys)/\∀q ys,HO.ins C dx fs≠.frz q (.tup ys):=(λx z=>(nomatch z),λx x z=>(nomatch z))
def Hu.setTr (U:X1 F){ts:List (Iz Int)}{zs:List V}(h:QC dP zs):VO F (Qa O A.tr zs) (QZ A.tr zs) { S with ts:=ts } { R with zs:=zs }:=by let(b,t,k,a,g):=JkF 3 cB.1 cB.2 cB;exact(b,t,U.u.nd,a,Qw k _,Ur k,U.u.pn,h.keep k (cu _),U.u.hd,U.u.wd,λr=>(U.u.wr r).keep k,U.u.wg,g,U.u.lt)
def Hu.setHd (U:X1 F){kh:List (Jce V)}{hs':List Int}(h:DI kh (gH hs')):MA F (Qc O A.hd kh) (Qc H A.hd kh) A S hs' { R with kh:=kh }:=by let(b,t,k,a,g):=JkF 4 dc.1 dc.2 dc;exact(b,t,U.u.nd,a,Qw k _,Ur k,U.u.pn,JA k _,h,U.u.wd,λr=>(U.u.wr r).keep k,U.u.wg,g,U.u.lt)
def Hu.setBg (U:X1 F)(bs):UU F (Qa O A.bg (bs.map V.int)) (QZ A.bg (bs.map V.int)) { S with bs:=bs }:=by let(b,t,k,a,g):=JkF 5 cB.1 cB.2 cB;exact(b,t,U.u.nd,a,Qw k _,Ur k,U.u.pn,JA k _,U.u.hd,U.u.wd,λr=>(U.u.wr r).keep k,U.u.wg,g,U.u.lt)
def Hu.setKn (U:X1 F){rs:List (List Int)}{xs:List V}(h:VQ (rs.map zcM)):VO F (Qa O A.kn xs) (QZ A.kn xs) { S with rs:=rs } { R with xs:=xs }:=by let(b,t,k,a,g):=JkF 1 cB.1 cB.2 cB;exact(b,t,U.u.nd,a,h.keep k (du _),Ur k,U.u.pn,JA k _,U.u.hd,U.u.wd,λr=>(U.u.wr r).keep k,U.u.wg,g,U.u.lt)
def Hu.setPp (U:X1 F){pp:List Dt}{ys:List V}(h:Xu pp ys)(n:WU pp):VO F (Qa O A.pp ys) (QZ A.pp ys) { S with pp:=pp } { R with ys:=ys }:=by let(b,t,k,a,g):=JkF 2 cB.1 cB.2 cB;exact(b,t,U.u.nd,a,Qw k _,h.keep k n,n,JA k _,U.u.hd,U.u.wd,λr=>(U.u.wr r).keep k,U.u.wg,g,U.u.lt)
def Hu.setWd (U:X1 F){r:Int}(c:-100<=r/\JdP r){q:Addr}{x y:Int}(d:Nw q (Qr x y)):VO F (Qc O A.wd (WE R.kw r (.ref q))) (Qc H A.wd (WE R.kw r (.ref q))) (Jh3 x y) { R with kw:=zaz R.kw (Sum.inl r) (.ref q),gw:=λz=>if z=r then some (.ref q) else R.gw z }:=by
 let(b,t,k,a,g):=JkF 6 dc.1 dc.2 dc;apply(b,t,U.u.nd,a,Qw k _,Ur k,U.u.pn,JA k _,U.u.hd,U.u.wd.put c _,λz=>?_,U.u.wg,g,U.u.lt);show WdR K _ (if z=r then Ja q else R.gw z) (if z=r then some (x,y,) else S.wt z)
 by_cases e:z=r
 .rw[if_pos e,if_pos e];exact .is (k.sq d)
 .rw[if_neg e,if_neg e];exact(U.u.wr z).keep k
def Hu.setLt (U:X1 F){c:Int}(d:-100<=c/\JdP c)(x):VO F (Qc O A.lt (WE R.kl c (.int x))) (Qc H A.lt (WE R.kl c (.int x))) { S with la:=λz=>if z=c then some x else S.la z } { R with kl:=zaz R.kl (Sum.inl c) (.int x) }:=by
 let(b,t,k,a,g):=JkF 9 dc.1 dc.2 dc;apply(b,t,U.u.nd,a,Qw k _,Ur k,U.u.pn,JA k _,U.u.hd,U.u.wd,λr=>(U.u.wr r).keep k,U.u.wg,g,?_);let e:(λz=>(if z=c then some x else S.la z).map V.int)=λz=>if z=c then Ya x else(S.la z).map V.int:=by funext z;split<;>rfl
 rw[e];exact U.u.lt.put d _
def Hu.setLk (U:X1 F)(n):UU F (upd O A.h (JfJ C A n)) (Gk A.h (JfJ C A n)) { S with lk:=n }:=by let(b,t,k,a,g):=JkF 0 gJ.1 gJ.2 gJ;exact(b,t,U.u.nd,a,Qw k _,Ur k,U.u.pn,JA k _,U.u.hd,U.u.wd,λr=>(U.u.wr r).keep k,U.u.wg,g,U.u.lt)
def Two.take (T:Jj6 F){n:Addr}{o:HO}(h:Xa (F n) o)(h0:JcX (F0 n))(s:ap F0 F):Two F0 (upd O n o) H:=by
 apply(s.trans T.f,λb u e=>?_,λb e=>?_)
 .by_cases z:b=n
  .rw[z,ao]at e;rw[z,<-e];exact T.f _ _ h
  .rw[aq z]at e;exact T.o b u e
 .by_cases z:b=n
  .rw[z];exact h0
  .rw[aq z]at e;exact(T.base s).d b e
def wI {b:Type}{L:List b}(c:L.Nodup){i j:Nat}{a:b}(g:L[i]?=some a)(f:L[j]?=some a):i=j:=by let e:=gEq g;let d:=gEq f;exact(List.getElem_inj c).mp (e.2.trans d.2.symm)
theorem qB:∀{L:List α} {i:Nat},L.Nodup->n∉L->(L.set i n).Nodup
 |[],_,a,_=>a
 |x::L,0,a,h=>JZ (λz=>h (Jb z)) ((List.nodup_cons.mp a).2)
 |x::L,i+1,a,h=>by
  apply JZ (λz=>?_) (qB (List.nodup_cons.mp a).2 λz=>h (Jb z));rcases List.mem_or_eq_of_mem_set z with z|z
  .exact(List.nodup_cons.mp a).1 z
  .exact h (z▸List.mem_cons_self)
def Hu.oN (U:X1 F){n:Addr}{o:HO}(h:Xa (F n) o):Uf (O n):=by
 cases e:O n with
 |none=>rfl
 |some u=>have:=U.t.d n (by rw[e];exact λz=>nomatch z);rw[h]at this;cases this
def HuO.stO (U:HuO K C O H A pr most S hs R){n:Addr}(h:Uf (O n)):n∉A.st:=λz=>by let(i,a):=List.getElem?_of_mem z;let b:=(gEq a).1;have:=U.at_ i n _ a (gG (show i<(Ji9 C A S R).length from b));rw[h]at this;cases this
def Hu.give (U:X1 F){n:Addr}{c:Int}{ns:List Int}(E:-100<=c/\JdP c)(h:Wa (F n) (ns.map V.int))(h0:Uf (F0 n))(s:ap F0 F):
  ∃M x,VO F0 M (Qc H A.wg (WE R.kg c (.ref n))) (S.setG c ns) x/\(x.gg=λz=>if z=c then Ja n else R.gg z)/\x.xs=R.xs:=by
 let v:=U.oN h;let j:=U.u.stO v;let L:=U.t.take h h0 s;let J:QW F0 (Qa O n (ns.map V.int)) H:=by apply(U.n.upd cB,L,U.u.nd,λi a o b p=>?_,U.u.kn,U.u.pp,U.u.pn,U.u.tr,U.u.hd,U.u.wd,U.u.wr,U.u.wg,λc=>(U.u.gr c).upd (.inr v) λl D=>.inl D,U.u.lt);let w:a≠n:=λz=>j (z▸mO b);rw[aq w];exact JiK a o b p
 let(y,t,k,a,g):=J.set 7 rfl rfl dc.1 dc.2 dc;apply Jh _ { R with kg:=zaz R.kg _ _,gg:=λz=>if z=c then some _ else R.gg z } (y,t,U.u.nd,a,Qw k _,Ur k,U.u.pn,JA k _,U.u.hd,U.u.wd,λr=>(U.u.wr r).keep k,U.u.wg.put E _,λz=>?_,U.u.lt) rfl
 let f:∀z,R.gg z≠some (.ref n):=λz e=>by
  have:=U.u.gr z;generalize S.wg z=B at this;cases this with
  |no h=>rw[h]at e;cases e
  |is b p _ _=>
   rw[e]at b;injection b with b;injection b with b;rw[<-b,v]at p;cases p
 show WgR _ A (λz=>if z=c then Ja n else R.gg z) z (if z=c then ns else S.wg z)
 by_cases e:z=c
 .rw[if_pos e];apply .is (by show(if z=c then _ else _)=_;rw[if_pos e]) ?_ j λd h'=>?_
  .let w:n≠A.wg:=λq=>j (q▸mO (i:=7) rfl);rw[aq w,ao]
  .let h':=h'
   by_cases q:d=c
   .rw[q,e]
   .rw[if_neg q]at h';exact absurd h' (f d)
 .rw[if_neg e];let g':=g z;generalize S.wg z=B at g';cases g' with
  |no h=>exact .no (by show(if z=c then _ else _)=_;rw[if_neg e];exact h)
  | @is l _ b p I G=>
   apply .is (by show(if z=c then _ else _)=_;rw[if_neg e];exact b) p I λd h'=>?_
   let h':=h'
   by_cases q:d=c
   .rw[if_pos q]at h';injection h' with h';injection h' with h';rw[<-h']at b;exact absurd b (f z)
   .rw[if_neg q]at h';exact G d h'
def Hu.addL (U:X1 F){l:Addr}{c:Int}(h:R.gg c=Ja l)(r):Uo l ((S.wg c).map V.int)∧Hu K C F (Qa O l ((Jft c [r]).map V.int)) (QZ l ((Jft c [r]).map V.int)) A pr most (S.addG c r) hs R:=by
 let g:=U.u.gr c;generalize I:S.wg c=G at g;cases g with
 |no h'=>rw[h]at h';cases h'
 | @is j _ b w v s =>
  rw[h]at b;injection b with b;injection b with b;subst b;let p:=U.t.o _ _ w;let k:=bj.oth (o:=.lst ((G++[r]).map V.int)) p cB.1 cB.2;apply(p,U.n.upd cB,U.t.own (by rw[w];exact λz=>nomatch z) _,U.u.nd,λi a o x J=>?_,Qw k _,Ur k,U.u.pn,JA k _,U.u.hd,U.u.wd,λr=>(U.u.wr r).keep k,U.u.wg,λz=>?_,U.u.lt)
  .let d:a≠l:=λz=>v (z▸mO x);rw[aq d];exact JiK a o x J
  .show WgR _ A R.gg z (if z=c then Jft z [r] else S.wg z)
   by_cases e:z=c
   .rw[if_pos e,e,I];exact .is h ao v s
   .rw[if_neg e];let g:=U.u.gr z;generalize S.wg z=E at g;cases g with
    |no h'=>exact .no h'
    | @is j _ f D B y=>
     apply .is f ?_ B y;let d:j≠l:=λq=>e (s z (q▸f));rw[aq d];exact D
def Hu.gg0 (U:X1 F){c:Int}(h:Uf (R.gg c)):S.wg c=[]:=by
 let g:=U.u.gr c;generalize S.wg c=b at g;cases g with
 |no _=>rfl
 |is a _ _ _=>rw[h]at a;cases a
def Hu.gg1 (U:X1 F){c:Int}{v:V}(h:Xa (R.gg c) v):∃l,Xl v l/\H l=some (.lst ((S.wg c).map V.int)):=by
 let g:=U.u.gr c;generalize S.wg c=d at g;cases g with
 |no h'=>rw[h]at h';cases h'
 | @is l _ a b _ _=>
  rw[h]at a;injection a with a;exact(l,a,U.t.o _ _ b)
def Hu.moveTr {x:Hp}(U:X1 F){n:Addr}{ts:List (Iz Int)}{zs:List V}(h:Wa (F n) zs)(hz:QC dP zs)(h0:Uf (x n))(s:ap x F):
  ∃I,Hu K C x I (Gk A.h (JmN C { A with tr:=n })) { A with tr:=n } pr most { S with ts:=ts } hs { R with zs:=zs }:=by
 let g:=U.oN h;let b:=U.u.stO g;let B:=U.u.at_ 0 _ _ rfl rfl;let y:n≠A.h:=λz=>b (z▸mO (i:=0) rfl);let k:=bj.oth (o:=JmN C { A with tr:=n }) U.ins gJ.1 gJ.2;let j:({ A with tr:=n }:HA).st.Nodup:=by let e:({ A with tr:=n }:HA).st=A.st.set 3 n:=rfl;rw[e];exact qB U.u.nd b
 apply(_,(U.n.upd cB).upd gJ,(U.t.take h h0 s).own (by rw[JJ y,B];exact λz=>nomatch z) _,j,λi a o f d=>?_,Qw k _,Ur k,U.u.pn,hz.keep k (cu _),U.u.hd,U.u.wd,λr=>(U.u.wr r).keep k,U.u.wg,λz=>?_,U.u.lt)
 .by_cases q:i=0
  .subst q;cases f;cases d;exact ao
  by_cases p:i=3
  .subst p;cases f;cases d;rw[aq y,ao]
  let c:A.st[i]?=some a:=by let e:({ A with tr:=n }:HA).st=A.st.set 3 n:=rfl;rw[e,List.getElem?_set_ne (Ne.symm p)]at f;exact f
  let w:(Ji9 C A S R)[i]?=some o:=by let e:Ji9 C { A with tr:=n } { S with ts:=ts } { R with zs:=zs }=((Ji9 C A S R).set 3 _).set 0 _:=rfl;rw[e,List.getElem?_set_ne (Ne.symm q),List.getElem?_set_ne (Ne.symm p)]at d;exact d
  let G:a≠A.h:=λz=>q (wI U.u.nd c (show A.st[0]?=some a by rw[z];rfl));let E:a≠n:=λz=>b (z▸mO c);rw[aq G,aq E];exact JiK a o c w
 .let D:=(U.u.gr z).upd (u:=.lst zs) (.inr g) (A':={ A with tr:=n }) λl v=>(List.mem_or_eq_of_mem_set (i:=3) v).imp id λe=>by rw[e];exact g
  exact D.upd (.inl (mO (i:=0) rfl)) λl v=>.inl v
def Hu.moveOd {x:Hp}(U:X1 F){n:Addr}{od:List Int}(h:Wa (F n) (od.map V.int))(h0:Uf (x n))(s:ap x F):
  ∃I,Hu K C x I (Gk A.h (JmN C { A with od:=n })) { A with od:=n } pr most { S with od:=od } hs R:=by
 let g:=U.oN h;let b:=U.u.stO g;let B:=U.u.at_ 0 _ _ rfl rfl;let y:n≠A.h:=λz=>b (z▸mO (i:=0) rfl);let k:=bj.oth (o:=JmN C { A with od:=n }) U.ins gJ.1 gJ.2;let j:({ A with od:=n }:HA).st.Nodup:=by let e:({ A with od:=n }:HA).st=A.st.set 8 n:=rfl;rw[e];exact qB U.u.nd b
 apply(_,(U.n.upd cB).upd gJ,(U.t.take h h0 s).own (by rw[JJ y,B];exact λz=>nomatch z) _,j,λi a o f d=>?_,Qw k _,Ur k,U.u.pn,JA k _,U.u.hd,U.u.wd,λr=>(U.u.wr r).keep k,U.u.wg,λz=>?_,U.u.lt)
 .by_cases q:i=0
  .subst q;cases f;cases d;exact ao
  by_cases p:i=8
  .subst p;cases f;cases d;rw[aq y,ao]
  let c:A.st[i]?=some a:=by let e:({ A with od:=n }:HA).st=A.st.set 8 n:=rfl;rw[e,List.getElem?_set_ne (Ne.symm p)]at f;exact f
  let w:(Ji9 C A S R)[i]?=some o:=by let e:Ji9 C { A with od:=n } { S with od:=od } R=((Ji9 C A S R).set 8 _).set 0 _:=rfl;rw[e,List.getElem?_set_ne (Ne.symm q),List.getElem?_set_ne (Ne.symm p)]at d;exact d
  let G:a≠A.h:=λz=>q (wI U.u.nd c (show A.st[0]?=some a by rw[z];rfl));let E:a≠n:=λz=>b (z▸mO c);rw[aq G,aq E];exact JiK a o c w
 .let D:=(U.u.gr z).upd (u:=.lst (od.map V.int)) (.inr g) (A':={ A with od:=n }) λl v=>(List.mem_or_eq_of_mem_set (i:=8) v).imp id λe=>by rw[e];exact g
  exact D.upd (.inl (mO (i:=0) rfl)) λl v=>.inl v
def HS.setG_self {S:HS}{c:Int}{ns:List Int}(h:S.wg c=ns):S.setG c ns=S:=by
 have:(λx=>if x=c then ns else S.wg x)=S.wg:=by
  funext x;by_cases e:x=c
  .rw[if_pos e,e,h]
  .rw[if_neg e]
 unfold HS.setG;rw[this]
def BY (hs)(p):(λx=>if x=p then some (V.bl true) else gH hs x)=gH (hs++[p]):=by
 funext x;unfold gH;by_cases e:x=p
 .rw[if_pos e,Jmp (by rw[e];exact List.mem_cons_self)]
 .rw[if_neg e];by_cases c:x∈hs
  .rw[if_pos c,Jmo c]
  .rw[if_neg c,if_neg (λz=>(mPq z).elim c λz=>e (mSq z))]
def iU (hs)(p):(gH hs p).isSome=decide (p∈hs):=by
 unfold gH;by_cases c:p∈hs
 .rw[if_pos c,dTq c];rfl
 .rw[if_neg c,dFq c];rfl
def dv (R a:HC):Prop:=(∀c v,Xa (R.gg c) v->Xa (a.gg c) v)/\a.xs=R.xs
def Hu.setd (U:X1 F){c r:Int}(x:-100<=c/\JdP c){e:Addr}(g:Gf e){Q:VK}
  (q:∀l d,Wa (d l) ((S.wg c).map V.int)->Iq (∃o b,VO F o (Qa d l ((Jft c [r]).map V.int)) (S.addG c r) b/\dv R b) l d):
  lL (.ref A.wg) (VH c e) (Jkr H) Q:=by
 let a:=U.newF g (.lst []);let j:=(U.t.none g).2;let f:ap F (Jkr F):=Wm j;apply JlX A.wg (Sum.inl c) (.ref e) R.kg (a.at' 7 rfl rfl) (hln U.u.wg.len) ?_;rw[U.u.wg.val];cases h:R.gg c with
 |some v=>
  let(l,rfl,w):=a.gg1 h;exact .inl (Yu (q l _ w (_,_,((a.addL h r).2).base f,Ye (λm m z=>z))))
 |none=>
  let s:=U.gg0 h;let(o,b,n,i,p):=a.give (ns:=[]) x ao j f;rw[HS.setG_self s]at n;let k:=n.addL (by rw[i];exact if_pos rfl) r;apply Jlj (q e _ k.1 (_,_,k.2,λz v hz=>?_,p));rw[i];show(if z=c then _ else _)=_
  rw[if_neg (λy=>by rw[y,h]at hz;cases hz)];exact hz
def Hu.same (U:X1 F)(s:Xd H):VW F H':=U.heap s.kt (U.t.f.trans s,U.t.o.trans s,U.t.d)
def Hu.more (U:X1 F)(s:Xd H){d:Addr}{o:HO}(h:Gf d)(c:Vk d o):VW (upd F d o) H':=by
 let a:=U.same s;apply(a.n,(λb u e=>?_,a.t.o,λb e=>?_),a.u)
 .by_cases z:b=d
  .rw[z,ao]at e;rw[z,<-e];exact c
  .rw[aq z]at e;exact a.t.f b u e
 .let g:b≠d:=λz=>e (by rw[z];exact(U.t.none h).1);rw[aq g];exact a.t.d b e
def Hu.tupF (U:X1 F){d:Addr}{o:HO}(a:Gc d o)(h:¬NTup o):ap F (upd F d o)/\Hu K C (upd F d o) O H A pr most S hs R:=by
 let od:Uf (O d):=by
  cases e:O d with
  |none=>rfl
  |some u=>have:=U.t.o _ _ e;rw[a]at this;injection this with this;exact absurd (U.n d u e) (this▸h)
 apply(λb u e=>?_,U.n,(λb u e=>?_,U.t.o,λb e=>?_),U.u)
 .by_cases z:b=d
  .have:=U.t.f _ _ e;rw[z,a]at this;rw[z,ao];exact this
  .rw[aq z];exact e
 .by_cases z:b=d
  .rw[z,ao]at e;rw[z,<-e];exact a
  .rw[aq z]at e;exact U.t.f b u e
 .let c:b≠d:=λz=>e (by rw[z];exact od);rw[aq c];exact U.t.d b e
def Hu.sqF (U:X1 F){d:Addr}{xs:List V}(h:Q7 d):∃b,ap F b/\X1 b/\SqT K b d xs:=by
 rcases h with (h|⟨q,h⟩)|h
 .let(s,a):=U.tupF h λz=>z.1 _ rfl;exact(_,s,a,UZ ao)
 .let(s,a):=U.tupF h λz=>z.2 _ _ rfl;exact(_,s,a,Jem q ao)
 .exact(F,ap.refl F,U,.inr h)
def Hu.held (U:X1 F)(p):bV H A.hd (.int p) (gH hs p):=by have:=bV.k (k:=Sum.inl p) (V7 4);rw[U.u.hd.val]at this;exact this
def Hu.hold (U:X1 F){q:Addr}{p y:Int}(e:-100<=p/\JdP p)(a:Gf q):
  ∃h c,MA F h (Qc (Jmv (Mb H q (Qr p y)) A.tr R.zs q) A.hd (WE R.kh p (.bl true))) A (S.hold p y) (hs++[p]) c/\dv R c:=by
 let b:=JhF a p y;let d:VB F F q (Qr p y):=Wm (U.t.none a).2;let g:=b.setTr (ts:=S.ts++[(p,y,)]) (zs:=Jmu R.zs q) (by rw[mAq];apply Wv b.u.tr ?_;exact of_dP (SqT.of ao))
 let f:=g.setHd (hs':=hs++[p]) (by rw[<-BY];exact U.u.hd.put e _);exact(_,_,f.base d,Ye (λx x z=>z))
section
variable {K:W.Frag} {h:Heap} {mg:Str->Option Value} {C f:Addr} {fd:FuncData} {n x q:Str} {st:Stmt} {oc kV doc pm cdv ct:Value} {od an:Option Addr} {osl:Array (Option Value)}
structure FT (K)(n x)(st)(f)(fd):Prop where
 a:Jcy K n f
 F:Ix x x st
 k:NW K f
def FT.m (z:FT K n x st f fd)(X:K.In h)(G:Jbx mg):mg n=some (.ref f):=W.mg_of X G z.a
def ft_in (a:Jcy K n f)(l:JcP f oc od (X9 x x st (zas st) (ai st) .none kV doc pm an cdv ct) osl)(c:Jff K cdv x)(k:NW K f):FT K n x st f (X9 x x st (zas st) (ai st) .none kV doc pm an cdv ct):=(a,uX l c k,k)
structure FM (K)(C)(x q)(st)(f)(fd):Prop where
 a:Jlc (Ji K C x) f
 i:Xh (W.isFn K (.ref f))
 F:Ix x q st
 k:NW K f
def FM.M (z:FM K C x q st f fd):JP x f:=(z.a,z.i,z.k)
def fm_in (a:Jlc (Ji K C x) f)(i:Xh (W.isFn K (.ref f)))(l:JcP f oc od (X9 x q st (zas st) (ai st) .none kV doc pm an cdv ct) osl)(c:Jff K cdv q)(k:NW K f):FM K C x q st f (X9 x q st (zas st) (ai st) .none kV doc pm an cdv ct):=(a,i,uX l c k,k)
abbrev Bd (x q:Str)(st:Stmt)(ps:List Str)(us:List Value):Prop:=∀kV doc pm an cdv ct,JnC (JbQ (X9 x q st (zas st) (ai st) .none kV doc pm an cdv ct) us) us
def Fun.b1 (F:Ix x q st)(h:∀a,Bd x q st [p] [a]):JiU fd p:=F.binds λkV doc pm an cdv ct us b=>by rcases us with _|⟨_,_|_⟩<;>first|exact h _ kV doc pm an cdv ct|cases b
def Fun.b2 (F:Ix x q st)(h:∀a b,Bd x q st [p,p2] [a,b]):Uj fd [p,p2]:=F.binds λkV doc pm an cdv ct us c=>by rcases us with _|⟨_,_|⟨_,_|_⟩⟩<;>first|exact h _ _ kV doc pm an cdv ct|cases c
def Fun.b3 (F:Ix x q st)(h:∀a b c,Bd x q st [p,p2,p3] [a,b,c]):Uj fd [p,p2,p3]:=F.binds λkV doc pm an cdv ct us d=>by rcases us with _|⟨_,_|⟨_,_|⟨_,_|_⟩⟩⟩<;>first|exact h _ _ _ kV doc pm an cdv ct|cases d
def Fun.b4 (F:Ix x q st)(h:∀a b c d,Bd x q st [p,p2,p3,p4] [a,b,c,d]):Uj fd [p,p2,p3,p4]:=F.binds λkV doc pm an cdv ct us e=>by rcases us with _|⟨_,_|⟨_,_|⟨_,_|⟨_,_|_⟩⟩⟩⟩<;>first|exact h _ _ _ _ kV doc pm an cdv ct|cases e
def Fun.b5 (F:Ix x q st)(h:∀a b c d e,Bd x q st [p,p2,p3,p4,p5] [a,b,c,d,e]):Uj fd [p,p2,p3,p4,p5]:=F.binds λkV doc pm an cdv ct us g=>by rcases us with _|⟨_,_|⟨_,_|⟨_,_|⟨_,_|⟨_,_|_⟩⟩⟩⟩⟩<;>first|exact h _ _ _ _ _ kV doc pm an cdv ct|cases g
def Fun.top (F:Ix x q st)(h:∀a,Bd x q st [p] [a]):∀s v,BindsTo s fd (WX [v]) [(p,v,)]:=λs v=>by let(oc,od,kV,doc,pm,an,cdv,ct,osl,rfl,c,b):=F.ex;exact .of_eq (h v kV doc pm an cdv ct)
end
end L2
namespace L2
open PySem PySem.Spec PyProof.Rows
structure FnS (P)(w)(K)(mg)(base)(k)(f)(fd)(ps:List Str)(sp:Sp):Prop where
 len:∀vs H Q E,JhU E->MZ vs.length
 run:∀(A) (ea) (outer) (s) (H) args (us) (vs) (Q) (E),ag k A->iL P w K mg base A outer s H->JdK fd args (ps.zip us)->WD vs->JhU E->
  codeAny (Jca P) (A.mark (Ja ea)) (W8 f args) (CR CX0 outer P w H s Q E) s
def Fun.okS {P:Program}{w:World}{K:W.Frag}{mg:Str->Option Value}{base:Heap}{x a:Str}{st:Stmt}{f:Addr}{L:FuncData}{N ps:List Str}{k:Nat}{sp:Sp}(F:Fun K x a st f L)(S:Vf N ps st)
  (g:∀cdv A h outer s H vs Q E,Mo k (Vp a (ai st) f cdv)→JhU E →
   ∃t,Jiu ((Jd7 CX0 P w K N a st f A s H E).susp h) (zas st)/\t { nx:=λm H'=>Q .non H',rt:=Q } (Jix N) H)(i:∀vs H Q E,JhU E->MZ vs.length:=by intro _ _ _ _ h;cases h;subst_vars;rfl):FnS P w K mg base (k+1) f L ps sp:=by
 let(oc,od,kV,doc,pm,an,cdv,ct,R,rfl,T,D):=F.ex;apply(i,λA h outer s H M us vs Q E C p hb r j=>?_);let Z:=i _ _ _ _ j;let O:=p.mod.kin.keeps λb o e=>(p.bs b o e).1;let B:=p.mod.nolimit.keeps λb o e=>(p.bs b o e).1;let d:∀y∈ps.zip us,(ai st).names.lookup y.1=some .local\/((ai st).names.lookup y.1=some .cell/\((Jgu (Yd 1) (ai st).names).lookup y.1).isSome=true):=λ(n,v) U=>by
  rcases S.par n (List.of_mem_zip U).1 with q|q
  .exact .inl q
  .exact Yg q (W.cellsFrom_some _ _ _ (.inl q))
 apply codeAny_call_function C.depth (O _ _ T) rfl S.co S.gen rfl (W.codeRec_of O D) (hb _ _ _ _ ?_);apply wpAny_newFunctionEnv_cells S.kind d λenv he G x=>?_;subst he;apply(B.keeps x.toInCall.keep,codeAny_func ?_);let(t,X,Y):=g cdv A h outer s H vs Q E (C.deeper _) j;let I:Jgv (Jd7 CX0 P w K N a st f A s H E) _ H G:=uD S C.hd p Z r x;apply wpAny_mono (X [] G (Jix N) H _ (I.susp h) Y) (λfl s' hs=>?_) λe s' hs=>hs.elim;let l:∀{c:St} {H':Hp} {v:V} {u:Value},Jgv ((Jd7 CX0 P w K N a st f A s H E).susp h) c H' s'->IH v->Q v H'->L2.CE outer P w H s Q u s' :=
  λ{c H' v u} J z q=>(v,H',J.os,J.bare,J.base,J.hok,z,q)
 cases fl with
 |ret u=>
  let(v,c,H',J,z,q):=hs;exact l J z q
 |next=>
  let(c,H',J,q):=hs;exact l (v:=V.non) J rfl q
 |brk=>
  let(_,_,_,q):=hs;exact False.elim q
 |cont=>
  let(_,_,_,q):=hs;exact False.elim q
def BZ (F:FnS X.prog X.w X.K X.mg X.base k f fd ps sp)(j:Jgt k)(D:Jg9 x)(z:X.mg x=Ja f)(C:NW X.K f)(L:Ve X.K fd ps)
  (M:JmL (X.susp ea) t)(d:Xx (x==("__debug__":Str)):=by decide)(G:Jbk e=(false,Vc e,)::starEach es X.env:=by rfl)(c:(Jfi es).any (·.1)=false:=by rfl):
  PE (X.susp ea) (Jj7 x p e) (pF sp [] E t):=by
 intro a s n H Q I h;apply UQ I D z ?_ d;apply W.callWith_K I.ok.mod.kin C (thn (M pos a s n H _ I h) λus g h_=>?_) G c;let(vs,R,l,r,q):=h_;apply Mm l.kIn;let ok:X.Ok:=(I.ok.mod,I.ok.kind,I.ok.glob,I.ok.blt,I.ok.above,I.ok.inj,I.ok.has,I.ok.cab,λm=>j.hd,I.ok.frames,I.ok.stk,I.ok.exf,I.ok.bs,I.ok.bsz,I.ok.noex,I.ok.exfs,I.ok.funs,I.ok.frf);let J:=l.unsusp ok;let i:=r.append .nil;let B:(us++([]:List Value)).length=ps.length:=by rw[<-i.length];exact F.len _ _ _ _ q
 apply wpAny_call (codeAny_mono (F.run X.A ea X.stack g R (WX us) (us++[]) (vs++[]) Q E j J.env0 (L g us J.kIn B) i q) λr s' b=>?_);cases r with
 |error e=>exact b.elim
 | ok N =>
  cases N with
  |ret u=>
   let(v,P,O,o,y):=J.after b;exact(v,P,O.susp ea,o,y)
  |next=>exact False.elim b
  |brk=>exact False.elim b
  |cont=>exact False.elim b
def qC (CX:CXT)(X:Cx)(E:XK)(b:St):Prop:=∀a H s e s',JnK (CX X.stack H s E e s'->X.xe e s')
def tCallS (a:St)(sp:Sp)(dvs:List V)(E:XK)(t:TA):TE:=λb H Q=>b=a/\pF sp dvs E t b H Q
def B0 (F:aS X.prog X.w X.K X.mg X.base CX k f fd ps sp)(y:Jgt k)(G:Jg9 x)(z:X.mg x=Ja f)(D:NW X.K f)(M:aw X.K fd ps ds)(L:Jiw ds)(v:qC CX X E σ0)
  (N:JmM t)(i:Xx (x==("__debug__":Str)):=by decide)(J:Jbk e=(false,Vc e,)::starEach es X.env:=by rfl)(g:(Jfi es).any (·.1)=false:=by rfl):
  PE X (Jj7 x p e) (tCallS σ0 sp dvs E t):=by
 rintro a s n H Q I ⟨rfl,h⟩;apply UQ I G z ?_ i;apply W.callWith_K I.ok.mod.kin D (thn (N pos a s n H _ I h) λus d h_=>?_) J g;let(vs,l,c,r,q):=h_;apply Mm c.kIn;let j:=r.append L;let B:(us++ds).length=ps.length:=by rw[<-j.length];exact F.len _ _ _ _ q
 apply wpAny_call (codeAny_mono (F.run X.A X.stack d l (WX us) (us++ds) (vs++dvs) Q E y c.env0 (M d us c.kIn B) j q) λr s' b=>?_);cases r with
 |error e=>exact v a l d e s' c b
 |ok O=>
  cases O with
  |ret u=>exact c.after b
  |next=>exact False.elim b
  |brk=>exact False.elim b
  |cont=>exact False.elim b
def tTryS (d:XK->St->TS)(b:Addr->TS):TS:=λD a H=>d (λc x H'=>∃C,Xl c C/\b C D a H') a D a H
def B1 (d:X.stack=M4 X.env)(J:JgL X.env.frame)
  (hb:∀a R Q i,qC (CX1 X.prog X.w) (X.tryc a R) Q i->PSs (X.tryc a R) body (tb Q i))(Z:PH X (h0::hs) th):
  PS X (.Try body (h0::hs) [] [] pos) (tTryS tb th):=by
 intro a s g H D I h;apply wpAny_Try_except ?_;let Y:qC (CX1 X.prog X.w) (X.tryc a (λe b=>IE (noteFrame e X.env) (λx T=>IE (setFlight e none) (λx S=>IE (handleBy e X.env (h0::hs)) (SP X a D) S) T) b))
   (λc x H'=>∃C,Xl c C/\th C D g H') g:=by
  intro y P b e s' I1 K;let(N,C,H',B,O,rfl,U,l,u,W,fl,trk,F,C',ec,hE):=K;cases ec;let c:Came X a g P b H' B s':=(I1.untryc I.ok,U,l,u,W,trk,F);let M:JcF B (M4 X.env) N C O s'.heap:=by let z:=fl;rw[show(X.tryc a _).stack=M4 X.env from d]at z;exact z
  let G:X.A.frames=some (M4 X.env):=by rw[I.ok.frames,d]
  apply wpAny_looks_onW G J M λh2 L v=>?_;apply wpAny_landsW L λh3 j r=>?_;rw[<-d]at j;exact Z a g P b H' B s' D N C O h3 c j (v.trans r) hE
 apply wpAny_mono (hb a _ _ g Y [] s g H D (I.tryc _) h) (λf b q=>?_) λe b q=>q;let n:=q.untryc I.ok;cases f with
 |next=>exact wpAny_execs_nil n
 |brk=>exact n
 |cont=>exact n
 |ret u=>exact n
end L2
namespace W52
open PySem L2
noncomputable def top (i:Nat):Stmt:=PySem.Challenge.pw_yesorno_k52_whole_yes.main.body.getD i (Jbo 0 0 0 0)
abbrev s_init:Stmt:=Mt 1 0
abbrev s_head:Stmt:=Mt 1 1
abbrev s_together:Stmt:=Mt 1 2
abbrev s_merge:Stmt:=Mt 1 3
abbrev s_given_links:Stmt:=top 2
abbrev s_alike_links:Stmt:=top 3
abbrev s_links:Stmt:=top 4
abbrev s_groups_of:Stmt:=top 5
abbrev s_heads:Stmt:=top 6
abbrev ov:Stmt:=top 31
abbrev s_steps_of:Stmt:=top 33
abbrev s_way:Stmt:=top 34
abbrev s_part_pairs:Stmt:=top 35
abbrev s_ways:Stmt:=top 36
abbrev lO:Stmt:=top 38
abbrev lP:Stmt:=top 39
abbrev ox:Stmt:=top 40
abbrev lQ:Stmt:=top 41
abbrev oy:Stmt:=top 42
structure TxG (K)(mg:UT Str)(C):Prop where
 cl:JhR K
 nL:Jkb "least"
 nG:Jkb "gathered"
 min:Jg "min"
 max:Jg "max"
 range:Jg "range"
structure Txt (K)(mg:UT Str):Prop where
 len:Jg "len"
 list:Jg "list"
 range:Jg "range"
 isinstance:Jg "isinstance"
 int:Jg "int"
 bool:Jg "bool"
 min:Jg "min"
 max:Jg "max"
 tuple:Jg "tuple"
 enumerate:Jg "enumerate"
 zip:Jg "zip"
 sorted:Jg "sorted"
 dict:Jg "dict"
 ib:JkC K "int" "bool" false
inductive oz (C):Sp|m{vs H Q E9} (g dx):vs=Gj g->Jnp g []->(∀H' ld gd,(∀b o,b≠g->JeR b o b o)->JeL ld gd (ld≠gd->Vk g (Wh C [("least",.ref ld,),("gathered",.ref gd,)])->JeG ld []->JeG gd []->QP H'))->oz C vs H Q E9
def B2:Vf ["self"] ["self"] s_init:=fsc
def ok_init (F:Jmy "Groups.__init__" s_init)(T:JnJ C):Jih ["self"] (oz C):=by
 apply V_b B2 D
 let(g,dx,rfl,y,q):=h;apply Qq (ae (Jkv gZ) (JnM gZ))
 apply λld d=>?_;let x:=bY y d;let(j,B,t,n):=nwH d (.dK []);rw[B];let p:=t _ _ y;let k1:=t;apply JX _ g C dx _ p T.cl T.nL (by decide) ?_;let c:(WB j g C (JdR "least" ld [])) g=some _:=ao;let i:(WB j g C (JdR "least" ld [])) ld=some (.dK []):=by rw[JJ x];exact n
 let k2:∀b o,b≠g->Gc b o->(WB j g C (JdR "least" ld [])) b=some o:=λb o k h=>by rw[aq k];exact k1 b o h
 let r:∀b,(WW j g) b=none->Gf b:=λb h=>by
  cases e:H b with
  |none=>rfl
  |some o=>
   by_cases z:b=g
   .rw[z,c]at h;cases h
   .rw[k2 b o z e]at h;cases h
 generalize WW j g=G at c i k2 r;apply λgd a=>?_;let v:=bY c a;let u:=bY i a;apply JX _ g C dx _ (by rw[aq v];exact c) T.cl T.nG (by show M8 1;decide) ?_;apply q _ ld gd (λb o k h=>?_) d (r gd a) u ao (by rw[JJ x,aq u];exact i) (by rw[JJ v];exact ao);let l:b≠gd:=λz=>by rw[z,r gd a]at h;cases h
 rw[aq k,aq l];exact k2 b o k h
inductive ko (C):Sp|m{vs H Q E9} (g ld gd) (t) (N b) (hd) (av):vs=XF g t->Jjc H->No (hd t) H->ko C vs H Q E9
def B3:Jfh (Nk "term") "term" s_head:=fsc
def ok_head (F:Ix "head" "Groups.head" s_head)(T:JnJ C):Jih (Nk "term") (ko C):=by
 apply V_b B3 d
 let(g,ld,gd,t,N,b,e,l,rfl,G,q):=h;let c:=dr d;let(dx,kl,kg,j,a,r,i,p,o,n):=G.ex;apply Qq (Ud (jT c (Xe 0) (pv 1) (pv 1) (Jea rfl)));apply(_,rfl,g,C,dx,_,_,rfl,j,T.cl,T.nL,rfl,ld,rfl,Jay kl a,_,rfl,_,rfl,_,bV.k (k:=Sum.inl t) a,?_);rw[i];exact q
inductive oA (C):Sp|m{vs H Q E9} (g ld gd) (t u) (N b) (hd) (av):vs=JaV g t u->Jjc H->Yo (decide (hd t=hd u)) H->oA C vs H Q E9
def B4:Vf (Ys "one") (Ys "one") s_together:=fsc
def ok_together (F:Ix "together" "Groups.together" s_together)(T:JnJ C)(M:JlG fH)(j:WN 1 fH dH "term" (ko C))(i:JgO dH):NF 2 (Ys "one") (oA C):=by
 apply V_b B4 d
 let(g,ld,gd,t,u,N,b,a,c,rfl,G,q):=h;let(dx,kl,kg,e,r,p,o,n,l,k):=G.ex;apply Qq (Ud (fZ bO (Jig 0 M j d i 1) (Jig 0 M j d i 2)));apply(_,rfl,g,dx,_,rfl,e,rfl,_,rfl,g,ld,gd,t,N,b,a,c,rfl,G,_,rfl,g,dx,_,rfl,e,rfl,_,rfl,g,ld,gd,u,N,b,a,c,rfl,G,rfl,?_);rw[hI];exact q
inductive lU (C):Sp|m{vs H Q E9} (g ld gd) (t u) (N b) (hd) (av):vs=JaV g t u->Jjc H->0<=t/\t<(N:Int)->0<=u/\u<(N:Int)->QX (U9 N) b ((∀a∈av,JkT a)->(∀H',Jim H->Je0 H' C g N (b+1) (mrg hd t u)->QP H')->lU C vs H Q E9)
def lV:Vf ["self","one","other","low","high","moved","term"] (Ys "one") s_merge:=fsc
def oB (h:n<=200000):Ic n:=by rw[sizeLine_eq];lia
def merge3 (T:JnJ C){cdv:Value}{A:Around}{outer:List Env}{s:Shared}{H0:Hp}{E:XK}(hr:JaY 1 "Groups.merge" s_merge f) :
  ∃z,PSs (Jd7 CX0 P w K ["self","one","other","low","high","moved","term"] "Groups.merge" s_merge f A s H0 E).nox ((zas s_merge).drop 3) z/\
   ∀D H g ld gd t u N b d av,Je0 H C g N b d->(0<=t/\t<(N:Int))->(0<=u/\u<(N:Int))->U9 N->Jt b->JfL t u≠Jma t u->(∀a∈av,JkT a)->(∀H' σ',Jim H->Je0 H' C g N (b+1) (mrg d t u)->D.nx σ' H')->
    z D [Ja g,Ya t,Ya u,Ya (JfL t u),Ya (Jma t u),none,none] H:=by
 let hu:=dr hr;apply Qq (Nn (i:=5) lV.nd (jT hu (Xe 0) (pv 4) (JiP 4) (Jea rfl)) (Jck (pv 5) (i:=6) lV.nd (aj (JmP hu 0 6 (pv 3)))) (aj (JmP hu 0 3 (JaS pN (jT hu (Xe 0) (pv 3) (JiP 3) (Jea rfl)) 5))))
 rintro D H g ld gd t u N b d av G ht X N100 M e hav q;let(dx,kl,kg,h1,h2,h3,h4,h5,h6,h7):=G.ex;let bN:b*N<=100000:=Nat.mul_le_mul M N100;let(mh,k1,k2,k3):=h5 _ (G.h.hi_id t u);let(ml,l1,l2,U):=h5 _ (G.h.lo_id t u);let tN:=G.h.in' ht;let uN:=G.h.in' X;let lh:=lohi (d t) (d u);let mhl:=vW G.h (x:=Jma t u) (by lia) k1 k2;let mll:=vW G.h (x:=JfL t u) (by lia) l1 l2;let R:=Gd h1 h2;let ngg:=Gd h1 h3;apply Jfw _ g C dx _ _ rfl h1 T.cl T.nG rfl gd rfl (Jay kg h3) _ rfl _ rfl lS1 (λl hl=>?_);let(H1,eN,B,n1):=Jnj (WY (Jma t u));rw[eN];obtain⟨I,eam,r⟩:∃I,(Xg kg (Jma t u)).getD (.ref l)=.ref I/\H1 I=some (.lst (mh.map V.int)):=by
  rcases k3 with ⟨k3,k4⟩|⟨a,k3,k4,_⟩
  .rw[k3];apply Nc l ?_;rw[k4];exact n1
  .rw[k3];exact Nc a (B _ _ k4)
 apply Qq (bV.k (k:=Sum.inl _) (B _ _ h3));rw[eam];let h11:=B _ _ h1;let h21:=B _ _ h2;let h31:=B _ _ h3;let J:=Gd r h21;apply UP _ I (Jv r) (JeA cR (λi σ H'=>Ex2 λ v6 j=>An5 (σ=[Ja g,Ya t,Ya u,Ya (JfL t u),Ya (Jma t u),Ja I,v6]) (cq ld H1 H') (JeG ld j) (j.length<=kl.length+i) (∀x:Int,(Xg j x).getD (.int x)=.int (if x∈mh.take i then JfL t u else d x))) (λi σ H' h=>by let(_,_,_,n,_):=h;exact SqL.of (n _ _ J r)) (none,kl,rfl,cq.refl _ _,h21,nRq _,λx=>by simpa using h4 x))
 .rintro i σ H2 x H3 hi ⟨v6,j,rfl,n,F,ll,hv⟩ ⟨rfl,hx⟩;let(k,hk,rfl):=Jik _ (n _ _ J r);rw[lM]at hi;apply(_,rfl,_,rfl,g,C,dx,_,_,rfl,n _ _ R h11,T.cl,T.nL,rfl,_,rfl,ld,_,rfl,JbW (k:=Sum.inl k) F (by lia),_,_,rfl,n.trans (Jcr _),ao,?_,λx=>?_)
  .have:=nO j (Sum.inl k) (.int (JfL t u));show(WE j k _).length<=_;lia
  .rw[gW,bf hk];by_cases z:x=k
   .subst z;rw[if_pos rfl,Jmp List.mem_cons_self];rfl
   .rw[if_neg (λw=>z (by injection w)),hv];congr 1;by_cases w:x∈mh.take i
    .rw[if_pos w,Jmo w]
    .rw[if_neg w,if_neg (λy=>by
      rcases mPq y with y|y
      .exact w y
      .exact z (mSq y))]
 .rintro σ H2 ⟨v6,j,rfl,n,F,ll,hv⟩;rw[lM]at ll;rw[lM,VM _]at hv;let h12:=n _ _ R h11;let L:=n _ _ (Ne.symm G.ne) h31;let ham2:=n _ _ J r;apply Jfw _ g C dx _ _ rfl h12 T.cl T.nG rfl gd rfl (Jay kg L) _ rfl _ rfl lS1 (λW Z=>?_);let(H3,eN,O,n3):=Uq Z (WY (JfL t u));rw[eN];obtain⟨al,eal,hal⟩:∃al,(Xg kg (JfL t u)).getD (.ref W)=.ref al∧H3 al=some (.lst (ml.map V.int)):=by
   rcases U with ⟨U,Q⟩|⟨a,U,Q,_⟩
   .rw[U];apply Nc W ?_;rw[Q];exact n3
   .rw[U];let na:=Gd Q h2;exact Nc a (O _ _ (n _ _ na (B _ _ Q)))
  apply Qq (bV.k (k:=Sum.inl _) (O _ _ L));rw[eal];apply JX _ al I _ _ rfl hal (O _ _ ham2) (oB (by rw[lM,lM];lia)) (λp Y=>?_);rw[<-mAq];let(H4,eN,s4,n4):=Uq Y ((ml++mh).map V.int);rw[eN];let v:=O.trans s4;let h14:=v _ _ h12;let h34:=v _ _ L;let hl4:=v _ _ F;let npg:=Gd n4 h34;apply(_,rfl,g,C,dx,_,_,rfl,h14,T.cl,T.nG,rfl,_,rfl,gd,_,rfl,JbW (k:=Sum.inl _) h34 (by lia),?_);apply q _ _ ?_ ?_
  .intro b' o' nb1 nb2 hb;rw[aq nb2];exact v _ _ (n _ _ nb1 (B _ _ hb))
  .let Q:j.length≤(b+1) * N:=by rw[Nat.add_mul,Nat.one_mul];lia
   apply GO.merged G.h G.ne ht X e (by rw[aq ngg];exact h14) (by rw[aq G.ne];exact hl4) ao hv (λx hx=>?_) l1 l2 k1 k2 (by rw[aq npg];exact n4) Q (by lia) (λz=>?_)
   .let(ms,m1,m2,S):=h5 x hx;apply JhK ms m1 m2;rcases S with S | ⟨a,S,m4,m5⟩
    .exact .inl S
    .let na:=Gd m4 h2;let ng:=Gd m4 h3;exact NG a S (by rw[aq ng];exact v _ _ (n _ _ na (B _ _ m4))) m5
   .cases eo:H p with
    |none=>exact hav p z eo
    |some o=>
     by_cases c:p=ld
     .rw[c,O _ _ F]at Y;cases Y
     .rw[O _ _ (n _ _ c (B _ _ eo))]at Y;cases Y
def ok_merge (F:Ix "merge" "Groups.merge" s_merge)(T:JnJ C)(M:JlG fH)(o:WN 1 fH dH "term" (ko C))(n:JgO dH):NF 2 (Ys "one") (lU C):=by
 apply V_b lV j
 let(g,ld,gd,t,u,N,b,a,k,rfl,G,z,p,d,c,r,q):=h;let(dx,kl,kg,l,U,S,R,O,L,J):=G.ex;let W:=Nat.mul_le_mul c d;let(D,v,y):=merge3 (base:=base) (outer:=outer) T j;apply Qq (X7 (i:=3) lV.nd (Vg (yD rfl) T.min PyProof.Rows.Boot.min (Ih (Jig 0 M o j n 1) (Jig 0 M o j n 2))) (i:=4) lV.nd (Vg (uj rfl) T.max PyProof.Rows.Boot.max (Ih (Jig 0 M o j n 1) (Jig 0 M o j n 2))) (ae (be (XZ bO 3 (pv 4)) (aj yu)
   aU)
  v))
 apply(_,rfl,g,dx,_,rfl,l,rfl,_,rfl,g,ld,gd,t,N,b,a,k,rfl,G,_,rfl,g,dx,_,rfl,l,rfl,_,rfl,g,ld,gd,u,N,b,a,k,rfl,G,_,_,rfl,?_);apply(_,rfl,g,dx,_,rfl,l,rfl,_,rfl,g,ld,gd,t,N,b,a,k,rfl,G,_,rfl,g,dx,_,rfl,l,rfl,_,rfl,g,ld,gd,u,N,b,a,k,rfl,G,_,_,rfl,?_);apply Ji0 _ rfl _ _ rfl ?_;show if decide (Jjj (loF (a t) (a u)) (hiF (a t) (a u)))=true then _ else _
 rw[hI];by_cases e:loF (a t) (a u)=hiF (a t) (a u)
 .rw[dTq e];apply bU (q H (λm m m m h=>h) ?_);rw[vQ e];exact G.mono (Nat.le_succ _)
 rw[dFq e];exact bq (y _ H g ld gd t u N b a k G z p d c e r λH' x s' B=>q H' s' B)
inductive qD (K)(C):Sp|m{vs H Q E9} (a) (xs) (ls) (N):vs=Gj a->JD a->JmG dL->InN N ls->QX (U9 N) ls.length ((∀H' g ld gd,UN ld (VA gd (MF (JeZ H' C g N ls.length (hdL ls) []) g)))->qD K C vs H Q E9)
def qG:Vf ["links","groups","link"] ["links"] s_groups_of:=fsc
def ok_groups_of (F:Ix "groups_of" "groups_of" s_groups_of)(T:JnJ C)(MK:Mk K C fI)(mC:mg "Groups"=Ja C)(Bi:Mp 1 fI dI ["self"] (oz C))(bi:JiV dI)(M:JP "merge" fM)(Bm:Mp 2 fM dM (Ys "one") (lU C))(bm:JbN dM):NF 3 ["links"] (qD K C):=by
 apply V_b qG Y
 let(a,xs,ls,N,rfl,R,hL,hN,v,J,q):=h;let xl:Mz ls.length:=by rw[<-hL.length,lM]
 apply Qq (Nn (i:=1) qG.nd (jM MK Bi Y rfl mC bi .nil aJ) (Jck (pv 0) (i:=2) qG.nd (QG 1 M Bm Y bm (JeP 2 2))) (QJ 1))
 intro g dx X I nex;let D:∀b o,Gc b o->(Jht g g) b=some o:=λb o h=>by rw[aq (λe=>by rw[e,X]at h;cases h),aq (λe=>by rw[e,I]at h;cases h)];exact h
 let u:=ao (H:=Mx dx g) (a:=g) (o:=Wh C []);let S:∀b,(WW _ g) b=none->Gf b:=λb h=>by
  cases e:H b with
  |none=>rfl
  |some o=>rw[D b o e]at h;cases h
 generalize WW _ g=H0 at D u S;apply Gn g dx u (λH1 ld gd k1 nl G ne O L r=>Mm rfl);let W:MU H1:=λb o h=>k1 b o (λe=>by rw[e,X]at h;cases h) (D b o h);let G1:JeZ H1 C g N 0 (λt=>t) []:=(Hd.zero N,ne,dx,[],[],O,L,r,λt=>rfl,λx m=>Jfo [x] (λt=>by simp) (JaU rfl),Nat.zero_le _,Nat.zero_le _);let k:=S ld nl;let c:=S gd G;apply Jir _ a (W.seq R) (cR) (λi z H'=>∃B,JjN (z=[Ja a,Ja g,B]) H (JeZ H' C g N i (hdL (ls.take i)) [])) (λi z H' h=>by let(_,_,d):=h;exact d.seq R) (Ul none W G1)
 .rintro i z H2 x H3 hi ⟨B,rfl,d,y⟩ ⟨rfl,hx⟩;let(l,p,Z,rfl,hp):=ka hL (hx _ (d.seq R));let n:=d.tup hp;let(U,kl,kg,e1,_):=id y.ex;let b:=hN l (mO Z);let a0:Je5 l.1 l.2.1 l.2.2 0=some _:=ay rfl;let a1:Je5 l.1 l.2.1 l.2.2 1=some _:=ay rfl;apply(_,rfl,g,U,_,rfl,e1,rfl,_,rfl,p,_,_,_,rfl,rfl,n,a0,_,rfl,p,_,_,_,rfl,rfl,n,a1,g,ld,gd,l.1,l.2.1,N,i,_,[],rfl,y,b.1,b.2,v,by lia,(λa ha=>nomatch ha),λH4 s4 G4=>?_);apply Ul _ (d.ofG k c s4) ?_;rw[bf Z,iD];exact G4
 .rintro z H2 ⟨B,rfl,d,y⟩;rw[xl,List.take_length]at y;exact Yu (q H2 g ld gd d k c y)
def lW (ls:List Lk)(n:Nat):List Int:=(List.range n).map λi:Nat=>Ja4 (i:Int)
def B5 (ls)(n):lW ls (n+1)=lW ls n++[Ja4 (n:Int)]:=by unfold lW;rw[List.range_succ,mAq];rfl
inductive sp_heads (K):Sp|m{vs H Q E9} (a) (n) (xs) (ls) (N):vs=VH (n:Int) a->JD a->JmG dL->InN N ls->QX (U9 N) ls.length (XS n ((∀H' l,JgS l (Ql l ((lW ls n).map V.int)) l)->sp_heads K vs H Q E9))
def wJ:Vf ["many","links","groups"] ["many","links"] s_heads:=fsc
def ok_heads (F:Ix "heads" "heads" s_heads)(T:JnJ C)(o:IS 3 "groups_of" fG dG ["links"] (qD K C))(M:JlG fH)(Y:WN 1 fH dH "term" (ko C))(W:JgO dH):NF 4 ["many","links"] (sp_heads K):=by
 apply V_b wJ z
 let(a,n,xs,ls,N,rfl,O,S,R,k,d,p,q):=h;let r:Jk2 1:=z.mono (by decide);apply Qq (J3 (JiM (i:=2) wJ.nd rfl rfl (Jfg o.ok z o.m o.kp o.b aJ 1)) (Vj (N':=Jdr "term") (ix:=[2]) rfl rfl rfl (λJ=>VZ (sc:=ai s_heads) J) rfl rfl (λj i h=>match j,h with|0,h=>by cases h;exact QO _|n+1,h=>by simp at h) (Jny 0) (λ_ _ _ _=>(Jig 1 M Y r W 0))))
 apply XJ _ a xs ls N rfl O S R k d (λX g ld gd y _ _ G=>?_);apply JdA _ _ (by lia) (by lia -ac) (λD u=>Jl3 vm (λi ys H'=>Xd X/\ys=(lW ls i).map V.int) (λ_ _ _ _=>trivial) u)
 .rintro i ys v x Z B t e ⟨l,rfl⟩ ⟨rfl,rfl⟩;let L:i<n:=by have:i<((n:Int)).toNat:=B;lia
  let I:=G.same l;let(dx,kl,kg,U,_):=id I.ex;apply Jfw _ g dx _ rfl U rfl _ rfl g ld gd _ N _ _ _ rfl I (Jcn _ B t e (l.upd u));rw[B5,mAq];rw[Int.zero_add];rfl
 .rintro ys v e ⟨l,rfl⟩;let c:=e;rw[Int.toNat_natCast]at c;exact q v D (y.trans l) (y.free u) c
inductive qH (K)(C):Sp|m{vs H Q E9} (a g ld gd) (ys) (gs) (ts):vs=JC a g->JjW a->JjV (gs.map dP) ys (wu ts.length gs->JlS H C g 0 [] []->QX (JI 100) gs.length ((∀H' fl ls zs,Jim H->VA fl (Ql fl zs->Jnv dL->JfK (Jmb H' C g ls [fl]) (Jc6 ls) (J0 gs ls) (ls=gvF gs) fl))->qH K C vs H Q E9))
def oC:Vf ["given","groups","found","number","pair"] (Jdr "given") s_given_links:=fsc
def ok_given_links (F:Ix "given_links" "given_links" s_given_links)(T:JnJ C)(TE:Jg "enumerate")(MT:JP "together" fT)(Bt:Mp 2 fT dT' (Ys "one") (oA C))(bt:JbN dT')(MM:JP "merge" fM)(Bm:Mp 2 fM dM (Ys "one") (lU C))(bm:JbN dM):NF 3 (Jdr "given") (qH K C):=by
 apply II oC
 let(a,g,ld,gd,ys,U,ts,rfl,hS,hL,hP,G,N100,g1000,q):=h;let yl:JbE U.length:=by rw[<-hL.length,lM]
 apply Qq (Nn (i:=2) oC.nd (bb ac) (Ib rfl (nQ rfl TE (Jd 0)) (kR rfl (Jdu (i:=3) oC.nd (Jdu (i:=4) oC.nd kQ))) (aj (be (Jbg (Yz 1 MT Bt hr bt (JeP 4 4))) (Ja7 (Yz 1 MM Bm hr bm (JeP 4 4)) (JbR 2 (Jga (aa (Yk 4) (JlU 4 3)))))
     aU))) (QJ 2))
 apply JbF (λL B=>?_);let s1:X2 H (UC H L):=(Wm B).g;let G1:JlS (UC H L) C g 0 [] [L]:=(G.avoid B).same (Wm B);let n1:=ao (H:=H) (a:=L) (o:=.lst []);generalize UC H L=H1 at s1 G1 n1;apply Jir _ a (JdS s1) nP (λi σ H'=>Ex4 λ v3 v4 ls zs=>An8 (σ=[Ja a,Ja g,Ja L,v3,v4]) (Jim H) (Ql L zs) (Jnv dL) (Jmb H' C g ls [L]) (bz ts U ls) ((∀j p,j<i->U[j]?=some p->Ja4 p.1=Ja4 p.2)) ((U.take i).foldl km ([],0,)=(ls,i,))) (λi σ H' h=>by let(_,_,_,_,_,X,_):=h;exact JdS X) (none,none,[],[],rfl,s1,n1,ar.nil,G1,bz.nil _ _,(λj p Y=>Xn Y _),rfl)
 .rintro i σ W x H3 hi ⟨v3,v4,ls,zs,rfl,X,S,J,G2,R2,g2,gf⟩ ⟨t,y,rfl,ht,rfl,hy⟩;let(d,p,n,rfl,hp):=qx hL (hy _ (JdS X));let s3:X2 H (Mb W t (VH i p)):=X.trans (Wm ht).g;let M:VB W W t (VH i p):=Wm ht;let R:=G2.same M;let O:=M _ _ S;let I:=Jmw M.kt J;let n3:=ao (H:=W) (a:=t) (o:=JmB i p);generalize Mb W t (VH i p)=H3 at s3 M R O I n3;let v:=(G.ktG s3).sq hp;let b:=hP d (mO n);let a0:W9 d.1 d.2 0=some (.int d.1):=Mv (j:=0);let a1:W9 d.1 d.2 1=some (.int d.2):=Mv (j:=1);let ll:=R2.len;let gf':(U.take (i+1)).foldl km ([],0,)=km (ls,i,) d:=by rw[bf n,List.foldl_append,gf];rfl
  let(dx,kl,kg,e1,_):=id R.ex;apply(t,_,rfl,SqT.of n3,rfl,_,_,rfl,_,_,rfl,rfl,?_);apply(_,rfl,g,dx,_,rfl,e1,rfl,_,rfl,p,_,_,_,rfl,rfl,v,a0,_,rfl,p,_,_,_,rfl,rfl,v,a1,g,ld,gd,d.1,d.2,_,_,_,_,rfl,R,_,rfl,?_);by_cases c:Ja4 d.1=Ja4 d.2
  .rw[dTq c];apply bq (_,_,ls,zs,rfl,s3,O,I,R,R2,λj r Y k=>?_,?_)
   .by_cases z:j=i
    .subst z;cases n.symm.trans k;exact c
    .exact g2 j r (by lia) k
   .rw[gf'];unfold km;rw[if_pos c]
  .rw[dFq c];apply bU (_,rfl,g,dx,_,rfl,e1,rfl,_,rfl,p,_,_,_,rfl,rfl,v,a0,_,rfl,p,_,_,_,rfl,rfl,v,a1,g,ld,gd,d.1,d.2,_,_,_,_,rfl,R,b.1,b.2,N100,by lia,(λz hz=>by cases mSq hz;rw[O];exact λe=>nomatch e),λH4 s4 G4=>?_);let s34:=s3.trans s4;let hf4:=R.lstG s4 O;let has4:=Jmw (R.ktG s4) I;let hp4:=(R.ktG s4).sq v;apply(_,rfl,JeM hf4,_,rfl,p,_,_,_,rfl,rfl,hp4,a0,_,rfl,p,_,_,_,rfl,rfl,hp4,a1,_,rfl,lS3,λu hu=>?_);let Z:VB H4 H4 u (Gy d.1 d.2 i):=Wm hu;let n5:=ao (H:=H4) (a:=u) (o:=JiX d.1 d.2 i);let G5:=G4.same Z;let s35:=s34.trans (Z.g (ld:=ld) (gd:=gd));let N:=Z _ _ hf4;let D:=Jmw Z.kt has4;generalize WW H4 u=H5 at Z n5 G5 s35 N D;let zl:Jdb ls.length:=by rw[←D.length,lM]
   apply(L,_,_,rfl,rfl,N,eg (by lia),_,_,ls++[(d.1,d.2,(i:Int),)],Jmu zs u,rfl,s35.grow B,ao,?_,?_,R2.snoc (b.1,b.2,c,Uh (by show Jc9 (i:Int);lia) (by show U[((i:Nat):Int).toNat]?=_;rw[Int.toNat_natCast];exact n)),λj r Y k=>?_,?_)
   .rw[mAq];let kt:=bj.lst (ys:=Jmu zs u) N;exact Wv (Jmw kt D) (oa (l:=(d.1,d.2,(i:Int),)) (Jhc n5))
   .rw[iD,lAq];exact G5.putL List.mem_cons_self N
   .by_cases z:j=i
    .subst z;cases n.symm.trans k;exact vU _ _ (Na List.mem_cons_self)
    .exact n_ _ (g2 j r (by lia) k)
   .rw[gf'];unfold km;rw[if_neg c]
 .rintro σ W ⟨v3,v4,ls,zs,rfl,X,S,J,G2,R2,g2,gf⟩;rw[yl]at g2 gf;rw[List.take_length]at gf;apply Yu (q W L ls zs X B S J G2 R2 (λp hp=>?_) (by unfold gvF;rw[gf]));let(j,Y):=List.mem_iff_getElem?.mp hp;exact g2 j p (gEq Y).1 Y
inductive qI (K)(C):Sp|m{vs H Q E9} (a g ld gd) (xs) (gs) (ts) (ls) (av):vs=JC a g->JD a->Jnm dTm->Jmb H C g ls av->(∀z∈av,JkT z)->(∀t∈ts,U9 t.2.length)->JI 100->Jc6 ls->(∀H' fl ms zs,Jim H->VA fl (Ql fl zs->Jnu (ms.map dL)->JfK (JlS H' C g (ls++ms).length (ls++ms) av) (Jc6 (ls++ms)) (ms=[]->JbG ts ls) (ms=JiI ls) fl))->qI K C vs H Q E9
def ju:Vf ["terms","groups","noted","found","number","term","sign","first"] (Jdr "terms") s_alike_links:=fsc
def ok_alike_links (F:Ix "alike_links" "alike_links" s_alike_links)(T:JnJ C)(TE:Jg "enumerate")(TT:Jg "tuple")(MH:JlG fH)(Bh:WN 1 fH dH "term" (ko C))(bh:JgO dH)(MT:JP "together" fT)(Bt:Mp 2 fT dT' (Ys "one") (oA C))(bt:JbN dT')(MM:JP "merge" fM)(Bm:Mp 2 fM dM (Ys "one") (lU C))(bm:JbN dM):NF 3 (Jdr "terms") (qI K C):=by
 apply II ju
 let(a,g,ld,gd,xs,gs,ts,ls,av,rfl,hS,hL,G,hav,t100,N100,R,q):=h;let hu:=gp hr;let hr1:Jk2 1:=hr.mono (by decide);let xl:Mz ts.length:=by rw[<-hL.length,lM]
 apply Qq (X7 (i:=2) ju.nd gZ (i:=3) ju.nd (bb ac) (ae (Ib rfl (nQ rfl TE (Jd 0)) (kR rfl (Jdu (i:=4) ju.nd (Jdu (i:=5) ju.nd kQ))) (X7 (i:=6) ju.nd (ck (JbL 5 (Iw jf rfl TT (Gb (Vj (N':=Jdr "part") (ix:=[1]) rfl rfl rfl (λok=>JgX (sc:=ai s_alike_links)) rfl rfl (λj i h=>match j,h with|0,h=>by cases h;exact QO _|n+1,h=>by simp at h) (eY (Yk 5)) (λm m m m=>(Jig 1 MH Bh hr1 bh 0))))))) (i:=7) ju.nd (A_ hu (pv 2) (WS 6 4)) (aj (be (Jbg (Yz 1 MT Bt hr bt (WS 7 4))) (Ja7 (Yz 1 MM Bm hr bm (WS 7 4)) (JbR 3 (Jga (Va 7 (QQ 4 (VI af))))))
     aU)))) (QJ 3)))
 apply λv hnd=>?_;let s0:MU (Jfc H v):=Wm hnd;let d0:SD P w (Jfc H v) v []:=JaU ao;generalize Jfc H v=H0 at s0 d0;apply JbF (λI hfl=>?_);let hfl0:Gf I:=s0.free hfl;let s01:ap H0 (UC H0 I):=Wm hfl;let s1:X2 H (UC H0 I):=(s0.trans s01).g;let G1:Jmb (UC H0 I) C g ls (I::av):=((G.same s0).avoid hfl).same s01;let n1:=ao (H:=H0) (a:=I) (o:=.lst []);let d1:SD P w (UC H0 I) v []:=d0.to λo z=>s01 _ _ z;generalize UC H0 I=H1 at s1 G1 n1 d1 s01;let(dx0,kl0,kg0,e10,e20,e30,_):=id G.ex;let ndl:v≠ld:=Ne.symm (bY e20 hnd);let ndg:v≠gd:=Ne.symm (bY e30 hnd);let ndf:v≠I:=λe=>(e▸d1).nol _ n1;let avl:∀{H':Hp},Jim H->(∃zs,Ql I zs)->(∃dx kl kg,Vk g (Wh C [("least",.ref ld,),("gathered",.ref gd,)])/\JeG ld kl/\JeG gd kg)->∀z∈I::av,JkS (H' z):=by
  rintro H' s' ⟨zs,hz⟩ ⟨dx,kl,kg,_,e2,e3⟩ z hz';rcases List.mem_cons.mp hz' with rfl|hz'
  .rw[hz];exact λe=>nomatch e
  .by_cases c1:z=ld
   .rw[c1,e2];exact λe=>nomatch e
   .by_cases c2:z=gd
    .rw[c2,e3];exact λe=>nomatch e
    .cases eo:H z with
     |none=>exact absurd eo (hav z hz')
     |some o=>rw[s' z o c1 c2 eo];exact λe=>nomatch e
 apply Jir _ a (JdS s1) nP (λi σ H'=>Ex7 λ(v4 v5 v6 v7:Option V) (b:List Lk) (zs:List V) (kvs:List SE)=>An11 (σ=[Ja a,Ja g,Ja v,Ja I,v4,v5,v6,v7]) (Jim H) (Ql I zs) (Jnu (b.map dL)) (JlS H' C g (ls++b).length (ls++b) (I::av)) (Jc6 (ls++b)) (JgD P w H' v) (WP i) ((∀e∈kvs,gB K H' e.1 e.2.1)) (oq ts (hdL (ls++b)) i kvs) (((b=[]->qy ts (hdL ls) i kvs))/\(∃X,(ts.take i).foldl (jt ls) ([],[],0,)=(b,X,i,)/\NtR kvs X))) (λi σ H' h=>by let(_,_,_,_,_,_,_,_,s2,_):=h;exact JdS s2) (none,none,none,none,[],[],[],rfl,s1,n1,ar.nil,by rw[List.append_nil];exact G1,by rw[List.append_nil];exact R,d1,nRq _,(λe B=>nomatch B),(λe B=>nomatch B),(λm j t hj=>Xn hj _),[],rfl,rfl)
 .rintro i σ H2 x H3 hi ⟨v4,v5,v6,v7,b,zs,kvs,rfl,s2,hf2,W,G2,R2,D2,l2,sg2,N2,A2,X,nf,NR⟩ ⟨t,y,rfl,ht,rfl,hy⟩;let(d,p,pq,N,rfl,hp,hpq):=tm_at hL (hy _ (JdS s2));let s23:VB H2 H2 t (VH i p):=Wm ht;let n3:=ao (H:=H2) (a:=t) (o:=JmB i p);generalize Mb H2 t (VH i p)=H3 at s23 n3;let k23:=(G.ktG s2).trans s23.kt;let hp3:=k23.sq hp;let U:=k23.sq hpq;let a0:Je8 d.1 pq 0=some (.str d.1):=Mv (j:=0);let a1:Je8 d.1 pq 1=some (.ref pq):=Mv (j:=1);let lt:=t100 d (mO N);apply(t,_,rfl,SqT.of n3,rfl,_,_,rfl,_,_,rfl,rfl,?_);apply(_,rfl,p,_,_,_,rfl,rfl,hp3,a0,_,rfl,p,_,_,_,rfl,rfl,hp3,a1,pq,rfl,Qu U,λD hD=>Jl3 eJ (λj ys H'=>Xd H3∧ys=((d.2.take j).map (hdL (ls++b))).map V.int) (λj ys H' (s4,_)=>s4.tup U) hD)
  .rintro j ys H4 x H5 hj hly hDs ⟨s4,rfl⟩ ⟨rfl,hx⟩;let(n,hn,rfl):=GW _ (s4.tup U);let G4:=(G2.same s23).same s4;let(dx,kl,kg,e1,_):=id G4.ex;rw[lM]at hj;apply Jfw _ g dx _ rfl e1 rfl _ rfl g ld gd n _ _ _ _ rfl G4 (NO _ (by rw[lM];lia) (by rw[lM];exact hj) hly hDs (s4.upd hD));rw[bf hn,mAq,mAq];rfl
  rintro ys H4 hDs ⟨s4,rfl⟩;rw[lM,VM _]at hDs;apply Yv D _ (JbK hDs (λu hu'=>?_));let s45:VB H4 H4 u ((d.2.map (hdL (ls++b))).map V.int):=Wm hu';let n5:=ao (H:=H4) (a:=u) (o:=.tup ((d.2.map (hdL (ls++b))).map V.int));generalize Mb H4 u ((d.2.map (hdL (ls++b))).map V.int)=H5 at s45 n5;apply(lS2,λO hsg=>?_);let s56:VB H5 H5 O (XQ d.1 u):=Wm hsg;let n6:=ao (H:=H5) (a:=O) (o:=.tup (XQ d.1 u));let n65:=s56 _ _ n5;generalize Mb H5 O (XQ d.1 u)=Y at s56 n6 n65;let M:ap H2 Y:=((s23.trans s4).trans s45).trans s56;let sH6:X2 H Y:=s2.trans M.g;let G6:=G2.same M;let hf6:=M _ _ hf2;let L:=Jmw M.kt W;let D6:JgD P w Y v:=D2.to λo z=>M _ _ z;let sg6:∀e∈kvs,gB K Y e.1 e.2.1:=λe B=>(sg2 e B).keep M.kt;let sgn6:gB K Y (QD d (ls++b)) O:=(u,SqT.of n6,by show Mh Y u (((d.2.map (hdL (ls++b))).map Sum.inl).map kV);rw[List.map_map];exact SqT.of n65)
  let Hh:=vS R2.inn;let idm:(d.2.map (hdL (ls++b))).map (hdL (ls++b))=d.2.map (hdL (ls++b)):=by rw[List.map_map];exact List.map_congr_left λz m=>Hh.idem z
  let iN:UB i:=by rw[<-xl];exact hi
  let zl:Jdb b.length:=by rw[<-L.length,lM]
  let ll:=R2.len;rw[lAq]at ll;let nf':(ts.take (i+1)).foldl (jt ls) ([],[],0,)=jt ls (b,X,i,) d:=by rw[bf N,List.foldl_append,nf];rfl
  let(dx,kl,kg,e1,e2,e3,_):=id G6.ex;apply(_,rfl,Yv v kvs D6,_,rfl,_,rfl,v,O,QD d (ls++b),.int i,kvs,rfl,rfl,D6,eg (by lia),sg6,sgn6,?_);cases ha:Jbp (QD d (ls++b)) with
  | none =>
   let fn:X.find? (λe=>decide (e.1=QD d (ls++b)))=none:=by
    rcases NR.at (k:=QD d (ls++b)) with ⟨e,x,y1,y2,y3⟩|⟨y1,y2⟩
    .rw[ha]at y1;cases y1
    .exact y2
   apply Jlj ?_;let G7:JlS (upd Y v (iF P w v (kvs++[(QD d (ls++b),O,.int i,)]))) C g (ls++b).length (ls++b) (I::av):=G6.put (.inr D6.nol) (λz=>D6.noi (z▸e1)) ndl ndg;let kt:=bj.sd (o:=iF P w v (kvs++[(QD d (ls++b),O,.int i,)])) D6;let D7:SD P w (upd Y v (iF P w v (kvs++[(QD d (ls++b),O,.int i,)]))) v (kvs++[(QD d (ls++b),O,.int i,)]):=.inr ao;let sH7:X2 H (upd Y v (iF P w v (kvs++[(QD d (ls++b),O,.int i,)]))):=sH6.grow hnd;let hf7:(upd Y v (iF P w v (kvs++[(QD d (ls++b),O,.int i,)]))) I=some (.lst zs):=by rw[JJ ndf];exact hf6
   let(dx7,kl7,kg7,e17,_):=id G7.ex;apply(_,rfl,g,dx7,_,rfl,e17,rfl,_,rfl,_,rfl,g,ld,gd,i,i,_,_,_,_,rfl,G7,_,rfl,?_);rw[dTq (show hdL (ls++b) (i:Int)=hdL (ls++b) (i:Int) from rfl)];apply bq (_,_,_,_,b,zs,_,rfl,sH7,hf7,Jmw kt L,G7,R2,D7,?_,λe B=>?_,λe B=>?_,λem j t' hj S=>?_,X++[(QD d (ls++b),(i:Int),)],?_,NR.snoc)
   .rw[lAq];show Jbr 1<=i+1;lia
   .rcases mPq B with B | B
    .exact(sg6 e B).keep kt
    .cases mSq B;exact sgn6.keep kt
   .rcases mPq B with B | B
    .let(j,t',es,Z,z2,z3):=N2 e B;exact JmZ j t' es Z z3
    .cases mSq B;exact IR i d _ (by lia) N rfl idm
   .subst em;rw[List.append_nil]at ha;rw[List.append_nil];by_cases c:j=i
    .subst c;cases N.symm.trans S;exact Jh _ _ (Bf ha) rfl
    .let(e,k,Z,z2,z3):=A2 rfl j t' (by lia) S;exact(e,k,Be (k2:=QD d ls) Z,z2,z3)
   .rw[nf'];unfold jt;rw[fn]
  | some e =>
   apply .inl (Nc e ?_);let(em,ek):=Bc ha;let(j,tj,es,Z,z2,z3,z4,z5):=N2 e em;obtain⟨x,fx,xj⟩:∃x,X.find? (λe=>decide (e.1=QD d (ls++b)))=some x/\x.2=(j:Int):=by
    rcases NR.at (k:=QD d (ls++b)) with ⟨e',x,y1,y2,y3⟩|⟨y1,y2⟩
    .cases ha.symm.trans y1;apply Id x y2;have:=y3.symm.trans Z;injection this
    .rw[ha]at y1;cases y1
   rw[Z];apply(_,rfl,g,dx,_,rfl,e1,rfl,_,rfl,_,rfl,g,ld,gd,j,i,_,_,_,_,rfl,G6,_,rfl,?_);by_cases c:hdL (ls++b) (j:Int)=hdL (ls++b) (i:Int)
   .rw[dTq c];apply bq (_,_,_,_,b,zs,kvs,rfl,sH6,hf6,L,G6,R2,D6,by lia,sg6,(λe B=>by let(j,t',es,Z,z2,z3):=N2 e B;exact JmZ j t' es Z z3),λem' k t' hk S=>?_,X,?_,NR)
    .by_cases c2:k=i
     .subst c2;cases N.symm.trans S;subst em';rw[List.append_nil]at ha c;exact(e,j,ha,Z,c)
     .exact A2 em' k t' (by lia) S
    .rw[nf'];unfold jt;rw[fx];show(if hdL (ls++b) x.2=hdL (ls++b) (i:Int) then _ else _)=_
     rw[xj,if_pos c]
   .rw[dFq c];let b1:Jc9 (j:Int)∧(j:Int)<(ts.length:Int):=by lia
    let b2:Jc9 (i:Int)/\(i:Int)<(ts.length:Int):=by lia
    apply bU (_,rfl,g,dx,_,rfl,e1,rfl,_,rfl,_,rfl,g,ld,gd,j,i,_,_,_,_,rfl,G6,b1,b2,N100,by rw[lAq];lia,avl sH6 (Qu hf6) (_,_,_,e1,e2,e3),λH7 s7 G7=>?_);let sH7:=sH6.trans s7;let hf7:=G6.lstG s7 hf6;let has7:=Jmw (G6.ktG s7) L;let D7:JgD P w H7 v:=D6.to λo z=>s7 _ _ ndl ndg z;let sg7:∀e∈kvs,gB K H7 e.1 e.2.1:=λe B=>(sg6 e B).keep (G6.ktG s7);apply XI _ (JeM hf7) _ rfl _ rfl _ rfl lS3 (λr hr'=>?_);let J:VB H7 H7 r (Gy j i (-1)):=Wm hr';let n8:=ao (H:=H7) (a:=r) (o:=JiX j i (-1));let G8:=G7.same J;let sH8:=sH7.trans (J.g (ld:=ld) (gd:=gd));let hf8:=J _ _ hf7;let has8:=Jmw J.kt has7;let D8:JgD P w (Mb H7 r (Gy j i (-1))) v:=D7.to λo z=>J _ _ z;let sg8:∀e∈kvs,gB K (Mb H7 r (Gy j i (-1))) e.1 e.2.1:=λe B=>(sg7 e B).keep J.kt;generalize Mb H7 r (Gy j i (-1))=H8 at J n8 G8 sH8 hf8 has8 D8 sg8;let kt:=bj.lst (ys:=Jmu zs r) hf8;let al:kj ts (hdL (ls++b)) (j:Int) (i:Int):=by
     apply(tj,d,by rw[Int.toNat_natCast];exact z3,by rw[Int.toNat_natCast];exact N,?_,?_)
     .have:=Ja2 (z4.symm.trans ek);exact this
     .let h2:es.map Sum.inl=(d.2.map (hdL (ls++b))).map Sum.inl:=Jew (z4.symm.trans ek);rw[<-z5,wx h2];exact idm
    let R8:Jc6 (ls++(b++[((j:Int),(i:Int),(-1:Int),)])):=by rw[<-List.append_assoc];exact R2.snoc (b1,b2,c,Jlj al)
    apply(I,_,_,rfl,rfl,hf8,eg (by lia),_,_,_,_,b++[((j:Int),(i:Int),(-1:Int),)],Jmu zs r,kvs,rfl,sH8.grow hfl0,ao,?_,?_,R8,D8.to λo z=>by rw[aq ndf];exact z,by lia,λe B=>(sg8 e B).keep kt,?_,(λz=>Vh z),X,?_,NR)
    .rw[mAq];exact Wv (Jmw kt has8) (oa (l:=((j:Int),(i:Int),(-1:Int),)) (Jhc n8))
    .rw[<-List.append_assoc,iD,lAq];exact G8.putL List.mem_cons_self hf8
    .rw[<-List.append_assoc];exact N2.more _ (by lia)
    .rw[nf'];unfold jt;rw[fx];show(if hdL (ls++b) x.2=hdL (ls++b) (i:Int) then _ else _)=_
     rw[xj,if_neg c]
 .rintro σ H2 ⟨v4,v5,v6,v7,b,zs,kvs,rfl,s2,hf2,W,G2,R2,D2,l2,sg2,N2,A2,X,nf,NR⟩;rw[xl]at A2 nf;rw[List.take_length]at nf;exact Yu (q H2 I b zs s2 hfl0 hf2 W (G2.sub λz hz=>Jb hz) R2 (λz=>(A2 z).closed) (by unfold alF;rw[nf]))
inductive sp_links (K):Sp|m{vs H Q E9} (a ga) (xs ys) (gs) (ts):vs=JC a ga->JD a->Jnm dTm->JjW ga->JjV (gs.map dP) ys (wu ts.length gs->(∀t∈ts,U9 t.2.length)->QX (JI 100) gs.length ((∀H' l ls zs,UN l (Ql l zs->Jnv dL->JfK (Jc6 ls) (J0 gs ls) (JbG ts ls) (ls=gC ts gs) l))->sp_links K vs H Q E9))
def lX:Vf ["terms","given","groups","found","more"] (JjA "given") s_links:=fsc
def ok_links (F:Ix "links" "links" s_links)(TL:Jg "len")(MK:Mk K C fI)(mC:mg "Groups"=Ja C)(Bi:Mp 1 fI dI ["self"] (oz C))(bi:JiV dI)(L:IS 3 "given_links" fG dG (Jdr "given") (qH K C))(r:IS 3 "alike_links" fA dA (Jdr "terms") (qI K C)):NF 4 (JjA "given") (sp_links K):=by
 apply II lX
 let(a,ga,xs,ys,D,ts,rfl,hS,hL,hSg,hLg,hP,M,G,W,q):=h;let hr2:Jk2 2:=hr.mono (by decide);apply Qq (X7 (i:=2) lX.nd (jM MK Bi hr2 rfl mC bi .nil aJ) (i:=3) lX.nd (JbA L.ok hr L.m L.kp L.b 1 2) (Nn (i:=4) lX.nd (JbA r.ok hr r.m r.kp r.b 0 2) (Ja8 (JgQ (Vg ak TL bLq (Jd 4))) (Ja7 (Ub PySem.F.slot_list_extend PySem.F.type_list_extend uW (pv 3) (Jd 4)) (Jmr (i:=4) lX.nd (JbA r.ok hr r.m r.kp r.b 0 2)))) (QJ 3)))
 intro g dx ng ndx nex;let s0:∀b o,Gc b o->(Jht g g) b=some o:=λb o h=>by rw[aq (λe=>by rw[e,ng]at h;cases h),aq (λe=>by rw[e,ndx]at h;cases h)];exact h
 let hg0:=ao (H:=Mx dx g) (a:=g) (o:=Wh C []);let f0:∀b,(Jht g g) b=none->Gf b:=λb h=>by
  cases e:H b with
  |none=>rfl
  |some o=>rw[s0 b o e]at h;cases h
 generalize Jht g g=H0 at s0 hg0 f0;apply Gn g dx hg0 (λH1 ld gd k1 nl ngd ne hg1 hl1 hgd1=>Mm rfl);let s1:MU H1:=λb o h=>k1 b o (λe=>by rw[e,ng]at h;cases h) (s0 b o h);let G1:JlS H1 C g 0 [] []:=(Hd.zero _,ne,dx,[],[],hg1,hl1,hgd1,λt=>rfl,λx V=>Jfo [x] (λt=>by show t∈[x]↔t=x;simp) (JaU rfl),Nat.zero_le _,Nat.zero_le _);let T:=f0 ld nl;let u:=f0 gd ngd;apply(_,rfl,_,rfl,ga,g,ld,gd,ys,D,ts,rfl,s1.seq hSg,Nu s1.kt _ hLg,hP,G1,G,W,λH2 p d zs s2 hfl O has2 G2 R2 g2 ef=>?_);let S:=s1.ofG T u s2;apply(_,rfl,_,rfl,a,g,ld,gd,xs,D,ts,d,[p],rfl,S.seq hS,JdB S.kt _ hL,G2,(λz hz=>by cases mSq hz;rw[O];exact λe=>nomatch e),M,G,R2,λH3 ml j l s3 hml Z has3 G3 R3 c3 em=>?_);let sH3:=S.ofG T u s3;let N:=s1.free hfl;apply Id (λm σ H'=>Ex5 λ ml d j zs l=>An11 (σ=[Ja a,Ja ga,Ja g,Ja p,Ja ml]) (m=ts.length+1-d.length) (Xd H) (Ql p zs) (Jnu (d.map dL)) (Ql ml l) (G_ (j.map dL) l) (JlS H' C g (d++j).length (d++j) [p]) (bz ts D (d++j)) (J0 D (d++j)) (((j=[]->JbG ts d))/\j=JiI d/\(∃k:Nat,ts.length<k+d.length/\lkF ts k d=gC ts D))) (_,ml,d,j,zs,l,rfl,rfl,sH3,G2.lstG s3 O,Jmw (G2.ktG s3) has2,Z,has3,G3,R3,g2.more _,c3,em,ts.length+1,by lia,by rw[ef];rfl)
 rintro m σ X ⟨ml,d,j,zs,l,rfl,rfl,s4,v,B,hm4,y,G4,R4,g4,c4,em4,k4,kl4,ek4⟩;let wl:l.length=j.length:=by rw[<-y.length,lM]
 let zl:Jdb d.length:=by rw[<-B.length,lM]
 let ll:=R4.len;rw[lAq]at ll;apply Jg2 _ ml _ (Jc hm4) _ _ _ rfl ?_;by_cases c:j=[]
 .subst c;rw[List.length_nil]at wl;rw[List.append_nil]at G4 R4 g4;rw[show decide ((l.length:Int) > 0)=false by rw[wl];rfl];let er:d=gC ts D:=by
   rw[<-ek4];cases k4 with
   |zero=>
    rfl
   |succ k=>
    show d=if JiI d=[] then d else _
    rw[if_pos em4.symm]
  exact bq (Yu (q X p d zs s4 N v B R4 g4 (c4 rfl) er))
 let mp:0<j.length:=List.length_pos_iff.mpr c;rw[show decide ((l.length:Int)>0)=true from dTq (by lia)];apply bU (Id (λY H'=>Ex3 λ J n I=>An11 (Y=[Ja a,Ja ga,Ja g,Ja p,Ja J]) (Xd H) (Ql p (zs++l)) (G_ ((d++j).map dL) (zs++l)) (Ql J I) (G_ (n.map dL) I) (JlS H' C g (d++j++n).length (d++j++n) [p]) (bz ts D (d++j++n)) (J0 D (d++j++n)) ((n=[]->JbG ts (d++j))) (n=JiI (d++j)/\(∃k:Nat,ts.length<k+(d++j).length/\lkF ts k (d++j)=gC ts D))) ?_)
 .rintro Y H' ⟨J,n,I,rfl,z1,z2,z3,z4,z5,z6,z7,z8,z9,z10⟩;apply(_,?_,J,d++j,n,zs++l,I,rfl,rfl,z1,z2,z3,z4,z5,z6,z7,z8,z9,z10);rw[lAq];lia
 apply(_,rfl,JeM v,_,rfl,p,ml,zs,l,rfl,rfl,v,hm4,oB (by lia),?_);let kt:=bj.lst (ys:=zs++l) v;let s5:MU (Qa X p (zs++l)):=s4.upd N;let G5:JlS (Qa X p (zs++l)) C g (d++j).length (d++j) [p]:=G4.putL List.mem_cons_self v;let n5:=ao (H:=X) (a:=p) (o:=.lst (zs++l));let R:Il (Qa X p (zs++l)) ((d++j).map dL) (zs++l):=by rw[mAq];exact ar.append (Jmw kt B) (Jmw kt y)
 generalize Qa X p (zs++l)=H5 at s5 G5 n5 R;apply(_,rfl,_,rfl,a,g,ld,gd,xs,D,ts,d++j,[p],rfl,s5.seq hS,JdB s5.kt _ hL,G5,(λz hz=>by cases mSq hz;rw[n5];exact λe=>nomatch e),M,G,R4,λH6 ml6 ms6 ws6 s6 hml6 U has6 G6 R6 c6 em6=>?_);exact(ml6,ms6,ws6,rfl,s5.ofG T u s6,G5.lstG s6 n5,Jmw (G5.ktG s6) R,U,has6,G6,R6,g4.more _,c6,em6,k4-1,(by rw[lAq];lia),by
  cases k4 with
  |zero=>lia
  |succ k=>
   rw[<-ek4];show lkF ts k (d++j)=if JiI d=[] then d else lkF ts k (d++JiI d)
   rw[<-em4,if_neg c])
noncomputable def fk (ts:List Tm)(c:UM Int)(a b:Int):Bool:=match ts[a.toNat]?,ts[b.toNat]? with
 |some t,some u=>decide (t.1=u.1)&&decide (t.2.map c=u.2.map c)
 |_,_=>false
def Forest (L:List Lk):Prop:=∀i l,L[i]?=some l->GD i l.1≠GD i l.2.1
def Cut (L:List Lk)(q:Nat)(c:UM Bool):Prop:=∀i l,L[i]?=some l->(if i=q then c l.1≠c l.2.1 else c l.1=c l.2.1)
def take_link {L:List Lk}{i j:Nat}{l:Lk}(h:L[j]?=some l)(a:j<i):GD i l.1=hdL (L.take i) l.2.1 :=
 vU _ l (mO (by rw[List.getElem?_take,if_pos a];exact h))
set_option tactic.hygienic true in
theorem oD {L:List Lk}(F:Forest L){q:Nat}{g:Lk}(k:L[q]?=some g):∀n,Jh7 (q+1+n)->∃c,Cut (L.take (q+1+n)) q c
 | 0,_=>by
  apply(λt=>decide (GD q t=GD q g.1),λi l a=>?_);rw[List.getElem?_take]at a;split at a
  .rename_i d;split
   .rename_i e;subst e;cases k.symm.trans a;have:=F i g k;simp only[decide_true,ne_eq];intro z;exact this (oDq z.symm).symm
   .rename_i e;dsimp only;rw[take_link a (show i<q by lia)]
  .cases a
 | n+1,h=>by
  let(c,u):=oD F k n (by lia);let d:Jav (q+1+n):=by lia
  obtain⟨r,j⟩:∃r,L[q+1+n]?=some r:=Jgg d;let b:∀i l,L[i]?=some l->i<q+1+n->(if i=q then c l.1≠c l.2.1 else c l.1=c l.2.1):=λi l a d=>u i l (by rw[List.getElem?_take,if_pos d];exact a)
  by_cases e:c r.1=c r.2.1
  .apply(c,λi l a=>?_);rw[List.getElem?_take]at a;split at a
   .rename_i f;by_cases p:i=q+1+n
    .subst p;cases j.symm.trans a;rw[if_neg (by lia)];exact e
    .exact b i l a (by lia)
   .cases a
  .apply(λt=>if GD (q+1+n) t=GD (q+1+n) r.2.1 then !c t else c t,λi l a=>?_)
   rw[List.getElem?_take]at a;split at a
   .rename_i f;by_cases p:i=q+1+n
    .subst p;cases j.symm.trans a;rw[if_neg (by lia)];dsimp only;rw[if_pos rfl,if_neg (F _ _ j)];revert e;cases c r.1<;>cases c r.2.1<;>simp
    .let o:=b i l a (by lia);let s:=take_link a (show i<q+1+n by lia);dsimp only;rw[s];by_cases z:GD (q+1+n) l.2.1=GD (q+1+n) r.2.1
     .rw[if_pos z,if_pos z];split at o
      .rw[if_pos ‹_›];revert o;cases c l.1<;>cases c l.2.1<;>simp
      .rw[if_neg ‹_›,o]
     .rw[if_neg z,if_neg z];exact o
   .cases a
def cut_at (F:Forest L){q:Nat}(a:Jav q):∃c,Cut L q c:=by let(c,h):=oD F (gG a) (Jfx (q+1)) (by lia);rw[show q+1+Jfx (q+1)=L.length by lia,List.take_length]at h;exact(c,h)
def RightL_forest (h:Jc6 L):Forest L:=λi l a=>(h i l a).new
def same_cls (c:UM α){S:List Lk}(h:∀l∈S,c l.1=c l.2.1){t u:Int}(e:hdL S t=hdL S u):c t=c u :=
 ((vT (λx=>c x=c u) S (λl a=>by rw[h l a]) t u e).mpr rfl)
structure PathOk (L:List Lk)(π:List Nat)(x y):Prop where
 inn:∀q∈π,Jav q
 walk:∀(c:UM Int),(∀q∈π,∀l,L[q]?=some l->c l.1=c l.2.1)->c x=c y
 cut:∀q∈π,∀c:UM Bool,Cut L q c->c x≠c y
def PathOk.nil (L)(x):XN [] x x:=(by simp,λy y=>rfl,by simp)
def PathOk.step (h:XN π x y)(k:L[p]?=some l)(hz:(l.1=y∧l.2.1=z)∨(l.2.1=y∧l.1=z))(u:p∉π):XN (π++[p]) x z:=by
 let v:=(gEq k).1;apply(λq j=>?_,λc g=>?_,λq j c g=>?_)
 .rcases mPq j with a | a
  .exact h.inn q a
  .rw[mSq a];exact v
 .let i:=h.walk c λq j l A=>g q (Ma j) l A;let d:=g p (Na (List.mem_singleton.mpr rfl)) l k;rcases hz with ⟨a,b⟩ | ⟨a,b⟩
  .rw[i,<-a,d,b]
  .rw[i,<-a,<-d,b]
 .by_cases o:q=p
  .subst o;let i:=h.walk (λt=>if Xh (c t) then 1 else 0) λr f w n=>by have:=g r w n;rw[if_neg (λe:r=q=>u (e ▸ f))]at this;rw[this]
   let d:=g q l k;rw[if_pos rfl]at d;let s:c x=c y:=by revert i;cases c x<;>cases c y<;>simp
   rcases hz with ⟨a,b⟩|⟨a,b⟩
   .rw[s,<-a,<-b];exact d
   .rw[s,<-a,<-b];exact λz=>d z.symm
  .let f:q∈π:=by
    rcases mPq j with a|a
    .exact a
    .exact absurd (mSq a) o
   let i:=h.cut q f c g;let d:=g p l k;rw[if_neg (λe=>o e.symm)]at d;rcases hz with ⟨a,b⟩|⟨a,b⟩
   .rw[<-b,<-d,a];exact i
   .rw[<-b,d,a];exact i
def PathOk.below (F:Forest L){b:List Nat}{x y:Int}{k:Nat}(h:XN b x y)(e:GD k x=GD k y):∀q∈b,q<k:=λq d=>by
 apply Decidable.byContradiction λn=>?_;let(c,f):=cut_at F (h.inn q d);apply h.cut q d c f (same_cls c (λl g=>?_) e);let(i,a):=List.mem_iff_getElem?.mp g;rw[List.getElem?_take]at a;split at a
 .have:=f i l a;rw[if_neg (by lia)]at this;exact this
 .cases a
noncomputable def pairsF (ts:List Tm)(l:Lk):Wl Int:=if l.2.2=-1 then(match ts[l.1.toNat]?,ts[l.2.1.toNat]? with|some t,some u=>t.2.zip u.2|_,_=>[]) else []
theorem wK:∀{c bs:List Int},Jne hd hd->∀p∈c.zip bs,hd p.1=hd p.2
 |[],_,_,p,h=>by simp at h
 |_::_,[],h,_,_=>by simp at h
 |a::c,b::bs,h,p,d=>by
  rw[List.map_cons,List.map_cons]at h;injection h with g f;rw[List.zip_cons_cons]at d;rcases List.mem_cons.mp d with e|e
  .rw[e];exact g
  .exact wK f p e
theorem eq_map_zip:∀{c bs:List Int},c.length=bs.length->(∀p∈c.zip bs,hd p.1=hd p.2)->Jne hd hd
 |[],[],_,_=>rfl
 |a::c,b::bs,h,d=>by rw[List.map_cons,List.map_cons,d (a,b,) (by rw[List.zip_cons_cons];exact List.mem_cons_self),eq_map_zip (by simpa using h) λp q=>d p (by rw[List.zip_cons_cons];exact Jb q)]
set_option tactic.hygienic true in
def pairs_joined (R:Jc6 L){k:Nat}{l:Lk}(c:L[k]?=some l):∀p∈QN l,GD k p.1=hdL (L.take k) p.2:=λp b=>by
 unfold pairsF at b;split at b
 .rename_i e;rcases(R k l c).how with ⟨a,_⟩ | ⟨_,t,u,e1,e2,_,e4⟩
  .lia
  .rw[e1,e2]at b;exact wK e4 p b
 .simp at b
structure Needs (ts)(L:List Lk)(x y)(M:List Nat):Prop where
 inn:∀q∈M,Jav q
 why:∀q∈M,∃π a b,XN π a b/\q∈π/\((a=x/\b=y)\/∃p∈M,∃l,L[p]?=some l/\(a,b,)∈QN l)
 top:∃π,XN π x y/\∀q∈π,q∈M
 all:∀p∈M,∀l,L[p]?=some l->∀ab∈QN l,∃π,XN π ab.1 ab.2/\∀q∈π,q∈M
noncomputable def atP (L:List Lk)(M:List Nat):List Lk:=M.map λq=>L.getD q (0,0,0,)
def getD_at {L:List Lk}{q:Nat}{l:Lk}(h:L[q]?=some l):L.getD q (0,0,0,)=l:=by rw[List.getD_eq_getElem?_getD,h];rfl
def mem_atP {L:List Lk}{M:List Nat}{q:Nat}{l:Lk}(a:q∈M)(h:L[q]?=some l):l∈atP L M:=Vd q a (getD_at h)
def of_atP {L:List Lk}{M:List Nat}(c:∀q∈M,Jav q){l:Lk}(h:l∈atP L M):∃q∈M,L[q]?=some l:=by let(q,a,e):=List.mem_map.mp h;let b:=gG (c q a);rw[getD_at b]at e;exact(q,a,by rw[b,e])
noncomputable def nbr1 (L:List Lk)(t:Int)(i:Nat):Wl Int:=match L[i]? with
 |some l=>(if l.1=t then [(l.2.1,(i:Int),)] else [])++(if l.2.1=t then [(l.1,(i:Int),)] else [])
 |none=>[]
def nbr (L:List Lk)(n:Nat)(t:Int):Wl Int:=(List.range n).flatMap (nbr1 L t)
def B6 (L)(n)(t):nbr L (n+1) t=nbr L n t++nbr1 L t n:=by unfold nbr;rw[List.range_succ,List.flatMap_append,List.flatMap_cons,List.flatMap_nil,List.append_nil]
def B7 (h:(u,p,)∈nbr L n t):∃(i:Nat) (l:Lk),p=(i:Int)/\L[i]?=some l/\((l.1=t/\l.2.1=u)\/(l.2.1=t/\l.1=u)):=by
 let(i,_,b):=List.mem_flatMap.mp h;unfold nbr1 at b;cases e:L[i]? with
 |none=>rw[e]at b;simp at b
 | some l =>
  rw[e]at b;apply Id i l;rcases mPq b with a|a
  .by_cases c:l.1=t
   .rw[if_pos c]at a;have:=mSq a;injection this with f d;exact(d,e,Uh c f.symm)
   .rw[if_neg c]at a;simp at a
  .by_cases c:l.2.1=t
   .rw[if_pos c]at a;have:=mSq a;injection this with f d;exact(d,e,Yg c f.symm)
   .rw[if_neg c]at a;simp at a
def B8 (a:i<n)(h:L[i]?=some l):(l.2.1,(i:Int),)∈nbr L n l.1/\(l.1,(i:Int),)∈nbr L n l.2.1:=by
 constructor
 .apply List.mem_flatMap.mpr (JbJ i a);unfold nbr1;rw[h];dsimp only;rw[if_pos rfl];exact Ma (List.mem_singleton.mpr rfl)
 .apply List.mem_flatMap.mpr (JbJ i a);unfold nbr1;rw[h];exact Na (by rw[if_pos rfl];exact List.mem_singleton.mpr rfl)
structure StD (K)(H0 H:Hp)(d)(kvs)(N:UM (Wl Int))(b):Prop where
 hd:JY d
 nd:Jb3 d
 len:WP b
 big:∀t,(N t).length<=b
 at_:∀t,(Uf (Jfj t)/\N t=[])\/∃l xs,Jfj t=Ja l/\UL l/\Jb3 l/\l≠d/\VQ ((N t).map dP)
 inj:∀t u l,Jfj t=Ja l->Jfj u=Ja l->t=u
 same:ap H0 H
def StD.step (S:StD K H0 H d kvs N b)(same:Xd H0)(A:JeG d kvs')(q:kvs'.length≤b+1)(y:J4 H')
  (r:VD kvs' k=Ja l)(z:Ql l xs')(w:Jb3 l)(ld:l≠d)(s:G_ ((N k++[(u,i,)]).map dP) xs')(c:∀t,t≠k->VD kvs' t=Jfj t)
  (kl:∀t p ys,t≠k->Jfj t=Ja p->Uo p ys->JgN p/\p≠l):StD K H0 H' d kvs' (λt=>if t=k then N t++[(u,i,)] else N t) (b+1):=by
 apply(A,S.nd,q,λt=>?_,λt=>?_,λt v l2 g f=>?_,same)
 .have:=S.big t;split
  .rw[lAq];show _+1<=_;lia
  .lia
 .by_cases e:t=k
  .subst e;apply .inr (l,xs',r,z,w,ld,?_);rw[if_pos rfl];exact s
  .rw[if_neg e,c t e];rcases S.at_ t with a | ⟨l2,ys,h,o,D,C,B⟩
   .exact .inl a
   .exact .inr (l2,ys,h,(kl t l2 ys e h o).1,D,C,Nu y _ B)
 .by_cases n:t=k
  .by_cases j:v=k
   .rw[n,j]
   .subst n;rw[r]at g;cases g;rw[c v j]at f;rcases S.at_ v with a | ⟨x,ys,h,o,_⟩
    .rw[a.1]at f;cases f
    .rw[h]at f;cases f;exact GE (kl v _ ys j h o).2
  .by_cases j:v=k
   .subst j;rw[r]at f;cases f;rw[c t n]at g;rcases S.at_ t with a | ⟨x,ys,h,o,_⟩
    .rw[a.1]at g;cases g
    .rw[h]at g;cases g;exact GE (kl t _ ys n h o).2
   .rw[c t n]at g;rw[c v j]at f;exact S.inj t v l2 g f
def StD.old (S:StD K H0 H d kvs N b)(A:Gf e)(y:(Jkr H) p=none)
  (r:Jfj k=Ja l)(q:UL l)(g:VQ ((N k).map dP))(h:Jb3 l)(ld:l≠d):
  StD K H0 (Jmv (Mb (Jkr H) p (Qr u i)) l xs p) d kvs (λt=>if t=k then N t++[(u,i,)] else N t) (b+1):=by
 let s:MU (Jkr H):=Wm A;let c:VB H (Jkr H) p (Qr u i):=s.trans (Wm y);let f:=ao (H:=Jkr H) (a:=p) (o:=Jcv u i);generalize WW _ p=D at c f;let n:J4 (Jmv D l xs p):=c.kt.trans (bj.lst (c _ _ q));let v:p≠l:=λz=>by rw[z,c _ _ q]at f;cases f
 apply S.step (S.same.trans c |>.upd h) (by rw[aq ld.symm];exact c _ _ S.hd) (by have:=S.len;lia) n r (ao ..) h ld ?_ (λm m=>rfl) λt w ys x C B=>?_
 .rw[mAq];apply ar.append (Nu n _ g) (Wy (Wr (by rw[aq v];exact f) (Jcw Has.int)))
 .let j:w≠l:=λz=>x (S.inj t k l (z▸C) r);exact(by rw[aq j];exact c _ _ B,j)
def StD.new (S:StD K H0 H d kvs N b)(h:Gf e)(B:(JdG (Jkr H) d kvs k e) p=none)
  (P:Uf (Jfj k))(I:N k=[]):
  StD K H0 (Qa (Mb (JdG (Jkr H) d kvs k e) p (Qr u i)) e (Gj p)) d (UI kvs k e) (λt=>if t=k then N t++[(u,i,)] else N t) (b+1):=by
 let v:e≠d:=λz=>by rw[z,S.hd]at h;cases h
 let j:Jb3 e:=by
  cases z:H0 e with
  |none=>rfl
  |some o=>rw[S.same _ _ z]at h;cases h
 let r:cq d H (JdG (Jkr H) d kvs k e):=((Wm h).x d).trans (Jcr _);let k1:=r.kt S.hd;let E:=ao (H:=Jkr H) (a:=d) (o:=.dK (UI kvs k e));let D:(JdG (Jkr H) d kvs k e) e=some (.lst []):=by rw[aq v,ao]
 generalize WW _ d=s at B r k1 E D;let f:VB s s p (Qr u i):=Wm B;let g:=ao (H:=s) (a:=p) (o:=Jcv u i);generalize WW s p=F at f g;let C:=f _ _ D;let M:p≠e:=λz=>by rw[z,C]at g;cases g
 let O:J4 (Qa F e (Gj p)):=(k1.trans f.kt).trans (bj.lst C);let G:JcI H0 F e (Gj p):=λc o n=>by
  let L:c≠d:=λz=>by rw[z,S.nd]at n;cases n
  let g:c≠e:=λz=>by rw[z,j]at n;cases n
  rw[aq g];exact f _ _ (r _ _ L (S.same _ _ n))
 apply S.step G (by rw[aq v.symm];exact f _ _ E) (by have:=lu kvs (Sum.inl k) (.ref e);have:=S.len;lia) O (by rw[gW,if_pos rfl]) (ao ..) j v ?_ (λt A=>by rw[gW,if_neg (λz=>A (Sum.inl.inj z))]) λt y ys A Q q=>?_
 .rw[I];exact Wy (Wr (by rw[aq M];exact g) (Jcw Has.int))
 .let w:y≠e:=λz=>by rw[z,h]at q;cases q
  let J:y≠d:=λz=>by rw[z,S.hd]at q;cases q
  exact(by rw[aq w];exact f _ _ (r _ _ J q),w)
def wL (S:StD K H0 H d kvs N b)(A:Jt b)(a:Gf e)
  (q:∀l xs H' f,Mn H0 (Jdx (Ql l xs) (Jao b) (∀p u i,JaD p->StD K H0 (Jmv (Mb H' p (Qr u i)) l xs p) d f (λt=>if t=k then N t++[(u,i,)] else N t) (b+1)) l)):
  lL (.ref d) (VH k e) (Jkr H) Q:=by
 let r:e≠d:=λz=>by rw[z,S.hd]at a;cases a
 apply JlX d (.inl k) (.ref e) kvs (by rw[aq r.symm];exact S.hd) (hln (by have:=S.len;lia)) ?_;rcases S.at_ k with ⟨g,h⟩|⟨l,xs,g,h,y,x,s⟩
 .apply Yg g (q e [] _ _ (λc o n=>?_) (by rw[aq r,ao]) (Nat.zero_le _) λp u i j=>S.new a j g h);let v:c≠d:=λz=>by rw[z,S.nd]at n;cases n
  rw[aq v];exact aW a _ _ _ (S.same _ _ n)
 .let w:Jao b:=by have:=s.length;rw[lM]at this;have:=S.big k;lia
  exact Qi _ g (q l xs _ kvs (S.same.trans (Wm a)) (aW a _ _ _ h) w λp u i j=>S.old a j g h s y x)
inductive qJ (K):Sp|m{vs H Q E9} (a) (ys) (L):vs=Gj a->JjW a->JkI dL ys (U9 L.length->(∀H' d kvs,MF (StD K H H' d kvs (Je9 L) (2*L.length)) d)->qJ K vs H Q E9)
def oE:Vf ["links","steps","place","link"] ["links"] s_steps_of:=fsc
def ok_steps_of (F:Ix "steps_of" "steps_of" s_steps_of)(T:JdT K):Jih ["links"] (qJ K):=by
 apply II oE
 let(a,ys,L,rfl,X,hL,L100,q):=h;let yl:JbE L.length:=by rw[<-hL.length,lM]
 apply Qq (Nn (i:=1) oE.nd gZ (Ib rfl (nQ rfl T.enumerate (Jd 0)) (kR rfl (Jdu (i:=2) oE.nd (Jdu (i:=3) oE.nd kQ))) (Ja7 (Y_ (lN (pv 1) (JbL 3 (bb ac))) (Jga (JlU 3 2))) (JbB (lN (pv 1) (JbL 3 (bb ac))) (Jga (JlU 3 2))))) (QJ 1))
 intro d hd;let Y:StD K H _ d [] _ 0:=(ao ..,hd,nRq _,λt=>nRq _,λt=>JaU rfl,λt u l h1=>(by cases h1),Wm hd);generalize Gk d _=H1 at Y;apply Jir _ a (Y.same.seq X) nP (λi D H'=>Ex3 λ O N kvs=>D=[some _,some _,O,N]/\StD K H H' d kvs (nbr L i) (2*i)) (λi D H' h=>by let(_,_,_,_,S):=h;exact S.same.seq X) (Jh none none [] Y)
 .rintro i D B x H3 hi ⟨O,N,kvs,rfl,S⟩ ⟨t,y,rfl,ht,rfl,hy⟩;let(l,p,hl,rfl,G):=ka hL (hy _ (S.same.seq X));let b:VB B B t (VH i p):=Wm ht;let M:StD K H _ d kvs _ (2 * i):=(b _ _ S.hd,S.nd,S.len,S.big,λu=>by
   rcases S.at_ u with a|⟨l2,ys,I,a2,a3,a4,a5⟩
   .exact .inl a
   .exact .inr (l2,ys,I,b _ _ a2,a3,a4,Nu b.kt _ a5),S.inj,S.same.trans b)
  let U:=ao (H:=B) (a:=t) (o:=JmB i p);generalize WW B t=H3 at M U;let a0:Je5 l.1 l.2.1 l.2.2 0=some _:=ay rfl;let I:Je5 l.1 l.2.1 l.2.2 1=some _:=ay rfl;apply(t,_,rfl,SqT.of U,rfl,_,_,rfl,_,_,rfl,rfl,?_);let i100:i<100:=by lia
  apply(_,rfl,Yv d _ M.hd,_,rfl,p,_,_,_,rfl,rfl,M.same.tup G,a0,lS0,λe he=>?_);apply wL M (by lia) he λl1 xs H4 Z s4 v x4 k4=>?_;apply(JeM v,_,rfl,p,_,_,_,rfl,rfl,s4.tup G,I,_,rfl,lS2,λR n=>Ji0 l1 _ _ (by rw[aq (λz=>by rw[<-z,v]at n;cases n)];exact v) (hln (by lia)) ?_);let J:=k4 R l.2.1 i n;generalize WW _ l1=H5 at J;apply(_,rfl,Yv d _ J.hd,_,rfl,p,_,_,_,rfl,rfl,J.same.tup G,I,lS0,λe2 W=>?_);apply wL J (by lia) W λl2 xs2 H6 C s6 r x6 k6=>?_;apply(JeM r,_,rfl,p,_,_,_,rfl,rfl,s6.tup G,a0,_,rfl,lS2,λp7 k=>Ji0 l2 _ _ (by rw[aq (λz=>by rw[<-z,r]at k;cases k)];exact r) (hln (by lia)) ?_);let S7:=k6 p7 l.1 i k;apply Jh _ _ C ?_;let e:(λt=>if t=l.2.1 then(if t=l.1 then nbr L i t++[(l.2.1,(i:Int),)] else nbr L i t)++[(l.1,(i:Int),)] else(if t=l.1 then nbr L i t++[(l.2.1,(i:Int),)] else nbr L i t))=nbr L (i+1):=by
   funext t;rw[B6];unfold nbr1;rw[hl];dsimp only;by_cases g:t=l.1
   .by_cases c:t=l.2.1
    .rw[if_pos c,if_pos g,if_pos g.symm,if_pos c.symm,List.append_assoc]
    .rw[if_neg c,if_pos g,if_pos g.symm,if_neg (λz=>c z.symm),List.append_nil]
   .by_cases c:t=l.2.1
    .rw[if_pos c,if_neg g,if_neg (λz=>g z.symm),if_pos c.symm,List.nil_append]
    .rw[if_neg c,if_neg g,if_neg (λz=>g z.symm),if_neg (λz=>c z.symm),List.append_nil,List.append_nil]
  rw[e]at S7;exact S7
 rintro D B ⟨O,N,kvs,rfl,S⟩;apply Yu (q B d kvs ?_);rw[yl]at S;exact S
noncomputable def plV (a:List Nat):List V:=a.map λq:Nat=>V.int (q:Int)
def StR (K:W.Frag)(H:Hp)(d:Addr)(N:UM (Wl Int)):Prop:=∃kvs,JY d/\∀t,(N t).length<=1000/\((Uf (Jfj t)/\N t=[])\/∃l xs,Jfj t=Ja l/\UL l/\VQ ((N t).map dP))
def StR.same (h:StR K H d N)(s:Xd H):StR K H' d N:=by
 let(kvs,c,b):=h;apply(kvs,s _ _ c,λt=>Mm ((b t).1));rcases(b t).2 with a|⟨l,xs,a1,a2,a3⟩
 .exact .inl a
 .exact X4 l xs a1 (s _ _ a2) (Nu s.kt _ a3)
def StD.r (S:StD K H0 H d kvs N b)(c:Jt b):StR K H d N:=(kvs,S.hd,λt=>(Nat.le_trans (S.big t) c,by
 rcases S.at_ t with a|⟨l,xs,g,f,_,_,e⟩
 .exact .inl a
 .exact X4 l xs g f e))
structure eT (K)(H0 H)(fd wl)(L)(n:Nat)(x)(kf)(F W:List Int):Prop where
 same:ap H0 H
 hf:Vu fd kf
 hw:Uo wl (W.map V.int)
 keys:kf.map (·.1)=F.map Sum.inl
 nd:F.Nodup
 inn:∀t∈F,0<=t/\t<(n)
 st:x∈F
 sub:∀t∈W,t∈F
 wb:W.length<=2*F.length
 val:∀t v,Xa (VD kf t) v->∃p π,Xl v p/\Nw p (plV π)/\XN π x t/\π.length<F.length/\∀q∈π,∀l,L[q]?=some l->l.1∈F/\l.2.1∈F
def eT.len (S:eT K H0 H fd wl L n x kf F W):F.length<=n:=gv n S.nd S.inn
def eT.to (S:eT K H0 H fd wl L n x kf F W)(s:MU H2):eT K H0 H2 fd wl L n x kf F W :=
 (S.same.trans s,s _ _ S.hf,s _ _ S.hw,S.keys,S.nd,S.inn,S.st,S.sub,S.wb,λt v h=>let (p,π,a,b,c):=S.val t v h;(p,π,a,s.tup b,c))
set_option tactic.hygienic true in
def eT.add (S:eT K H0 H fd wl L n x kf F W)(nf:Jb3 fd)(z:Jb3 wl)
  (j:u∉F)(y:0<=u/\u<(n:Int))(A:Nw pc (plV π))(P:XN π x u)(pl:π.length<=F.length)(D:∀q∈π,∀l,L[q]?=some l->l.1∈F++[u]/\l.2.1∈F++[u]):
  eT K H0 (Qa (JdG H fd kf u pc) wl (W.map V.int++WY u)) fd wl L n x (UI kf u pc) (F++[u]) (W++[u]):=by
 let g:fd≠wl:=λe=>by have:=S.hf;rw[e,S.hw]at this;cases this
 let s:cq fd H (JdG H fd kf u pc):=Jcr _;let w:(JdG H fd kf u pc) wl=some (.lst (W.map V.int)):=by rw[aq g.symm];exact S.hw
 let i:J4 (Qa (JdG H fd kf u pc) wl (W.map V.int++WY u)):=(s.kt S.hf).trans (bj.lst w);let keys:(UI kf u pc).map (·.1)=(F++[u]).map Sum.inl:=by have:=vX S.keys u (.ref pc);unfold addK at this;rw[if_neg j]at this;exact this
 apply((S.same.upd nf).upd z,by rw[aq g,ao],by rw[ao,mAq];rfl,keys,?_,?_,Ma S.st,?_,?_,?_)
 .apply Ja_ S.nd (λa C b B=>?_);rw[mSq B];exact λe=>j (e▸C)
 .intro t f;rcases mPq f with a | a
  .exact S.inn t a
  .rw[mSq a];exact y
 .intro t f;rcases mPq f with a | a
  .exact Ma (S.sub t a)
  .exact Na a
 .have:=S.wb;rw[lAq,lAq];lia
 .intro t v h;rw[gW]at h;split at h
  .rename_i e;cases h;cases Sum.inl.inj e;exact(pc,π,rfl,i.sq A,P,by rw[lAq];show _<_+1;lia,D)
  .let(p,r,a,b,c,d,e):=S.val t v h;exact(p,r,a,i.sq b,c,by rw[lAq];lia,λq k l o=>(Ma (e q k l o).1,Ma (e q k l o).2))
inductive qK (K):Sp|m{vs H Q E9} (d) (x y) (L) (n):vs=JaV d x y->StR K H d (Je9 L)->InN n L->U9 n->0<=x/\x<(n:Int)->0<=y/\y<(n:Int)->JdU x=JdU y->(∀H' p π,ID (Jdx (Jkm p (plV π)) (XN π x y) (π.length<n) p))->qK K vs H Q E9
def lY:Vf ["steps","one","other","found","waiting","term","step"] ["steps","one","other"] s_way:=fsc
abbrev NWy:List Str:=["steps","one","other","found","waiting","term","step"]
def B9 (T:JdT K){cdv:Value}{A:Around}{outer:List Env}{s:Shared}{H0:Hp}{E:XK}{k:Nat}(N:JaY k "way" s_way f):
  ∃t,Jiu (Jd7 CX0 P w K NWy "way" s_way f A s H0 E).nox ((zas s_way).drop 3)/\∀Q H H' d fd b x y L n j F W q o,eT K H H' fd b L n x j F W->(0<=x/\x<(n:Int))->(0<=y/\y<(n:Int))->U9 n->(y∈F\/∀t∈F,∀D∈Jc_ L t,D.1∈F)->
   hdL L x=JdU y->(∀H' p a,ID (Jdx (Jkm p (plV a)) (XN a x y) (a.length<n) p))->
   t { nx:=λm H'=>Q .non H',rt:=Q } [Ja d,Ya x,Ya y,Ja fd,Ja b,q,o] H':=by
 let B:=dr N;apply Qq (J3 (be (Jei B (pv 2) (pv 3))
   fc
   aU) (Jm6 B 3 2 (λm m=>rfl)))
 intro Q H H' d fd b x y L n j F W q o S Z Y r X U G;apply XI _ _ rfl fd _ rfl (bV.k (k:=.inl y) S.hf) _ rfl ?_;rw[kb S.keys y];by_cases c:y∈F
 .rw[dTq c];let hs:(VD j y).isSome=true:=by rw[kb S.keys y];exact dTq c
  let(v,u):=Option.isSome_iff_exists.mp hs;let(p,a,rfl,O,PO,pl):=S.val y v u;let fl:=S.len;let g:=bV.k (k:=.inl y) S.hf;rw[u]at g;exact bq (_,rfl,_,rfl,fd,_,rfl,g,G H' p a S.same O PO (by lia))
 .rw[dFq c];let I:JdU x≠hdL L y:=λe=>by
   rcases X with z|z
   .exact c z
   .apply c ((vT (λt=>t∈F) L (λl R=>?_) x y e).mp S.st);let(i,C):=List.mem_iff_getElem?.mp R;let(M,J):=B8 (gEq C).1 C;exact(λh=>z _ h (l.2.1,(i:Int),) M,λh=>z _ h _ J)
  exact(I U).elim
def ok_way (F:Ix "way" "way" s_way)(T:JdT K):Jih ["steps","one","other"] (qK K):=by
 apply II lY
 let(d,x,y,L,n,rfl,hSt,hN,n100,hx,hy,ej,qY):=h;let I:=dr hr;let(tt,ht,tq):=B9 (base:=base) (cdv:=cdv) (outer:=outer) T hr;apply Qq (X7 (i:=3) lY.nd (pe_d1 (pv 1) (ck ac)) (i:=4) lY.nd (JiP 1) (ae (Ja8 (J_ (JgQ (YH 4)) (Jei I (pv 2) (pv 3))) (JS (i:=5) lY.nd (JbZ pM (pv 4)) (aj (Jck (jT I (pv 0) (pv 5) (bb ac) (Jea rfl)) (i:=6) lY.nd (aj (be (Jei I (Yk 6) (pv 3)) (ae (Jk0 I (pv 3) (Yk 6) (aX Bl (Jm6 I 3 5 (λ_ _=>rfl)) (ck (Jdd 6)))) (JbR 4 (Jdd 6)))
       aU))))))
  ht))
 intro fd hfd;apply Ul _ lS0 (λM N=>Ul (.inl x) ?_ ?_)
 .rw[aq (λe=>by rw[<-e,ao]at N;cases N),ao]
 let nfd:fd≠M:=λe=>by rw[<-e,ao]at N;cases N
 let npt:Gf M:=by let h0:=N;rw[aq nfd.symm]at h0;exact h0
 let s1:MU (Qc (Jfd H fd M []) fd [(.inl x,.ref M,)]):=((Wm hfd).upd npt).upd hfd;let f1:=ao (H:=Jfd H fd M []) (a:=fd) (o:=.dK [(.inl x,.ref M,)]);let t1:(Qc (Jfd H fd M []) fd [(.inl x,.ref M,)]) M=some (.tup []):=by rw[aq nfd.symm,ao]
 generalize Qc (Jfd H fd M []) fd [(.inl x,.ref M,)]=H1 at s1 f1 t1;apply Ul _ lS1 (λC hwl=>?_);let nwl:Gf C:=s1.free hwl;let S0:eT K H (Qa H1 C (WY x)) fd C L n x [(.inl x,.ref M,)] [x] [x]:=by
  let s2:JcI H1 H1 C (WY x):=Wm hwl;apply(s1.trans s2,s2 _ _ f1,ao ..,rfl,by simp,λt ht=>by rw[mSq ht];exact hx,List.mem_cons_self,λt ht=>ht,by simp,λt v h=>?_);by_cases e:(Sum.inl x:Key)=.inl t
  .rw[eM e]at h;cases h;cases Sum.inl.inj e;exact(M,[],rfl,SqT.of (s2 _ _ t1),PathOk.nil L x,by simp,λq hq=>by simp at hq)
  .rw[eC e]at h;cases h
 generalize Qa H1 C (WY x)=H2 at S0;clear s1 f1 t1 hwl N
 letI Cl:List Int->List Int->Prop:=λF W=>∀t∈F,t∉W->∀B∈Jc_ L t,B.1∈F
 apply Id (λm σ H'=>Ex5 λ(v5 Z:Option V) (kf:WT Key) (F W:List Int)=>An4 (σ=[Ja d,Ya x,Ya y,Ja fd,Ja C,v5,Z]) (eT K H H' fd C L n x kf F W) (Cl F W) (m=2*(n-F.length)+W.length)) (_,none,none,_,[x],[x],rfl,S0,(λt ht hn=>absurd ht hn),rfl)
 rintro m σ H3 ⟨v5,Z,kf,F,W,rfl,S,cl,rfl⟩;let inF:∀{H' kf F W},eT K H H' fd C L n x kf F W->∀u,(VD kf u).isSome=decide (u∈F):=λS u=>kb S.keys u;apply Jg2 _ C _ (Jc S.hw) _ _ _ rfl ?_;by_cases cW:W=[]
 .subst cW;exact bq (bq (tq Q H H3 d fd C x y L n kf F [] v5 Z S hx hy n100 (.inr λt ht B D=>cl t ht (by simp) B D) ej qY))
 let wp:0<W.length:=List.length_pos_iff.mpr cW;rw[show decide ((((W.map V.int).length:Nat):Int)>0)=true from dTq (by rw[lM];lia)];apply bU (XI _ _ rfl fd _ rfl (bV.k (k:=.inl y) S.hf) _ rfl ?_);rw[inF S y];by_cases cy:y∈F
 .rw[dTq cy];exact bq (tq Q H H3 d fd C x y L n kf F W v5 Z S hx hy n100 (.inl cy) ej qY)
 rw[dFq cy];apply bU (Id (λσ' H'=>Ex5 λ(v5 Z:Option V) (R:WT Key) (Y W':List Int)=>An4 (σ'=[Ja d,Ya x,Ya y,Ja fd,Ja C,v5,Z]) (eT K H H' fd C L n x R Y W') (Cl Y W') (2*(n-Y.length)+W'.length<2*(n-F.length)+W.length)) ?_)
 .rintro σ' H' ⟨v5',v6',R,Y,W',rfl,a,b,c⟩;exact(_,c,v5',v6',R,Y,W',rfl,a,b,rfl)
 obtain⟨O,t,rfl⟩:∃O t,W=O++[t]:=(W.dropLast,W.getLast cW,(List.dropLast_concat_getLast cW).symm);let tF:t∈F:=S.sub t (by simp);apply Jcl _ (JeM S.hw) C _ (.int t) rfl S.hw ?_ ?_
 .rw[mAq,lAq,List.getElem?_append_right (by show _<=_+1-1;lia)];show [V.int t][_]?=_;rw[show(O.map V.int).length+([t].map V.int).length-1-(O.map V.int).length=0 by show _+1-1-_=0;lia];rfl
 let ew:((O++[t]).map V.int).dropLast=O.map V.int:=by rw[mAq];simp
 rw[ew];let nwf:fd≠C:=λe=>by have:=S.hf;rw[e,S.hw]at this;cases this
 let S1:eT K H (Qa H3 C (O.map V.int)) fd C L n x kf F O:=(S.same.upd nwl,by rw[aq nwf];exact S.hf,ao ..,S.keys,S.nd,S.inn,S.st,λu I=>S.sub u (Ma I),by have:=S.wb;rw[lAq]at this;lia,λu v h=>let (p,π,a,b,c):=S.val u v h;(p,π,a,(bj.lst S.hw).sq b,c));generalize Qa H3 C (O.map V.int)=H4 at S1;let(kst,hst,stAt):=hSt.same S1.same;apply(_,rfl,d,rfl,Jay _ hst,_,rfl,lS0,λe he=>Qq (bV.k (k:=.inl t) (aW he _ _ _ hst)));let s5:ap H4 (Jkr H4):=Wm he;let S5:=S1.to s5;obtain⟨lv,xs,elv,hlv,hxs,nlw,nlf⟩:∃lv xs,(VD kst t).getD (.ref e)=.ref lv/\(Jkr H4) lv=JfT xs/\Il (Jkr H4) ((Jc_ L t).map dP) xs/\lv≠C/\lv≠fd:=by
  rcases(stAt t).2 with ⟨a1,a2⟩|⟨l,xs,a1,a2,a3⟩
  .rw[a1,a2];exact(e,[],rfl,ao ..,ar.nil,(λz=>by rw[z,S1.hw]at he;cases he),(λz=>by rw[z,S1.hf]at he;cases he))
  .rw[a1];let(_,hst0,stAt0):=hSt;cases (S1.same _ _ hst0).symm.trans hst;rcases(stAt0 t).2 with ⟨b1,_⟩ | ⟨l',xs',b1,b2,_⟩
   .rw[a1]at b1;cases b1
   .cases a1.symm.trans b1;exact(l,xs,rfl,s5 _ _ a2,Nu s5.kt _ a3,(λz=>by rw[z,nwl]at b2;cases b2),(λz=>by rw[z,hfd]at b2;cases b2))
 rw[elv];let big:=(stAt t).1;generalize Jkr H4=H5 at s5 S5 hlv hxs;let xl:xs.length=(Jc_ L t).length:=by rw[<-hxs.length,lM]
 apply Jhp lv hlv (JeA cR (λi σ H'=>Ex4 λ(Z:Option V) (R:WT Key) (Y W':List Int)=>An8 (σ=[Ja d,Ya x,Ya y,Ja fd,Ja C,Ya t,Z]) (eT K H H' fd C L n x R Y W') (bE fd C H5 H') ((∀u∈F,u∈Y)) ((∀u∈O,u∈W')) ((∀u∈Y,u∈F\/u∈W')) ((∀j B,j<i->(Jc_ L t)[j]?=some B->B.1∈Y)) (2*(n-Y.length)+W'.length<=2*(n-F.length)+O.length)) (λi σ H' h=>by let(_,_,_,_,_,_,sg,_):=h;exact SqL.of (sg _ _ nlf nlw hlv)) (Z,kf,F,O,rfl,S5,Jhd _,(λ_ h=>h),(λ_ h=>h),(λ_ h=>.inl h),(λj B hj=>Xn hj _),nRq _))
 .rintro i σ H7 z H6 hi ⟨Z,G,F6,W6,rfl,S6,J,f6,w6,fw6,n6,m6⟩ ⟨rfl,hz⟩;let(B,p,D,rfl,hp5):=qx hxs (hz _ (SqL.of (J _ _ nlf nlw hlv)));let hp:Mh H6 p (Qr B.1 B.2):=by
   rcases hp5 with a|a
   .rcases a with a | ⟨o,a⟩
    .exact UZ (J _ _ (λe=>by rw[e,S5.hf]at a;cases a) (λe=>by rw[e,S5.hw]at a;cases a) a)
    .exact Jem o (J _ _ (λe=>by rw[e,S5.hf]at a;cases a) (λe=>by rw[e,S5.hw]at a;cases a) a)
   .exact .inr a
  let a0:W9 B.1 B.2 0=some (.int B.1):=Mv (j:=0);let a1:W9 B.1 B.2 1=some (.int B.2):=Mv (j:=1);apply(_,rfl,p,_,_,_,rfl,rfl,hp,a0,_,rfl,fd,_,rfl,bV.k (k:=.inl B.1) S6.hf,_,rfl,?_);rw[inF S6 B.1];by_cases c:B.1∈F6
  .rw[dTq c];apply bq (_,G,F6,W6,rfl,S6,J,f6,w6,fw6,λj r hj U=>?_,m6);by_cases z:j=i
   .subst z;cases D.symm.trans U;exact c
   .exact n6 j r (by lia) U
  rw[dFq c];let tF6:t∈F6:=f6 t tF;let hs:(VD G t).isSome=true:=by rw[inF S6 t];exact dTq tF6
  let(v,hv):=Option.isSome_iff_exists.mp hs;let(pt2,π,rfl,hpt2,PO,pl,X):=S6.val t v hv;let g:=bV.k (k:=.inl t) S6.hf;rw[hv]at g;let(i',l,ei',hl,hor):=B7 (mO D);let fl6:=S6.len;apply bU (_,rfl,_,rfl,fd,_,rfl,g,_,rfl,p,_,_,_,rfl,rfl,hp,a1,lS1,λq8 hq8=>(pt2,q8,_,_,rfl,rfl,((Wm hq8).tup hpt2),SqT.of (ao ..),?_,λH9 pc s9 hpc=>?_))
  .unfold plV;rw[lM];exact oB (by show _+1<=_;lia)
  let s69:ap H6 H9:=(Wm hq8).trans s9;let S9:=S6.to s69;let ep:plV π++Jk4 B.2=plV (π++[i']):=by unfold plV;rw[mAq,ei'];rfl
  rw[ep]at hpc;let ub:0<=B.1/\B.1<(n:Int):=by
   have:=hN l (mO hl);rcases hor with ⟨_,b⟩|⟨_,b⟩
   .rw[<-b];exact this.2
   .rw[<-b];exact this.1
  let np:i'∉π:=λhm=>by
   have:=X i' hm l hl;rcases hor with ⟨_,b⟩|⟨_,b⟩
   .exact c (b▸this.2)
   .exact c (b▸this.1)
  let PO2:=PO.step hl hor np;apply(_,rfl,_,rfl,p,_,_,_,rfl,rfl,s69.tup hp,a0,fd,_,rfl,JaJ _ (.inl B.1) S9.hf rfl (hln (by rw[vY S9.keys];lia)) rfl,?_);let S10:=S9.add hfd nwl c ub hpc PO2 (by rw[lAq];show _+1<=_;lia) λq hq m hm=>by
   rcases mPq hq with a|a
   .exact(Ma (X q a m hm).1,Ma (X q a m hm).2)
   .rw[mSq a,hl]at hm;cases hm;rcases hor with ⟨b1,b2⟩ | ⟨b1,b2⟩
    .exact(Ma (b1▸tF6),Na (by rw[b2];simp))
    .exact(Na (by rw[b2];simp),Ma (b1▸tF6))
  let sg10:bE fd C H5 (Qa (JdG H9 fd G B.1 pc) C (W6.map V.int++WY B.1)):=((J.trans s69.g).trans (bE.put1 _ _)).trans (bE.put2 _ _);let hpk:Mh (JdG H9 fd G B.1 pc) p (Qr B.1 B.2):=(cq.kt (Jcr _) S9.hf).sq (s69.tup hp);let hwk:(JdG H9 fd G B.1 pc) C=some (.lst (W6.map V.int)):=by rw[aq nwf.symm];exact S9.hw
  apply Jfw _ (JeM hwk) _ rfl p _ _ _ rfl rfl hpk a0 C _ _ rfl rfl hwk (hln (by rw[lM];have:=S9.wb;lia)) ?_;apply(_,_,F6++[B.1],W6++[B.1],rfl,S10,sg10,λu I=>Ma (f6 u I),λu I=>Ma (w6 u I),λu I=>?_,λj r hj U=>?_,?_)
  .rcases mPq I with a | a
   .rcases fw6 u a with b | b
    .exact .inl b
    .exact .inr (Ma b)
   .exact .inr (Na a)
  .by_cases z:j=i
   .subst z;cases D.symm.trans U;exact Na (by simp)
   .exact Ma (n6 j r (by lia) U)
  .have:=S10.len;rw[lAq]at this;rw[lAq,lAq];let this:F6.length+1<=n:=this;show 2*(n-(F6.length+1))+(W6.length+1)<=_;lia
 rintro σ H6 ⟨v6',G,F6,W6,rfl,S6,J,f6,w6,fw6,n6,m6⟩;apply Jdp _ _ G F6 W6 S6 (λu I hn B D=>?_) (by rw[lAq];show _<_+(_+1);lia);by_cases eu:u=t
 .subst eu;let(j,hj):=List.mem_iff_getElem?.mp D;exact n6 j B (by rw[xl];exact(gEq hj).1) hj
 .let uF:u∈F:=(fw6 u I).resolve_right hn;apply f6 _ (cl u uF (λh=>?_) B D);rcases mPq h with a | a
  .exact hn (w6 u a)
  .exact eu (mSq a)
theorem wM:∀{c bs:List Int} {ps:List Addr},c.length=bs.length->ps.length=c.length->(∀(j:Nat) x y,(c.map V.int)[j]?=some x->(bs.map V.int)[j]?=some y->∃p,ps[j]?=some p/\Nw p [x,y])->Xu ((c.zip bs).map dP) (ps.map V.ref)
 |[],[],[],_,_,_=>ar.nil
 |a::c,b::bs,p::ps,l,k,d=>by rw[List.zip_cons_cons,List.map_cons,List.map_cons];let(n,e,i):=d 0 (.int a) (.int b) rfl rfl;cases e;exact .cons (Has.tup' i (Jcw Has.int)) (wM (by simpa using l) (by simpa using k) λj x y h g=>d (j+1) x y h g)
inductive qM (K):Sp|m{vs H Q E9} (tl lp) (xs) (ts) (l):vs=JC tl lp->JD tl->Jnm dTm->Nw lp (Gy l.1 l.2.1 l.2.2)->0<=l.1/\l.1<(ts.length:Int)->0<=l.2.1/\l.2.1<(ts.length:Int)->(l.2.2=-1->∀t u,ts[l.1.toNat]?=some t->ts[l.2.1.toNat]?=some u->t.2.length=u.2.length)->(∀H' r zs,UN r (Jdw (Ql r zs) (Jnu ((QN l).map dP)) r))->qM K vs H Q E9
def B_:Vf (JjA "link") (JjA "link") s_part_pairs:=fsc
def ok_pairs (F:Ix "part_pairs" "part_pairs" s_part_pairs)(T:JdT K):Jih (JjA "link") (qM K):=by
 apply V_b B_ b
 let(o,n,xs,ts,l,rfl,S,U,d,R,O,e,q):=h;apply Qq (J3 (be (Jct dh 1 (VI af)) (Ud (bb ac))
   aU) (BV rfl rfl T.zip rfl T.list (Ih (aI aQ (Jd9 0 1) af) (aI aQ (Jd9 0 1) af))))
 let a0:Je5 l.1 l.2.1 l.2.2 0=some _:=ay rfl;let a1:Je5 l.1 l.2.1 l.2.2 1=some _:=ay rfl;let a2:Je5 l.1 l.2.1 l.2.2 2=some _:=ay rfl;apply(_,rfl,n,_,_,_,rfl,rfl,d,a2,_,rfl,rfl,_,rfl,?_);rw[hI];by_cases c:l.2.2=-1
 case neg=>
  rw[dFq c];apply bU (JbF (λr b=>q _ r [] (Wm b) b (ao ..) ?_));unfold pairsF;rw[if_neg c];exact ar.nil
 rw[dTq c];let xl:Mz ts.length:=by rw[<-U.length,lM]
 obtain⟨t,I⟩:∃t,ts[l.1.toNat]?=some t:=Jgg (show UB l.1.toNat by lia);obtain⟨u,G⟩:∃u,ts[l.2.1.toNat]?=some u:=Jgg (show UB l.2.1.toNat by lia);let a:∀{k:Int} {t:Tm},0<=k->k<(ts.length:Int)->ts[k.toNat]?=some t->∃p i,VP xs k _/\Nw p _/\SqT K H i _:=λ{k t} k0 k1 Z=>by
  let M:W4 k.toNat:=by lia
  let ek:k=(k.toNat:Int):=by lia
  let g:=ay (gG M);rw[<-ek]at g;let(t',p,i,x,ev,d,B):=tm_at U (gG M);cases Z.symm.trans x;rw[ev]at g;exact(p,i,g,d,B)
 let(Y,q1,L,D,z):=a R.1 R.2 I;let(X,v,J,C,y):=a O.1 O.2 G;let c1:Je8 t.1 q1 1=some _:=ay rfl;let d1:Je8 u.1 v 1=some _:=ay rfl;let N:=e c t u I G;apply bq (_,rfl,_,rfl,n,_,_,_,rfl,rfl,d,a0,o,_,_,_,rfl,rfl,S,L,Y,_,_,_,rfl,rfl,D,c1,_,rfl,_,rfl,n,_,_,_,rfl,rfl,d,a1,o,_,_,_,rfl,rfl,S,J,X,_,_,_,rfl,rfl,C,d1,?_);apply(q1,v,_,_,rfl,z,y,by rw[lM,lM,N],λH2 r ps b W g h3 h4=>q H2 r _ W b g ?_);unfold pairsF;rw[if_pos c,I,G];exact wM N (by rw[h4,lM]) h3
def Src (ts:List Tm)(L:List Lk)(x y:Int)(M:List Nat)(a:Iz Int):Prop:=a=(x,y,)\/∃p∈M,∃l,L[p]?=some l/\a∈QN l
def Src.mono (h:Src ts L x y M pr)(b:∀q∈M,q∈M'):Src ts L x y M' pr:=h.imp id λ(p,a,r)=>(p,b p a,r)
structure fV (K)(H0 H)(nd wl)(ts)(L:List Lk)(x y)(kn)(M:List Nat)(Wq:Wl Int)(ws)(cur):Prop where
 same:ap H0 H
 hn:Vu nd kn
 hw:Uo wl ws
 has:Xu (Wq.map dP) ws
 keys:kn.map (·.1)=(M.map λq:Nat=>(q:Int)).map Sum.inl
 ndp:M.Nodup
 inn:∀q∈M,Jav q
 wb:Wq.length<=1+3*M.length
 ok:∀pr∈Wq,Src ts L x y M pr
 why:∀q∈M,∃π a b,XN π a b/\q∈π/\Src ts L x y M (a,b,)
 cov:∀pr,Src ts L x y M pr->pr∈Wq\/some pr=cur\/∃π,XN π pr.1 pr.2/\∀q∈π,q∈M
def fV.len (S:fV K H0 H nd wl ts L x y kn M Wq ws cur):Jh7 M.length:=jZ _ S.ndp S.inn
def fV.to (S:fV K H0 H nd wl ts L x y kn M Wq ws cur)(s:MU H2):fV K H0 H2 nd wl ts L x y kn M Wq ws cur :=
 (S.same.trans s,s _ _ S.hn,s _ _ S.hw,Nu s.kt _ S.has,S.keys,S.ndp,S.inn,S.wb,S.ok,S.why,S.cov)
def lZ {M:List Nat}{q:Nat}:((q:Int)∈M.map λq:Nat=>(q:Int))↔q∈M:=(λh=>by
 let(r,a,e):=List.mem_map.mp h;have:r=q:=by lia
 exact this▸a,λh=>JdY q h)
def fV.add {H0 H o:Hp}{g i:Addr}{ts:List Tm}{L:List Lk}{x y:Int}{s:List (Jce V)}{M:List Nat}{F:List (Iz Int)}{t zs:List V}{n:Option (Iz Int)}{q:Nat}{l:Lk}{r:List Nat}{a b:Int}(S:fV K H0 H g i ts L x y s M F t n)
  (Q:Jb3 g)(O:Jb3 i)(I:q∉M)(C:L[q]?=some l)(P:XN r a b)(T:q∈r)(sc:Src ts L x y M (a,b,))(Y:(QN l).length<=3)(v:ap (Qc H g (JjU s (q:Int))) o)(hz:Il o ((QN l).map dP) zs):
  fV K H0 (Qa o i (t++zs)) g i ts L x y (JjU s (q:Int)) (M++[q]) (F++QN l) (t++zs) n:=by
 let J:g≠i:=λe=>by have:=S.hn;rw[e,S.hw]at this;cases this
 let G:cq g H (Qc H g (JjU s (q:Int))):=Jcr _;let k1:=(G.kt S.hn).trans v.kt;let N:=v _ _ (G _ _ J.symm S.hw);let R:=v _ _ (ao ..);let k2:bj o (Qa o i (t++zs)):=bj.lst N;let A:∀p∈M,p∈M++[q]:=λp c=>Ma c;let keys:(JjU s (q:Int)).map (·.1)=((M++[q]).map λq:Nat=>(q:Int)).map Sum.inl:=by have:=vX S.keys (q:Int) (.bl true);unfold addK at this;rw[if_neg (λh=>I (lZ.mp h))]at this;rw[this];simp
 apply(((S.same.upd Q).trans v).upd O,by rw[aq J];exact R,ao ..,?_,keys,?_,?_,?_,?_,?_,?_)
 .rw[mAq];exact ar.append (Nu (k1.trans k2) _ S.has) (Nu k2 _ hz)
 .apply Ja_ S.ndp (λa W b U=>?_);rw[mSq U];exact λe=>I (e▸W)
 .intro p c;rcases mPq c with h | h
  .exact S.inn p h
  .rw[mSq h];exact(gEq C).1
 .have:=S.wb;rw[lAq,lAq];show _<=1+3*(_+1);lia
 .intro d j;rcases mPq j with h | h
  .exact(S.ok d h).mono A
  .exact X4 q (by simp) l C h
 .intro p c;rcases mPq c with h | h
  .let(B,a,b,E,D,X):=S.why p h;exact(B,a,b,E,D,X.mono A)
  .rw[mSq h];exact(r,a,b,P,T,sc.mono A)
 .intro d j;let u:Src ts L x y M d→d∈F++QN l∨some d=n∨∃r,XN r d.1 d.2∧∀p∈r,p∈M++[q]:=λh=>by
   rcases S.cov d h with h|h|⟨B,E,D⟩
   .exact .inl (Ma h)
   .exact GZ h
   .exact IN (B,E,λp c=>A p (D p c))
  rcases j with h|⟨p,c,m,k,h⟩
  .exact u (.inl h)
  .rcases mPq c with z | z
   .exact u (X4 p z m k h)
   .rw[mSq z,C]at k;cases k;exact .inl (Na h)
def TmB (ts:List Tm):Prop:=∀t∈ts,t.2.length<=3/\∀x∈t.2,0<=x/\x<(ts.length:Int)
inductive sp_ways (K):Sp|m{vs H Q E9} (tl la) (x y) (xs ys) (ts) (gs) (L):vs=[.ref tl,.ref la,.int x,.int y]->JD tl->Jnm dTm->JjW la->JkI dL ys (TmB ts->Jc6 L->JI 60->0<=x/\x<(ts.length:Int)->0<=y/\y<(ts.length:Int)->JdU x=JdU y->(∀H' r M rs,UN r (JfK (Ql r rs) (G_ ((atP L M).map dL) rs) (Needs ts L x y M) (M.Pairwise (· < ·)) r))->sp_ways K vs H Q E9)
def kq:Vf ["terms","links","one","other","steps","needed","waiting","pair","place"] (Jhh "links") s_ways:=fsc
def Ca {M:List Nat}{c:List Int}(i:c.Perm (M.map λq:Nat=>(q:Int)))(k:c.Pairwise (·<=·))(l:M.Nodup):∃j:List Nat,c=j.map (λq:Nat=>(q:Int))/\(∀q,q∈j↔q∈M)/\j.Pairwise (· < ·):=by
 let d:∀z∈c,0<=z:=λz hz=>by let(q,_,rfl):=List.mem_map.mp (i.mem_iff.mp hz);lia
 let e:c=(c.map Int.toNat).map λq:Nat=>(q:Int):=by
  rw[List.map_map]
  conv=>lhs;rw[<-List.map_id c]
  apply List.map_congr_left λz hz=>?_;have:=d z hz;show z=(z.toNat:Int);lia
 let g:=i.nodup_iff.mpr (List.pairwise_map.mpr (l.imp λ{a b} h e=>h (by lia)));apply JhK (c.map Int.toNat) e (λq=>?_)
 .rw[<-lZ (M:=M),<-i.mem_iff,<-lZ,<-e]
 .apply List.pairwise_map.mpr ?_;let n:c.Pairwise (· < ·):=by have:=k.and g;exact this.imp λ{a b} h=>by have:=h.1;have:=h.2;lia
  apply List.Pairwise.imp_of_mem ?_ n;intro a b p o h;have:=d a p;have:=d b o;lia
set_option tactic.hygienic true in
def pairs3 (a:TmB ts)(l):(QN l).length<=3:=by
 unfold pairsF;split
 .split
  .rename_i t u b c;rw[List.length_zip];have:=(a _ (mO b)).1;lia
  .exact Nat.zero_le _
 .exact Nat.zero_le _
set_option tactic.hygienic true in
def Cb (d:TmB ts){l:Lk}{c:Int×Int}(h:c∈QN l):(0<=c.1/\c.1<(ts.length:Int))/\0<=c.2/\c.2<(ts.length:Int):=by
 unfold pairsF at h;split at h
 .split at h
  .rename_i t u g e;let(a,b):=List.of_mem_zip h;exact((d _ (mO g)).2 _ a,(d _ (mO e)).2 _ b)
  .simp at h
 .simp at h
def ok_ways (F:Ix "ways" "ways" s_ways)(T:JdT K)(Bs:IS 1 "steps_of" fS dS ["links"] (qJ K))(Bw:IS 1 "way" fW dW ["steps","one","other"] (qK K))(Bp:IS 1 "part_pairs" fP dP' (JjA "link") (qM K)):NF 2 (Jhh "links") (sp_ways K):=by
 apply II kq
 let(tl,la,x,y,xs,ys,ts,gs,L,rfl,hT,hL,hS,hY,hW,R,t60,hx,hy,ej,qY):=h;let hu:=dr hr;apply Qq (JS (i:=4) kq.nd (Jfg Bs.ok hr Bs.m Bs.kp Bs.b aJ 1) (X7 (i:=5) kq.nd gZ (i:=6) kq.nd (bb (Jga (WS 2 3))) (J3 (Ja8 (JgQ (YH 6)) (JS (i:=7) kq.nd (JbZ pM (pv 6)) (aj (JE (eY (GG Bw.ok hr Bw.m Bw.kp Bw.b 4 (JeP 7 7))) (i:=8) kq.nd (aj (be (Jei hu (pv 8) (pv 5)) (ae (Jk0 hu (pv 5) (pv 8) de) (Qp (Ub PySem.F.slot_list_extend PySem.F.type_list_extend uW (pv 6) (Gb (V3 Bp.ok hr Bp.m Bp.kp Bp.b 0 (Jil 1 8))))))
       aU)))))) (Vj (N':=["place","links"]) (ix:=[1]) rfl rfl rfl (λok=>JgX (sc:=ai s_ways)) rfl rfl (λj i h=>match j,h with|0,h=>by cases h;exact QO _|n+1,h=>by simp at h) (cO (MW (Bz rfl) T.sorted (Jd 5))) (λ_ _ _ _=>(MN (r:=gQ K) az 1 (pv 0)))))))
 let yl:JbE L.length:=by rw[<-hY.length,lM]
 let L60:L.length<=60:=Nat.le_trans R.len t60;apply JkE la ys L hS hY (by lia) (λH1 sd kst Z=>?_);intro v hnd;let s2:ap H1 (Jfc H1 v):=Wm hnd;apply UP _ _ lS2 (λpp hpp=>(lS1,λd hwl=>?_));let s3:VB (Jfc H1 v) (Jfc H1 v) pp (Qr x y):=Wm hpp;let s4:=GX hwl (Gj pp);let sA:JcI H1 (Jfd H1 v pp (Qr x y)) d (Gj pp):=(s2.trans s3).trans s4;let St:StR K (Qa (Jfd H1 v pp (Qr x y)) d (Gj pp)) sd (Je9 L):=(Z.r (by lia)).same sA;let nnd:Gf v:=Z.same.free hnd;let nwl:Gf d:=(Z.same.trans (s2.trans s3)).free hwl;let S0:fV K H (Qa (Jfd H1 v pp (Qr x y)) d (Gj pp)) v d ts L x y [] [] [(x,y,)] (Gj pp) none :=
  (Z.same.trans sA,s4 _ _ (s3 _ _ (ao ..)),ao ..,Wy (Wr (s4 _ _ (ao ..)) (Jcw Has.int)),rfl,by simp,by simp,by simp,λB h=>.inl (mSq h),by simp,λB h=>.inl (by
   rcases h with h|⟨p,X,_⟩
   .rw[h];simp
   .simp at X))
 let nw1:Uf (H1 d):=(s2.trans s3).free hwl;generalize eHA:Qa (Jfd H1 v pp (Qr x y)) d (Gj pp)=HA at sA St S0;let ktG:∀{H'},bE v d HA H'->bj HA H':=λ{H'} U b us z=>by
  let nb1:b≠v:=λe=>by rw[e]at z;rcases z with z|⟨o,z⟩<;>(rw[S0.hn]at z;cases z)
  let nb2:b≠d:=λe=>by rw[e]at z;rcases z with z|⟨o,z⟩<;>(rw[S0.hw]at z;cases z)
  rcases z with z|⟨o,z⟩
  .exact .inl (U _ _ nb1 nb2 z)
  .exact Yg o (U _ _ nb1 nb2 z)
 let stOf:∀{H'},bE v d HA H'->StR K H' sd (Je9 L):=λ{H'} U=>by
  apply(kst,U _ _ (λe=>?_) (λe=>?_) (sA _ _ Z.hd),λt=>Mm (Nat.le_trans (Z.big t) (by lia)))
  .have:=Z.hd;rw[e,hnd]at this;cases this
  .have:=Z.hd;rw[e,nw1]at this;cases this
  .rcases Z.at_ t with a | ⟨l,us,a1,a2,_,_,a3⟩
   .exact .inl a
   .exact X4 l us a1 (U _ _ (λe=>by rw[e,hnd]at a2;cases a2) (λe=>by rw[e,nw1]at a2;cases a2) (sA _ _ a2)) (Nu (sA.kt.trans (ktG U)) _ a3)
 clear s2 s3 s4 eHA hpp hwl;apply Id (λm σ H'=>Ex6 λ(v7 v8:Option V) (kn:WT Key) (M:List Nat) (Wq:Wl Int) (N:List V)=>An4 (σ=[Ja tl,Ja la,Ya x,Ya y,Ja sd,Ja v,Ja d,v7,v8]) (fV K H H' v d ts L x y kn M Wq N none) (bE v d HA H') (m=4*(Jfx M.length)+Wq.length)) (_,none,none,_,_,_,_,rfl,S0,Jhd _,rfl)
 rintro m σ H3 ⟨v7,v8,kn,M,Wq,N,rfl,S,U,rfl⟩;let wl3:N.length=Wq.length:=by rw[<-S.has.length,lM]
 let ml:=S.len;let wb:=S.wb;apply Jg2 _ d _ (Jc S.hw) _ _ _ rfl ?_;by_cases cW:Wq=[]
 .-- all are found
  subst cW;rw[show decide (((N.length:Nat):Int)>0)=false from dFq (by rw[wl3];simp)];let nope:∀B,Src ts L x y M B->∃O,XN O B.1 B.2/\∀q∈O,q∈M:=λB h=>by
   rcases S.cov B h with z|z|z
   .simp at z
   .cases z
   .exact z
  let(π0,P0,sub0):=nope (x,y,) (.inl rfl);let ND:Needs ts L x y M:=(S.inn,λq C=>by
   let(O,a,b,h1,h2,h3):=S.why q C;apply(O,a,b,h1,h2,?_);rcases h3 with h3|⟨p,X,l,Y,h3⟩
   .injection h3 with e1 e2;exact .inl (e1,e2)
   .exact X4 p X l Y h3,(π0,P0,sub0),λp X l Y ab hab=>nope ab (X4 p X l Y hab))
  let ek:kn.map (λkv=>kV kv.1)=(M.map λq:Nat=>(q:Int)).map V.int:=AM S.keys;apply bq (JkE v kn _ S.hn ek (by rw[lM];lia) (λso ms hso pm pw=>?_));let(I,rfl,mm,lt):=Ca pm pw S.ndp;let ml':Jh7 I.length:=jZ _ (lt.imp λh=>Nat.ne_of_lt h) λq C=>S.inn q ((mm q).mp C);let ND':Needs ts L x y I:=(λq C=>ND.inn q ((mm q).mp C),λq C=>by
   let(O,a,b,h1,h2,h3):=ND.why q ((mm q).mp C);exact(O,a,b,h1,h2,h3.imp id λ(p,X,r)=>(p,(mm p).mpr X,r)),(π0,P0,λq C=>(mm q).mpr (sub0 q C)),λp X l Y ab hab=>by let(O,h1,h2):=ND.all p ((mm p).mp X) l Y ab hab;exact(O,h1,λq C=>(mm q).mpr (h2 q C)))
  let s4:JcI H3 H3 so ((I.map λq:Nat=>(q:Int)).map V.int):=Wm hso;let n4:=ao (H:=H3) (a:=so) (o:=.lst ((I.map λq:Nat=>(q:Int)).map V.int));generalize Qa H3 so ((I.map λq:Nat=>(q:Int)).map V.int)=H4 at s4 n4;let sH4:=S.same.trans s4;apply Jhp so n4 (λD hD=>eK cR (λj us H'=>Xd H4/\G_ (((atP L I).take j).map dL) us) (λj us H' (s1,_)=>s1.seq (SqL.of n4)) (Wm hD,ar.nil) ?_ ?_)
  .rintro j us H8 z H5 hj hly hDs ⟨s5,hus⟩ ⟨rfl,hz⟩;let(n,hn,rfl):=cz (hz _ (s5.seq (SqL.of n4)));rw[List.getElem?_map]at hn;let(q,C,rfl):=Option.map_eq_some_iff.mp hn;let ql:=ND'.inn q (mO C);let hlq:=gG ql;let at1:atI ys (q:Int)=some (ys[q]'(by lia)):=ay (gG (by lia));let(l,p,el,ep,X):=ka (Jmw sH4.kt hY) (gG (show q<ys.length by lia));rw[ep]at at1;apply Jd_ _ _ rfl la _ _ _ (s5.seq (sH4.seq hS)) at1 (NO _ (by simp;lia) hj hly hDs (s5.upd hD));let hal:(atP L I)[j]?=some l:=by unfold atP;rw[List.getElem?_map,C];exact Jah (getD_at el)
   rw[bf hal,mAq];let kt5:bj H5 (Jmv H5 D us p):=bj.lst hDs;exact ar.append (Jmw kt5 hus) (Wy (oa (kt5.sq (s5.tup X))))
  rintro us H5 hDs ⟨s5,hus⟩;apply qY H5 D I us (sH4.trans s5) (sH4.free hD) hDs ?_ ND' lt;rw[lM,lM,tO (by unfold atP;rw[lM];exact nRq _)]at hus;exact hus
 let wp:0<Wq.length:=List.length_pos_iff.mpr cW;rw[show decide (((N.length:Nat):Int)>0)=true from dTq (by lia)];apply bU (Id (λσ' H'=>Ex6 λ(v7 v8:Option V) (kn':WT Key) (I:List Nat) (Wq':Wl Int) (ws':List V)=>An4 (σ'=[Ja tl,Ja la,Ya x,Ya y,Ja sd,Ja v,Ja d,v7,v8]) (fV K H H' v d ts L x y kn' I Wq' ws' none) (bE v d HA H') (4*(Jfx I.length)+Wq'.length<4*(Jfx M.length)+Wq.length)) ?_)
 .rintro σ' H' ⟨v7',v8',kn',I,Wq',ws',rfl,a,b,c⟩;exact(_,c,v7',v8',kn',I,Wq',ws',rfl,a,b,rfl)
 obtain⟨W0,B,rfl⟩:∃W0 B,Wq=W0++[B]:=(Wq.dropLast,Wq.getLast cW,(List.dropLast_concat_getLast cW).symm);let lw:N.length=W0.length+1:=by rw[wl3,lAq];rfl
 let ew:=gG (show W0.length<N.length by lia);let(pr',p,hpr,ev,X):=qx S.has ew;let e0:B=pr':=by simpa using hpr
 subst e0;apply Jcl _ (JeM S.hw) d _ _ rfl S.hw (by rw[show N.length-1=W0.length by lia];exact ew.trans (Jah ev)) ?_;let hdl:Il H3 (W0.map dP) N.dropLast:=by have:=ar.take W0.length S.has;rw[<-List.map_take,List.take_left]at this;rw[List.dropLast_eq_take,show N.length-1=W0.length by lia];exact this
 let nwf:v≠d:=λe=>by have:=S.hn;rw[e,S.hw]at this;cases this
 let sc0:Src ts L x y M B:=S.ok B (by simp);let Z:fV K H (Jfb H3 d) v d ts L x y kn M W0 N.dropLast (some B) :=
  (S.same.upd nwl,by rw[aq nwf];exact S.hn,ao ..,Nu (bj.lst S.hw) _ hdl,S.keys,S.ndp,S.inn,by have:=S.wb;rw[lAq]at this;lia,λq C=>S.ok q (Ma C),S.why,λq C=>by
   rcases S.cov q C with z|z|z
   .rcases mPq z with z | z
    .exact .inl z
    .exact .inr (.inl (Jah (mSq z)))
   .cases z
   .exact IN z)
 let sg1:bE v d HA (Jfb H3 d):=U.trans (bE.put2 _ _);let hp4:Mh (Jfb H3 d) p (Qr B.1 B.2):=(bj.lst S.hw).sq X;generalize Jfb H3 d=H4 at Z sg1 hp4;let a0:W9 B.1 B.2 0=some (.int B.1):=Mv (j:=0);let a1:W9 B.1 B.2 1=some (.int B.2):=Mv (j:=1);let pin:(0<=B.1/\B.1<(ts.length:Int))/\0<=B.2/\B.2<(ts.length:Int):=by
  rcases sc0 with z|⟨q,C,l,Y,z⟩
  .rw[z];exact(hx,hy)
  .exact Cb hW z
 apply(_,rfl,_,rfl,p,_,_,_,rfl,rfl,hp4,a0,_,rfl,p,_,_,_,rfl,rfl,hp4,a1,sd,B.1,B.2,L,ts.length,rfl,stOf sg1,R.inn,by lia,pin.1,pin.2,?_,λH5 pw O s5 hpw PO _=>?_)
 .rcases sc0 with z | ⟨q,C,l,Y,z⟩
  .rw[z];exact ej
  .have:=n_ (L.drop q) (pairs_joined R Y B z);rwa [List.take_append_drop]at this
 let S5:=Z.to s5;let sg5:bE v d HA H5:=sg1.trans s5.g;clear hp4;let xk:plV O=(O.map λq:Nat=>(q:Int)).map V.int:=by unfold plV;rw[List.map_map];rfl
 let ktH:∀{H6},bE v d H5 H6->bj H5 H6:=λ{H'} U b us z=>by
  let nb1:b≠v:=λe=>by rw[e]at z;rcases z with z|⟨o,z⟩<;>(rw[S5.hn]at z;cases z)
  let nb2:b≠d:=λe=>by rw[e]at z;rcases z with z|⟨o,z⟩<;>(rw[S5.hw]at z;cases z)
  rcases z with z|⟨o,z⟩
  .exact .inl (U _ _ nb1 nb2 z)
  .exact Yg o (U _ _ nb1 nb2 z)
 apply Ul pw (Qu hpw) (JeA eJ (λj σ H'=>Ex5 λ(v8:Option V) (kn':WT Key) (I:List Nat) (W':Wl Int) (ws':List V)=>An6 (σ=[Ja tl,Ja la,Ya x,Ya y,Ja sd,Ja v,Ja d,Ja p,v8]) (fV K H H' v d ts L x y kn' I W' ws' (some B)) (bE v d H5 H') ((∀q∈M,q∈I)) ((∀i q,i<j->O[i]?=some q->q∈I)) (4*(Jfx I.length)+W'.length<=4*(Jfx M.length)+W0.length)) (λi σ H' h=>by let(_,_,_,_,_,_,_,U,_):=h;exact(ktH U).sq hpw) (v8,kn,M,W0,_,rfl,S5,Jhd _,(λ_ h=>h),(λi q hi=>Xn hi _),nRq _))
 .rintro i σ H7 z H6 hi ⟨v8,kn6,M6,W6,J,rfl,G,sg6,m6,n6,b6⟩ ⟨rfl,hz⟩;let hz:=hz _ ((ktH sg6).sq hpw);rw[xk]at hz;let(n,hn,rfl):=cz hz;rw[List.getElem?_map]at hn;let(q,C,rfl):=Option.map_eq_some_iff.mp hn;apply XI _ _ rfl v _ rfl (bV.k (k:=.inl (q:Int)) G.hn) _ rfl ?_;rw[kb G.keys];let up:∀ {M7:List Nat},(∀r∈M6,r∈M7)→q∈M7→∀j r,j<i+1→O[j]?=some r→r∈M7:=λh1 h2 j r hj W=>by
   by_cases z:j=i
   .subst z;cases C.symm.trans W;exact h2
   .exact h1 r (n6 j r (by lia) W)
  by_cases c:q∈M6
  .rw[dTq (lZ.mpr c)];exact bq (_,kn6,M6,W6,J,rfl,G,sg6,m6,up (λ_ h=>h) c,b6)
  rw[dFq (λh=>c (lZ.mp h))];let ql:=PO.inn q (mO C);let hYq:=gG (show q<ys.length by lia);let ml6:=G.len;let wb6:=G.wb;let(l,lp,Y,el,hlp0):=ka hY hYq;let at1:atI ys (q:Int)=some (.ref lp):=ay (hYq.trans (Jah el));let wl6:J.length=W6.length:=by rw[<-G.has.length,lM]
  let hw7:(Qc H6 v (JjU kn6 (q:Int))) d=some (.lst J):=by rw[aq nwf.symm];exact G.hw
  let sH7:MU (Qc H6 v (JjU kn6 (q:Int))):=G.same.upd nnd;let lin:=R.inn l (mO Y);apply bU (_,rfl,_,rfl,v,_,rfl,JaJ _ (.inl (q:Int)) G.hn rfl (hln (by rw[vY G.keys,lM];lia)) rfl,?_);apply(_,rfl,JeM hw7,_,rfl,_,rfl,_,rfl,la,_,_,_,rfl,rfl,sH7.seq hS,at1,tl,lp,xs,ts,l,rfl,sH7.seq hT,JdB sH7.kt _ hL,sH7.tup hlp0,lin.1,lin.2,λhm t u ht hu'=>?_,λH8 r zs8 s8 hr8 h8 hz8=>?_)
  .rcases(R q l Y).how with ⟨a,_⟩ | ⟨_,t',u',t1,t2,t3,t4⟩
   .lia
   .cases ht.symm.trans t1;cases hu'.symm.trans t2;have:=UD t4;simpa using this
  let p3:=pairs3 hW l;let zl:zs8.length=(QN l).length:=by rw[<-hz8.length,lM]
  apply(d,r,J,zs8,rfl,rfl,s8 _ _ hw7,h8,oB (n:=J.length+zs8.length) (by lia),?_);let S9:=G.add nnd nwl c Y PO (mO C) (sc0.mono m6) p3 s8 hz8;let ml9:=S9.len;rw[lAq]at ml9;let ml9:Jh7 (M6.length+1):=ml9;apply(_,_,M6++[q],W6++QN l,_,rfl,S9,((sg6.trans (bE.put1 _ _)).trans s8.g).trans (bE.put2 _ _),λr W=>Ma (m6 r W),up (λr h=>Ma h) (by simp),?_);rw[lAq,lAq];show 4*(Jfx (M6.length+1))+_<=_;lia
 rintro σ H6 ⟨v8',kn6,M6,W6,J,rfl,G,sg6,m6,n6,b6⟩;apply(_,_,kn6,M6,W6,J,rfl,(G.same,G.hn,G.hw,G.has,G.keys,G.ndp,G.inn,G.wb,G.ok,G.why,λq C=>?_),sg5.trans sg6,by rw[lAq];show _<_+(_+1);lia);rcases G.cov q C with z|z|z
 .exact .inl z
 .cases z;apply IN (O,PO,λr W=>?_);let(j,hj):=List.mem_iff_getElem?.mp W;exact n6 j r (by rw[xk,lM,lM];exact(gEq hj).1) hj
 .exact IN z
end W52
namespace K52
open PySem L2
noncomputable def top (i:Nat):Stmt:=PySem.Challenge.pw_yesorno_k52_whole_yes.main.body.getD i (Jbo 0 0 0 0)
abbrev s_given_links:Stmt:=top 2
abbrev s_alike_links:Stmt:=top 3
abbrev s_links:Stmt:=top 4
abbrev s_groups_of:Stmt:=top 5
abbrev s_heads:Stmt:=top 6
abbrev qO:Stmt:=top 24
abbrev qP:Stmt:=top 25
abbrev qR:Stmt:=top 26
abbrev qS:Stmt:=top 27
abbrev qT:Stmt:=top 28
abbrev qU:Stmt:=Mt 29 0
abbrev qV:Stmt:=Mt 29 1
abbrev qW:Stmt:=Mt 29 2
abbrev sAdd:Stmt:=Mt 29 3
abbrev qX:Stmt:=Mt 29 4
abbrev qZ:Stmt:=Mt 29 5
abbrev sRow:Stmt:=Mt 29 6
abbrev ov:Stmt:=top 31
abbrev s_steps_of:Stmt:=top 33
abbrev s_way:Stmt:=top 34
abbrev s_part_pairs:Stmt:=top 35
abbrev s_ways:Stmt:=top 36
abbrev lO:Stmt:=top 38
abbrev lP:Stmt:=top 39
abbrev ox:Stmt:=top 40
abbrev lQ:Stmt:=top 41
abbrev oy:Stmt:=top 42
abbrev s_levels:Stmt:=top 44
abbrev s_part_levels:Stmt:=top 46
abbrev s_is_replaced:Stmt:=top 47
abbrev s_learnt:Stmt:=top 48
abbrev wN:Stmt:=Jid 0
abbrev wO:Stmt:=Jid 1
abbrev wQ:Stmt:=Jid 2
abbrev wR:Stmt:=Jid 3
abbrev wU:Stmt:=Jid 4
abbrev wV:Stmt:=Jid 5
abbrev wW:Stmt:=Jid 6
abbrev wX:Stmt:=Jid 7
abbrev wY:Stmt:=Jid 8
abbrev wZ:Stmt:=Jid 9
abbrev w_:Stmt:=Jid 10
abbrev xb:Stmt:=Jid 11
abbrev ku:Stmt:=top 51
abbrev xc:Stmt:=top 53
abbrev q_:Stmt:=top 54
abbrev rg:Stmt:=top 55
abbrev oF:Stmt:=top 56
abbrev ri:Stmt:=top 57
abbrev kx:Stmt:=top 58
abbrev l_:Stmt:=top 59
abbrev oG:Stmt:=top 60
abbrev ma:Stmt:=top 61
abbrev rj:Stmt:=top 62
abbrev rq:Stmt:=top 63
abbrev rz:Stmt:=top 64
abbrev oH:Stmt:=top 65
abbrev ky:Stmt:=top 66
abbrev kz:Stmt:=top 67
abbrev cU:Stmt:=top 68
abbrev rA:Stmt:=top 69
abbrev abc:Str:="abcdefghijklmnopqrstuvwxyz"
def isL (c:Str):Bool:=!(Builtin.Str.occurrences abc c 0 abc.length 1).isEmpty
def hU (z:Str):List Bool:=z.cps.toList.map λc=>isL ⟨#[c]⟩
noncomputable def zfA:List V:=[.str "or",.str "and",.str "not",.str "never",.str "always",.str "then",.str "as",.str "unlike"]
def oJ (z:Str):Bool:=decide (0<(z.length:Int))&&(hU z).all id
def gh (z:Str):Bool:=oJ z&&(decide ((z.length:Int)<=8)&&!inV (.str z) zfA)
def Cc:Xh (zfA.all zeo):=by decide +kernel
def xf (z):(hU z).length=z.length:=by simp [hU,Str.length]
def Cd (a:z.cps[i]?=some ch):(hU z).take (i+1)=(hU z).take i++[isL ⟨#[ch]⟩]:=by
 let b:(hU z)[i]?=some (isL ⟨#[ch]⟩):=by unfold hU;rw[List.getElem?_map,Array.getElem?_toList,a];rfl
 rw[List.take_add_one,b];rfl
abbrev Tm:=U8 (List Int)
noncomputable def dT (t:Tm):Dt:=JmF t.1 (.tup (t.2.map Dt.int))
theorem oK:∀ns:List Int,Xh (gk (ns.map Dt.int))
 |[]=>by simp [gk]
 |n::ns=>by simp only[List.map_cons,gk,nob,Bool.true_and];exact oK ns
theorem hV:∀ns:List Int,aD (ns.map Dt.int)=0
 |[]=>by simp [aD]
 |n::ns=>by simp only[List.map_cons,aD,dep,hV ns];rfl
def xg (t):Jnh (dT t):=by simp only[dT,nob,gk,oK,Bool.and_self]
def xh (t):Jbj (dT t):=by simp only[dT,nol,a_,iO,Bool.and_self]
def dep_dT (t):dep (dT t)=2:=by simp only[dT,dep,aD,hV];rfl
theorem hX:∀T:List Tm,WU (T.map dT)
 |[]=>by simp [a_]
 |t::T=>by simp only[List.map_cons,a_,xh,Bool.true_and];exact hX T
theorem rB:∀T:List Tm,JjK (T.map dT) 2
 |[]=>by simp [aD]
 |t::T=>by let h:=rB T;simp only[List.map_cons,aD,dep_dT];lia
def Ce (h:Dt.int a=Dt.int b):a=b:=by cases h;rfl
theorem xi:∀{c bs:List Int},Jne Dt.int Dt.int->c=bs
 |[],[],_=>rfl
 |[],b::bs,h=>by cases h
 |a::c,[],h=>by cases h
 |a::c,b::bs,h=>by rw[List.map_cons,List.map_cons]at h;injection h with e d;rw[Ce e,xi d]
def dT_inj (h:dT a=dT b):a=b:=by let(n,ps):=a;let(m,e):=b;injection h with h;injection h with d c;injection d with d;injection c with c _;injection c with c;let g:n=m:=d;let f:ps=e:=xi c;rw[g,f]
def peq_dT (a b):peq (dT a) (dT b)=decide (a=b):=by
 by_cases h:a=b
 .subst h;rw[gR,dTq rfl]
 .rw[dFq h];cases e:peq _ _ with
  |false=>rfl
  |true=>exact absurd (dT_inj (pR _ _ (xg a) (xg b) e)) h
def rC [BEq α][LawfulBEq α]{code:α->Dt}(g:∀a b,JcL (code a) (code b)↔a=b)(T:List α)(t:α):((T.map code).any λd=>peq d (code t))=decide (t∈T):=by
 rw[Bool.eq_iff_iff,List.any_eq_true];constructor
 .rintro ⟨d,f,e⟩;let(u,c,rfl):=List.mem_map.mp f;rw[g]at e;rw[<-e];exact dTq c
 .intro h;exact(code t,JdY t (oDq h),gR _)
def iff_dT (a b):JcL (dT a) (dT b)↔a=b:=by rw[peq_dT];exact decide_eq_true_iff
inductive At where
 |plain (z:Str)
 |same (a b:Int)
 deriving DecidableEq
noncomputable def dA:At->Dt
 |.plain z=>.tup (JeO z)
 |.same a b=>.tup (JaX a b)
def xm (t):Jnh (dA t):=by cases t<;>simp only[dA,nob,gk,Bool.and_self]
def iG (t):Jbj (dA t):=by cases t<;>simp only[dA,nol,a_,Bool.and_self]
def rD (t):dep (dA t)=1:=by cases t<;>simp only[dA,dep,aD]<;>rfl
def dA_inj (h:dA a=dA b):a=b:=by
 cases a<;>cases b
 all_goals
  injection h with h;injection h with e c;injection c with c d
  first
   |(injection c with c;injection d with d _;injection d with d;rw[c,d])
   |(injection c with c;rw[c])
   |(injection e with e;exact absurd e (by decide +kernel))
   |cases c
def peq_dA (a b):peq (dA a) (dA b)=decide (a=b):=by
 by_cases h:a=b
 .subst h;rw[gR,dTq rfl]
 .rw[dFq h];cases e:peq _ _ with
  |false=>rfl
  |true=>exact absurd (dA_inj (pR _ _ (xm a) (xm b) e)) h
def Cg (a b):JcL (dA a) (dA b)↔a=b:=by rw[peq_dA];exact decide_eq_true_iff
noncomputable def dR (r:List Int):Dt:=.tup (r.map Dt.int)
def iH (r):Jbj (dR r):=by simp only[dR,nol,iO]
def dep_dR (r):dep (dR r)=1:=by simp only[dR,dep,hV]
theorem dw {b:Type}{code:b->Dt}(c:∀a,Jbj (code a)):∀T:List b,WU (T.map code)
 |[]=>by simp [a_]
 |t::T=>by simp only[List.map_cons,a_,c,Bool.true_and];exact dw c T
theorem me {b:Type}{code:b->Dt}{n:Nat}(c:∀a,dep (code a)<=n):∀T:List b,JjK (T.map code) n
 |[]=>by simp [aD]
 |t::T=>by let h:=me c T;have:=c t;simp only[List.map_cons,aD];lia
def kTA:¬(("terms":Str)="atoms"):=by decide +kernel
def kTR:¬(("terms":Str)="rows"):=by decide +kernel
def kAR:¬(("atoms":Str)="rows"):=by decide +kernel
def cV (a c b:Addr):WT Str:=JdR "rows" b (JdR "atoms" c (JdR "terms" a []))
def dy (a c b):(cV a c b).lookup ("terms":Str)=some (.ref a):=by unfold cV;rw[gj,if_neg kTR,gj,if_neg kTA,gj,if_pos rfl]
def cX (b a c):(cV b a c).lookup ("atoms":Str)=some (.ref a):=by unfold cV;rw[gj,if_neg kAR,gj,if_pos rfl]
def jv (b c a):(cV b c a).lookup ("rows":Str)=some (.ref a):=by unfold cV;rw[gj,if_pos rfl]
def jw (a f b){m:Str}(e:¬m="rows")(d:¬m="atoms")(c:¬m="terms"):(cV a f b).lookup m=none:=by
 unfold cV;rw[gj,if_neg e,gj,if_neg d,gj,if_neg c]
 all_goals rfl
def Fr1 (H H':Hp)(z:Addr):Prop:=∀b o,JeE b o (b≠z->Vk b o)
def Fr1.of_same (s:Xd H):Jip z:=λb o e x=>s b o e
def Fr1.trans (a:Fr1 H H1 z)(b:Fr1 H1 H2 z):Fr1 H H2 z:=λc o e n=>b c o (a c o e n) n
def Fr1.keepT (f:Jip z)(h:UL z):J4 H':=λb ys q=>by
 rcases q with q|⟨o,q⟩
 .exact .inl (f b _ q (bX q h (λe=>by cases e)))
 .exact Yg o (f b _ q (bX q h (λe=>by cases e)))
structure bu (K)(C)(H:Hp)(p tl al rl)(T:List Tm)(As:List At)(Rs:Yl Int):Prop where
 ob:∃dx,Jnp p (cV tl al rl)
 tm:∃xs,UL tl/\Jij dT
 am:∃xs,UL al/\VQ (As.map dA)
 rm:∃xs,UL rl/\Jal dR
 na:al≠tl
 nr:rl≠tl
 nx:rl≠al
def bu.keep {K:W.Frag}{C:Addr}{H H':Hp}{p a d b z:Addr}{T:List Tm}{As:List At}{Rs:List (List Int)}{zs:List V}(h:JhA H a d b)(f:Jip z)(hz:Uo z zs)(l:z≠a)(k:z≠d)(j:z≠b):JhA H' a d b:=by let((dx,g),(xs,v,u),(ys,t,s),(i,r,q),o,n,c):=h;exact((dx,f _ _ g (bX g hz (λe=>by cases e))),(xs,f _ _ v l.symm,u.keep (f.keepT hz) (hX T)),(ys,f _ _ t k.symm,s.keep (f.keepT hz) (dw iG As)),(i,f _ _ r j.symm,q.keep (f.keepT hz) (dw iH Rs)),o,n,c)
def bu.same {K:W.Frag}{C:Addr}{H H':Hp}{p b d c:Addr}{T:List Tm}{As:List At}{Rs:List (List Int)}(h:JhA H b d c)(s:Xd H):JhA H' b d c:=by let((dx,q),(xs,o,n),(ys,l,k),(e,j,i),g,f,a):=h;exact((dx,s _ _ q),(xs,s _ _ o,n.keep (.of_same s) (hX T)),(ys,s _ _ l,k.keep (.of_same s) (dw iG As)),(e,s _ _ j,i.keep (.of_same s) (dw iH Rs)),g,f,a)
def bu.setT {K:W.Frag}{C:Addr}{H:Hp}{p a k c:Addr}{T l:List Tm}{As:List At}{Rs:List (List Int)}{us:List V}(h:JhA H a k c)(hs:Il (QZ a us) (l.map dT) us):Jhz (QZ a us) a k c l:=by let((dx,j),(xs,i,t),(ys,s,r),(n,q,o),g,f,b):=h;let d:Jkx a us:=bj.lst i;exact((dx,by rw[Jmf j i (λe=>by cases e)];exact j),(us,ao,hs),(ys,by rw[aq g];exact s,r.keep d (dw iG As)),(n,by rw[aq f];exact q,o.keep d (dw iH Rs)),g,f,b)
def bu.setA {K:W.Frag}{C:Addr}{H:Hp}{p d b f:Addr}{T:List Tm}{As c:List At}{Rs:List (List Int)}{us:List V}(h:JhA H d b f)(hs:Il (QZ b us) (c.map dA) us):V_ K C (QZ b us) p d b f T c:=by let((dx,k),(xs,s,r),(ys,j,t),(l,q,o),i,n,a):=h;let g:Jkx b us:=bj.lst j;exact((dx,by rw[Jmf k j (λe=>by cases e)];exact k),(xs,by rw[aq i.symm];exact s,r.keep g (hX T)),(us,ao,hs),(l,by rw[aq a];exact q,o.keep g (dw iH Rs)),i,n,a)
def bu.setR {K:W.Frag}{C:Addr}{H:Hp}{p d k a:Addr}{T:List Tm}{As:List At}{Rs c:List (List Int)}{us:List V}(h:JhA H d k a)(hs:Il (QZ a us) (c.map dR) us):bu K C (QZ a us) p d k a T As c:=by let((dx,j),(xs,r,q),(ys,o,n),(s,i,t),l,g,b):=h;let f:Jkx a us:=bj.lst i;exact((dx,by rw[Jmf j i (λe=>by cases e)];exact j),(xs,by rw[aq g.symm];exact r,q.keep f (hX T)),(ys,by rw[aq b.symm];exact o,n.keep f (dw iG As)),(us,ao,hs),l,g,b)
def SqI (K:W.Frag)(H:Hp)(q:Addr)(ps:List Int):Prop:=Jee q\/GY q
def SqI.same (h:Jk5 K H q)(s:Xd H):Jk5 K H' q:=h.elim (λz=>.inl (s.seq z)) λz=>.inr ((bj.of_same s).sq z)
inductive rE:Sp|m{vs H Q E9} (z):Ji1 (vs=[.str z]) ((∀H',ID (Yo (oJ z) H'))->rE vs H Q E9)
inductive rF:Sp|m{vs H Q E9} (z):Ji1 (vs=[.str z]) ((∀H',ID (Yo (gh z) H'))->rF vs H Q E9)
inductive oM:Sp|m{vs H Q E9} (z):Ji1 (vs=[.str z]) (Jeo z->(∀H',JmE H')->oM vs H Q E9)
inductive kA (K):Sp|m{vs H Q E9} (a tl) (m) (xs) (ds) (d):vs=VU a tl m->JU K d a->UL tl->VQ ds->JjK ds 50->QX ((ds.length:Int)<m) m ((Xh (ds.any λe=>peq e d)->∀j:Nat,j<ds.length->No (j:Int) H)->(¬Xh (ds.any λe=>peq e d)->No (ds.length:Nat) (QZ tl (Jmu xs a)))->kA K vs H Q E9)
inductive rG (C):Sp|m{vs H Q E9} (p dx):vs=Gj p->Jnp p []->(∀tl al rl H',JeL tl al (VA rl (al≠tl->rl≠tl->rl≠al->Vk p (Wh C (cV tl al rl))->Ql tl []->Ql al []->Ql rl []->(∀b o,JeE b o (b≠p->Vk b o))->QP H')))->rG C vs H Q E9
inductive oO (K)(C):Sp|m{vs H Q E9} (p tl al rl) (T) (As) (Rs) (n):vs=XF p n->JhD H->0<=n->n<(T.length:Int)->QP H->oO K C vs H Q E9
inductive rH (K)(C):Sp|m{vs H Q E9} (p tl al rl) (T) (As) (Rs) (n):vs=XF p n->JhD H->n≠0->-(As.length:Int)<=n->n<=(As.length:Int)->QP H->rH K C vs H Q E9
abbrev bmV:List Value:=[.type "ValueError",.type "Exception",.type "BaseException",.type "object"]
structure Txt (K)(mg:UT Str)(aK C):Prop where
 small:∃t,Jh9 "SMALL_LETTERS" (.str abc t)
 longest:∃t,Jh_ "LONGEST_NAME" 8
 parts:∃t,Jh_ "MOST_TERM_PARTS" 3
 terms:∃t,Jh_ "MOST_TERMS" 60
 atoms:∃t,Jh_ "MOST_ATOMS" 40
 rparts:∃t,Jh_ "MOST_ROW_PARTS" 20
 rows:∃t,Jh_ "MOST_ROWS" 200
 kept:mg "KEPT_WORDS"=Ja aK
 tup:∀H,Nw aK zfA
 len:Jg "len"
 all:Jg "all"
 range:Jg "range"
 isi:Jg "isinstance"
 bool:Jg "bool"
 tuple:Jg "tuple"
 abs:Jg "abs"
 cl:JhR K
 nT:Jkb "terms"
 nA:Jkb "atoms"
 nR:Jkb "rows"
def scIW:Vf ["text"] ["text"] qO:=fsc
def Ci (F:Ix "is_word" "is_word" qO)(T:YP C):Jih ["text"] rE:=by
 let(p,n):=T.small;apply V_b scIW r
 let(z,rfl,hz,q):=h;apply Qq (Ud (i_ (fZ cT (Nq uS (Jd 0)) af) (jJ (Vg (zp rfl) T.all PyProof.Rows.Boot.all (Gb (Vj (N':=["letter"]) (ix:=[]) rfl rfl rfl (λG=>JfE []) rfl rfl (λj i h=>by simp at h) (zo (pv 0)) (λB u e g=>fZ yC (pv 0) (JjP (v:=.str abc) n _) rfl)))))))
 apply NL _ z rfl (bsz _ hz) _ _ rfl rfl _ rfl ?_;apply Nf (λc=>?_)
 .apply Jfe _ z (λD k=>Id (λi m ys H'=>m=z.length-i∧i≤z.length∧ys=((hU z).take i).map V.bl∧H'=QZ D ys) (Jfe z.length (Nat.zero_le _) rfl));rintro i m ys H' ⟨rfl,t,rfl,rfl⟩;apply Mm ao;by_cases a:i<z.length
  .apply Yg a (λx o y=>?_);let(rfl,ch,d,rfl):=y;let l:=Cd d;apply Jfy _ _ _ rfl rfl ao ?_ (z.length-(i+1)) (by lia) rfl a ?_ tV
   .rw[lM,List.length_take,xf];exact Jaa (Jgw (Nat.min_le_right _ _))
   .rw[l,mAq];rfl
  .let b:i=z.length:=by lia
   subst b;apply JaJ (nRq _) D (hU z) rfl (SqL.of (by rw[ao,tO (by rw[xf];exact nRq _)])) ?_;have:=q _ (GX k (((hU z).take z.length).map V.bl));unfold oJ at this;rw[c,Bool.true_and]at this;exact this
 .have:=JdV H H;unfold oJ at this;rw[Bool.eq_false_iff.mpr c,Bool.false_and]at this;exact this
def scIN:Vf ["word"] ["word"] qP:=fsc
def Cj (F:Ix "is_name" "is_name" qP)(T:YP C)(G:Mp 1 g gd ["text"] rE)(l:JiU gd "text")(i:NW K g)(e:mg "is_word"=Ja g):
  aS P w K mg base CX0 2 f fd ["word"] rF:=by
 let(n,k):=T.longest;apply V_b scIN j
 let(z,rfl,hz,q):=h;apply Qq (Ud (i_ (Jfg G j e i l aJ 0) (i_ (fZ op_le (Nq uS (Jd 0)) (JjP (v:=.int 8) k _)) (jJ (fZ uR (pv 0) (ik (v:=.ref aK) rfl T.kept rfl) rfl)))))
 apply UP _ z hz (λa b=>Yu ?_);apply Nf (λc=>?_)
 .apply NL _ z rfl (bsz _ hz) _ _ rfl rfl _ rfl ?_;apply bo (λd=>?_) (λd=>?_)
  .apply(_,rfl,aK,zfA,rfl,.inr (T.tup a),rfl,Cc,?_);have:=q a b;unfold gh at this;rw[c,d,Bool.true_and,Bool.true_and]at this;exact this
  .have:=q a b;unfold gh at this;rw[c,Bool.eq_false_iff.mpr d,Bool.true_and,Bool.false_and]at this;exact this
 .have:=q a b;unfold gh at this;rw[Bool.eq_false_iff.mpr c,Bool.false_and]at this;exact this
def scAN:Vf ["word"] ["word"] qR:=fsc
def Ck (F:Ix "ask_name" "ask_name" qR)(G:IS 2 "is_name" g gd ["word"] rF):NF 3 ["word"] oM:=by
 apply V_b scAN c
 let(z,rfl,hz,d,h):=h;apply Qq (Jej (Jbg (Jfg G.ok c G.m G.kp G.b aJ 0)) fc aU)
 rfl'
 apply UP _ z hz (λe a=>Yu ?_);rw[d];exact bq (h e a)
def scPl:Vf (Jmi "most") (Jmi "most") qT:=fsc
def Cm (F:Ix "place_of" "place_of" qT)(T:YP C):Jih (Jmi "most") (kA K):=by
 apply V_b scPl y
 let(a,i,m,xs,b,d,rfl,r,k,hs,t,J,I,o,n):=h;let q:=gp y;let l:=hs.length.symm;apply Qq (ae (be (aA (vi q) (pv 0) (pv 1) rfl) (Ud (Ub PySem.F.slot_list_index PySem.F.type_list_index (vk q) (pv 1) (Jd 0))) aU) (JaT (be (aA m_ (YH 1) (pv 2)) fc aU) (JkA (pv 1) (Jd 0)) (WG ip (YH 1))))
 rfl'
 apply(_,rfl,_,rfl,i,xs,b,d,rfl,Jc k,hs,r,Mg t,_,rfl,?_);apply Nf (λc=>?_)
 .let v:=c;let g:=List.findIdx_lt_length_of_exists (let (x,o,n):=List.any_eq_true.mp v;(x,o,n));apply(_,rfl,JeM k,_,rfl,i,xs,b,_,d,b.findIdx (λe=>peq e d),rfl,rfl,k,hs,r,Mg t,W7 (gG g) (List.findIdx_getElem (w:=g)),λj M G D=>?_,o v _ g);let(L,B):=gEq D;let z:=List.not_of_lt_findIdx G;rw[B]at z;exact z
 .apply(_,rfl,i,xs,rfl,Jc k,_,rfl,_,_,rfl,rfl,_,rfl,bo (λu=>?_) (λu=>?_))
  .lia
  .apply Jg2 _ (JeM k) _ i xs _ k (eg (by lia)) ?_;apply XI _ i _ rfl (Jc ao) _ _ rfl rfl ?_;let e:(((xs++[V.ref a]).length:Nat):Int)-1=(b.length:Nat):=by rw[lAq,l];simp
   rw[e];exact n c
def scI:Vf ["self"] ["self"] qU:=fsc
def ok_init (F:Jmy "Problem.__init__" qU)(T:YP C):Jih ["self"] (rG C):=by
 apply V_b scI D
 let(p,dx,rfl,y,k):=h;apply Qq (Wb (Jkw ac) (Jkw ac) (aj (Jkw ac)));apply JbF (λl u=>?_);let c:=bY y u;apply JX _ p C dx [] (by rw[aq c];exact y) T.cl T.nT (by decide) ?_;apply JbF (λi d=>?_);let j:i≠p:=λz=>by rw[z,ao]at d;cases d
 let q:i≠l:=λz=>by rw[z,aq c.symm,ao]at d;cases d
 let B:Gf i:=by rw[aq j,aq q]at d;exact d
 apply JX _ p C dx _ (by rw[aq j.symm,ao]) T.cl T.nA (by show M8 1;decide) ?_;apply JbF (λg a=>?_);let n:g≠p:=λz=>by rw[z,ao]at a;cases a
 let t:g≠i:=λz=>by rw[z,aq j,ao]at a;cases a
 let r:g≠l:=λz=>by rw[z,aq c.symm,aq q.symm,aq c.symm,ao]at a;cases a
 let x:Gf g:=by rw[aq n,aq t,aq n,aq r]at a;exact a
 apply JX _ p C dx _ (by rw[aq n.symm,ao]) T.cl T.nR (by show M8 2;decide) ?_;apply k l i g _ u B x q r t ao ?_ ?_ ?_ λb o e v=>?_
 .rw[aq c.symm,aq r.symm,aq c.symm,aq q.symm,aq c.symm,ao]
 .rw[aq j,aq t.symm,aq j,ao]
 .rw[aq n,ao]
 .rw[aq v,WM e x,aq v,WM e B,aq v,WM e u];exact e
def scAT:Jfh (Nk "number") "number" qV:=fsc
def Cn (F:Ix "ask_term" "Problem.ask_term" qV)(T:YP C):Jih (Nk "number") (oO K C):=by
 apply V_b scAT l
 let(p,a,j,e,k,As,Rs,n,rfl,S,q,o,h):=h;let((dx,g),(xs,i,hs)):=id S;let b:Mz k.length:=by rw[<-hs.length,lM]
 apply Qq (Jej (JcR (Jlw iq 1) (XZ m_ 1 (UJ 0))) fc aU)
 rfl'
 apply JlX _ rfl _ _ _ rfl (Nf (λc=>(_,rfl,_,rfl,p,C,dx,_,_,rfl,g,T.cl,T.nT,dy _ _ _,a,xs,rfl,Jc i,_,_,rfl,rfl,_,rfl,bo (λd=>?_) (λd=>h))))
 .have:=oDq c;lia
 .lia
def scAP:Jfh (Nk "part") "part" qW:=fsc
def Co (F:Ix "ask_part" "Problem.ask_part" qW)(T:YP C):Jih (Nk "part") (rH K C):=by
 apply V_b scAP o
 let(p,g,e,i,t,As,Rs,n,rfl,S,j,r,q,h):=h;let((dx,k),_,(xs,l,hs)):=id S;let b:Mz As.length:=by rw[<-hs.length,lM]
 apply Qq (Jej (JcR (Jdv (pv 1)) (aA cT (NN kT T.abs (Jd 1)) (UJ 0))) fc aU)
 rfl'
 apply Ji7 (Nf (λc=>(_,rfl,n,rfl,_,rfl,p,C,dx,_,_,rfl,k,T.cl,T.nA,cX _ _ _,e,xs,rfl,Jc l,_,_,rfl,rfl,_,rfl,bo (λd=>?_) (λd=>h))))
 .let a:=oDq c;injection a with a;exact absurd a j
 .let z:=oDq d
  split at z<;>lia
def Fr2 (H H':Hp)(z y:Addr):Prop:=∀b o,JeE b o (b≠z->b≠y->Vk b o)
def Fr2.of1 (f:Jip z):WV H z y:=λb o e n x=>f b o e n
def Fr2.of_same (s:Xd H):WV H z y:=λb o e x x=>s b o e
def Fr2.trans (a:Fr2 H H1 z y)(b:Fr2 H1 H2 z y):Fr2 H H2 z y:=λc o e n m=>b c o (a c o e n m) n m
def bp:JnA (JnA (List Int))
 |acc,[]=>acc
 |acc,p::ps=>bp (if p∈acc then acc else acc++[p]) ps
inductive kB (K)(C):Sp|m{vs H Q E9} (p tl al rl) (T) (As) (Rs) (z):vs=Jnl p z->Ji1 (JhD H) (Jeo z->Jda 40->(∀H' more (j:Nat),V_ K C H' p tl al rl T (As++more)->WV H al rl->more=[]/\At.plain z∈As\/more=[.plain z]->JeI (j:Int))->kB K C vs H Q E9)
inductive oP (K)(C):Sp|m{vs H Q E9} (p tl al rl) (T) (As) (Rs) (a b):vs=JaV p a b->JhD H->0<=a/\a<(T.length:Int)->0<=b/\b<(T.length:Int)->Jda 40->(∀H' more (j:Nat),V_ K C H' p tl al rl T (As++more)->WV H al rl->more=[]/\Jar 1\/more=[.same a b]->JeI (j:Int))->oP K C vs H Q E9
inductive gK (K)(C):Sp|m{vs H Q E9} (p tl al rl q) (T) (As) (Rs) (ps):vs=JC p q->JhD H->Jee q->GV 20->(∀n∈ps,n≠0/\-(As.length:Int)<=n/\n<=(As.length:Int))->Rs.length<200->(∀H' (j:Nat),bu K C H' p tl al rl T As (Rs++[bp [] ps])->WV H al rl->JeI (j:Int))->gK K C vs H Q E9
inductive rJ (K):Sp|m{vs H Q E9} (q) (ps):vs=Gj q->Jdh (Jee q) ((∀H' l,Jks (Vw l ((bp [] ps).map V.int)) l)->rJ K vs H Q E9)
def Cp (a b:Int):peq (.int a) (.int b)=decide (a=b):=rfl
def q1 {Q:VK}{n:Nat}{H:Hp}(h:No ((n+1:Nat):Int) H):No ((n:Int)+1) H:=h
theorem rK:∀ps acc,(bp acc ps).length<=acc.length+ps.length
 |[],acc=>by simp [bp]
 |p::ps,acc=>by
  unfold bp;let h:=rK ps (if p∈acc then acc else acc++[p])
  split at h<;>simp only[lAq,List.length_cons,lS,List.length_nil]at h ⊢ <;> split<;>simp_all<;>lia
def Cq {ps:List Int}{i:Nat}{k:Int}:∀{acc:List Int},ps[i]?=some k->IX acc (i+1)=if k∈IX acc i then IX acc i else IX acc i++[k]:=by
 induction ps generalizing i with
 |nil=>intro acc h;simp at h
 | cons p ps a =>
  intro acc h;cases i with
  |zero=>
   simp at h;subst h;simp [bp]
  |succ i=>
   simp only[List.take_succ_cons,bp];exact a (by simpa using h)
def xn (S:JhD H)(g:JU K (dA t) a)(h:Jda 40)
  (k:∀H' more (j:Nat),V_ K C H' p tl al rl T (As++more)->Jip al->more=[]/\t∈As\/more=[t]->JeI (j:Int)):kA K (VU a al 40) H Q E:=by
 let(xs,f,hs):=id S.am;apply(a,al,40,xs,As.map dA,dA t,rfl,g,f,hs,Mg (me (λa=>by rw[rD];exact nRq _) As),by rw[lM];lia,by decide,λc j l=>?_,λc=>?_)
 .rw[rC Cg,decide_eq_true_eq]at c;exact k H [] j (by rw[List.append_nil];exact S) (λb o e x=>e) (Uh rfl c)
 .let d:Jkx al (Jmu xs a):=bj.lst f;apply k _ [t] _ (S.setA ?_) (λb o e i=>by rw[aq i];exact e) (.inr rfl);rw[mAq];exact(hs.keep d (dw iG As)).append (ar.one (g.keep d (iG t)))
def scP:Jfh (Nk "name") "name" qX:=fsc
def Cr {f N M:Addr}{q O dP:FuncData}(F:Fun K "add_plain" "Problem.add_plain" qX f q)(T:YP C)(g:IS 3 "ask_name" N O ["word"] oM)(e:IS 1 "place_of" M dP (Jmi "most") (kA K)):
  aS P w K mg base CX0 4 f q (Nk "name") (kB K C):=by
 let(u,n):=T.atoms;apply V_b scP o
 let(p,t,R,B,X,As,Rs,z,rfl,S,lo,G,k,h):=h;let l:Jk2 1:=o.mono (by decide);apply Qq (J3 (ah (Jfg g.ok o g.m g.kp g.b aJ 1)) (WG cv (Yj e.ok l e.m e.kp e.b aJ (XM (ck (JbI aE 1)) (Xe 0) (JjP (v:=.int 40) n _)))))
 rfl'
 apply JdA _ z lo G (λW y=>Ul _ lS2 (λa J=>?_));let c:=y.trans (MX J (JeO z));let r:=S.same c;let⟨(dx,D)⟩:=id r;let I:Has K (Mb W a (JeO z)) (dA (.plain z)) _:=Wr ao (WL (by simp only[Has]) (by simp only[Has]));exact XJ _ p C dx _ _ rfl D T.cl T.nA (cX _ _ _) (xn r I k λH' d j U L m=>Jlk _ _ (q1 (h H' d (j+1) U ((Fr2.of_same c).trans (Fr2.of1 L)) m)))
def scSm:Vf ["self","one","other","turned"] (Ys "one") qZ:=fsc
def Cs {f fT fP:Addr}{fd D dP:FuncData}(F:Ix "add_same" "Problem.add_same" qZ)(T:YP C)(GT:WN 1 fT D "number" (oO K C))(bT:Jnk D)(W:JP "ask_term" fT)(J:IS 1 "place_of" fP dP (Jmi "most") (kA K)):
  aS P w K mg base CX0 4 f fd (Ys "one") (oP K C):=by
 let(t40,U):=T.atoms;apply V_b scSm Z
 let(p,G,q,I,T',As,Rs,a,b,rfl,S,X,ib,L,h):=h;let Y:=gp Z;let k:Jk2 1:=Z.mono (by decide);apply Qq (Ja7 (Jig 0 W GT k bT 1) (Wb (ah (Jig 0 W GT k bT 2)) (Ie (i:=3) scSm.nd (ck (aa aE (WS 2 1)))) (J3 (be (aA (vi Y) (pv 3) (Xe 0) rfl) (Ud (WG cv (Ub PySem.F.slot_list_index PySem.F.type_list_index (vk Y) (Xe 0) (Jd 3)))) aU) (WG cv (Yj J.ok k J.m J.kp J.b aJ (XM (ck (aa aE (WS 1 2))) (Xe 0) (JjP (v:=.int 40) U _)))))))
 rfl'
 let((dx,B),_,(xs,N,hs),_):=id S;let no:=jw G q I (m:="ask_term") (by decide +kernel) (by decide +kernel) (by decide +kernel);apply(_,rfl,p,dx,_,rfl,B,no,_,rfl,p,G,q,I,T',As,Rs,a,rfl,S,X.1,X.2,?_);apply(_,rfl,p,dx,_,rfl,B,no,_,rfl,p,G,q,I,T',As,Rs,b,rfl,S,ib.1,ib.2,?_);apply UP _ _ lS3 (λu M=>?_);let dt:∀{H:Hp} {u:Addr} {x y:Int},MB u (JaX x y)->Has K H (Jbh x y) (.ref u):=λe=>Wr e (Me (by simp only[Has]) (by simp only[Has]) (Wy (by simp only[Has])));let d:=MX M (JaX b a);let R:=dt (ao (H:=H) (a:=u) (o:=.tup (JaX b a)));generalize Mb H u (JaX b a)=H1 at d R;let S1:=S.same d;let t:=hs.keep (.of_same d) (dw iG As);let dp:JjK (As.map dA) 60:=Mg (me (n:=1) (λa=>by rw[rD];exact nRq _) As);apply(_,rfl,_,rfl,p,C,dx,_,_,rfl,d _ _ B,T.cl,T.nA,cX _ _ _,q,xs,As.map dA,Jbh b a,rfl,Jc (d _ _ N),t,R,dp,_,rfl,Nf (λc=>?_))
 .let c':Xh ((As.map dA).any λe=>peq e (Jbh b a)):=c;let l:((As.map dA).findIdx λe=>peq e (Jbh b a))<(As.map dA).length:=List.findIdx_lt_length_of_exists (let (x,h1,h2):=List.any_eq_true.mp c';(x,h1,h2));apply(_,rfl,p,C,dx,_,_,rfl,d _ _ B,T.cl,T.nA,cX _ _ _,JeM (d _ _ N),_,rfl,q,xs,As.map dA,_,Jbh b a,_,rfl,rfl,d _ _ N,t,R,dp,W7 (gG l) (List.findIdx_getElem (w:=l)),λm dm g1 g2=>?_,_,_,rfl,rfl,q1 (h H1 [] _ (by rw[List.append_nil];exact S1) (Fr2.of_same d) (Uh rfl (by rw[lM]at l;lia))));let(h3,h4):=gEq g2;let z:=List.not_of_lt_findIdx (p:=λe=>peq e (Jbh b a)) g1;rw[h4]at z;exact z
 .apply UP _ _ lS3 (λv hv=>?_);let g:=d.trans (MX hv (JaX a b));let O:=dt (ao (H:=H1) (a:=v) (o:=.tup (JaX a b)));let S2:=S.same g;exact XJ _ p C dx _ _ rfl (g _ _ B) T.cl T.nA (cX _ _ _) (xn (E:=E0) (Q:=λx H'=>rI0 (λi j=>.int (i+j)) x (.int 1) H' Q) S2 O L λH' r j S' fr m=>Jlk _ _ (q1 (h H' r (j+1) S' ((Fr2.of_same g).trans (Fr2.of1 fr)) (m.imp (λ(a,b)=>(a,List.length_pos_of_mem b)) id))))
inductive mf (K)(C):Sp|m{vs H Q E9} (p tl al rl q) (T) (As) (Rs) (n) (ps):vs=Jf2 p (.str n) q->JhD H->QX (GY q) n.length (Jeo n->GV 3->(∀i∈ps,0<=i/\i<(T.length:Int))->T.length<60->(∀H' more j,Jhz H' tl al rl (T++more)->Jip tl->more=[]/\(n,ps,)∈T\/more=[(n,ps,)]->j<(T++more).length->JeI (j:Int))->mf K C vs H Q E9)
def scA:Vf ["self","name","parts","part"] (JeJ "name") sAdd:=fsc
def ok_add {f fN fT fP:Addr}{fd dN y dP:FuncData}(F:Ix "add_term" "Problem.add_term" sAdd)(T:YP C)(J:IS 3 "ask_name" fN dN ["word"] oM)
  (GT:WN 1 fT y "number" (oO K C))(bT:Jnk y)(mT:JP "ask_term" fT)(I:IS 1 "place_of" fP dP (Jmi "most") (kA K)):NF 4 (JeJ "name") (mf K C):=by
 let(t3,e3):=T.parts;let(t60,U):=T.terms;apply II scA
 let(p,D,al,rl,q,G,As,Rs,n,ps,rfl,S,hq,lo,hn,h3,hp,len,h):=h;let t:Jk2 1:=hr.mono (by decide);apply Qq (Ja7 (Jfg J.ok hr J.m J.kp J.b aJ 1) (JaT (be (aA cT (YH 2) (JjP (v:=.int 3) e3 _)) fc aU) (JE (Jmj 2) (i:=3) scA.nd (QG 0 mT GT t bT (Jd 3))) (Yj I.ok t I.m I.kp I.b aJ (XM (ck (QQ 1 (Iw jf rfl T.tuple (Jd 2)))) (Xe 0) (JjP (v:=.int 60) U _)))))
 rfl'
 apply JdA _ n lo hn (λH1 L=>?_);let S1:=S.same L;let d:=L.tup hq;let hl1:(ps.map V.int).length=ps.length:=lM _;apply Jg2 _ q _ (.inr d) _ _ _ rfl (Nf (λc=>?_))
 .lia
 let⟨(dx,ho)⟩:=id S1;apply Jir _ q d eJ (λi B g=>g=H1/\∃z,B=[some _,some _,some _,z]) (λi B g h=>by let⟨e⟩:=h;exact by rw[e];exact d) (GB rfl _)
 .rintro i B H8 x g hi ⟨rfl,z,rfl⟩ ⟨rfl,hx⟩;let(k,ek,rfl):=GW _ d;let Z:=hp k (mO ek);exact(_,rfl,p,dx,_,rfl,ho,JL _ _ _,_,rfl,p,D,al,rl,G,As,Rs,k,rfl,S1,Z.1,Z.2,rfl,_,rfl)
 .rintro B g ⟨rfl,z,rfl⟩;apply IR _ rfl _ q _ rfl (.inr (d,lS2,λa ha=>?_));let l:=L.trans (MX ha (XQ n q));let O:Has K _ (dT (n,ps,)) _:=Wr ao (WL (by simp only[Has]) (Has.tup' (l.tup hq) (ar.ints ps)));generalize WW g a=Y at l O;let X:=S.same l;let((W,M),(xs,u,r)):=id X;apply(_,rfl,p,C,W,_,_,rfl,M,T.cl,T.nT,dy _ _ _,a,D,60,xs,G.map dT,dT _,rfl,O,u,r,Mg (rB G),by rw[lM];lia,by decide,λN j hj=>?_,λN=>?_)
  .rw[rC iff_dT,decide_eq_true_eq]at N;rw[lM]at hj;exact h Y [] j (by rw[List.append_nil];exact X) (Fr1.of_same l) (Uh rfl N) (by rw[List.append_nil];exact hj)
  .rw[lM];let kt:bj Y (Jmv Y D xs a):=bj.lst u;apply h _ _ _ (X.setT ?_) (λb o e R=>by rw[aq R];exact l b o e) (.inr rfl) (by rw[lAq];exact Nat.lt_succ_self _);rw[mAq];exact(r.keep kt (hX G)).append (ar.one (O.keep kt (xh _)))
def Ct (a b):JcL (.int a) (.int b)↔a=b:=by rw[Cp];exact decide_eq_true_iff
def scO:Vf ["parts","kept","part"] ["parts"] qS:=fsc
def Cu {f:Addr}{G:FuncData}(F:Fun K "once_each" "once_each" qS f G)(T:YP C):Mp 1 f G ["parts"] (rJ K):=by
 apply V_b scO M
 let(q,ps,rfl,y,I,k):=h;let L:=gp M;apply Qq (Nn (i:=1) scO.nd (bb ac) (Jck (pv 0) (i:=2) scO.nd (Jej (aA (zx L) (pv 2) (pv 1) rfl) (JbR 1 (Jd 2)) aU)) (Ud (Iw jf rfl T.tuple (Jd 1))))
 apply JbF (λl D=>?_);let B:MU (UC H l):=Wm D;apply Jir _ q (B.seq y) cR (λi r p=>MU p/\(∃z,r=[some _,some _,z])/\Wa (p l) ((IX [] i).map V.int)) (λi r p h=>by let⟨e⟩:=h;exact e.seq y) (B,Ye _,ao)
 .rintro i r R x p O ⟨d,⟨z,rfl⟩,a⟩ ⟨rfl,J⟩;let(j,N,rfl):=cz (J _ (d.seq y));let u:=Cq (acc:=[]) N;let g:((IX [] i).map V.int).length<sizeLine:=by rw[lM];have:=rK (ps.take i) [];rw[List.length_take,List.length_nil]at this;exact Jaa (show Jt _ by lia)
  apply(_,rfl,_,rfl,l,_,(bp [] _).map Dt.int,.int j,rfl,Jc a,ar.ints _,by simp only[Has],by rw[hV];decide,_,rfl,?_);let v:=rC Ct (IX [] i) j;by_cases t:j∈IX [] i
  .rw[dTq t]at v;apply UV (λc=>absurd (show Xh (!((bp [] _).map Dt.int).any λd'=>peq d' _) from c) (by rw[v];decide));rw[if_pos t]at u;exact(d,Ye _,by rw[u];exact a)
  .rw[dFq t]at v;apply Up (λc=>Jz (show Xh (!((bp [] _).map Dt.int).any λd'=>peq d' _) by rw[v];rfl));rw[if_neg t]at u;apply Jg2 _ (JeM a) _ l _ _ a g ?_;apply Id (λb o e=>by rw[WM e D];exact d b o e) (Ye _);rw[u,mAq,ao];rfl
 .rintro r p ⟨d,⟨z,rfl⟩,a⟩;rw[lM,List.take_length]at a;apply Jci _ l _ (JbK a (λl2 n=>k _ l2 (d.trans (Wm n)) ao))
def scRw:Jfh (Vs "parts" "part") "parts" sRow:=fsc
def ok_row {f fP fO:Addr}{Z dP dO:FuncData}(F:Fun K "add_row" "Problem.add_row" sRow f Z)(T:YP C)(GP:WN 1 fP dP "part" (rH K C))(bP:Jls dP)(mP:JP "ask_part" fP)
  (GO:IS 1 "once_each" fO dO ["parts"] (rJ K)):Jeb 2 f Z K C:=by
 let(t20,M):=T.rparts;let(R,k):=T.rows;apply V_b scRw Y
 let(p,y,O,a,q,T',As,Rs,ps,rfl,S,d,len,D,U,h):=h;apply Qq (Wb (Jck (pv 1) (i:=2) scRw.nd (QG 0 mP GP Y bP (Jd 2))) (be (aA cT (YH 1) (JjP (v:=.int 20) M _)) fc aU) (JaT (be (aA m_ (UJ 0) (JjP (v:=.int 200) k _)) fc aU) (JkA (Xe 0) (Gb (Jfg GO.ok Y GO.m GO.kp GO.b aJ 1))) (WG ip (UJ 0))))
 rfl'
 let((dx,I),_,_,(xs,L,hs)):=id S;let j:Mz Rs.length:=by rw[<-hs.length,lM]
 let hpl:(ps.map V.int).length=ps.length:=lM _;apply Jir _ q d cR (λi n u=>u=H/\∃z,n=[some _,some _,z]) (λi n u h=>by let⟨e⟩:=h;exact by rw[e];exact d) (GB rfl _)
 .rintro i n H8 x u hi ⟨rfl,z,rfl⟩ ⟨rfl,hx⟩;let(X,ek,rfl):=GW _ d;let B:=D X (mO ek);exact(_,rfl,p,dx,_,rfl,I,JL _ _ _,_,rfl,p,y,O,a,T',As,Rs,X,rfl,S,B.1,B.2.1,B.2.2,rfl,_,rfl)
 rintro n u ⟨rfl,z,rfl⟩;apply Jg2 _ q _ (.inl d) _ _ _ rfl (Nf (λ_=>?_))
 .lia
 apply(_,rfl,p,C,dx,_,_,rfl,I,T.cl,T.nR,jv _ _ _,a,xs,rfl,Jc L,_,_,rfl,rfl,_,rfl,UV (λc2=>?_))
 .lia
 apply Jfw _ p C dx _ _ rfl I T.cl T.nR (jv _ _ _) (JeM L) _ rfl q ps rfl d (by lia) (λt l r J=>?_);let g:=r _ _ L;let hd:Has K t _ _:=Wr J (ar.ints _);let W:bj t (Jmv t a xs l):=bj.lst g;let S3:bu K C _ p y O a T' As (Rs++[bp [] ps]):=(S.same r).setR (by rw[mAq];exact((hs.keep (.of_same r) (dw iH Rs)).keep W (dw iH Rs)).append (ar.one (hd.keep W (iH _))))
 let⟨(N,G)⟩:=id S3;apply Ji0 a xs _ g (eg (by lia)) ?_;apply Jfw _ p C N _ _ rfl G T.cl T.nR (jv _ _ _) a _ rfl (Jc ao) _ _ rfl rfl ?_;let en:(((xs++[V.ref l]).length:Nat):Int)-1=(Rs.length:Nat):=by rw[lAq,j];simp
 rw[en];exact h _ _ S3 λb o e _ n2=>by rw[aq n2];exact r b o e
def cw (a){b:Int}(h:0<b):0<=a%b/\a%b<b:=(Int.emod_nonneg _ (by lia),Int.emod_lt_of_pos _ h)
def made (f:Gf x)(d:Gf dx)(c:dx≠x)(n:(Jhu x) tl=none)(l:(Jhu x) al=none)
  (k:(Jhu x) rl=none)(i:al≠tl)(h:rl≠tl)(g:rl≠al)(k1:Xa (H1 x) (Wh C (cV tl al rl)))(k2:Jld tl [])(k3:Jld al [])(j:Jld rl [])
  (k5:∀b o,(Jhu x) b=some o->b≠x->Xa (H1 b) o):bu K C H1 x tl al rl [] [] []/\MU H1/\Gf tl/\Gf al/\Gf rl:=by let a:MU (Jhu x):=(Wm d).trans (Wm (by rw[aq c.symm];exact f));exact(((dx,k1),([],k2,.nil),([],k3,.nil),([],j,.nil),i,h,g),λb o e=>k5 b o (a _ _ e) (bY e f),a.free n,a.free l,a.free k)
structure Own (P)(w)(K)(mg)(base)(C)(fI fA fQ fS)(dI dA' dQ dS):Prop where
 I:Mp 1 fI dI ["self"] (rG C)
 bI:JiV dI
 mI:Mk K C fI
 gI:mg "Problem"=Ja C
 A:Mp 4 fA dA' (JeJ "name") (mf K C)
 bA:Uj dA' (JeJ "name")
 mA:JP "add_term" fA
 Q:WN 4 fQ dQ "name" (kB K C)
 bQ:Wu dQ "name"
 mQ:JP "add_plain" fQ
 S:Mp 4 fS dS (Ys "one") (oP K C)
 bS:JbN dS
 mS:JP "add_same" fS
def bu.lenT (S:JhD H):∃dx xs,Jnp p (cV tl al rl)/\UL tl/\Mz T.length:=by let((dx,c),(xs,b,a)):=S;exact(dx,xs,c,b,by rw[<-a.length,lM])
def bu.lenA (S:JhD H):∃dx xs,Jnp p (cV tl al rl)/\UL al/\Mz As.length:=by let((dx,c),_,(xs,b,a)):=S;exact(dx,xs,c,b,by rw[<-a.length,lM])
def mi (a c b):(cV a c b).lookup ("add_term":Str)=none:=JL _ _ _
def kC (a c b):(cV a c b).lookup ("add_plain":Str)=none:=JL _ _ _
def mj (a c b):(cV a c b).lookup ("add_same":Str)=none:=JL _ _ _
def jx (a c b):(cV a c b).lookup ("add_row":Str)=none:=JL _ _ _
noncomputable def tG (T:List Tm)(a:Int):Tm:=T.getD a.toNat ("",[],)
noncomputable def smF (As:List At)(k:Int):Option (Iz Int):=if 1<=k/\k<=(As.length:Int) then(match As.getD (k-1).toNat (.plain "") with | .same a b=>some (a,b,) | .plain _=>none) else none
def fk (f:UM Int)(T:List Tm)(a b:Int):Bool:=decide ((tG T a).1=(tG T b).1)&&(decide ((tG T a).2.length=(tG T b).2.length)&&((tG T a).2.zip (tG T b).2).all λc=>decide (f c.1=f c.2))
def b_ (f:UM Int)(As:List At)(p:Int):Bool:=match Uw p with|some q=>decide (f q.1=f q.2)|none=>false
noncomputable def rtm (f:UM Int)(a b:Int):UM Int:=λt=>if f t=f a then f b else f t
def InR (n:Nat)(x:Int):Prop:=0<=x/\x<(n:Int)
structure Dom (T:List Tm)(As:List At):Prop where
 tm:∀t∈T,∀q∈t.2,Yh q
 am:∀x y,At.same x y∈As->Yh x/\Yh y
def LkIn (n m:Nat)(l:Lk):Prop:=JgG l.1/\JgG l.2.1/\0<=l.2.2/\l.2.2<=(m:Int)
def kD (h:Yh a):T[a.toNat]?=some (tG T a)/\tG T a∈T:=by
 let(h0,b):=h;let e:T[a.toNat]?=some (tG T a):=by unfold tG;rw[List.getD_eq_getElem?_getD,gG (by lia)];rfl
 exact(e,mO e)
def rL (h0:1<=k)(c:k<=(As.length:Int)):∃a,As[(k-1).toNat]?=some a/\a∈As/\Uw k=(match a with | .same x y=>some (x,y,) | .plain _=>none):=by
 let b:(k-1).toNat<As.length:=by lia
 apply JhK (As[(k-1).toNat]) (gG b) (List.getElem_mem b);unfold smF;rw[if_pos (h0,c),List.getD_eq_getElem?_getD,gG b];rfl
set_option tactic.hygienic true in
def iV (D:Ja9 T){k:Int}{x y:Int}(h:MD k (x,y,)):Yh x/\InR T.length y:=by
 unfold smF at h;split at h
 .rename_i e;let d:(k-1).toNat<As.length:=by lia
  rw[List.getD_eq_getElem?_getD,gG d]at h;let c:=List.getElem_mem d;change _=some _ at h
  generalize As[(k-1).toNat]=a at h c;cases a with
  |plain z=>cases h
  |same u v=>
   cases h;exact D.am _ _ c
 .cases h
def fm (n:Nat)(f g:UM Int):Prop:=∀t u,JgG t->JgG u->(f t=f u↔g t=g u)
def fm.dec (h:fm n f g){t u:Int}(b:JgG t)(a:JgG u):decide (f t=f u)=decide (g t=g u):=decide_eq_decide.mpr (h t u b a)
def Cv {d c:Type}{xs:List d}{ys:List c}{p:d×c}(h:p∈xs.zip ys):p.1∈xs/\p.2∈ys:=List.of_mem_zip h
def rM {T:List Tm}{As:List At}(D:Ja9 T){f g:Int->Int}(h:JiN f g){a b:Int}(n:Yh a)(l:Yh b):fk f T a b=fk g T a b:=by
 unfold fk;congr 2;let d:∀(zs:Wl Int),(∀p∈zs,Yh p.1/\Yh p.2)->(zs.all λc=>decide (f c.1=f c.2))=zs.all λc=>decide (g c.1=g c.2):=λzs=>by
  induction zs with
  |nil=>intro _;rfl
  |cons z zs k=>
   intro hz;rw[List.all_cons,List.all_cons,k λp e=>hz p (Jb e),h.dec (hz z (by simp)).1 (hz z (by simp)).2]
 apply d _ λp e=>?_;let(j,i):=Cv e;exact(D.tm _ (kD n).2 _ j,D.tm _ (kD l).2 _ i)
def Cw:rtm f a b t=rtm f a b u↔f t=f u\/(f t=f a/\f u=f b)\/(f t=f b/\f u=f a):=by
 unfold rtm;constructor
 .intro h;split at h<;>split at h<;>lia
 .intro h;split<;>split<;>lia
def Cy (h:fm n f g){a b:Int}(i:JgG a)(e:JgG b):fm n (mrg f a b) (rtm g a b):=λt u d c=>by rw[nZ,Cw,h t u d c,h t a d i,h u b c e,h t b d e,h u a c i]
def rO {H:Hp}{T:List Tm}{xs:List V}{i:Nat}{x:V}(h:Jij dT)(e:xs[i]?=some x):∃t q r,T[i]?=some t/\YK q/\JgU q t.1 r/\SqT K H r (t.2.map V.int):=by
 let(d,a,c):=h.get e;rw[List.getElem?_map]at a;cases q:T[i]? with
 |none=>rw[q]at a;cases a
 |some t=>
  rw[q]at a;cases a;simp only[dT,Has,ar]at c;let(p,ys,rfl,f,j,l,rfl,rfl,g,k,rfl,(r,zs,rfl,b,hz),rfl):=c;rw[ji hz]at b;exact(t,p,r,rfl,rfl,f,b)
def rP {H:Hp}{As:List At}{xs:List V}{i:Nat}{x:V}(h:VQ (As.map dA))(e:xs[i]?=some x):∃a,As[i]?=some a/\Has K H (dA a) x:=by
 let(d,b,c):=h.get e;rw[List.getElem?_map]at b;cases q:As[i]? with
 |none=>rw[q]at b;cases b
 |some t=>
  rw[q]at b;cases b;exact Nc t c
def Cz {H:Hp}{Rs:List (List Int)}{xs:List V}{i:Nat}{x:V}(h:Jal dR)(e:xs[i]?=some x):∃r q,Rs[i]?=some r/\YK q/\SqT K H q (r.map V.int):=by
 let(d,b,c):=h.get e;rw[List.getElem?_map]at b;cases q:Rs[i]? with
 |none=>rw[q]at b;cases b
 |some t=>
  rw[q]at b;cases b;simp only[dR,Has]at c;let(a,xs,rfl,hs,f):=c;rw[ji f]at hs;exact Jlk t a hs
def rQ (h:Jko (dA (.plain z)) x):∃q,YK q/\SqT K H q (JeO z):=by unfold dA at h;simp only[Has,ar]at h;let(a,xs,rfl,hs,v,r,rfl,rfl,b,c,rfl,rfl,rfl):=h;exact Nc a hs
def rR (h:Jko (Jbh a b) x):∃q,YK q/\SqT K H q (JaX a b):=by unfold dA at h;simp only[Has,ar]at h;let(q,xs,rfl,hs,v,r,rfl,rfl,d,f,rfl,rfl,c,e,rfl,rfl,rfl):=h;exact Nc q hs
def kE (h0:0<=i)(b:i<(xs.length:Int)):∃x,xs[i.toNat]?=some x/\atI xs i=some x:=by
 let a:W4 i.toNat:=by lia
 let e:i=(i.toNat:Int):=by lia
 let q:=ay (gG a);rw[<-e]at q;exact W7 (gG a) q
def SmQ (K:W.Frag)(As:List At)(k:Int)(H:Hp)(Q:VK):Prop:=(Uf (Uw k)->∀H',JmE H')/\∀x y,MD k (x,y,)->∀H' a,Jks (Jkm a (Qr x y)) a
inductive kF (K)(C):Sp|m{vs H Q E9} (p tl al rl) (T) (As) (Rs) (k):vs=XF p k->JhD H->SmQ K As k H Q->kF K C vs H Q E9
def xo:Vf ["problem","number","atom"] (Yq "number") ov:=fsc
def CA (F:Ix "sameness" "sameness" ov)(T:YP C):Jih (Yq "number") (kF K C):=by
 apply V_b xo R
 let(p,G,n,I,N,As,Rs,k,rfl,S,g,q1):=h;let((dx,o),_,(ys,r,t)):=id S;let O:JbE As.length:=by rw[<-t.length,lM]
 apply Qq (JaT (be (JcR (Jlw iq 1) (XZ cT 1 (UJ 0))) (Ud eU)
   aU) (Ie (i:=2) xo.nd (aI az (Xe 0) (Mw ip 1))) (iJ (JlV 2 aE) (jP uK (pv 2) (jO af) jN) eU))
 rfl'
 apply JlX _ rfl _ _ _ rfl (bo (λc=>bU ?_) (λc=>(_,rfl,_,rfl,p,C,dx,_,_,rfl,o,T.cl,T.nA,cX _ _ _,n,ys,rfl,Jc r,_,_,rfl,rfl,_,rfl,bo (λl=>?_) (λl=>?_))))
 .let M:=oDq c;exact g (by unfold smF;rw[if_neg (by lia)]) H (ap.refl H)
 .exact g (by unfold smF;rw[if_neg (by lia)]) H (ap.refl H)
 .let(a,L,U,v):=rL (As:=As) (k:=k) (by lia) (by lia);let(x,D,B):=kE (xs:=ys) (i:=k-1) (by lia) (by lia);let(Y,u,d):=rP t D;rw[L]at u;cases u;apply(_,rfl,p,C,dx,_,_,rfl,o,T.cl,T.nA,cX _ _ _,_,rfl,_,_,rfl,rfl,n,_,_,_,rfl,rfl,SqL.of r,B,?_);cases a with
  |plain z=>
   let(q,rfl,e):=rQ d;apply Jgo _ q _ _ _ e (ay rfl) _ (Nf (λc=>?_))
   .exact VT (oDq c)
   .exact g v H (ap.refl H)
  |same x y=>
   let(q,rfl,e):=rR d;apply Jgo _ q _ _ _ e (ay rfl) _ (Nf (λc=>?_))
   .apply JkD _ rfl q _ rfl e (by show ¬(1=0/\_);rintro ⟨z⟩;exact Vq z) (λb J=>?_);exact q1 x y v _ b (Wm J) (SqT.of ao)
   .exact JiZ rfl
def SeqJ (J:It)(ps:List Int)(H:Hp):Prop:=∃b:Hp->Prop,Wk J ps.length b/\(∀H',ID (b H'))/\∀i H' x a,Xd H->Ji5 a->a=H'/\∃k,ps[i]?=some k/\JcA x k
def CB (b:Jee a):SeqJ (Itl K a) ps H:=by
 apply JhK (λH'=>Vi H' a _) ?_ (λH' s=>s.seq b)
 .have:=cR (K:=K) (a:=a) (xs:=ps.map V.int);rw[lM]at this;exact this
 .rintro i H' x d s ⟨rfl,c⟩;exact GM (cz (c _ (s.seq b)))
def CC (b:GY a):SeqJ (Itt K a) ps H:=by
 apply JhK (λH'=>Jkm a _) ?_ (λH' s=>s.tup b)
 .have:=eJ (K:=K) (a:=a) (xs:=ps.map V.int);rw[lM]at this;exact this
 .rintro i H' x d s ⟨rfl,c⟩;exact GM (cz (c _ (s.tup b)))
def iSeqI (K:W.Frag)(d:TE):L2.TI:=λc H R=>d c H λx b=>∃a ps,YK a/\Jk5 K b a/\∀J,SeqJ J ps b->R J b
def rS (y:Qo l tl):PI X tg l (iSeqI X.K tl):=by
 intro d s r H R I h;apply thn (y d s r H _ I h) λv c h_=>?_;let(x,k,i,u,q1):=h_;let(a,ps,rfl,g,q):=q1;cases u;let n:∀b∈[c.heap.objs.size],d_ X d k b:=λb z=>by
  let e:Jh1 b:=by simpa using z
  subst e;exact i.fpOk (nRq _) (i.hok.fresh (nRq _))
 rcases g with g|g
 .let(j,t,p,hz):=i.list g;apply GJ p.isList;exact(c.heap.objs.size,[c.heap.objs.size],_,_,k,rfl,i.kept (t':=c.toks) λb o e=>Xz e,tZ a _,M_ _ (Heap.get?_push_size _ rfl),n,q _ (CB g))
 .let(j,t,p,hz):=i.tuple g;apply Jcb (show c.heap.IsTuple a j.toArray from p);exact(c.heap.objs.size,[c.heap.objs.size],_,_,k,rfl,i.kept (t':=c.toks) λb o e=>Xz e,t_ a _,M_ _ (Heap.get?_push_size _ rfl),n,q _ (CC g))
noncomputable def rf (rs:List Int)(t:Int):Int:=rs.getD t.toNat 0
def dz {rs:List Int}{t:Int}(h:Jai t):atI (rs.map V.int) t=some (.int (Q2 t)):=by
 let(h0,a):=h;let e:t=(t.toNat:Int):=by lia
 have:rs[t.toNat]?=some (Q2 t):=by unfold rf;rw[List.getD_eq_getElem?_getD,gG (by lia)];rfl
 let q:=vl this;rw[<-e]at q;exact q
def iW (rs:List Int)(a b:Int):List Int:=rs.map λh=>if h=Q2 a then Q2 b else h
def CD (rs)(a b):(iW rs a b).length=rs.length:=by unfold iW;rw[lM]
def xp (h:Jai t):rf (iW rs a b) t=rtm (rf rs) a b t:=by
 let(h0,c):=h;have:rs[t.toNat]?=some (Q2 t):=by unfold rf;rw[List.getD_eq_getElem?_getD,gG (by lia)];rfl
 show(iW rs a b).getD t.toNat 0=_;unfold iW;rw[List.getD_eq_getElem?_getD,List.getElem?_map,this];rfl
inductive rT (K):Sp|m{vs H Q E9} (r) (rs) (a b):vs=JaV r a b->Ww r (rs.map V.int)->Jai a->QX (Jai b) rs.length ((∀H' l,JgS l (Ql l ((iW rs a b).map V.int)) l)->rT K vs H Q E9)
def CG:Vf (Jf6 "_law_one") (Jf6 "_law_one") oG:=fsc
def CH (F:Ix "_law_merged" "_law_merged" oG):Jih (Jf6 "_law_one") (rT K):=by
 apply V_b CG J
 let(r,rs,a,b,rfl,o,I,G,d,q):=h;apply Qq (Ud (Vj (N':=Jh4 "_law_head" "_law_other" "_law_one") (ix:=[0,2,1]) rfl rfl rfl (λy=>VZ (sc:=ai oG) y) rfl rfl (λj i h=>match j,h with|0,h=>by cases h;exact QO _|1,h=>by cases h;exact QO _|2,h=>by cases h;exact QO _|n+3,h=>by simp at h) (cO (pv 0)) (λm m m m=>(iJ (XZ bO 0 (MN (r:=gQ K) az 1 (pv 3))) (MN (r:=gQ K) az 1 (pv 2)) (pv 0)))))
 rfl'
 apply Jdz _ r o (λD p=>Jl3 cR (λi us H'=>Xd H/\us=(((rs.take i).map λh=>if h=Q2 a then Q2 b else h)).map V.int) (λi us H' (g,_)=>g.seq o) p)
 .rintro i us L z x v l e ⟨g,rfl⟩ ⟨rfl,B⟩;let(k,u,rfl):=cz (B _ (g.seq o));apply(_,rfl,_,rfl,_,rfl,r,_,_,_,rfl,rfl,g.seq o,dz I,rfl,_,rfl,Nf (λc=>?_))
  .let t:k=rf rs a:=by have:=oDq c;injection this
   apply Jd_ _ _ rfl r _ _ _ (g.seq o) (dz G) (NO _ (by rw[lM];exact d) v l e (g.upd p));rw[bf u,mAq,mAq];simp only[List.map_cons,List.map_nil,if_pos t]
  .let t:¬k=rf rs a:=λz=>c (by rw[z];exact dTq rfl);apply Yu (NO _ (by rw[lM];exact d) v l e (g.upd p));rw[bf u,mAq,mAq];simp only[List.map_cons,List.map_nil,if_neg t]
 rintro us x e ⟨g,rfl⟩;rw[lM,VM _]at e;exact q x D g p e
def CI (xs ys:List Int):eA (xs.map Dt.int) (ys.map Dt.int)=decide (xs=ys):=by
 by_cases h:xs=ys
 .subst h;rw[dTq rfl];exact nC _
 .rw[dFq h,Bool.eq_false_iff];intro z;have:=nD _ _ (oK xs) (oK ys) z;exact h (List.map_inj_right (λa b e=>by injection e) |>.mp this)
theorem oQ (g:UM Int):∀(xs ys:List Int),Mz ys.length->decide (xs.map g=ys.map g)=(xs.zip ys).all λa=>decide (g a.1=g a.2)
 |[],[],_=>rfl
 |[],_::_,h=>by cases h
 |_::_,[],h=>by cases h
 | x :: xs,y :: ys,h=>by
  let b:=oQ g xs ys (by simpa using h);rw[List.zip_cons_cons,List.all_cons,<-b];by_cases c:g x=g y
  .by_cases d:xs.map g=ys.map g
   .simp [c,d]
   .simp [c,d]
  .simp [c]
inductive rV (K):Sp|m{vs H Q E9} (tl r) (xs) (T) (rs) (a b):vs=[.ref tl,.ref r,.int a,.int b]->JD tl->Jij dT->(∀t∈T,∀q∈t.2,Yh q)->(∀t∈T,Jt t.2.length)->Ww r (rs.map V.int)->JeB T.length->Yh a->Yh b->(∀H',ID (Yo (fk (rf rs) T a b) H'))->rV K vs H Q E9
def rW:Vf ["_law_terms","_law_roots","_law_one","_law_other","_law_first","_law_second"] (Jh6 "_law_one") ma:=fsc
def CJ (F:Ix "_law_alike" "_law_alike" ma)(T:YP C):Jih (Jh6 "_law_one") (rV K):=by
 apply II rW
 let(O,r,xs,N,rs,a,b,rfl,ht,hT,dm,g,hR,rl,S,R,q):=h;let hu:=gp hr;let xl:Mz N.length:=by rw[<-hT.length,lM]
 apply Qq (JS (i:=4) rW.nd (Jil 0 2) (Nn (i:=5) rW.nd (Jil 0 3) (be (JcR (Jct dh 4 (Yk 5)) (aA dh (XA (Jdd 4)) (XA (Jdd 5)))) (Ud de)
   aU) (Ud (fZ (pS hu) (Vj (N':=["_law_part","_law_roots"]) (ix:=[1]) rfl rfl rfl (λX=>VZ (sc:=ai ma) X) rfl rfl (λj i h=>match j,h with|0,h=>by cases h;exact QO _|n+1,h=>by simp at h) (eY (Yk 4)) (λm m m m=>(MN (r:=gQ K) az 1 (pv 0)))) (Vj (N':=["_law_part","_law_roots"]) (ix:=[1]) rfl rfl rfl (λX=>VZ (sc:=ai ma) X) rfl rfl (λj i h=>match j,h with|0,h=>by cases h;exact QO _|n+1,h=>by simp at h) (eY (Yk 5)) (λm m m m=>(MN (r:=gQ K) az 1 (pv 0)))) rfl))))
 rfl'
 let(x,x1,x2):=kE S.1 (by rw[xl];exact S.2);let(y,y1,y2):=kE R.1 (by rw[xl];exact R.2);let(t,W,ra,ta,rfl,ha,o):=rO hT x1;let(u,U,rb,ua,rfl,hb,l):=rO hT y1;let et:tG N a=t:=by have:=(kD S).1;rw[ta]at this;cases this;rfl
 let eu:tG N b=u:=by have:=(kD R).1;rw[ua]at this;cases this;rfl
 let tm:=mO ta;let um:=mO ua;unfold fk at q;rw[et,eu]at q;apply Jd_ _ _ rfl O _ _ _ ht x2 ?_;apply Jd_ _ _ rfl O _ _ _ ht y2 ?_;let a0:∀z r,Je8 z r 0=some (.str z):=λz r=>ay rfl;let M:∀z r,Je8 z r 1=some (.ref r):=λz r=>ay rfl;apply(_,rfl,W,_,_,_,rfl,rfl,ha,a0 _ _,_,rfl,U,_,_,_,rfl,rfl,hb,a0 _ _,rfl,_,rfl,bo (λc=>bU ?_) (λc=>(_,rfl,W,_,_,_,rfl,rfl,ha,M _ _,ra,_,rfl,.inr o,_,rfl,U,_,_,_,rfl,rfl,hb,M _ _,rb,_,rfl,.inr l,rfl,_,rfl,bo (λc2=>?_) (λc2=>?_))))
 .have:=JdV H H;rw[dFq (λz:t.1=u.1=>by rw[z]at c;simp at c)]at this;exact this
 .have:=JdV H H;rw[dFq (p:=t.2.length=u.2.length) (λz=>by simp [z]at c2)]at this;rw[Bool.false_and,Bool.and_false]at this;exact this
 let n1:t.1=u.1:=by apply Classical.byContradiction ?_;intro z;exact c (by simp [z])
 let n2:t.2.length=u.2.length:=by apply Classical.byContradiction ?_;intro z;exact c2 (by simp;lia)
 rw[dTq n1,dTq n2,Bool.true_and,Bool.true_and,<-oQ (rf rs) _ _ n2]at q;apply JfA _ W _ _ _ ha (M _ _) ra rfl (Qu o) (λD hD=>Jl3 eJ (λi us H'=>Xd H/\us=((t.2.take i).map (rf rs)).map V.int) (λi us H' (e,_)=>e.tup o) hD)
 .rintro i us H8 z H4 Z I v ⟨e,rfl⟩ ⟨rfl,Y⟩;let(k,J,rfl):=cz (Y _ (e.tup o));let G:=dm t tm k (mO J);apply Jd_ _ _ rfl r _ _ _ (e.seq hR) (dz (by rw[rl];exact G)) (NO _ (by rw[lM];exact g t tm) Z I v (e.upd hD));rw[bf J,mAq,mAq];rfl
 rintro us H4 v ⟨e,rfl⟩;rw[lM,VM _]at v;apply JfA _ U _ _ _ (e.tup hb) (M _ _) rb rfl (Qu (e.tup l)) (λD2 L=>Jl3 eJ (λi us H'=>Xd H4/\us=((u.2.take i).map (rf rs)).map V.int) (λi us H' (B,_)=>B.tup (e.tup l)) L)
 .rintro i us H8 z H5 Z I d ⟨B,rfl⟩ ⟨rfl,Y⟩;let(k,J,rfl):=cz (Y _ (B.tup (e.tup l)));let G:=dm u um k (mO J);apply Jd_ _ _ rfl r _ _ _ (B.seq (e.seq hR)) (dz (by rw[rl];exact G)) (NO _ (by rw[lM];exact g u um) Z I d (B.upd L));rw[bf J,mAq,mAq];rfl
 rintro us H5 d ⟨B,rfl⟩;rw[lM,VM _]at d;apply(_,_,Jgf (B _ _ v) _,Jgf d _,(by simp only[dep,hV];decide),?_);show Yo (eA ((t.2.map (rf rs)).map Dt.int) ((u.2.map (rf rs)).map Dt.int)) H5;rw[CI];exact q H5 (e.trans B)
def l0 (a:Lk):Je5 a.1 a.2.1 a.2.2 0=some (.int a.1):=ay rfl
def l1 (a:Lk):Je5 a.1 a.2.1 a.2.2 1=some (.int a.2.1):=ay rfl
def l2 (a:Lk):Je5 a.1 a.2.1 a.2.2 2=some (.int a.2.2):=ay rfl
structure PrD (K)(C)(H)(p tl al rl)(T)(As)(Rs):Prop where
 pr:JhD H
 dm:Ja9 T
 t3:∀t∈T,t.2.length<=3
 tN:U9 T.length
def PrD.same (h:JlL H)(s:Xd H):JlL H':=(h.pr.same s,h.dm,h.t3,h.tN)
def PIn (m:Nat)(p:Int):Prop:=p≠0/\-(m:Int)<=p/\p<=(m:Int)
noncomputable def ze8 (n:Nat):List Int:=(List.range n).map λi:Nat=>(i:Int)
def xq (h:JgG t):rf (ze8 n) t=t:=by let(h0,a):=h;unfold rf ze8;rw[List.getD_eq_getElem?_getD,List.getElem?_map,List.getElem?_range (by lia)];show(t.toNat:Int)=t;lia
def oR (n):(ze8 n).length=n:=by simp [ze8]
def CK {H:Hp}{As:List At}{ys:List V}{k:Int}(d:Xu (As.map dA) ys)(h:Jaj k):∃x a,VP ys ((if k<0 then -k else k)-1) x/\a∈As/\Jko (dA a) x/\As[((k.natAbs:Int)-1).toNat]?=some a:=by
 let(p,o,n):=h;let l:JbE As.length:=by rw[<-d.length,lM]
 let b:(if k<0 then -k else k)=(k.natAbs:Int):=by split<;>lia
 let(x,j,g):=kE (xs:=ys) (i:=((k.natAbs:Nat):Int)-1) (by lia) (by lia);let(a,e,c):=rP d j;exact(x,a,by rw[b];exact g,mO e,c,e)
noncomputable def apF:Np At (Iz Int)
 |.same x y=>some (x,y,)
 |.plain _=>none
def xr (a:UM Int)(T:List Tm)(As:List At)(ps:List Int):Prop:=(∀k∈ps,k<0->∀x y,MD (-k) (x,y,)->a x=a y)/\∀i j:Nat,j<i->i<T.length->Jkl a T (i:Int) (j:Int)->a (i:Int)=a (j:Int)
def xt (b:UM Int)(T:List Tm)(As:List At)(ps:List Int)(a:Lk):Prop:=LkIn T.length As.length a/\b a.1≠b a.2.1/\((0<a.2.2/\-a.2.2∈ps/\MD a.2.2 (a.1,a.2.1,))\/(a.2.2=0/\Jkl b T a.1 a.2.1))
inductive rX (K)(C):Sp|m{vs H Q E9} (p tl al rl q r) (T) (As) (Rs) (ps rs):JlO (vs=JnF p q r) (Jk5 K H q->(∀k∈ps,Jaj k)->Ww r (rs.map V.int)->JeB T.length->(xr (rf rs) T As ps->∀H',JmE H')->(∀H' l lk,ID (Jdw (Jkm l (Gy lk.1 lk.2.1 lk.2.2)) (xt (rf rs) T As ps lk) l))->rX K C vs H Q E9)
def mn:Vf ["_law_problem","_law_parts","_law_roots","_law_part","_law_atom","_law_one","_law_other"] (Jcm "_law_roots") rj:=fsc
def CM (F:Ix "_law_next" "_law_next" rj)(T:YP C)(o:Jg "range")(Z:Jg "abs")(BA:IS 1 "_law_alike" fA dA' (Jh6 "_law_one") (rV K)):NF 2 (Jcm "_law_roots") (rX K C):=by
 apply II mn
 let(p,tl,al,rl,q,r,U,As,Rs,ps,rs,rfl,S,hq,pin,hR,D,q0,q1):=h;apply Qq (JaT (JE (rS (pv 1)) (i:=3) mn.nd (JS (i:=4) mn.nd (aI az (Xe 0) (WG ip (NN kT Z (Jd 3)))) (aj (be (JF (Jlw iq 3) (eG (JlV 4 aE) (eX (aA dh (Jd9 2 4) (Jd9 2 4))))) (Jmq (XM (Yk 4) (Yk 4) (Q5 3)))
     aU)))) (Jin o (Gb (YH 2)) (i:=5) mn.nd (aj (Jin o (Jd 5) (i:=6) mn.nd (aj (be (J_ (aA dh (Jil 2 5) (Jil 2 6)) (eF (Yj BA.ok hr BA.m BA.kp BA.b aJ (aa (Xe 0) (Va 2 (WS 5 6)))))) (Jmq (Va 5 (QQ 6 af)))
       aU))))) eU)
 rfl'
 let((dx,ho),(ts,ht,hT),(ys,ha,hA),_):=id S.pr;let tN:=S.tN;apply Jcs _ q ps rfl hq (λJ (Ok,W,ok,yl')=>JeA W (λi u H'=>Ex2 λ Y X=>An3 (u=[Ja p,Ja q,Ja r,Y,X,none,none]) (H'=H) (∀j k,j<i->ps[j]?=some k->k<0->∀x y,MD (-k) (x,y,)->Q2 x=Q2 y)) (λi u H' h=>by let(_,_,_,e,_):=h;exact e▸ok _ (ap.refl _)) (Jlk none none (λj k G=>Xn G _)))
 .rintro i u H9 x H3 hi ⟨Y,X,rfl,rfl,M⟩ yy;let(rfl,k,hk,rfl):=yl' _ _ _ _ (ap.refl _) yy;let pk:=pin k (mO hk);let(x,a,x2,am,hax,xa):=CK hA pk;let N:(k<0→∀x y,MD (-k) (x,y,)→Q2 x=Q2 y)→∀j k,j<i+1→ps[j]?=some k→k<0→∀x y,MD (-k) (x,y,)→Q2 x=rf rs y:=λz j k' G hk'=>by
   by_cases e:j=i
   .subst e;cases hk.symm.trans hk';exact z
   .exact M j k' (by lia) hk'
  let sm:k<0->Uw (-k)=apF a:=λc=>by let(p0,p1,p2):=pk;let(a',e1,_,e3):=rL (As:=As) (k:=-k) (by lia) (by lia);rw[show(-k-1).toNat=((k.natAbs:Int)-1).toNat by lia,xa]at e1;cases e1;exact e3.trans (by cases a<;>rfl)
  apply(_,rfl,p,C,dx,_,_,rfl,ho,T.cl,T.nA,cX _ _ _,_,rfl,_,rfl,_,_,rfl,rfl,al,_,_,_,rfl,rfl,SqL.of ha,x2,?_);apply JlX _ rfl _ _ _ rfl (Nf (λc=>bq (Jlk _ _ (N λz=>JiZ z))));let c':=oDq c;cases a with
  |plain z=>
   let(L,rfl,d):=rQ hax;exact Jgo _ L _ _ _ d (Mv (j:=0)) _ (bo (λc=>VT (oDq c)) (λc=>bq (Jlk _ _ (N λz x y e=>by rw[sm z]at e;cases e))))
  |same x y=>
   let(L,rfl,d):=rR hax;let(in1,in2):=S.dm.am x y am;let i1:=in1;let i2:=in2;rw[<-D]at i1 i2;apply Jgo _ L _ _ _ d (Mv (j:=0)) _ (bo (λc=>(_,rfl,_,rfl,L,_,_,_,rfl,rfl,d,Mv (j:=1),r,_,_,_,rfl,rfl,hR,dz i1,_,rfl,_,rfl,L,_,_,_,rfl,rfl,d,Mv (j:=2),r,_,_,_,rfl,rfl,hR,dz i2,rfl,_,rfl,bo (λR=>?_) (λR=>Jlk _ _ (N λz x' y' e=>?_)))) (λc=>JiZ rfl))
   rotate_left
   .rw[sm z]at e;cases e;rw[hI]at R;exact Decidable.byContradiction λw=>R (by rw[dFq w];rfl)
   apply(_,rfl,L,_,_,_,rfl,rfl,d,Mv (j:=1),_,rfl,L,_,_,_,rfl,rfl,d,Mv (j:=2),_,rfl,_,rfl,lS3,λl hl=>?_);let(p0,p1,p2):=pk;rw[hI]at R;exact q1 _ l (x,y,-k,) (Wm hl) (SqT.of ao) ((in1,in2,by show 0<=-k;lia,by show -k<=_;lia),(λw=>by let w:Q2 x=rf rs y:=w;rw[dTq w]at R;cases R),Qi (by show 0 < -k;lia) (by show - -k∈ps;rw[Int.neg_neg];exact mO hk) (sm c'))
 .rintro u H2 ⟨Y,X,rfl,rfl,M⟩;let g1:∀k∈ps,k<0→∀x y,MD (-k) (x,y,)→Q2 x=rf rs y:=λk hk=>by let(j,G):=List.mem_iff_getElem?.mp hk;exact M j k (gEq G).1 G
  apply Jfk _ r _ (.inl hR) _ (by lia) (by rw[lM];lia -ac) (Jb0 (lo:=0) ((((rs.map V.int).length:Nat):Int).toNat) (λi u H'=>Ex2 λ(v5 I:Option V)=>JjN (u=[Ja p,Ja q,Ja r,Y,X,v5,I]) H2 (∀a b:Nat,b<a->a<i->Jkl (rf rs) U (a:Int) (b:Int)->Q2 (a:Int)=Q2 (b:Int))) (Gn none none (ap.refl _) (λa b _ ha=>Xn ha _)) ?_)
  .rintro i u H3 hi ⟨v5,I,rfl,s3,g⟩;rw[Int.toNat_natCast,lM]at hi;apply JdA _ _ (by show -(2 ^ 62)≤(0:Int)+(i:Nat);lia) (by show(0:Int)+(i:Nat)<2 ^ 62;lia -ac) (Jb0 (lo:=0) (((0:Int)+((i:Nat):Int)).toNat) (λj u H'=>∃(I:Option V),JjN (u=[Ja p,Ja q,Ja r,Y,X,Ya ((0:Int)+((i:Nat):Int)),I]) H2 (∀b:Nat,b<j→Jkl (rf rs) U (i:Int) (b:Int)→Q2 (i:Int)=Q2 (b:Int))) (Ul _ s3 (λb hb=>Xn hb _)) ?_)
   .rintro j u H4 G ⟨I,rfl,B,v⟩;let nb:(Jkl (rf rs) U (0+(i:Int)) (0+(j:Int))→Q2 (0+(i:Int))=Q2 (0+(j:Int)))→∀b:Nat,b<j+1→Jkl (rf rs) U (i:Int) (b:Int)→Q2 (i:Int)=rf rs (b:Int):=λz b hb=>by
     rw[Int.zero_add,Int.zero_add]at z;by_cases e:b=j
     .subst e;exact z
     .exact v b (by lia)
    let ii:Jai ((0:Int)+((i:Nat):Int)):=Js (by lia);let jj:Jai ((0:Int)+((j:Nat):Int)):=Js (by lia);let O:=B.seq hR;apply(_,rfl,_,rfl,r,_,_,_,rfl,rfl,O,dz ii,_,rfl,_,rfl,r,_,_,_,rfl,rfl,O,dz jj,rfl,_,rfl,Nf (λc=>bq (Ul _ B (nb λ_=>by rw[hI]at c;exact Decidable.byContradiction λw=>c (by rw[dFq w];rfl)))));rw[D]at ii jj;apply(_,rfl,p,C,dx,_,_,rfl,B _ _ ho,T.cl,T.nT,dy _ _ _,_,rfl,_,rfl,_,rfl,tl,r,ts,U,rs,_,_,rfl,SqL.of (B _ _ ht),Jm7 B.kt _,S.dm.tm,(λt ht=>Mg (S.t3 t ht)),O,D,ii,jj,λH5 s5=>Yu (bo (λc2=>?_) (λc2=>Ul _ (B.trans s5) (nb λz=>IP c2))));apply UP _ _ lS3 (λl hl=>?_);exact q1 _ l (0+((i:Nat):Int),0+((j:Nat):Int),0,) ((B.trans s5).trans (Wm hl)) (SqT.of ao) ((ii,jj,by show Jc9 0;lia,by show Jc9 _;lia),(λw=>by rw[hI]at c;let w:Q2 (0+(i:Int))=rf rs (0+(j:Int)):=w;rw[dTq w]at c;cases c),Jlj c2)
   .rintro u H4 ⟨I,rfl,B,v⟩;apply Gn _ _ B (λa b hb ha=>?_);by_cases e:a=i
    .subst e;exact v b (by lia)
    .exact g a b hb (by lia)
  .rintro u H3 ⟨v5,I,rfl,s3,g⟩;rw[Int.toNat_natCast,lM,D]at g;exact q0 (g1,λi j G hi=>g i j G hi) H3 s3
def InR.mono (h:JgG x)(l:n<=m):InR m x:=(h.1,by have:=h.2;lia)
def Dom.snocT (D:Ja9 T){z:Str}{ps:List Int}(h:∀i∈ps,Yh i):Ja9 (T++[(z,ps,)]):=by
 let l:T.length<=(T++[(z,ps,)]).length:=by rw[lAq];lia
 apply(λt c q a=>?_,λx y b=>((D.am x y b).1.mono l,(D.am x y b).2.mono l));rcases mPq c with h'|h'
 .exact(D.tm t h' q a).mono l
 .rw[mSq h']at a;exact(h q a).mono l
def Dom.snocA (D:Ja9 T){a:At}(h:∀x y,a=.same x y->Yh x/\Yh y):Dom T (As++[a]):=by
 apply(D.tm,λx y b=>?_);rcases mPq b with h'|h'
 .exact D.am x y h'
 .exact h x y (mSq h').symm
def dom0:Dom [] []:=(λx h=>(nomatch h),λx x h=>(nomatch h))
def mq (S:JlL H)(l:GY q)(hz:Jeo z)(b:Jt z.length)(e:GV 3)(c:∀i∈ps,Yh i)(n:T.length<60)
  (out:∀H' a k,JlK H' (T++a)->Jip tl->Jm8 1->k<(T++a).length->((z,ps,)∉T->a=[(z,ps,)])->JeI (k:Nat)):mf K C (Jf2 p (.str z) q) H Q E:=by
 apply(p,tl,al,rl,q,T,As,Rs,z,ps,rfl,S.pr,l,b,hz,e,c,n,λH' a k g f m kl=>?_);let d:Ja9 (T++a)/\∀t∈T++a,t.2.length<=3:=by
  rcases m with ⟨rfl,_⟩|rfl
  .rw[List.append_nil];exact(S.dm,S.t3)
  .exact(S.dm.snocT c,λt j=>(mPq j).elim (S.t3 t) λh'=>by rw[mSq h'];exact e)
 let ml:Jm8 1:=by rcases m with ⟨rfl,_⟩|rfl<;>simp
 exact out H' a k (g,d.1,d.2,by rw[lAq];lia) f ml kl λh=>m.resolve_left λz=>h z.2
def PrD.more {H H':Hp}{p b e c:Addr}{T:List Tm}{As a:List At}{Rs:List (List Int)}{t:At}(S:Gq K C H p b e c T Rs)(d:V_ K C H' p b e c T (As++a))(h:∀x y,t=.same x y->Yh x/\Yh y)(m:a=[]/\Jar 1\/a=[t]):PrD K C H' p b e c T (As++a) Rs/\Jm8 1/\1<=(As++a).length:=by
 rcases m with ⟨rfl,f⟩|rfl
 .rw[List.append_nil]at d⊢;exact((d,S.dm,S.t3,S.tN),Nat.zero_le _,f)
 .exact((d,S.dm.snocA h,S.t3,S.tN),nRq _,by rw[lAq];exact Nat.le_add_left _ _)
def kG {H:Hp}{p i g e:Addr}{T:List Tm}{As:List At}{Rs:List (List Int)}{z:Str}{Q:VK}{E:XK}(S:Gq K C H p i g e T Rs)(hz:Jeo z)(d:Jt z.length)(l:Jda 40)
  (out:∀H' c k,PrD K C H' p i g e T (As++c) Rs->WV H g e->c.length<=1->1<=(As++c).length->JeI (k:Nat)):kB K C (Jnl p z) H Q E :=
 (p,i,g,e,T,As,Rs,z,rfl,S.pr,d,hz,l,λH' c k j f m=>let h:=S.more (t:=.plain z) j (λx y h=>nomatch h) (m.imp (λ(a,b)=>(a,List.length_pos_of_mem b)) id);out H' c k h.1 f h.2.1 h.2.2)
def CN (S:JlL H)(hz:Jeo z)(a:Jt z.length)(e:Jda 40)(d:At.plain z∉As)
  (out:∀H' k,PrD K C H' p tl al rl T (As++[.plain z]) Rs->WV H al rl->JeI (k:Nat)):kB K C (Jnl p z) H Q E :=
 (p,tl,al,rl,T,As,Rs,z,rfl,S.pr,a,hz,e,λH' b k c f m=>by
  rcases m with ⟨_,m⟩|rfl
  .exact absurd m d
  .exact out H' k (S.more (t:=.plain z) c (λx y h=>nomatch h) (.inr rfl)).1 f)
def mr {H:Hp}{p g e d:Addr}{T:List Tm}{As:List At}{Rs:List (List Int)}{a b:Int}{Q:VK}{E:XK}(S:Gq K C H p g e d T Rs)(j:Yh a)(i:Yh b)(n:Jda 40)
  (out:∀H' c k,PrD K C H' p g e d T (As++c) Rs->WV H e d->c.length<=1->1<=(As++c).length->JeI (k:Nat)):oP K C (JaV p a b) H Q E :=
 (p,g,e,d,T,As,Rs,a,b,rfl,S.pr,j,i,n,λH' c k l f m=>let h:=S.more l (λx y h=>by cases h;exact(j,i)) m;out H' c k h.1 f h.2.1 h.2.2)
def Fr1.after (f:Jcg H1 z)(s:MU H1):Jip z:=λb o e n=>f b o (s b o e) n
def Fr1.fresh (f:Jcg H1 z)(s:MU H1)(h:Gf z):Xd H:=λb o e=>f b o (s b o e) (bY e h)
def Fr2.fresh (f:WV H1 z y)(s:MU H1)(h:Gf z)(h':Gf y):Xd H:=λb o e=>f b o (s b o e) (bY e h) (bY e h')
def oS (k:Gf x)(d:Gf dx)(c:dx≠x)(p:(Jhu x) tl=none)(n:(Jhu x) al=none)
  (l:(Jhu x) rl=none)(i:al≠tl)(g:rl≠tl)(f:rl≠al)(k1:Xa (H1 x) (Wh C (cV tl al rl)))(k2:Jld tl [])(k3:Jld al [])(j:Jld rl [])
  (k5:∀b o,(Jhu x) b=some o->b≠x->Xa (H1 b) o):PrD K C H1 x tl al rl [] [] []/\MU H1/\Gf tl/\Gf al/\Gf rl:=by let(a,e,q,s,r):=made k d c p n l i g f k1 k2 k3 j k5;exact((a,dom0,λy h=>(nomatch h),by decide),e,q,s,r)
inductive kH (K):Sp|m{vs H Q E9} (a) (ns:List Int) (k):vs=XF a k->JnD a (QX (0<=k) k ((∀i:Int,No i H)->kH K vs H Q E9))
def ic (ns:List Int)(k:Int):Int:=if(((ns.map V.int).length:Nat):Int)=0 then k else rf ns (k%(((ns.map V.int).length:Nat):Int))+3*(k/(((ns.map V.int).length:Nat):Int))
inductive gL (K):Sp|m{vs H Q E9} (a) (ns) (k):vs=XF a k->JnD a (QX (0<=k) k (No (ic ns k) H->gL K vs H Q E9))
abbrev rY:Stmt:=xc
def xu:Vf (Qm "_law_k") (Qm "_law_k") rY:=fsc
def CO (F:Ix "_law_cell_at" "_law_cell_at" rY)(T:YP C):Jih (Qm "_law_k") (gL K):=by
 apply V_b xu j
 let(a,ns,k,rfl,b,e,k0,k1,q):=h;apply Qq (J3 (be (Jdv (YH 0)) (QJ 1)
   aU) (aX cv (IW 0 (Wg aM 1 (YH 0))) (aX iK af (Wg cm 1 (YH 0)))))
 rfl'
 apply JkD a _ rfl (.inl b) rfl _ rfl (Je_ (λc=>Yu ?_))
 .let c:=oDq c;injection c with c;unfold ic at q;rw[if_pos c]at q;exact q
 let d:0<(((ns.map V.int).length:Nat):Int):=by have:¬(((ns.map V.int).length:Nat):Int)=0:=λz=>c (by rw[z];exact dTq rfl);lia
 unfold ic at q;rw[if_neg (Int.ne_of_gt d)]at q;let m:=cw k d;let g:JbH (((ns.map V.int).length:Nat):Int):=by rw[lM];lia -ac
 let i:JjB (k%(((ns.map V.int).length:Nat):Int)):=by rw[lM]at m⊢;exact m
 apply(_,rfl,_,rfl,_,rfl,a,_,rfl,.inl b,_,_,rfl,rfl,d,a,_,_,_,rfl,rfl,b,dz i,_,rfl,_,rfl,a,_,rfl,.inl b,_,_,rfl,rfl,(d,g),_,_,rfl,rfl,Jgb (by decide),_,_,rfl,rfl,q)
def CQ (F:Jih (Qm "_law_k") (gL K)):Jih (Qm "_law_k") (kH K) :=
 F.imp λvs H Q E h_=>by let(a,ns,k,h,g,e,d,c,b):=h_;exact(a,ns,k,h,g,e,d,c,b _)
def kJ (z:Str):Prop:=Jeo z/\Jt z.length
def nm4 (r:Int):Str:=if r=0 then "a" else if r=1 then "b" else if r=2 then "abc" else "abd"
def xv (h0:0<=i)(a:i<4):Jku [V.str "a",V.str "b",V.str "abc",V.str "abd"] i (nm4 i)/\kJ (nm4 i):=by
 have:i=0\/i=1\/i=2\/i=3:=by lia
 rcases this with rfl|rfl|rfl|rfl<;>exact(rfl,by decide +kernel,by decide +kernel)
def CS (h0:0<=i)(g:i<4)(d:0<=j)(c:j<4)(e:nm4 i=nm4 j):i=j:=by
 let b:i=0\/i=1\/i=2\/i=3:=by lia
 let a:j=0\/j=1\/j=2\/j=3:=by lia
 rcases b with rfl|rfl|rfl|rfl<;>rcases a with rfl|rfl|rfl|rfl<;>first|rfl|exact VT e
def ff_at (h0:0<=i)(a:i<4):∃z,Jku [V.str "f",V.str "f",V.str "ffa",V.str "ffb"] i z/\kJ z:=by
 have:i=0\/i=1\/i=2\/i=3:=by lia
 rcases this with rfl|rfl|rfl|rfl<;>exact U_ _
def f2_at (h0:0<=i)(a:i<2):∃z,Jku (Je6 "f" (V.str "ffa")) i z/\kJ z:=by
 have:i=0\/i=1:=by lia
 rcases this with rfl|rfl<;>exact U_ _
def pq_at (h0:0<=i)(a:i<3):∃z,Jku [V.str "p",V.str "q",V.str "a"] i z/\kJ z:=by
 have:i=0\/i=1\/i=2:=by lia
 rcases this with rfl|rfl|rfl<;>exact U_ _
def rZ (h0:0<=i)(a:i<5):∃n:Int,VP [V.int 1,V.int 1,V.int 1,V.int 2,V.int 3] i (.int n)/\(n=1\/n=2\/n=3):=by
 have:i=0\/i=1\/i=2\/i=3\/i=4:=by lia
 rcases this with rfl|rfl|rfl|rfl|rfl<;>exact Yu (by decide)
inductive r_ (K)(C):Sp|m{vs H Q E9} (p tl al rl) (T) (As) (Rs) (c):JlO (vs=XF p c) (T.length<60->(∀H' more k,JlK H' (T++more)->Jip tl->more.length<=1->1<=(T++more).length->JeI (k:Nat))->r_ K C vs H Q E9)
def oT:Vf (Jmk "_law_cell" "_law_many" "_law_rest" "_law_parts") (Uk "_law_cell") q_:=fsc
def CT (F:Ix "_law_term_by" "_law_term_by" q_)(T:YP C)(G:Own P w K mg base C fI fA fQ fS dI dA' dQ dS):NF 5 (Uk "_law_cell") (r_ K C):=by
 apply II oT
 let(p,tl,al,rl,j,As,Rs,c,rfl,S,I,q):=h;apply Qq (Nn (i:=2) oT.nd (UJ 0) (be (JcR (Jlw iq 2) (JlZ 1)) (Ud (Yz 0 G.mA G.A hr G.bA (Ih (JeQ (aa aE (XM aE aE aE)) 1) (ck ac))))
   aU) (X7 (i:=3) oT.nd (X3 1) (i:=4) oT.nd (ck (XM (Jhn aM 3 2) (JaS aM (Jhn cm 3 2) 2) (JaS aM (JaS cm (Jhn cm 3 2) 2) 2))) (Ud (Yz 0 G.mA G.A hr G.bA (Ih (JeQ (aa aE (XM aE aE aE)) 1) (jP qj (pv 4) jN (jO (JeQ (JgF af af (XM af af af)) 1))))))))
 rfl'
 let((dx,ho),(ts,ht,hT),_):=id S.pr;let D:Jla j.length:=by rw[<-hT.length,lM]
 let U:=cw (c/5) (show Je 4 by decide);let b5:=cw (c/20) (show Je 5 by decide);apply(_,rfl,p,C,dx,_,_,rfl,ho,T.cl,T.nT,dy _ _ _,tl,_,rfl,Jc ht,?_);apply JlX _ rfl _ _ _ rfl (bo (λc1=>bU ?_) (λc1=>JmQ _ _ _ (by show Je 5;decide) _ (bo (λc2=>?_) (λc2=>?_))))
 rotate_left 2
 .let g:0<(ts.length:Int):=by lia
  let x:JbH (ts.length:Int):=by lia -ac
  let t:=cw (c/100) g;let R:=cw (c/100/(ts.length:Int)) g;let m3:=cw (c/100/(ts.length:Int)/(ts.length:Int)) g;rw[D]at t R m3;let(z,hz,g1,g2):=ff_at U.1 U.2;let(n,hn,n3):=rZ b5.1 b5.2;apply(_,rfl,_,_,rfl,rfl,Qd (by decide),?_);apply(_,rfl,_,rfl,_,_,rfl,rfl,g,_,rfl,_,rfl,_,_,rfl,rfl,(g,x),_,rfl,_,_,rfl,rfl,g,_,rfl,_,rfl,_,_,rfl,rfl,(g,x),_,rfl,_,_,rfl,rfl,(g,x),_,rfl,_,_,rfl,rfl,g,lS3,λb hb=>?_);rw[D];dsimp only;let u:=MX hb (Gy (c/100%(j.length:Int)) (c/100/(j.length:Int)%(j.length:Int)) (c/100/(j.length:Int)/((j.length:Nat):Int)%((j.length:Nat):Int)));let v:=ao (H:=H) (a:=b) (o:=JiX (c/100%((j.length:Nat):Int)) (c/100/((j.length:Nat):Int)%((j.length:Nat):Int)) (c/100/((j.length:Nat):Int)/((j.length:Nat):Int)%((j.length:Nat):Int)));generalize c/100%((j.length:Nat):Int)=N at t u v⊢;generalize c/100/((j.length:Nat):Int)%((j.length:Nat):Int)=X at R u v⊢;generalize c/100/((j.length:Nat):Int)/((j.length:Nat):Int)%((j.length:Nat):Int)=x3 at m3 u v⊢;generalize Mb H b (Gy N X x3)=H1 at u v⊢;apply JkE p dx _ (u _ _ ho) (mi _ _ _) lS4 (λl hl=>?_);let(H2,M,J,n2):=Jnj [V.str "f",V.str "f",V.str "ffa",V.str "ffb"];rw[M];let O:=u.trans J;let k2:=J _ _ v;apply(_,rfl,_,_,rfl,rfl,Qd (by decide),_,_,rfl,rfl,(by show Je 4;decide),l,_,_,_,rfl,rfl,SqL.of n2,hz,_,rfl,(by show Ic 5;decide),λe he=>?_);let(H3,M,J,n3'):=Uq he [V.int 1,V.int 1,V.int 1,V.int 2,V.int 3];rw[M];let Y:=O.trans J;let k3:=J _ _ k2;apply(_,rfl,_,_,rfl,rfl,Qd (by decide),_,_,rfl,rfl,(by show Je 5;decide),e,_,_,_,rfl,rfl,SqL.of n3',hn,_,rfl,?_);let B:∀(W:Hp) (d:Addr) (ps:List Int),MU W->Mh W d (ps.map V.int)->GV 3->(∀i∈ps,InR j.length i)->mf K C (Jf2 p (.str z) d) W Q E0:=λW d ps s4 L l3 hps=>
   mq (S.same s4) L g1 g2 l3 hps I (λH' r k Z f t kl m=>q H' r k Z (f.after s4) t (by lia -ac))
  rcases n3 with rfl|rfl|rfl
  .exact JaJ b _ rfl (SqT.of k3) (by show ¬(0=0/\(1:Nat)=3);rintro ⟨_,z⟩;exact Vq z) (λd L=>B _ d [N] (Y.trans (Wm L)) (SqT.of ao) (by show 1<=3;decide) (λi y=>by rw[mSq y];exact t))
  .exact JaJ b _ rfl (SqT.of k3) (by show ¬(0=0/\(2:Nat)=3);rintro ⟨_,z⟩;exact Vq z) (λd L=>B _ d [N,X] (Y.trans (Wm L)) (SqT.of ao) (by show 2<=3;decide) (λi y=>by
    simp only[List.mem_cons,List.not_mem_nil,or_false]at y;rcases y with rfl|rfl
    .exact t
    .exact R))
  .exact J6 b _ rfl (SqT.of k3) (by show(0=0/\(3:Nat)=3);exact Ye rfl) (B _ b [N,X,x3] Y (SqT.of k3) (by show 3<=3;decide) (λi y=>by
    simp only[List.mem_cons,List.not_mem_nil,or_false]at y;rcases y with rfl|rfl|rfl
    .exact t
    .exact R
    .exact m3))
 all_goals
  let(hz,g1,g2):=xv U.1 U.2;apply JkE p dx _ ho (mi _ _ _) lS4 (λl hl=>?_);let(H1,M,u,v):=Jnj [V.str "a",V.str "b",V.str "abc",V.str "abd"];rw[M];apply(_,rfl,_,_,rfl,rfl,Qd (by decide),_,_,rfl,rfl,(by show Je 4;decide),l,_,_,_,rfl,rfl,SqL.of v,hz,lS0,λe he=>?_);let O:=u.trans (MX he []);exact mq (S.same O) (SqT.of ao) g1 g2 (ps:=[]) (by show 0<=3;decide) (λm h=>nomatch h) I (λH' r k Z f t kl m=>q H' r k Z (f.after O) t (by lia))
inductive se (K)(C):Sp|m{vs H Q E9} (p tl al rl) (T) (As) (Rs) (a c):JlO (vs=JaV p a c) (Yh a->(∀H' k,ID (Yh k->JeI k))->se K C vs H Q E9)
def sf:Vf (Jmk "_law_one" "_law_cell" "_law_many" "_law_kin") (Jdf "_law_one") oF:=fsc
def xw {H:Hp}{T:List Tm}{xs:List V}{a:Int}(b:Jij dT)(h:Yh a):∃q z r,atI xs a=Ja q/\SqT K H q (XQ z r):=by
 let c:Mz T.length:=by rw[<-b.length,lM]
 let(x,e,d):=kE h.1 (by rw[c];exact h.2);let(t,j,g,n,rfl,l,k):=rO b e;exact(j,t.1,g,d,l)
def CU (F:Ix "_law_other_by" "_law_other_by" oF)(T:YP C)(o:Jg "range"):Jih (Jdf "_law_one") (se K C):=by
 apply II sf
 let(p,N,al,rl,R,As,Rs,a,c,rfl,S,z,q):=h;let hu:=gp hr;apply Qq (Nn (i:=3) sf.nd (UJ 0) (vd (i:=4) (N':=["_law_k","_law_one","_law_problem"]) (ix:=[1,0]) sf.nd rfl (Or.inl rfl) rfl rfl (by decide +kernel) (by decide +kernel) rfl (λok=>JgX (sc:=ai oF)) (by decide +kernel) rfl rfl (λj i h=>match j,h with|0,h=>by cases h;exact QO _|1,h=>by cases h;exact QO _|n+2,h=>by simp at h) (J5 o (Jd 3)) (λ_ _ _ _=>(J_ (aA bO (aI (r:=dk K) aQ (aI (r:=gQ K) az (qz K rfl (pv 2) rfl) (pv 0)) af) (aI (r:=dk K) aQ (aI (r:=gQ K) az (qz K rfl (pv 2) rfl) (pv 1)) af)) (XZ dh 0 (pv 1)))) (λ_ _ _ _=>(pv 0))) (J3 (be (J_ (JlZ 2) (aA (nH hu) (pv 4) (bb ac) rfl)) (Ud (IW 4 (aX aM (X3 2) (YH 4))))
   aU) (JaS aM (Wg cv 1 (X3 2)) 3)))
 rfl'
 let((dx,ho),(ts,Z,hT),_):=id S.pr;let U:Jla R.length:=by rw[<-hT.length,lM]
 let tN:=S.tN;let b:0<(ts.length:Int):=by let h1:=z.1;let h2:=z.2;lia
 apply(_,rfl,p,C,dx,_,_,rfl,ho,T.cl,T.nT,dy _ _ _,N,_,rfl,Jc Z,?_);apply JdA _ _ (by show -(2^62)<=(ts.length:Int);lia) (by show(ts.length:Int)<2^62;lia -ac) (λD hD=>gq vm (λi us H'=>Xd H/\∃ks:List Int,us=ks.map V.int/\(∀k∈ks,InR R.length k)) (λ_ _ _ _=>trivial) (Yv (Wm hD) [] (λ_ h=>nomatch h)) ?_ ?_)
 .rintro i us H8 x H2 O v d ⟨g,ks,rfl,B⟩ ⟨rfl,rfl⟩;rw[Int.toNat_natCast]at O;let G:InR R.length (0+(i:Int)):=Js (by lia);let M:=Jm7 g.kt _;let(q1,z1,r1,a1,a2):=xw M G;let(q2,z2,r2,a3,a4):=xw M z;let J:=g _ _ ho;let I:=SqL.of (K:=K) (g _ _ Z);apply(_,rfl,p,C,dx,_,_,rfl,J,T.cl,T.nT,dy _ _ _,_,rfl,N,_,_,_,rfl,rfl,I,a1,q1,_,_,_,rfl,rfl,a2,Mv (j:=0),_,rfl,p,C,dx,_,_,rfl,J,T.cl,T.nT,dy _ _ _,_,rfl,N,_,_,_,rfl,rfl,I,a3,q2,_,_,_,rfl,rfl,a4,Mv (j:=0),rfl,_,rfl,bo (λ_=>Ji0 _ rfl _ _ rfl (bo (λ_=>Yu (Gz _ (by rw[Int.toNat_natCast];lia) (by rw[Int.toNat_natCast];exact O) v d (g.upd hD,ks++[0+((i:Nat):Int)],by rw[mAq];rfl,λk L=>?_))) (λ_=>f_ (by rw[Int.toNat_natCast];exact O) v d (Yv g ks B)))) (λ_=>bq (f_ (by rw[Int.toNat_natCast];exact O) v d (Yv g ks B))));rcases mPq L with h | h
  .exact B k h
  .rw[mSq h];exact G
 rintro us H2 d ⟨g,ks,rfl,B⟩;let t:∀H',Xd H->Q (.int ((a+c/2)%((ts.length:Nat):Int))) H':=λH' s'=>q H' _ s' (by have:=cw (a+c/2) b;rw[U]at this⊢;exact this);apply JmQ _ _ _ (by show Je 2;decide) _ (bo (λ_=>Ul _ lS0 (λl hl=>?_)) (λ_=>bq (Jfw _ _ rfl _ _ rfl rfl (Qd (by decide)) _ _ rfl rfl _ rfl _ _ rfl rfl b (t H2 g))));let(H3,eN,X,n3):=Jnj [];rw[eN];let Y:=g.trans X;let y:=X _ _ d;apply(.lst (ks.map Dt.int),.lst [],Jgf y _,Jll n3,(by simp only[dep,hV];decide),_,rfl,?_);by_cases L:ks=[]
 .subst L;exact bq (Jfw _ _ rfl _ _ rfl rfl (Qd (by decide)) _ _ rfl rfl _ rfl _ _ rfl rfl b (t H3 Y))
 .let e:Xx (peq (.lst (ks.map Dt.int)) (.lst [])):=by
   cases ks with
   |nil=>exact GE L
   |cons x xs=>rfl
  rw[e];let u:Je (((ks.map V.int).length:Nat):Int):=by rw[lM];have:=List.length_pos_iff.mpr L;lia
  let m:=cw (c/2) u;let W:InR ks.length (c/2%(((ks.map V.int).length:Nat):Int)):=by rw[lM]at m⊢;exact m
  apply bU (_,rfl,_,rfl,_,_,rfl,rfl,Qd (by decide),_,rfl,D,_,rfl,Jc y,_,_,rfl,rfl,u,D,_,_,_,rfl,rfl,SqL.of y,dz W,q H3 _ Y (B _ ?_));unfold rf;rw[List.getD_eq_getElem?_getD,gG (by let h1:=W.1;let h2:=W.2;lia)];exact List.getElem_mem _
def wv (c:Int)(i:Nat):List Tm:=(List.range i).map λj:Nat=>((nm4 ((0+(j:Int)+c/3)%4),[],):Tm)
def xx (c)(i):(wv c i).length=i:=by simp [wv]
def CV (c)(i):wv c (i+1)=wv c i++[(nm4 ((0+(i:Int)+c/3)%4),[],)]:=by unfold wv;rw[List.range_succ,mAq];rfl
def wv_new (h:i<4):(nm4 ((0+(i:Int)+c/3)%4),([]:List Int),)∉wv c i:=λz=>by let(j,g,e):=List.mem_map.mp z;let d:=List.mem_range.mp g;let k:=(Prod.mk.inj e).1;let b:=cw (0+(j:Int)+c/3) (show Je 4 by decide);let a:=cw (0+(i:Int)+c/3) (show Je 4 by decide);have:=CS b.1 b.2 a.1 a.2 k;lia
inductive sh (K)(C):Sp|m{vs H Q E9} (a) (ns:List Int) (fs):vs=XF a fs->JnD a (0<=fs->U9 fs->(∀H' p tl al rl T As,UN p (JeL tl al (VA rl (JfK (WQ K C H' p T []) (1<=T.length) (Jbq 20) (IV 7) p))))->sh K C vs H Q E9)
def gM:Vf ["_law_script","_law_first","_law_cell","_law_problem","_law_many","_law_k","_law_tops","_law_turn"] (Qm "_law_first") rg:=fsc
def PrD.keep (S:JlL H)(f:Jip z)(hz:Uo z zs)(c:z≠tl)(b:z≠al)(a:z≠rl):JlL H':=(S.pr.keep f hz c b a,S.dm,S.t3,S.tN)
def si (h0:0<=i)(a:i<2):∃k,VP (V9 x y) i (.int k)/\(k=x\/k=y):=by
 have:i=0\/i=1:=by lia
 rcases this with rfl|rfl
 .exact Nc x (.inl rfl)
 .exact Nc y (.inr rfl)
def oU (h:JjB t):rf ns t∈ns:=by unfold rf;rw[List.getD_eq_getElem?_getD,gG (by let b:=h.1;let a:=h.2;lia)];exact List.getElem_mem _
def ixN_of (h:JgG i):ixN n i=some i.toNat:=by unfold ixN;rw[if_pos h.1,if_pos h.2]
def CW (F:Ix "_law_woven" "_law_woven" rg)(T:YP C)(mlist:Jg "list")(r:Jg "range")(G:Own P w K mg base C fI fA fQ fS dI dA' dQ dS)(U:Jno P w K 1 fC dC (kH K)):NF 5 (Qm "_law_first") (sh K C):=by
 apply II gM
 let(a,ns,fs,rfl,hS,J,f0,f1,Q0):=h;let hr1:Jk2 1:=hr.mono (by decide);let hr2:Jk2 2:=hr.mono (by decide);apply Qq (X7 (i:=2) gM.nd (JbA U.ok hr1 U.m U.kp U.b 0 1) (i:=3) gM.nd (jM G.mI G.I hr2 rfl G.gI G.bI .nil aJ) (Nn (i:=4) gM.nd (aX cv af (Mw aM 2)) (Jin r (Jd 4) (i:=5) gM.nd (QG 3 G.mA G.A hr G.bA (Ih (Jed (aa aE (XM aE aE aE)) (N_ (Wg cv 5 (X3 2)))) (ck ac)))) (Nn (i:=6) gM.nd (Vy (vP rfl) rfl mlist (Gb (vO rfl r (Jd 4)))) (Jin r (Gb (aX cv af (Jdj 2))) (i:=7) gM.nd (aj (Jin r (Jd 4) (i:=5) gM.nd (aj (ps_asg (Yz 3 G.mA G.A hr G.bA (Ih (JeQ (Ih aE aE) 2) (ck (Gb (Jil 6 5))))) (pg_sub (pv 6) (pv 5) zd)))))) (ae (Jin r (Gb (Mw ip 4)) (i:=5) gM.nd (JS (i:=2) gM.nd (V3 U.ok hr1 U.m U.kp U.b 0 (JaS cv (Mw cv 1) 5)) (QG 3 G.mS G.S hr G.bS (Ih (Jed (QQ 5 (Mw cv 5)) (Mw aM 2)) (Jed (JbI (Mw cv 5) 5) (Mw aM 2)))))) (Wb (ah (Yz 3 G.mS G.S hr G.bS (Ih (IW 6 af) (IW 6 (Mw ip 4))))) (Ie (i:=2) gM.nd (V3 U.ok hr1 U.m U.kp U.b 0 (Mw cv 1))) (Wb (be (JlZ 2) (QG 3 G.mS G.S hr G.bS (Ih (JaS aM (X3 2) 4) (IW 6 (JaS aM (X3 2) 4))))
   aU) (be (JlZ 2) (Jii 3 G.mQ G.Q hr G.bQ (JeQ (XM aE aE aE) 2))
   aU) (QJ 3)))))))
 rfl'
 apply XJ _ _ rfl a ns fs rfl hS J f0 (by lia) (λc=>?_);intro p dx np ndx nex;apply Gn p dx ao (λtl al rl H1 ht ha hrr na nr nx k1 k2 k3 k4 k5=>Mm rfl);let(S1,s1,ft,fa,fr):=oS (K:=K) (C:=C) np ndx nex ht ha hrr na nr nx k1 k2 k3 k4 k5;let b3:=cw c (show Je 3 by decide);apply NL _ _ _ rfl rfl (by show Je 3;decide) _ _ rfl rfl ?_;apply JdA _ _ (by show -(2^62)<=2+c%3;lia) (by show 2+c%3<2^62;lia) (Jb0 (lo:=0) ((2+c%3).toNat) (λi D H'=>∃(R:Option V),JjN (D=[Ja a,Ya fs,Ya c,Ja p,Ya (2+c%3),R,none,none]) H (PrD K C H' p tl al rl (wv c i) [] [])) (Ul none s1 S1) ?_)
 .rintro i D H2 hi ⟨R,rfl,s2,S2⟩;let hi4:i<4:=by lia
  let((dx2,ho2),_):=id S2.pr;let b4:=cw (0+((i:Nat):Int)+c/3) (show Je 4 by decide);let(hz,g1,g2):=xv b4.1 b4.2;apply JkE p dx2 _ ho2 (mi _ _ _) lS4 (λl hl=>?_);let(H3,eN,s3,n3):=Jnj [V.str "a",V.str "b",V.str "abc",V.str "abd"];rw[eN];apply(_,rfl,_,rfl,_,_,rfl,rfl,Qd (by decide),_,_,rfl,rfl,_,_,rfl,rfl,(by show Je 4;decide),l,_,_,_,rfl,rfl,SqL.of n3,hz,lS0,λe he=>?_);let s4:=s3.trans (MX he []);dsimp only [je];apply mq (S2.same s4) (SqT.of ao) g1 g2 (ps:=[]) (by show 0<=3;decide) (λ_ h=>nomatch h) (by rw[xx];lia) (λH' d k X f m1 kl hn=>Ul _ (f.fresh (s2.trans s4) ft) ?_);rw[CV,<-hn (wv_new hi4)];exact X
 rintro D H2 ⟨R,rfl,s2,S2⟩;let wl:=xx c (2+c%3).toNat;generalize wv c (2+c%3).toNat=T0 at S2 wl;apply Jfe _ _ (λr0 hr0=>?_);let(H3,eN,sN,n3):=nwH hr0 (.rng 0 (2+c%3));rw[eN];let s3:=s2.trans sN;let S3:=S2.same sN;apply(r0,_,rfl,n3,(by lia),(by lia),λu Z=>?_);let e0:(((List.range (2+c%3).toNat).map λi:Nat=>(i:Int)).map V.int)=(ze8 (2+c%3).toNat).map V.int:=rfl;rw[e0];let((dx3,ho3),(_,ht3,_),(_,ha3,_),(_,hr3,_),_):=id S3.pr;let ntl:u≠tl:=(bY ht3 Z).symm;let nal:u≠al:=(bY ha3 Z).symm;let nrl:u≠rl:=(bY hr3 Z).symm;let ftp:Gf u:=s3.free Z;let(H4,eN,sN,n4):=Uq Z ((ze8 (2+c%3).toNat).map V.int);rw[eN];let s4:=s3.trans sN;let S4:=S3.same sN;let b2:=cw (c/12) (show Je 2 by decide);let rin:∀k∈ze8 (2+c%3).toNat,InR T0.length k:=λk hk=>by unfold ze8 at hk;let(j,hj,rfl):=List.mem_map.mp hk;have:=List.mem_range.mp hj;exact Js (by lia)
 apply Jfw _ _ _ rfl rfl (Qd (by decide)) _ _ rfl rfl (by show Je 2;decide) _ _ rfl rfl _ rfl (by show -(2^62)<=1+c/12%2;lia) (by show 1+c/12%2<2^62;lia) (Jb0 (lo:=0) ((1+c/12%2).toNat) (λi D H'=>Ex4 λ(R v7:Option V) (v:List Tm) (us:List Int)=>An8 (D=[Ja a,Ya fs,Ya c,Ja p,Ya (2+c%3),R,Ja u,v7]) (Xd H) (PrD K C H' p tl al rl v [] []) (Ql u (us.map V.int)) (us.length=(2+c%3).toNat) ((∀k∈us,Jk6 k)) (2+c%3<=(v.length:Int)) (v.length<=4+4*i)) (R,none,T0,_,rfl,s4,S4,n4,by rw[oR],rin,by lia,by lia) ?_)
 .rintro i D H5 hi ⟨v5',v7,v,us,rfl,s5,S5,Y,ul,W,t1,t2⟩;apply JdA _ _ (by show -(2 ^ 62)≤2+c % 3;lia) (by show 2+c % 3<2 ^ 62;lia) (Jb0 (lo:=0) ((2+c % 3).toNat) (λj D H'=>Ex3 λ(R:Option V) (v:List Tm) (us:List Int)=>An8 (D=[Ja a,Ya fs,Ya c,Ja p,Ya (2+c % 3),R,Ja u,Ya (0+((i:Nat):Int))]) (Xd H) (PrD K C H' p tl al rl v [] []) (Ql u (us.map V.int)) (us.length=(2+c % 3).toNat) ((∀k∈us,Jk6 k)) (2+c % 3≤(v.length:Int)) (v.length≤4+4 * i+j)) (v5',v,us,rfl,s5,S5,Y,ul,W,t1,by lia) ?_)
  .rintro j D H6 hj ⟨v5'',T6,B,rfl,s6,S6,q,ul6,L,t16,t26⟩;let((dx6,ho6),_):=id S6.pr;let b6:=cw (c / 24) (show Je 2 by decide);let(z,hz,g1,g2):=f2_at b6.1 b6.2;let jin:InR B.length (0+((j:Nat):Int)):=Js (by lia);apply JkE p dx6 _ ho6 (mi _ _ _) lS2 (λl hl=>?_);let(H7,eN,s7,n7):=Jnj (Je6 "f" (V.str "ffa"));rw[eN];apply(_,rfl,_,_,rfl,rfl,Qd (by decide),_,_,rfl,rfl,(by show Je 2;decide),l,_,_,_,rfl,rfl,SqL.of n7,hz,_,rfl,_,rfl,u,_,_,_,rfl,rfl,SqL.of (s7 _ _ q),dz jin,lS1,λe he=>?_);let M:=s7.trans (MX he (WY (rf B (0+((j:Nat):Int)))));dsimp only [je];apply mq (S6.same M) (SqT.of ao) g1 g2 (ps:=[rf B (0+((j:Nat):Int))]) (by show 1≤3;decide) (λk hk=>by rw[mSq hk];exact L _ (oU jin)) (by lia) (λH' d k X f m1 kl hn=>?_);let htp9:H' u=some (.lst (B.map V.int)):=f _ _ (M _ _ q) ntl;apply Jd_ _ _ rfl u _ _ _ htp9 (by rw[lM];exact ixN_of jin) ?_;let fr9:Fr1 H' (Qa H' u ((B.map V.int).set (0+((j:Nat):Int)).toNat (.int ((k:Nat):Int)))) u:=λb o h n=>by rw[aq n];exact h
   let tl9:T6.length<=(T6++d).length:=by rw[lAq];lia
   apply(_,T6++d,B.set (0+((j:Nat):Int)).toNat ((k:Nat):Int),rfl,(f.fresh (s6.trans M) ft).upd ftp,X.keep fr9 htp9 ntl nal nrl,by rw[ao,List.map_set],by rw[List.length_set];exact ul6,λx hx=>?_,by lia,by rw[lAq];lia);rcases List.mem_or_eq_of_mem_set hx with h|h
   .exact(L x h).mono tl9
   .rw[h];exact Js (by lia)
  .rintro D H6 ⟨v5'',T6,B,rfl,s6,S6,q,ul6,L,t16,t26⟩;exact(_,_,T6,B,rfl,s6,S6,q,ul6,L,t16,by lia)
 rintro D H5 ⟨v5',v7,v,us,rfl,s5,S5,Y,ul,W,t1,t2⟩;let t12:v.length<=12:=by lia
 apply Jl0 _ _ _ _ (by show -(2^62)<=2+c%3-1;lia) (by show 2+c%3-1<2^62;lia) (Jb0 (lo:=0) ((2+c%3-1).toNat) (λi D H'=>Ex3 λ(c2:Int) (R:Option V) (As:List At)=>An5 (D=[Ja a,Ya fs,Ya c2,Ja p,Ya (2+c%3),R,Ja u,v7]) (Xd H) (WQ K C H' p v []) (Ql u (us.map V.int)) (IV i)) (IR c _ [] s5 S5 Y (nRq _)) ?_)
 .rintro i D H6 hi ⟨c2,R,As,rfl,s6,S6,q,al6⟩;apply(_,rfl,_,rfl,_,_,rfl,rfl,_,rfl,_,_,rfl,rfl,a,ns,_,rfl,s6.seq hS,J,(by show 0<=fs+1+(0+((i:Nat):Int));lia),(by show Jt (fs+1+(0+((i:Nat):Int)));lia),λc3=>?_);let((dx6,ho6),_):=id S6.pr;let b6:=cw c3 (show Je 2 by decide);let(x1,hx1,ex1):=si (x:=0+((i:Nat):Int)) (y:=0+((i:Nat):Int)+1) b6.1 b6.2;let(x2,hx2,ex2):=si (x:=0+((i:Nat):Int)+1) (y:=0+((i:Nat):Int)) b6.1 b6.2;apply(_,rfl,p,dx6,_,rfl,ho6,mj _ _ _,_,rfl,_,rfl,_,_,rfl,rfl,lS2,λl hl=>?_);let(H7,eN,s7,n7):=Jnj (V9 (0+((i:Nat):Int)) (0+((i:Nat):Int)+1));rw[eN];apply(_,rfl,_,_,rfl,rfl,(by show Je 2;decide),l,_,_,_,rfl,rfl,SqL.of n7,hx1,_,rfl,_,_,rfl,rfl,_,rfl,lS2,λe he=>?_);let(O,eN,sN,n8):=Uq he (V9 (0+((i:Nat):Int)+1) (0+((i:Nat):Int)));rw[eN];let M:=s7.trans sN;apply(_,rfl,_,_,rfl,rfl,(by show Je 2;decide),e,_,_,_,rfl,rfl,SqL.of n8,hx2,mr (S6.same M) (Js (by lia)) (Js (by lia)) (by lia) (λH' d k X f m1 _=>?_));exact IR _ _ (As++d) (Jdt (s6.trans M) fr) X (f _ _ (M _ _ q) nal nrl) (by rw[lAq];lia)
 rintro D H6 ⟨c2,R,As,rfl,s6,S6,q,al6⟩;let al4:IV 4:=by lia
 let((dx6,ho6),_):=id S6.pr;let i0:JjC 0:=Qd (by lia);let i1:JjC (2+c%3-1):=Js (by lia);apply(_,rfl,p,dx6,_,rfl,ho6,mj _ _ _,_,rfl,u,_,_,_,rfl,rfl,SqL.of q,dz i0,_,rfl,_,rfl,_,_,rfl,rfl,u,_,_,_,rfl,rfl,SqL.of q,dz i1,mr S6 (W _ (oU i0)) (W _ (oU i1)) (by lia) (λH7 d k S7 f7 m7 _=>?_));let s7:=f7.fresh s6 fa fr;let htp7:=f7 _ _ q nal nrl;apply(_,rfl,_,rfl,_,_,rfl,rfl,a,ns,_,rfl,s7.seq hS,J,(by show 0<=fs+5;lia),(by show Jt (fs+5);lia),λc3=>?_);let al7:(As++d).length<=5:=by rw[lAq];lia
 generalize As++d=As7 at S7 al7;let fin:∀(O:Hp) (t:List At) (Dn:iZ) (σ8:St),MU O->PrD K C O p tl al rl v t []->t.length<=7->Q (.ref p) O:=λO t _ _ M S8 l8=>Q0 O p tl al rl v t M np ft fa fr S8 (by lia) (by lia) (by lia);let tail:∀(O:Hp) (t:List At),MU O->PrD K C O p tl al rl v t []->t.length<=6->∀(z:Str) (l:Addr),kJ z->∀H9,ap O H9->kB K C (Jnl p z) H9 (λx H'=>Uc p H') E0:=λO t M S8 l8 z l g H9 s9=>kG (S8.same s9) g.1 g.2 (by lia) (λH' d k X f m1 _=>fin H' (t++d) (λ_ _=>True,λ_ _=>True,λ_ _=>True,λ_ _=>True) [] (Jdt (M.trans s9) fr) X (by rw[lAq];lia));let b5:=cw (c3/5) (show Je 3 by decide);let(z,hz,gz):=pq_at b5.1 b5.2;let N:(0:Int)<2+c%3:=by lia
 let m1:=cw (c3/3) N;let m2:=cw (c3/12) N;let i3:Jk6 (c3/3%(2+c%3)):=(m1.1,by have:=m1.2;lia);let i4:JjC (c3/12%(2+c%3)):=(m2.1,by have:=m2.2;lia);let((dx7,ho7),_):=id S7.pr;apply JnO _ _ _ (by show Je 3;decide) _ (λ_=>?_)
 .apply(_,rfl,p,dx7,_,rfl,ho7,mj _ _ _,_,rfl,_,_,rfl,rfl,Qd (by decide),_,rfl,_,_,rfl,rfl,N,_,rfl,_,rfl,_,_,rfl,rfl,Qd (by decide),_,rfl,_,_,rfl,rfl,N,u,_,_,_,rfl,rfl,SqL.of htp7,dz i4,mr S7 i3 (W _ (oU i4)) (by lia) (λO d k S8 f8 m8 _=>?_));let M:=f8.fresh s7 fa fr;let al8:(As7++d).length≤6:=by rw[lAq];lia
  let((dx8,ho8),_):=id S8.pr;apply JnO _ _ _ (by show Je 5;decide) _ (λ_=>Yu (fin O _ (λ_ _=>True,λ_ _=>True,λ_ _=>True,λ_ _=>True) [] M S8 (by lia)));apply JkE p dx8 _ ho8 (kC _ _ _) lS3 (λl hl=>Jfw _ _ _ rfl rfl (Qd (by decide)) _ _ rfl rfl (by show Je 3;decide) l _ _ _ rfl rfl (SqL.of ao) hz (kG (S8.same (Wm hl)) gz.1 gz.2 (by lia) (λH' more' k X f m1 _=>Yu (fin H' _ (λ_ _=>True,λ_ _=>True,λ_ _=>True,λ_ _=>True) [] (Jdt (M.trans (Wm hl)) fr) X (by rw[lAq];lia)))))
 .apply JnO _ _ _ (by show Je 5;decide) _ (λ_=>Yu (fin H7 _ (λ_ _=>True,λ_ _=>True,λ_ _=>True,λ_ _=>True) [] s7 S7 (by lia)));apply JkE p dx7 _ ho7 (kC _ _ _) lS3 (λl hl=>Jfw _ _ _ rfl rfl (Qd (by decide)) _ _ rfl rfl (by show Je 3;decide) l _ _ _ rfl rfl (SqL.of ao) hz (kG (S7.same (Wm hl)) gz.1 gz.2 (by lia) (λH' more' k X f m1 _=>Yu (fin H' _ (λ_ _=>True,λ_ _=>True,λ_ _=>True,λ_ _=>True) [] (Jdt (s7.trans (Wm hl)) fr) X (by rw[lAq];lia)))))
inductive sj (K)(C):Sp|m{vs H Q E9} (a) (ns:List Int) (fs tn an):vs=[.ref a,.int fs,.int tn,.int an]->JnD a (0<=fs->U9 fs->1<=tn->tn<=20->0<=an->an<=7->(∀H' p tl al rl T As,UN p (JeL tl al (VA rl (JfK (WQ K C H' p T []) (1<=T.length) (Jbq 20) (IV 7) p))))->sj K C vs H Q E9)
def kK:Vf ["_law_script","_law_first","_law_terms","_law_atoms","_law_problem","_law_k","_law_cell","_law_one"] (Jmn "_law_atoms") ri:=fsc
def CY (F:Ix "_law_problem_by" "_law_problem_by" ri)(T:YP C)(e:Jg "range")(G:Own P w K mg base C fI fA fQ fS dI dA' dQ dS)(j:Jno P w K 1 fC dC (kH K))(BW:IS 5 "_law_woven" fW dW (Qm "_law_first") (sh K C))(BT:IS 5 "_law_term_by" fT dT' (Uk "_law_cell") (r_ K C))(BO:IS 1 "_law_other_by" fO dO (Jdf "_law_one") (se K C)):NF 6 (Jmn "_law_atoms") (sj K C):=by
 apply V_b kK U
 let(a,ns,v,u,J,rfl,Z,c,f0,f1,t0,t1,a0,a1,Q0):=h;let q:Jk2 1:=U.mono (by decide);let hr2:Jk2 2:=U.mono (by decide);let R:Jk2 4:=U.mono (by decide);apply Qq (Wb (be (Jdv (N_ (V3 j.ok q j.m j.kp j.b 0 af))) (Ud (JbA BW.ok U BW.m BW.kp BW.b 0 1))
   aU) (Ie (i:=4) kK.nd (jM G.mI G.I hr2 rfl G.gI G.bI .nil aJ)) (Wb (Jin e (Jd 2) (i:=5) kK.nd (Qp (V3 BT.ok U BT.m BT.kp BT.b 4 (V3 j.ok q j.m j.kp j.b 0 (Jhn cv 1 5))))) (Jin e (Jd 3) (i:=5) kK.nd (X7 (i:=6) kK.nd (V3 j.ok q j.m j.kp j.b 0 (JaS cv (Jhn cv 1 2) 5)) (i:=7) kK.nd (aX aM (X3 6) (UJ 4)) (Jej (JlZ 6) (Jii 4 G.mQ G.Q R G.bQ (JeQ (XM aE aE aE) 6)) (QG 4 G.mS G.S R G.bS (QQ 7 (GG BO.ok q BO.m BO.kp BO.b 4 (QQ 7 (aX cm (X3 6) (UJ 4))))))))) (QJ 4)))
 rfl'
 apply XI _ a ns 5 rfl Z c (by decide) (by decide) (λc0=>Jdp _ _ rfl rfl (by show Je 2;decide) _ rfl (Up (λ_=>?_)))
 .exact XJ _ _ rfl a ns v rfl Z c f0 f1 Q0
 intro p dx np ndx nex;apply Gn p dx ao (λB X M H1 ht ha hrr na nr nx k1 k2 k3 k4 k5=>Mm rfl);let(S1,s1,ft,fa,fr):=oS (K:=K) (C:=C) np ndx nex ht ha hrr na nr nx k1 k2 k3 k4 k5;apply JdA _ _ (by show -(2^62)<=u;lia) (by show u<2^62;lia) (ee (lo:=0) (n:=u.toNat) (λi y H'=>Ex2 λ(D:Option V) (g:List Tm)=>An5 (y=[Ja a,Ya v,Ya u,Ya J,Ja p,D,none,none]) (Xd H) (PrD K C H' p B X M g [] []) (g.length<=i) ((1<=i->1<=g.length))) (none,[],rfl,s1,S1,nRq _,λh=>Vq h) ?_ ?_)
 .rintro i y H2 hi ⟨D,g,rfl,Y,S2,lT,pT⟩;apply Jfw _ _ rfl _ rfl _ rfl _ _ rfl rfl a ns _ rfl (Y.seq Z) c (by show 0<=v+(0+((i:Nat):Int));lia) (by lia) (λW=>(p,B,X,M,g,[],[],W,rfl,S2,by lia,λH3 N k x f3 m3 l3=>?_));exact(_,g++N,rfl,f3.fresh Y ft,x,by rw[lAq];lia,λ_=>l3)
 rintro y H2 ⟨D,g,rfl,Y,S2,lT,pT⟩;let lT1:1<=g.length:=pT (by lia);apply JdA _ _ (by show -(2^62)<=J;lia) (by show J<2^62;lia) (ee (lo:=0) (n:=J.toNat) (λi y H'=>Ex4 λ(D v6 v7:Option V) (As:List At)=>An4 (y=[Ja a,Ya v,Ya u,Ya J,Ja p,D,v6,v7]) (Xd H) (Gq K C H' p B X M g []) (IV i)) (D,none,none,[],rfl,Y,S2,nRq _) ?_ ?_)
 .rintro i y H3 hi ⟨v5',v6,v7,As,rfl,L,x,lA⟩;apply(_,rfl,_,rfl,_,rfl,_,_,rfl,rfl,_,rfl,_,_,rfl,rfl,a,ns,_,rfl,L.seq Z,c,(by lia),(by lia),λW=>?_);let((t,r),(ts,O,hT3),_):=id x.pr;let tl':Jla g.length:=by rw[←hT3.length,lM]
  let o:Je ((ts.length:Nat):Int):=by lia
  let msm:JbH ((ts.length:Nat):Int):=by lia -ac
  let m1:=cw (W/9) o;let i1:InR g.length (W/9%((ts.length:Nat):Int)):=by rw[<-tl'];exact m1
  apply(_,rfl,_,_,rfl,rfl,Qd (by decide),_,rfl,p,C,t,_,_,rfl,r,T.cl,T.nT,dy _ _ _,B,_,rfl,Jc O,_,_,rfl,rfl,o,?_);apply JnO _ _ _ (by show Je 9;decide) _ (λ_=>?_)
  .let b5:=cw (W/9) (show Je 3 by decide);let(z,hz,gz):=pq_at b5.1 b5.2;exact JkE p t _ r (kC _ _ _) lS3 (λl hl=>Jfw _ _ _ rfl rfl (Qd (by decide)) _ _ rfl rfl (by show Je 3;decide) l _ _ _ rfl rfl (SqL.of ao) hz (kG (x.same (Wm hl)) gz.1 gz.2 (by lia -ac) (λH' d k pr f m1 _=>(_,_,_,As++d,rfl,Jdt (L.trans (Wm hl)) fr,pr,by rw[lAq];lia -ac))))
  .exact(_,rfl,p,t,_,rfl,r,mj _ _ _,_,rfl,_,rfl,_,rfl,_,rfl,_,_,rfl,rfl,Qd (by decide),_,rfl,p,C,t,_,_,rfl,r,T.cl,T.nT,dy _ _ _,B,_,rfl,Jc O,_,_,rfl,rfl,(o,msm),p,B,X,M,g,As,[],_,_,rfl,x,i1,λH4 k s4 kin=>mr (x.same s4) i1 kin (by lia -ac) (λH' d k pr f m1 _=>(_,_,_,As++d,rfl,Jdt (L.trans s4) fr,pr,by rw[lAq];lia -ac)))
 rintro y H3 ⟨v5',v6,v7,As,rfl,L,x,lA⟩;exact Yu (Q0 H3 p B X M g As L np ft fa fr x lT1 (by lia) (by lia))
def hsF (As:List At)(ps:List Int):List Int:=ps.filter λk=>(Uw k).isSome
def gsF (As:List At)(ps:List Int):Wl Int:=ps.filterMap (smF As)
def jy (h:MD k pr):1<=k/\k<=(As.length:Int):=by
 unfold smF at h;split at h
 .assumption
 .cases h
theorem oW:∀{ps:List Int},(Uy ps).map (smF As)=(Nt ps).map some
 |[]=>rfl
 |k::ps=>by
  unfold hsF gsF;let a:=oW (As:=As) (ps:=ps);unfold hsF gsF at a;cases e:Uw k with
  |none=>rw[List.filter_cons_of_neg (by rw[e];decide),List.filterMap_cons_none e];exact a
  |some b=>rw[List.filter_cons_of_pos (by rw[e];rfl),List.filterMap_cons_some e,List.map_cons,List.map_cons,a,e]
def xy:(Uy ps).length=(Nt ps).length:=by have:=UD (oW (As:=As) (ps:=ps));simpa using this
def sr (h:k∈Uy ps):k∈ps/\∃c,Uw k=some c:=by let(a,b):=List.mem_filter.mp h;exact(a,Option.isSome_iff_exists.mp b)
def su (h:pr∈Nt ps):∃k∈ps,Uw k=some pr:=List.mem_filterMap.mp h
def gs_of (a:k∈ps)(e:MD k pr):pr∈gsF As ps:=JaH k a e
def gs_at {As:List At}{ps:List Int}{i:Nat}{a:Int×Int}(h:(Nt ps)[i]?=some a):∃k,(Uy ps)[i]?=some k/\MD k a/\k∈ps:=by let e:=congrArg (λl=>l[i]?) (oW (As:=As) (ps:=ps));rw[List.getElem?_map,List.getElem?_map,h]at e;let(k,b,c):=Option.map_eq_some_iff.mp e;exact(k,b,c,(sr (mO b)).1)
def sv (n:Yh a)(l:Yh b):Jkl f T a b↔kj T f a b:=by
 let⟨k⟩:=kD n;let⟨j⟩:=kD l;unfold fk kj;constructor
 .intro h;rw[Bool.and_eq_true,Bool.and_eq_true]at h;let(e,d,c):=h;apply(_,_,k,j,oDq e,?_);rw[<-oQ f _ _ (oDq d)]at c;exact oDq c
 .rintro ⟨t,u,e,d,c,i⟩;cases k.symm.trans e;cases j.symm.trans d;let g:(tG T a).2.length=(tG T b).2.length:=by have:=UD i;simpa using this
  rw[Bool.and_eq_true,Bool.and_eq_true];exact(dTq c,dTq g,by rw[<-oQ f _ _ g];exact dTq i)
theorem xA (h:∀x y,f x=f y->g x=g y):∀{xs ys:List Int},xs.map f=ys.map f->xs.map g=ys.map g
 |[],[],_=>rfl
 |[],_::_,e=>by cases e
 |_::_,[],e=>by cases e
 |x::xs,y::ys,e=>by rw[List.map_cons,List.map_cons]at e⊢;injection e with b a;rw[h x y b,xA h a]
set_option tactic.hygienic true in
def min_of (R:Jc5 T L){g:Int→Int}(G:fj gs g)(C:fh T g):∀x y,JdU x=JdU y→g x=g y:=by
 let f:∀n,∀l∈L.take n,g l.1=g l.2.1:=λn=>by
  induction n with
  |zero=>intro l d;simp at d
  | succ n j =>
   intro l d;let(i,c):=List.mem_iff_getElem?.mp d;rw[List.getElem?_take]at c;split at c
   .rename_i k;by_cases e:i<n
    .exact j l (mO (by rw[List.getElem?_take,if_pos e];exact c))
    .let e:i=n:=by lia
     subst e;rcases(R i l c).how with ⟨_,h⟩|⟨_,t,u,h1,h2,h3,h4⟩
     .exact G _ (mO h)
     .have:=C l.1.toNat l.2.1.toNat t u h1 h2 h3 (xA (λx y e=>W52.same_cls g j e) h4);let a:=(R i l c).a;let b:=(R i l c).b;rw[show(l.1.toNat:Int)=l.1 by lia,show(l.2.1.toNat:Int)=l.2.1 by lia]at this;exact this
   .cases c
 intro x y e;apply W52.same_cls g (λl d=>?_) e;exact f L.length l (by rw[List.take_length];exact d)
def CZ (R:Jc5 T L)(h:0<T.length):L.length<T.length:=by
 let(xs,k,i,f):=R.his L.length (nRq _);rw[List.take_length]at f;let H:=vS R.inn;let g:∀x∈xs,1<=x:=λx d=>by
  let((a,b),c):=f x d;by_cases e:x=0
  .subst e;let n:=H.le 0;let l:=H.in' (a:=0) (Js (by lia));lia
  .lia
 have:=gv (T.length-1) (xs:=xs.map (· - 1)) (List.pairwise_map.mpr (i.imp λ{a b} h e=>h (by lia))) λy j=>by let(x,d,rfl):=List.mem_map.mp j;have:=g x d;have:=(f x d).1.2;lia
 rw[lM]at this;lia
def C0 (D:Ja9 T)(A:JiN (hdL L) (rf rs))(N:xr (rf rs) T As (ps.map λk=>-k)):JlP ps L/\fh T (hdL L):=by
 apply(λo f=>?_,λa b t u h g l j=>?_)
 .let(k,r,e):=su f;let(x,y):=o;have:=jy e;let(ix,q):=iV D e;exact(A x y ix q).mpr (N.1 (-k) (JdY k r) (by lia) x y (by rw[Int.neg_neg];exact e))
 .let la:=(gEq h).1;let p:=(gEq g).1;let d:Yh (a:Int):=Js (by lia);let ib:Yh (b:Int):=Js (by lia);let i:kj T (hdL L) (a:Int) (b:Int):=(t,u,h,g,l,j);let n:kj T (hdL L) (b:Int) (a:Int):=(u,t,g,h,l.symm,j.symm);rcases Nat.lt_trichotomy a b with c | c | c
  .have:=(sv ib d).mpr n;rw[rM D A ib d]at this;exact((A _ _ ib d).mpr (N.2 b a c p this)).symm
  .rw[c]
  .have:=(sv d ib).mpr i;rw[rM D A d ib]at this;exact(A _ _ d ib).mpr (N.2 a b c la this)
def C1 (A:fm n f (rf rs))(h:JeB n)(g:JgG a)(e:JgG b):fm n (mrg f a b) (rf (iW rs a b)):=λt u d c=>by rw[xp (by rw[h];exact d),xp (by rw[h];exact c)];exact Cy A g e t u d c
def C2 (D:Ja9 T)(A:JiN (hdL L) (rf rs))(h:JeB T.length)(R:WZ T ps L)(N:xt (rf rs) T As (ps.map λk=>-k) lk):∃l,WZ T ps (L++[l])/\fm T.length (hdL (L++[l])) (rf (iW rs lk.1 lk.2.1)):=by
 let((b,a,_,_),j,d):=N;let c:JdU lk.1≠hdL L lk.2.1:=λe=>j ((A _ _ b a).mp e);let g:∀z,fm T.length (hdL (L++[(lk.1,lk.2.1,z,)])) _:=λz=>by rw[iD];exact C1 A h b a
 rcases d with ⟨_,n,e⟩|⟨_,e⟩
 .let(k,f,p):=List.mem_map.mp n;have:k=lk.2.2:=by lia
  rw[this]at f;let(i,o):=List.mem_iff_getElem?.mp (gs_of f e);exact((lk.1,lk.2.1,(i:Int),),R.snoc (b,a,c,Uh (by show Jc9 (i:Int);lia) (by show(Nt ps)[((i:Int)).toNat]?=_;rw[Int.toNat_natCast];exact o)),g _)
 .apply((lk.1,lk.2.1,-1,),R.snoc (b,a,c,Jlj ?_),g _);rw[<-rM D A b a]at e;exact(sv b a).mp e
def xB {As:List At}{ps:List Int}{i:Nat}{k:Int}(h:ps[i]?=some k):Jkn (i+1)=Jkn i++(if(Uw k).isSome=true then [k] else []):=by
 unfold hsF;rw[bf h,List.filter_append];congr 1;by_cases c:(Uw k).isSome=true
 .simp [c]
 .simp [c]
noncomputable def ngF (ps:List Int):List Int:=(ps.filter λk=>decide (k<0)).map λk=>-k
def oX {ps:List Int}{i:Nat}{k:Int}(h:ps[i]?=some k):JdC (i+1)=JdC i++(if k<0 then [-k] else []):=by
 unfold ngF;rw[bf h,List.filter_append,mAq];congr 1;by_cases c:k<0
 .simp [c]
 .simp [c]
def xC (ps):(ngF ps).length<=ps.length:=by unfold ngF;rw[lM];exact YE _
inductive oY (K)(C):Sp|m{vs H Q E9} (p tl al rl q) (T) (As) (Rs) (ps):JlO (vs=JC p q) (Jdh (Jk5 K H q) ((∀H' l,JgS l (Ql l ((Uy ps).map V.int)) l)->oY K C vs H Q E9))
def C3:Vf (Yq "held") (Yq "held") lO:=fsc
def C4 (F:Ix "held_same" "held_same" lO)(o:JlH 1 fS dS (Yq "number") (kF K C)):NF 2 (Yq "held") (oY K C):=by
 apply V_b C3 T
 let(p,z,L,B,q,M,As,Rs,ps,rfl,S,U,t,X):=h;apply Qq (Ud (GA (N':=["part","problem"]) (ix:=[0]) rfl rfl rfl (λu=>VZ (sc:=ai lO) u) rfl rfl (λj i h=>match j,h with|0,h=>by cases h;exact QO _|n+1,h=>by simp at h) (rS (pv 1)) (λ_ _ _ _=>(aA ni (JbA o.ok T o.m o.kp o.b 1 0) eU)) (λ_ _ _ _=>(pv 0))))
 rfl'
 apply Jcs _ q ps rfl U (λJ (Ok,W,u,r) D v=>gq W (λi us H'=>Xd H/\us=(Jkn i).map V.int) (λi us H' (R,_)=>u _ R) (YJ v) ?_ ?_)
 .rintro i us H9 x N I l c ⟨d,rfl⟩ O;let(rfl,k,G,rfl):=r _ _ _ _ d O;apply(_,rfl,_,rfl,p,z,L,B,M,As,Rs,k,rfl,(S.same d).pr,λe Y g=>?_,λx y e Y a g Z=>?_)
  .apply Yv rfl _ (bq (JjQ I l (g _ _ c) (d.trans g)));rw[xB G,e];show _=(_++[]).map _;rw[List.append_nil]
  .apply Yv rfl _ (Jmx (Jcn _ I l (g _ _ c) ((d.trans g).upd v)));rw[xB G,e,if_pos (show(some _).isSome=true from rfl),mAq];rfl
 .rintro us N c ⟨d,rfl⟩;rw[VM _]at c;exact X N D d v c
inductive sx (K)(C):Sp|m{vs H Q E9} (p tl al rl q) (T) (As) (Rs) (ps):JlO (vs=JC p q) (Jdh (Jk5 K H q) ((∀H' l us L,ID (Ql l us->G_ (L.map dL) us->JfK (WZ T ps L) (JlP ps L) (JbG T L) (L=Jie T ps) l))->sx K C vs H Q E9))
def C5:Vf (Yq "held") (Yq "held") lP:=fsc
def C6 (F:Ix "same_links" "same_links" lP)(T:YP C)(J:JlH 1 fS dS (Yq "number") (kF K C))(N:IS 2 "held_same" fH dH (Yq "held") (oY K C))(M:IS 4 "links" fL dL' (JjA "given") (W52.sp_links K)):NF 5 (Yq "held") (sx K C):=by
 apply V_b C5 Y
 let(p,B,al,O,q,I,As,Rs,ps,rfl,S,hq,d,Q0):=h;let X:Jk2 1:=Y.mono (by decide);let W:Jk2 2:=Y.mono (by decide);let((dx,ho),(ts,ht,hT)):=id S.pr;let hl:(Uy ps).length<=1000:=JfG _ d;apply Qq (Ud (Yj M.ok Y M.m M.kp M.b aJ (Ih (Xe 0) (Vj (N':=["part","problem"]) (ix:=[0]) rfl rfl rfl (λok=>JgX (sc:=ai lP)) rfl rfl (λj i h=>match j,h with|0,h=>by cases h;exact QO _|n+1,h=>by simp at h) (cO (JbA N.ok W N.m N.kp N.b 0 1)) (λV V V V=>(JbA J.ok X J.m J.kp J.b 1 0))))))
 rfl'
 apply(_,rfl,p,C,dx,_,_,rfl,ho,T.cl,T.nT,dy _ _ _,_,rfl,_,rfl,p,B,al,O,q,I,As,Rs,ps,rfl,S,hq,d,λH1 hl1 s1 V h1=>?_);apply Jhp hl1 h1 (λD hD=>eK cR (λi us H'=>Xd H1/\G_ (((Nt ps).take i).map dP) us) (λi us H' (u,_)=>u.seq (SqL.of h1)) (Wm hD,ar.nil) ?_ ?_)
 .rintro i us H9 x H2 hi hly o ⟨u,g⟩ ⟨rfl,hx⟩;let(k,hk,rfl):=GW _ (u.seq (SqL.of h1));let(_,(x,y),e):=sr (mO hk);let c:=s1.trans u;apply(_,rfl,_,rfl,p,B,al,O,I,As,Rs,k,rfl,(S.same c).pr,λz=>(by rw[e]at z;cases z),λx' y' z H3 a v ha=>?_);rw[e]at z;cases z;let hg:(Nt ps)[i]?=some (x,y,):=by
   let r:=congrArg (λl=>l[i]?) (oW (As:=As) (ps:=ps));rw[List.getElem?_map,List.getElem?_map,hk]at r;let r:some _=((Nt ps)[i]?).map some:=r;rw[e]at r;cases q:(Nt ps)[i]? with
   |none=>rw[q]at r;cases r
   |some pr=>rw[q]at r;cases r;rfl
  let kt:=bj.lst (ys:=Jmu us a) (v _ _ o);apply NO _ (by rw[lM];exact hl) hi hly (v _ _ o) ((u.trans v).upd hD);rw[bf hg,mAq];exact Wv (Nu (v.kt.trans kt) _ g) (Has.tup' (kt.sq ha) (Jcw Has.int))
 rintro us H2 o ⟨u,g⟩;rw[lM,xy,VM _]at g;let c:=s1.trans u;apply(B,D,ts,us,Nt ps,I,rfl,SqL.of (c _ _ ht),JdB c.kt _ hT,SqL.of o,g,λpr Z=>?_,(λt U=>Mg (S.t3 t U)),S.tN,by rw[<-xy];exact hl,λH3 l L zs v V h3 hL R G Cl e=>Q0 H3 l zs L (c.trans v) h3 hL R G Cl e);let(k,_,e):=su Z;exact iV S.dm e
inductive sC (K)(C):Sp|m{vs H Q E9} (p tl al rl q l) (T) (As) (Rs) (ps) (us) (L):JlO (vs=JnF p q l) (Jk5 K H q->ps.length<64->Ww l us->JkI dL us (InN T.length L->U9 L.length->(∀ms:List Int,JiO ps->ms.Pairwise (·<=·)->((Q8 L As=[]->∀H',JmE H')/\∀d r,Q8 L As=d::r->∀H',ID (JeI d)))->sC K C vs H Q E9))
def oZ:Vf ["problem","held","found","least","atom","pair"] ["problem","held","found"] ox:=fsc
def C7 (F:Ix "clashing_atom" "clashing_atom" ox)(T:YP C)(r:Jg "sorted")(X:JlH 1 fS dS (Yq "number") (kF K C))(Y:IS 4 "heads" fD dD ["many","links"] (W52.sp_heads K)):NF 5 ["problem","held","found"] (sC K C):=by
 apply II oZ
 let(p,tl,al,rl,q,l,M,As,Rs,ps,us,L,rfl,S,hq,p64,hS,hL,inn,l100,Q0):=h;let hr1:Jk2 1:=hr.mono (by decide);let((dx,ho),(ts,ht,hT),_):=id S.pr;let tl':Jla M.length:=by rw[<-hT.length,lM]
 let tN:=S.tN;apply Qq (Nn (i:=3) oZ.nd (Yj Y.ok hr Y.m Y.kp Y.b aJ (JbI (UJ 0) 2)) (Jck (MW qA r (Gb (GA (N':=["part"]) (ix:=[]) rfl rfl rfl (λ_=>JfE []) rfl rfl (λj i h=>by simp at h) (rS (pv 1)) (λ_ _ _ _=>(Jlw iq 0)) (λ_ _ _ _=>(Q5 0))))) (i:=4) oZ.nd (JS (i:=5) oZ.nd (JbA X.ok hr1 X.m X.kp X.b 0 4) (aj (be (J_ (XZ ni 5 eU) (aA bO (Jd9 3 5) (Jd9 3 5))) (QJ 4)
     aU)))) (Ud eU))
 rfl'
 apply(_,rfl,p,C,dx,_,_,rfl,ho,T.cl,T.nT,dy _ _ _,tl,_,rfl,Jc ht,_,rfl,l,ts.length,us,L,M.length,rfl,hS,hL,inn,tN,by lia,by lia,λH1 U s1 _ h1=>?_);let h1':H1 U=some (.lst ((hdsG (hdL L) M.length).map V.int)):=by rw[<-tl'];exact h1
 apply Jcs _ q ps rfl (hq.same s1) (λJ (Ok,W,ok,Z) D hD=>gq W (λi us H'=>Xd H1/\us=(JdC i).map V.int) (λi us H' (O,_)=>ok _ O) (YJ hD) ?_ ?_)
 .rintro i us H9 x H3 hi I d ⟨n,rfl⟩ yy;let(rfl,k,u,rfl):=Z _ _ _ _ n yy;apply JlX _ rfl _ _ _ rfl (Nf (λc=>?_))
  .apply Jfe _ _ (Jcn _ hi I d (n.upd hD));rw[oX u,Jkg c,mAq];rfl
  .apply JjQ hi I d n;rw[oX u,if_neg (λz=>Jbi z),List.append_nil]
 rintro vs H2 d ⟨O,rfl⟩;rw[VM _]at d;let nl:=xC ps;apply JmZ D (ngF ps) rfl (SqL.of d) (λso t hso pm pw=>?_);let n:=GX hso (t.map V.int);let R:=ao (H:=H2) (a:=so) (o:=.lst (t.map V.int));generalize WW H2 so=H3 at n R;let(q0,q1):=Q0 t pm pw;let G:=(s1.trans O).trans n;let h3:=(O.trans n) _ _ h1';apply Jhp so R (JeA cR (λi N H'=>Ex2 λ v4 v5=>JjN (N=[Ja p,Ja q,Ja l,Ja U,v4,v5]) H3 ((t.take i).filter (JlB L)=[])) (λi N H' h=>by let(_,_,_,g,_):=h;exact g.seq (SqL.of R)) (Gn none none (ap.refl _) rfl))
 .rintro i N H9 x H4 hi ⟨v4,v5,rfl,g,no⟩ ⟨rfl,hx⟩;let(k,u,rfl):=GW _ (g.seq (SqL.of R));let B:=G.trans g;apply(_,rfl,_,rfl,p,tl,al,rl,M,As,Rs,k,rfl,(S.same B).pr,λe H5 v=>?_,λx y e H5 a v ha=>?_)
  .apply Ji7 (bq (bq (Gn _ _ (g.trans v) ?_)));have:Xx (b_ (hdL L) As k):=by unfold b_;rw[e]
   rw[bf u,List.filter_append,no,List.filter_cons_of_neg (by rw[this];decide)];rfl
  .let(ix,iy):=iV S.dm e;let sk:b_ (hdL L) As k=decide (JdU x=JdU y):=by unfold b_;rw[e]
   let h5:=(g.trans v) _ _ h3;let b0:W9 x y 0=some (.int x):=ay rfl;let b1:W9 x y 1=some (.int y):=ay rfl;apply Ji7 (bU (_,rfl,_,rfl,a,_,_,_,rfl,rfl,ha,b0,U,_,_,_,rfl,rfl,SqL.of h5,wz _ ix.1 ix.2,_,rfl,_,rfl,a,_,_,_,rfl,rfl,ha,b1,U,_,_,_,rfl,rfl,SqL.of h5,wz _ iy.1 iy.2,rfl,_,rfl,?_));rw[hI,<-sk];cases es:b_ (hdL L) As k with
   |true=>
    apply Jmx (q1 k ((t.drop (i+1)).filter (JlB L)) ?_ H5 (B.trans v));let(lt,ek):=gEq u
    conv=>lhs;rw[<-JN t,List.drop_eq_getElem_cons lt,ek]
    rw[List.filter_append,no,List.nil_append,List.filter_cons_of_pos es]
   |false=>
    apply bq (Gn _ _ (g.trans v) ?_);rw[bf u,List.filter_append,no,List.filter_cons_of_neg (by rw[es];decide)];rfl
 .rintro N H4 ⟨v4,v5,rfl,g,no⟩;rw[lM,List.take_length]at no;exact q0 no H4 (G.trans g)
def mk1 (hs:List Int)(l:Lk):Lk:=(l.1,l.2.1,if l.2.2=-1 then 0 else hs.getD l.2.2.toNat 0,)
noncomputable def ptF (d:Int)(B:List Lk):List Int:=d::(B.filter λb=>decide (b.2.2>0)).map λb=>-b.2.2
def kL (K:W.Frag)(H:Hp)(a:Addr)(d:Int)(B:List Lk):Prop:=∃b c bs,Nw a (Jjd b c)/\Nw b ((JeC B).map V.int)/\Nw c bs/\Xu (B.map dL) bs
def kL.same (h:kL K H a d B)(s:Xd H):kL K H' a d B:=by let(b,c,bs,i,g,f,e):=h;exact(b,c,bs,s.tup i,s.tup g,s.tup f,Jmw s.kt e)
def xD (F:W52.Forest L)(P:W52.PathOk L π a b)(d:q∈π)(R:W52.PathOk L ρ a b):q∈ρ:=by
 apply Decidable.byContradiction λn=>?_;let(c,f):=W52.cut_at F (P.inn q d);apply P.cut q d c f ?_;let e:=R.walk (λt=>if Xh (c t) then 1 else 0) λr g l h=>by have:=f r l h;rw[if_neg (λe:r=q=>n (e▸g))]at this;rw[this]
 revert e;cases c a<;>cases c b<;>simp
def xE (h:V2 L x y M)(h':V2 L x y M')(R:Jc5 T L):∀q∈M,q∈M':=by
 let F:=W52.RightL_forest R;let f:∀n,∀q∈M,L.length<=q+n->q∈M':=λn=>by
  induction n with
  |zero=>intro q d s;have:=h.inn q d;lia
  |succ n o=>
   intro q d s;let(t,a,b,P,c,w):=h.why q d;rcases w with ⟨rfl,rfl⟩|⟨p,r,l,i,e⟩
   .let(j,g,sub):=h'.top;exact sub q (xD F P c g)
   .let k:=P.below F (W52.pairs_joined R i (a,b,) e) q c;let(j,g,sub):=h'.all p (o p r (by lia)) l i (a,b,) e;exact sub q (xD F P c g)
 intro q d;exact f L.length q d (by lia)
theorem xF:∀{M N:List Nat},M.Pairwise (· < ·)->N.Pairwise (· < ·)->(∀q,q∈M↔q∈N)->M=N
 |[],[],_,_,_=>rfl
 |[],n::N,_,_,h=>by have:=(h n).mpr (by simp);simp at this
 |m::M,[],_,_,h=>by have:=(h m).mp (by simp);simp at this
 | m :: M,n :: N,f,d,h=>by
  rw[List.pairwise_cons]at f d;let e:m=n:=by
   rcases List.mem_cons.mp ((h m).mp (by simp)) with a|a
   .exact a
   .rcases List.mem_cons.mp ((h n).mpr (by simp)) with b | b
    .exact b.symm
    .have:=f.1 n b;have:=d.1 m a;lia
  subst e;congr 1;apply xF f.2 d.2 λq=>(λc=>?_,λc=>?_)
  .rcases List.mem_cons.mp ((h q).mp (Jb c)) with a | a
   .have:=f.1 q c;lia
   .exact a
  .rcases List.mem_cons.mp ((h q).mpr (Jb c)) with a | a
   .have:=d.1 q c;lia
   .exact a
def C8 (h:V2 L x y M)(h':V2 L x y M')(R:Jc5 T L)(b:M.Pairwise (· < ·))(a:M'.Pairwise (· < ·)):M=M' :=
 xF b a λq=>(xE h h' R q,xE h' h R q)
def xG {B:List Lk}{i:Nat}{b:Lk}(h:B[i]?=some b):((B.take (i+1)).filter λb=>decide (b.2.2>0)).map (λb=>-b.2.2)=((B.take i).filter λb=>decide (b.2.2>0)).map (λb=>-b.2.2)++(if b.2.2>0 then [-b.2.2] else []):=by
 rw[bf h,List.filter_append,mAq];congr 1;by_cases c:b.2.2>0
 .simp [c]
 .simp [c]
inductive sD (K)(C):Sp|m{vs H Q E9} (p tl al rl q l) (T) (As) (Rs) (ps) (us) (L) (d x y):JlO (vs=[.ref p,.ref q,.ref l,.int d]) (Jdh (Jk5 K H q) (Ww l us->JkI dL us (WZ T ps L->Jbq 60->MD d (x,y,)->JdU x=JdU y->(∀H' a M,ID (Jdx (kL K H' a d ((VN L).map (VY ps))) (V2 L x y M) (M.Pairwise (· < ·)) a))->sD K C vs H Q E9)))
def kM:Vf ["problem","held","found","atom","told","pair","needed","marked","parts"] (JjF "atom") lQ:=fsc
def C9 (F:Ix "equal_line" "equal_line" lQ)(T:YP C)(v:Jg "tuple")(BS:JlH 1 fS dS (Yq "number") (kF K C))(BH:IS 2 "held_same" fH dH (Yq "held") (oY K C))(BW:IS 2 "ways" fW dW (Jhh "links") (W52.sp_ways K)):NF 3 (JjF "atom") (sD K C):=by
 apply II kM
 let(p,tl,al,rl,q,l,T',As,Rs,ps,us,L,d,x,y,rfl,S,hq,p1000,hS,hL,R,t60,e,hj,Q0):=h;let hr1:Jk2 1:=hr.mono (by decide);let((dx,ho),(ts,ht,hT),_):=id S.pr;let ll:=R.len;apply Qq (ae (JiM (i:=4) kM.nd rfl rfl (JbA BH.ok hr BH.m BH.kp BH.b 0 1)) (X7 (i:=5) kM.nd (JbA BS.ok hr1 BS.m BS.kp BS.b 0 3) (i:=6) kM.nd (Yj BW.ok hr BW.m BW.kp BW.b aJ (aa (Xe 0) (Va 2 (JeP 5 5)))) (JaT (zt (i:=7) (N':=["link","told"]) (ix:=[4]) kM.nd rfl (Or.inl rfl) rfl rfl (by decide +kernel) (by decide +kernel) rfl (λok=>JgX (sc:=ai lQ)) (by decide +kernel) rfl rfl (λj i h=>match j,h with|0,h=>by cases h;exact QO _|n+1,h=>by simp at h) (cO (pv 6)) (λ_ _ _ _=>(ck (XM (JlE (r:=dk K)) (JlE (r:=dk K)) (iJ (aA bO (JlE (r:=dk K)) (VI af)) af (MN (r:=gQ K) az 1 (JlE (r:=dk K)))))))) (Ie (i:=8) kM.nd (aX pN (JiP 3) (GA (N':=["link"]) (ix:=[]) rfl rfl rfl (λ_=>JfE []) rfl rfl (λj i h=>by simp at h) (cO (pv 7)) (λ_ _ _ _=>(JgQ (JlE (r:=dk K)))) (λ_ _ _ _=>(JlF (r:=dk K)))))) (ck (XM aE (Iw jf rfl v (Jd 8)) (Iw jf rfl v (Jd 7)))))))
 rfl'
 apply(_,rfl,_,rfl,p,tl,al,rl,q,T',As,Rs,ps,rfl,S,hq,p1000,λH1 tol s1 _ h1=>?_);apply(_,rfl,_,rfl,p,tl,al,rl,T',As,Rs,d,rfl,(S.same s1).pr,λz=>(by rw[e]at z;cases z),λx' y' z H2 pa s2 hpa=>?_);rw[e]at z;cases z;let(ix,iy):=iV S.dm e;let I:=s1.trans s2;let b0:W9 x y 0=some (.int x):=Mv (j:=0);let b1:W9 x y 1=some (.int y):=Mv (j:=1);apply(_,rfl,p,C,dx,_,_,rfl,I _ _ ho,T.cl,T.nT,dy _ _ _,_,rfl,_,rfl,pa,_,_,_,rfl,rfl,hpa,b0,_,rfl,pa,_,_,_,rfl,rfl,hpa,b1,tl,l,x,y,ts,us,T',Nt ps,L,rfl,SqL.of (I _ _ ht),JdB I.kt _ hT,I.seq hS,Jmw I.kt hL,(λt htt=>(S.t3 t htt,S.dm.tm t htt)),R,t60,ix,iy,hj,λH3 nl M rs s3 _ h3 hrs N lt=>?_);let s03:=I.trans s3;let h1':=(s2.trans s3) _ _ h1;let rl':JeB M.length:=by rw[<-hrs.length,lM];unfold W52.atP;rw[lM]
 let ml:Jh7 M.length:=jZ _ (lt.imp λh=>Nat.ne_of_lt h) N.inn;let aml:(VN L).length=M.length:=by unfold W52.atP;rw[lM]
 apply UP _ nl (Jv h3) (λD hD=>eK cR (λi zs H'=>Xd H3/\Jnu ((((VN L).map (VY ps)).take i).map dL)) (λi zs H' (s4,_)=>Jf7 h3) (Wm hD,ar.nil) ?_ ?_)
 .rintro i zs H9 z H4 hi hly hDs ⟨s4,J⟩ ⟨rfl,hz⟩;let(k,pk,hk,rfl,Z):=ka hrs (hz _ (Jf7 h3));let G:=s4.tup Z;let hmk:((VN L).map (VY ps))[i]?=some (Jlu ps k):=by rw[List.getElem?_map,hk];rfl
  let fin:∀(n:Int),n=(Jlu ps k).2.2->∀(r:Addr),Uf (H4 r)->nI rs.length D (λi zs H'=>Xd H3/\Jnu ((((VN L).map (VY ps)).take i).map dL)) i zs (.ref r) (Mb H4 r (Gy k.1 k.2.1 n)):=λn en r u=>by let Y:VB H4 H4 r (Gy k.1 k.2.1 n):=Wm u;let n5:=ao (H:=H4) (a:=r) (o:=JiX k.1 k.2.1 n);generalize Mb H4 r (Gy k.1 k.2.1 n)=H5 at Y n5;let kt:=bj.lst (ys:=Jmu zs r) (Y _ _ hDs);apply Jcn _ hi hly (Y _ _ hDs) ((s4.trans Y).upd hD);rw[bf hmk,mAq];rw[en]at n5;exact Wv (Jmw (Y.kt.trans kt) J) (oa (l:=Jlu ps k) (Jhc n5))
  apply(_,rfl,pk,_,_,_,rfl,rfl,G,l0 k,_,rfl,pk,_,_,_,rfl,rfl,G,l1 k,_,rfl,pk,_,_,_,rfl,rfl,G,l2 k,_,rfl,rfl,_,rfl,?_);rw[hI];by_cases c:k.2.2=-1
  .rw[dTq c];exact bU (lS3,λr u=>fin 0 (by unfold mk1;rw[if_pos c]) r u)
  .rw[dFq c];let(qi,hqi,eqi):=W52.of_atP N.inn (mO hk);rcases(R qi k eqi).how with ⟨k0,hg⟩ | ⟨z,_⟩
   .let(m,hm,_,_):=gs_at hg;let at1:atI ((Uy ps).map V.int) k.2.2=some (.int m):=by have:atI ((Uy ps).map V.int) ((k.2.2.toNat:Nat):Int)=some (.int m):=ay (by rw[List.getElem?_map,hm];rfl);rw[show((k.2.2.toNat:Nat):Int)=k.2.2 by lia]at this;exact this
    exact bq (_,rfl,_,rfl,pk,_,_,_,rfl,rfl,G,l2 k,tol,_,_,_,rfl,rfl,Jf7 h1',at1,lS3,λr u=>fin m (by unfold mk1;rw[if_neg c,List.getD_eq_getElem?_getD,hm];rfl) r u)
   .exact Jz z
 rintro zs H4 hDs ⟨s4,J⟩;rw[tO (by rw[lM,aml];lia)]at J;let zl:Jdb M.length:=by rw[<-J.length,lM,lM,aml]
 generalize eB:(VN L).map (VY ps)=B at J;let bl:B.length=M.length:=by rw[<-eB,lM,aml]
 let s04:=s03.trans s4;apply Ul _ lS1 (λo ho'=>?_);let Y:=GX ho' (WY d);let n5:=ao (H:=H4) (a:=o) (o:=.lst (WY d));let W:=Y _ _ hDs;let U:=Jmw Y.kt J;generalize Qa H4 o (WY d)=H5 at Y n5 W U;apply UP _ D (Jv W) (λD2 hD2=>gq cR (λi vs H'=>Xd H5/\vs=(((B.take i).filter λb=>decide (b.2.2>0)).map λb=>-b.2.2).map V.int) (λi vs H' (X,_)=>X.seq (SqL.of W)) (YJ hD2) ?_ ?_)
 .rintro i vs H9 z H6 hi hly g ⟨X,rfl⟩ ⟨rfl,hz⟩;let(k,pk,hk,rfl,Z):=ka U (hz _ (X.seq (SqL.of W)));apply(_,rfl,pk,_,_,_,rfl,rfl,X.tup Z,l2 k,_,_,rfl,rfl,_,rfl,Nf (λc=>?_))
  .apply XJ _ pk _ _ _ rfl rfl (X.tup Z) (l2 k) _ rfl (Jcn _ hi hly g (X.upd hD2));rw[xG hk,Jkg c,mAq];rfl
  .apply JjQ hi hly g X;rw[xG hk,if_neg (λz=>Jbi z),List.append_nil]
 rintro vs H6 g ⟨X,rfl⟩;rw[zl,<-bl,List.take_length]at g;let fl:((B.filter λb=>decide (b.2.2>0)).map λb=>-b.2.2).length<=60:=by rw[lM];have:=List.length_filter_le (λb:Lk=>decide (b.2.2>0)) B;lia
 apply(o,D2,_,_,rfl,rfl,X _ _ n5,g,bsz _ (by rw[lM];show Jt (1+_);lia),λo7 ho7=>?_);let s7:=GX ho7 (WY d++((B.filter λb=>decide (b.2.2>0)).map λb=>-b.2.2).map V.int);let n7:=ao (H:=H6) (a:=o7) (o:=.lst (WY d++((B.filter λb=>decide (b.2.2>0)).map λb=>-b.2.2).map V.int));generalize Qa H6 o7 (WY d++((B.filter λb=>decide (b.2.2>0)).map λb=>-b.2.2).map V.int)=H7 at s7 n7;let n7:H7 o7=some (.lst ((JeC B).map V.int)):=n7;apply Jci _ o7 _ (JbK n7 (λt8 ht8=>?_));let s8:=MX ht8 ((JeC B).map V.int);let n8:=ao (H:=H7) (a:=t8) (o:=.tup ((JeC B).map V.int));generalize Mb H7 t8 ((JeC B).map V.int)=H8 at s8 n8;let s58:=(X.trans s7).trans s8;apply Jci _ D _ (JbK (s58 _ _ W) (λt9 ht9=>?_));let s9:=MX ht9 zs;let n9:=ao (H:=H8) (a:=t9) (o:=.tup zs);generalize Mb H8 t9 zs=H9 at s9 n9;apply(lS3,λr u=>?_);let O:=MX u (Jjd t8 t9);let n10:=ao (H:=H9) (a:=r) (o:=.tup (Jjd t8 t9));generalize Mb H9 r (Jjd t8 t9)=H10 at O n10;apply Q0 H10 r M (((s04.trans Y).trans s58).trans (s9.trans O)) ?_ N lt;rw[eB];exact(t8,t9,zs,SqT.of n10,SqT.of (O _ _ (s9 _ _ n8)),SqT.of (O _ _ n9),Jmw (s58.trans (s9.trans O)).kt U)
inductive sG (K)(C):Sp|m{vs H Q E9} (p tl al rl q) (T) (As) (Rs) (ps):JlO (vs=JC p q) (Jk5 K H q->ps.length<64->Jbq 60->(∀L (ms:List Int),L=Jie T ps->WZ T ps L->JlP ps L->JbG T L->JiO ps->ms.Pairwise (·<=·)->(Q8 L As=[]->∀H',JmE H')/\∀d r x y M H' a,Q8 L As=d::r->MD d (x,y,)->JdU x=JdU y->V2 L x y M->M.Pairwise (· < ·)->Jks (kL K H' a d ((VN L).map (VY ps))) a)->sG K C vs H Q E9)
def sI:Vf (JjF "atom") (Yq "held") oy:=fsc
def C_ (F:Ix "clash" "clash" oy)(B:IS 5 "same_links" fL dL' (Yq "held") (sx K C))(I:IS 5 "clashing_atom" fA dA' ["problem","held","found"] (sC K C))(D:IS 3 "equal_line" fE dE (JjF "atom") (sD K C)):NF 6 (Yq "held") (sG K C):=by
 apply V_b sI W
 let(p,n,u,t,q,v,As,Rs,ps,rfl,S,X,O,J,Q0):=h;let U:Jk2 3:=W.mono (by decide);apply Qq (JS (i:=2) sI.nd (JbA B.ok W B.m B.kp B.b 0 1) (Nn (i:=3) sI.nd (GG I.ok W I.m I.kp I.b 0 (WS 1 2)) (be (XZ pD 3 eU) (Ud eU)
   aU) (Ud (GG D.ok U D.m D.kp D.b 0 (Va 1 (WS 2 3))))))
 rfl'
 apply(_,rfl,_,rfl,p,n,u,t,q,v,As,Rs,ps,rfl,S,X,by lia,λH1 l us L o h1 hL R G Cl eL=>?_);let ll:=R.len;apply(_,rfl,_,rfl,_,rfl,p,n,u,t,q,l,v,As,Rs,ps,us,L,rfl,S.same o,X.same o,O,SqL.of h1,hL,R.inn,by lia,λT pm Y=>(λe H2 j=>?_,λd r e H2 j=>?_))
 .exact Ji7 (bU ((Q0 L T eL R G Cl pm Y).1 e H2 (o.trans j)))
 .apply Ji7 (Je_ (λc=>Jan (oDq c)));let k:=(List.mem_filter.mp (by rw[e];exact List.mem_cons_self:d∈T.filter _)).2;obtain⟨x,y,e1,e2⟩:∃x y,MD d (x,y,)∧JdU x=hdL L y:=by
   unfold b_ at k;cases z:Uw d with
   |none=>rw[z]at k;cases k
   |some Z=>rw[z]at k;exact Yv Z.1 Z.2 (oDq k)
  let g:=o.trans j;exact(_,rfl,_,rfl,_,rfl,_,rfl,p,n,u,t,q,l,v,As,Rs,ps,us,L,d,x,y,rfl,S.same g,X.same g,by lia,SqL.of (j _ _ h1),Jmw j.kt hL,R,J,e1,e2,λH3 a M s3 hA N lt=>(Q0 L T eL R G Cl pm Y).2 d r x y M H3 a e e1 e2 N lt (g.trans s3) hA)
theorem sJ:∀As:List At,WU (As.map dA)
 |[]=>by simp [a_]
 |.plain z::As=>by simp [a_,dA,nol,sJ As]
 |.same a b::As=>by simp [a_,dA,nol,sJ As]
def PIn.neg (h:PIn m p):PIn m (-p):=(by have:=h.1;lia,by have:=h.2.2;lia,by have:=h.2.1;lia)
inductive sL (K)(C):Sp|m{vs H Q E9} (p tl al rl q) (T) (As) (Rs) (ps):JlO (vs=JC p q) (GY q->Jdh (∀k∈ps,Jaj k) ((∀H' r rs L,ID (Ql r (rs.map V.int)->JeB T.length->JfK (WZ T ps L) (JlP ps L) (JbG T L) (JiN (hdL L) (rf rs)) r))->sL K C vs H Q E9))
def mv:Vf (Jmk "_law_held" "_law_roots" "_law_step" "_law_bond") (Uk "_law_held") rq:=fsc
def Dc (F:Ix "_law_joined_by" "_law_joined_by" rq)(T:YP C)(N:Jg "list")(g:Jg "range")(Z:IS 2 "_law_next" fN dN (Jcm "_law_roots") (rX K C))(BM:IS 1 "_law_merged" fM dM (Jf6 "_law_one") (rT K)):NF 3 (Uk "_law_held") (sL K C):=by
 apply II mv
 let(p,tl,al,rl,q,o,As,Rs,ps,rfl,S,hq,pin,M,Q0):=h;let hr1:Jk2 1:=hr.mono (by decide);apply Qq (Nn (i:=2) mv.nd (Vy (vP rfl) rfl N (Gb (vO rfl g (Gb (UJ 0))))) (Jin g (Gb (YH 2)) (i:=3) mv.nd (Nn (i:=4) mv.nd (GG Z.ok hr Z.m Z.kp Z.b 0 (JbI (Vj (N':=["_law_part"]) (ix:=[]) rfl rfl rfl (λy=>JfE []) rfl rfl (λj i h=>by simp at h) (Jmj 1) (λy y y y=>(Q5 0))) 2)) (be (XZ pD 4 eU) (QJ 2)
     aU) (Jmr (i:=2) mv.nd (GG BM.ok hr1 BM.m BM.kp BM.b 2 (JeP 4 4))))) (QJ 2))
 rfl'
 let((dx,ho),(ts,ht,hT),_):=id S.pr;let tl':Jla o.length:=by rw[<-hT.length,lM]
 let tN:=S.tN;apply(_,rfl,p,C,dx,_,_,rfl,ho,T.cl,T.nT,dy _ _ _,tl,_,rfl,Jc ht,_,rfl,λr0 hr0=>?_);let(H0,eN,s0,n0):=nwH hr0 (.rng 0 (ts.length:Int));rw[eN];apply(r0,_,rfl,n0,(by lia),(by lia),λr1 W=>?_);let e0:(((List.range ((ts.length:Int)).toNat).map λi:Nat=>(i:Int)).map V.int)=(ze8 o.length).map V.int:=by rw[Int.toNat_natCast,tl'];rfl
 rw[e0];let(H1,eN,sN,n1):=Uq W ((ze8 o.length).map V.int);rw[eN];let s1:=s0.trans sN;let ag0:fm o.length (hdL []) (rf (ze8 o.length)):=λt u ht hu=>by rw[xq ht,xq hu];exact Iff.rfl
 apply Jfk _ r1 _ (Jc n1) _ (by lia) (by rw[lM,oR];lia -ac) (ee (λi σ H'=>Ex5 λ r rs L v3 v4=>An7 (σ=[Ja p,Ja q,Ja r,v3,v4]) (Xd H) (Ql r (rs.map V.int)) (JeB o.length) (WZ o ps L) (fm o.length (hdL L) (rf rs)) (L.length=i)) (r1,_,[],none,none,rfl,s1,n1,oR _,bz.nil _ _,ag0,rfl) ?_ ?_)
 .rintro i σ H3 hi ⟨r,rs,L,v3,v4,rfl,O,v,d,R,X,li⟩;apply IR _ rfl _ q rfl (Qu (O.tup hq)) (λD hD=>Jl3 eJ (λi us H'=>Xd H3∧us=((ps.take i).map λk=>-k).map V.int) (λi us H' (B,_)=>(O.trans B).tup hq) hD)
  .rintro j us H9 x H4 hj hly I ⟨B,rfl⟩ ⟨rfl,hx⟩;let(k,hk,rfl):=GW _ ((O.trans B).tup hq);apply Jfe _ _ (NO _ (by rw[lM];exact M) hj hly I (B.upd hD));rw[bf hk,mAq,mAq];rfl
  rintro us H4 I ⟨B,rfl⟩;rw[lM,List.take_length]at I;let J:=O.trans B;apply Jfw _ p tl al rl D r o As Rs (ps.map (λk=>-k)) rs rfl (S.same J) (Jc I) (λk hk=>by let(j,hj,rfl):=List.mem_map.mp hk;exact(pin j hj).neg) (SqL.of (B _ _ v)) d (λno H5 U=>?_) (λH5 b Y U hb yes=>?_)
  .let(G,Cl):=C0 S.dm X no;exact Ji7 (Jmx (Q0 H5 r rs L (J.trans U) ((B.trans U) _ _ v) d R G Cl X))
  .apply Ji7 (Je_ (λc=>Jan (oDq c)));let(l,R',Ag'):=C2 S.dm X d R yes;apply(_,rfl,_,rfl,b,_,_,_,rfl,rfl,hb,l0 Y,_,rfl,b,_,_,_,rfl,rfl,hb,l1 Y,r,rs,Y.1,Y.2.1,rfl,SqL.of ((B.trans U) _ _ v),by rw[d];exact yes.1.1,by rw[d];exact yes.1.2.1,by lia,λH6 r6 s6 f6 hr6=>?_);exact(r6,_,L++[l],_,_,rfl,(J.trans U).trans s6,hr6,by rw[CD];exact d,R',Ag',by rw[lAq,li];rfl)
 .rintro σ H3 ⟨r,rs,L,v3,v4,rfl,O,v,d,R,X,li⟩;rw[Int.toNat_natCast,lM,oR]at li;rcases Nat.eq_zero_or_pos o.length with t0 | t1
  .apply Yu (Q0 H3 r rs L O v d R (λz hz=>?_) (λa b t u h1=>?_) X)
   .let(k,_,e):=List.mem_filterMap.mp hz;have:=(iV S.dm e).1;rw[t0]at this;let h1:=this.1;let h2:=this.2;lia
   .rw[List.length_eq_zero_iff.mp t0]at h1;cases h1
  .have:=CZ R t1;lia
def Dd {H:Hp}{T:List Tm}{As:List At}{ys:List V}{k:Int}{f:Int->Int}(D:Ja9 T)(g:Xu (As.map dA) ys)(h0:1<=k)(o:k<=(As.length:Int)):∃x,VP ys (k-1) x/\((∃(z:Str) (q:Addr),YK q/\Nw q (JeO z)/\Xx (b_ f As k)/\Uf (Uw k))\/∃(a b:Int) (q:Addr),YK q/\Nw q (JaX a b)/\Yh a/\Yh b/\MD k (a,b,)/\b_ f As k=decide (f a=f b)):=by
 let r:JbE As.length:=by rw[<-g.length,lM]
 let(x,l,j):=kE (xs:=ys) (i:=k-1) (by lia) (by lia);let(a,p,c):=rP g l;let(t,h,s,d):=rL (As:=As) h0 o;rw[p]at h;cases h;apply Id x j;cases a with
 |plain z=>
  let(q,rfl,e):=rQ c;exact JaJ z q rfl e (by unfold b_;rw[d]) d
 |same a b=>
  let(q,rfl,e):=rR c;let(n,ib):=iV D d;exact .inr (a,b,q,rfl,e,n,ib,d,by unfold b_;rw[d])
inductive o_ (K)(C):Sp|m{vs H Q E9} (p tl al rl q) (T) (As) (Rs) (ps):JlO (vs=JC p q) (GY q->(∀k∈ps,Jaj k)->ps.length<64->(∀H' l (ms:List Int) L,ID (Ql l ((Q8 L As).map V.int)->JiO ps->JfK (ms.Pairwise (·<=·)) (WZ T ps L) (JlP ps L) (JbG T L) l))->o_ K C vs H Q E9)
def mw:Vf ["_law_problem","_law_held","_law_roots","_law_found","_law_part","_law_atom"] (Uk "_law_held") rz:=fsc
def Df (F:Ix "_law_denied" "_law_denied" rz)(T:YP C)(B:Jg "sorted")(BJ:IS 3 "_law_joined_by" fJ dJ (Uk "_law_held") (sL K C)):NF 4 (Uk "_law_held") (o_ K C):=by
 apply II mw
 let(p,tl,al,rl,q,T',As,Rs,ps,rfl,S,hq,Z,p64,Q0):=h;apply Qq (JS (i:=2) mw.nd (JbA BJ.ok hr BJ.m BJ.kp BJ.b 0 1) (Nn (i:=3) mw.nd (bb ac) (Jck (MW qA B (Gb (GA (N':=["_law_part"]) (ix:=[]) rfl rfl rfl (λ_=>JfE []) rfl rfl (λj i h=>by simp at h) (Jmj 1) (λ_ _ _ _=>(Jlw iq 0)) (λ_ _ _ _=>(Q5 0))))) (i:=4) mw.nd (JS (i:=5) mw.nd (aI az (Xe 0) (Mw ip 4)) (aj (be (J_ (JlV 5 aE) (aA bO (Jd9 2 5) (Jd9 2 5))) (JbR 3 (Jd 4))
     aU)))) (QJ 3)))
 rfl'
 let((dx,ho),_,(ys,ha,hA),_):=id S.pr;apply(_,rfl,_,rfl,p,tl,al,rl,q,T',As,Rs,ps,rfl,S,hq,Z,by lia,λH1 r rs L s1 h1 X R G Cl Ag=>?_);apply JbF (λl hl=>?_);let(H2,eN,s2,n2):=Jnj [];rw[eN];let nlr:=bY h1 hl;let lH:=s1.free hl;let v:=s1.trans s2;apply Jdz _ q (v.tup hq) (λD hD=>gq eJ (λi us H'=>Xd H2/\us=(JdC i).map V.int) (λi us H' (u,_)=>(v.trans u).tup hq) (YJ hD) ?_ ?_)
 .rintro i us H9 x H3 hi hly n ⟨u,rfl⟩ ⟨rfl,hx⟩;let(k,U,rfl):=GW _ ((v.trans u).tup hq);apply JlX _ rfl _ _ _ rfl (Nf (λc=>?_))
  .apply Jfe _ _ (NO _ (by rw[lM];lia) hi hly n (u.upd hD));rw[oX U,Jkg c,mAq];rfl
  .apply JjQ hi hly n u;rw[oX U,if_neg (λz=>Jbi z),List.append_nil]
 rintro us H3 n ⟨u,rfl⟩;rw[lM,List.take_length]at n;let nl:=xC ps;apply JmZ D (ngF ps) rfl (SqL.of n) (λso O J pm pw=>?_);let(H4,eN,s4,n4):=Uq J (O.map V.int);rw[eN];let nso:so≠l:=λe=>by rw[e,u _ _ n2]at J;cases J
 let mlen:=pm.length_eq;let W:=(v.trans u).trans s4;let r4:=(s2.trans (u.trans s4)) _ _ h1;apply Jhp so n4 (JeA cR (λi σ H'=>Ex2 λ v4 v5=>An3 (σ=[Ja p,Ja q,Ja r,Ja l,v4,v5]) (cq l H4 H') (Ql l (((O.take i).filter (JlB L)).map V.int))) (λi σ H' h=>by let(_,_,_,t,_):=h;exact SqL.of (t _ _ nso n4)) (Gn none none (cq.refl _ _) ((u.trans s4) _ _ n2)))
 .rintro i σ H9 x H5 hi ⟨v4,v5,rfl,t,I⟩ ⟨rfl,hx⟩;let(k,U,rfl):=Jik _ (t _ _ nso n4);let kin:1≤k∧k≤(As.length:Int):=by have:=pm.mem_iff.mp (mO U);let(k0,hk0,e):=List.mem_map.mp this;let(m0,c0):=List.mem_filter.mp hk0;have:=Z k0 m0;let(_,b1,b2):=this;lia
  let d:MU H5:=λb o N=>t b o (λe=>by rw[e,lH]at N;cases N) (W b o N);let(x,x2,M):=Dd S.dm (hA.keep d.kt (sJ _)) kin.1 kin.2;let r5:=t _ _ nlr r4;apply(_,rfl,p,C,dx,_,_,rfl,d _ _ ho,T.cl,T.nA,cX _ _ _,_,rfl,_,_,rfl,rfl,al,_,_,_,rfl,rfl,SqL.of (d _ _ ha),x2,?_);let y:Xx (b_ (hdL L) As k)->((O.take (i+1)).filter (JlB L))=(O.take i).filter (JlB L):=λe=>by rw[bf U,List.filter_append,List.filter_cons_of_neg (by rw[e];decide)];exact List.append_nil _
  rcases M with ⟨z,Y,rfl,g,sb,_⟩|⟨a,b,Y,rfl,g,ia,ib,_,sb⟩
  .apply Jgo _ Y _ _ _ g (ay rfl) _ (bo (λc=>VT (oDq c)) (λc=>bq (Gn _ _ t ?_)));rw[y sb];exact I
  .apply Jgo _ Y _ _ _ g (ay rfl) _ (Nf (λc=>JiZ rfl));apply(_,rfl,_,rfl,Y,_,_,_,rfl,rfl,g,ay rfl,r,_,_,_,rfl,rfl,SqL.of r5,dz (by rw[X];exact ia),_,rfl,_,rfl,Y,_,_,_,rfl,rfl,g,ay rfl,r,_,_,_,rfl,rfl,SqL.of r5,dz (by rw[X];exact ib),rfl,_,rfl,?_);rw[hI,←Ag.dec ia ib,←sb];cases es:b_ (hdL L) As k with
   |false=>
    apply bq (Gn _ _ t ?_);rw[y es];exact I
   |true=>
    apply bU (_,rfl,JeM I,_,rfl,l,_,_,rfl,rfl,I,eg ?_,_,_,rfl,t.trans (Jcr _),?_)
    .rw[lM];have:=List.length_filter_le (JlB L) (O.take i);rw[List.length_take]at this;lia
    .rw[ao,bf U,List.filter_append,List.filter_cons_of_pos es,mAq];rfl
 .rintro σ H5 ⟨v4,v5,rfl,t,I⟩;rw[lM,List.take_length]at I;let d:MU H5:=λb o N=>t b o (λe=>by rw[e,lH]at N;cases N) (W b o N);exact Yu (Q0 H5 l O L d I pm pw R G Cl)
def EqR (T:List Tm)(As:List At)(ps:List Int):Prop:=∀g:UM Int,fh T g->(∀p∈ps,∀x y,MD (-p) (x,y,)->g x=g y)->∃d∈ps,Xh (b_ g As d)
def sM (h:MD d (x,y,)):b_ g As d=decide (g x=g y):=by unfold b_;rw[h]
set_option tactic.hygienic true in
def my (h:Xh (b_ g As d)):∃x y,MD d (x,y,)/\g x=g y:=by
 unfold b_ at h;split at h
 .rename_i q e;exact(q.1,q.2,e,oDq h)
 .cases h
def Dg (h:V2 L x y M)(R:Jc5 T L){g:Int→Int}(C:fh T g)(d:∀q∈M,∀l,L[q]?=some l→l.2.2≠-1→g l.1=g l.2.1):g x=g y:=by
 let F:W52.Forest L:=λi l c=>(R i l c).new;let r:∀n q l,q<n→q∈M→L[q]?=some l→g l.1=g l.2.1:=by
  intro n
  induction n with
  |zero=>exact λq l k=>Xn k _
  | succ n E =>
   intro q l k v c;by_cases e:l.2.2=-1
   .rcases(R q l c).how with ⟨z,_⟩ | ⟨_,t,u,h1,h2,h3,h4⟩
    .lia
    .let A:=W52.pairs_joined R c;let B:t.2.length=u.2.length:=by have:=UD h4;rwa [lM,lM]at this
     have:=C l.1.toNat l.2.1.toNat t u h1 h2 h3 (W52.eq_map_zip B λp G=>by
      let j:p∈W52.pairsF T l:=by unfold W52.pairsF;rw[if_pos e,h1,h2];exact G
      let(w,P,sub):=h.all q v l c p j;exact P.walk g λo f D s=>E o D (by have:=P.below F (A p j) o f;lia) (sub o f) s)
     let a:=(R q l c).a;let b:=(R q l c).b;rwa [show(l.1.toNat:Int)=l.1 by lia,show(l.2.1.toNat:Int)=l.2.1 by lia]at this
   .exact d q v l c e
 let(w,P,sub):=h.top;exact P.walk g λq k l c=>r _ q l (Nat.lt_succ_self _) (sub q k) c
def mz (R:WZ T hs L){q:Nat}{l:Lk}(c:L[q]?=some l)(h:l.2.2≠-1):∃k,(Uy hs)[l.2.2.toNat]?=some k/\Jlu hs l=(l.1,l.2.1,k,)/\MD k (l.1,l.2.1,)/\k∈hs/\0<k:=by
 rcases(R q l c).how with ⟨_,z⟩|⟨z,_⟩
 .let(k,b,a,e):=gs_at z;apply(k,b,?_,a,e,by have:=jy a;lia);unfold mk1;rw[if_neg h,List.getD_eq_getElem?_getD,b];rfl
 .exact IP h
def sO (hs)(h:l.2.2=-1):(mk1 hs l).2.2=0:=by unfold mk1;rw[if_pos h]
def pb (R:WZ T hs L)(h:∀q∈M,Jav q){p:Int}:p∈JeC ((VN L).map (VY hs))↔p=d\/∃q∈M,∃l k,L[q]?=some l/\l.2.2≠-1/\(Uy hs)[l.2.2.toNat]?=some k/\MD k (l.1,l.2.1,)/\k∈hs/\0<k/\p=-k:=by
 unfold ptF;rw[List.mem_cons,List.mem_map];apply or_congr Iff.rfl (λ(b,j,e)=>?_,λ(q,i,l,k,a,g,o,s,r,n,e)=>?_)
 .let(j,h0):=List.mem_filter.mp j;let h0:=oDq h0;let(l,a,rfl):=List.mem_map.mp j;let(q,i,a):=W52.of_atP h a;let g:l.2.2≠-1:=λz=>by rw[sO _ z]at h0;exact Vq h0
  let(k,o,s,r,n,t):=mz R a g;exact(q,i,l,k,a,g,o,r,n,t,by rw[<-e,s])
 .let(v,f,c,_):=mz R a g;rw[o]at f;injection f with u;subst u;exact W7 (Ig (JdY l (W52.mem_atP i a)) (by rw[c];exact dTq n)) (by rw[c,e])
def Dh (R:WZ T hs L)(N:V2 L x y M)(f:MD d (x,y,)):Jj4 (JeC ((VN L).map (VY hs))):=λg C h=>by apply Id d ((pb R N.inn).mpr (.inl rfl));rw[sM f,decide_eq_true_eq];apply Dg N R C λq e l b a=>?_;let(k,n,_,c,j,i):=mz R b a;exact h _ ((pb R N.inn).mpr (.inr (q,e,l,k,b,a,n,c,j,i,rfl))) _ _ (by rw[Int.neg_neg];exact c)
def Di (R:WZ T hs L)(a:∀q∈M,Jav q)(c:-d∈hs):∀p∈JeC ((VN L).map (VY hs)),-p∈hs:=λp b=>by
 rcases(pb R a).mp b with rfl|⟨q,_,l,k,_,_,_,_,h3,_,rfl⟩
 .exact c
 .rw[Int.neg_neg];exact h3
def Dj (R:WZ T hs L)(a:∀q∈M,Jav q)(v:M.Pairwise (· < ·))(A:hs.Nodup)(O:0<d):(JeC ((VN L).map (VY hs))).Nodup:=by
 let G:=λp=>pb (p:=p) (d:=0) R a;unfold ptF at G⊢;apply List.nodup_cons.mpr (Mm (λz=>?_))
 .let(b,n,e):=List.mem_map.mp z;let h0:=oDq (List.mem_filter.mp n).2;lia
 .apply List.pairwise_map.mpr ?_;let N:(Uy hs).Nodup:=A.filter _;let w:(M.map λq=>Jlu hs (L.getD q (0,0,0,))).Pairwise λb c=>0<b.2.2→0<c.2.2→b.2.2≠c.2.2:=by
   apply List.pairwise_map.mpr (v.imp_of_mem λ{q r} u t D s o e=>?_);let i:=gG (a q u);let g:=gG (a r t);generalize L[q]'(a q u)=l at i;generalize L[r]'(a r t)=m at g;rw[W52.getD_at i]at s e;rw[W52.getD_at g]at o e;let C:l.2.2≠-1:=λz=>by rw[sO _ z]at s;lia
   let B:m.2.2≠-1:=λz=>by rw[sO _ z]at o;lia
   let(k,k1,k2,k3,_):=mz R i C;let(F,E,j,f,_):=mz R g B;rw[k2,j]at e;let e:k=F:=e;subst e;rw[k3]at f;injection f with f;injection f with K eb;have:=W52.take_link i D;rw[K,eb]at this;exact(R r m g).new this
  let e:(VN L).map (VY hs)=M.map λq=>mk1 (Uy hs) (L.getD q (0,0,0,)):=by unfold W52.atP;rw[List.map_map];rfl
  rw[e];apply(w.filter _).imp_of_mem λ{b c} n H h z=>?_;let J:=oDq (List.mem_filter.mp n).2;let I:=oDq (List.mem_filter.mp H).2;exact h J I (by lia)
def Dk (G:JlP hs L)(C:JbG T L){f:List Int}(i:f.Perm (ngF hs))(h:f.filter (JlB L)=[]):∀r,Jj4 r->∃p∈r,-p∉hs:=λr e=>Decidable.byContradiction λz=>by let a:∀p∈r,-p∈hs:=λp c=>Decidable.byContradiction λw=>z (p,c,w);let(d,k,g):=e _ C λp c x y b=>G _ (gs_of (a p c) b);let(x,y,b,_):=my g;have:=jy b;let j:d∈ngF hs:=Vd (-d) (Jdc (a d k) (by lia)) (Int.neg_neg _);have:=Ig (i.mem_iff.mpr j) g;rw[h]at this;cases this
def Dm (R:WZ T hs L)(h:∀r,Jj4 r->∃p∈r,-p∉hs){f:List Int}(j:f.Perm (ngF hs)):f.filter (JlB L)=[]:=by
 rw[List.filter_eq_nil_iff];intro d q i;let(x,y,l,e):=my i;let(k,n,rfl):=List.mem_map.mp (j.mem_iff.mp q);let(p,a,b):=h (-k::(Uy hs).map λk=>-k) λg C o=>W7 List.mem_cons_self (by rw[sM l,decide_eq_true_eq];apply min_of R (λs a=>?_) C x y e;let(c,k1,k2):=su a;exact o _ (Jb (JdY c (Ig k1 (by rw[k2];rfl)))) _ _ (by rw[Int.neg_neg];exact k2))
 rcases List.mem_cons.mp a with rfl|a
 .rw[Int.neg_neg]at b;exact b (List.mem_filter.mp n).1
 .let(c,k1,rfl):=List.mem_map.mp a;rw[Int.neg_neg]at b;exact b (sr k1).1
def eqD (ps:List Int)(ls:List Lk):Dt:=.tup [.str "equal",.tup (ps.map Dt.int),.tup (ls.map dL)]
def clD (T:List Tm)(As:List At)(hs:List Int)(d:Int)(M:List Nat):Dt×List Int :=
 let B:=(VN (Jie T hs)).map (VY hs)
 (eqD (JeC B) B,JeC B,)
structure ClY (T:List Tm)(As)(hs ms:List Int)(q):Prop where
 ex:∃(d:Int) (r:List Int) (x y:Int) (M:List Nat),Q8 (Jie T hs) As=d::r/\MD d (x,y,)/\V2 (Jie T hs) x y M/\M.Pairwise (· < ·)/\WZ T hs (Jie T hs)/\q=clD T As hs d M
def clR (T:List Tm)(As:List At):Cl:=λts o=>∃a:List Int,a.Perm (ngF (ts.map Prod.fst))/\a.Pairwise (·<=·)/\match o with
 |none=>a.filter (JlB (Jie T (ts.map Prod.fst)))=[]
 |some q=>ClY T As (ts.map Prod.fst) a q
def Dq (T)(As):(NC T).One:=λts a b (j,t,p,i) (ns,s,o,f)=>by
 let e:=List.Perm.eq_of_pairwise (λa b m m h h'=>Int.le_antisymm h h') p o (t.trans s.symm);subst e;cases a with
 | none =>
  cases b with
  |none=>rfl
  |some q=>
   let(d,r,x,y,M,g,_):=f.ex;let i:=i;rw[i]at g;cases g
 | some q =>
  let(d,r,x,y,M,g,B,A,z,w,u):=i.ex;cases b with
  |none=>
   let f:=f;rw[f]at g;cases g
  |some G=>
   let(d',F,E,D,I,g',c,n,l,v,k):=f.ex;rw[g]at g';injection g' with C H;subst C;rw[B]at c;cases c;cases C8 A n w z l;rw[u,k]
theorem sP (q):∀ps acc,q∈bp acc ps->q∈acc\/q∈ps
 |[],acc,h=>.inl (by simpa [bp] using h)
 | p :: ps,acc,h=>by
  simp only[bp]at h;split at h
  .rcases sP q ps _ h with h | h
   .exact .inl h
   .exact .inr (Jb h)
  .rcases sP q ps _ h with h | h
   .rcases mPq h with h | h
    .exact .inl h
    .exact .inr (by rw[mSq h];simp)
   .exact .inr (Jb h)
set_option tactic.hygienic true in
theorem xH:∀ps acc,acc.Nodup->(bp acc ps).Nodup
 |[],_,h=>h
 |p::ps,acc,h=>by
  rw[bp];apply xH ps _ ?_;split
  .exact h
  .rename_i c;apply Yn h (JZ List.not_mem_nil List.nodup_nil) (λa e b d=>?_);rw[mSq d];rintro rfl;exact c e
def dV (m:Nat)(r:List Int):Prop:=(∀k∈r,PIn m k)/\r.length<=20/\r.Nodup
def jz {H:Hp}{p d c b q:Addr}{T:List Tm}{As:List At}{Rs:List (List Int)}{ps:List Int}{Q:VK}{E:XK}(S:Gq K C H p d c b T Rs)(l:Jee q)(a:∀k∈ps,Jaj k)(e:GV 20)(g:Rs.length<200)
  (h:∀H' r v,Gq K C H' p d c b T (Rs++[r])->WV H c b->Ju r->Q v H'):gK K C (JC p q) H Q E:=by
 apply(p,d,c,b,q,T,As,Rs,ps,rfl,S.pr,l,e,a,g,λH' j i o=>h H' _ _ (i,S.dm,S.t3,S.tN) o (λk n=>?_,?_,xH _ _ List.nodup_nil))
 .exact(sP k ps [] n).elim (λh=>nomatch h) (a k)
 .have:=rK ps [];rw[List.length_nil]at this;lia
noncomputable def forB (s:Stmt):List Stmt:=match s with
 |.For _ _ b _ _=>b
 |_=>[]
abbrev NUn:List Str:=MI "_law_cell" "_law_atom"
def sQ:Vf NUn (Uk "_law_cell") kx:=fsc
abbrev unB:List Stmt:=forB ((zas kx).getD 0 (Jbo 0 0 0 0))
def unit1 (T:YP C)(R:JkG 2 fR K C)(O:J1 dR')(I:XW fR)
  {cdv:Value}{A:Around}{outer:List Env}{s:Shared}{H0:Hp}{E:XK}(n:JaY 2 "_law_units_added" kx f):
  ∃t,Jiu (Jd7 CX0 P w K NUn "_law_units_added" kx f A s H0 E).nox (unB.drop 1)/\
   ∀D H p g d a q As Rs c k,Gq K C H p g d a q Rs->IV 100->Rs.length<200->1<=k->k<=(As.length:Int)->
    (∀H' u N,Gq K C H' p g d a q (Rs++u)->WV H d a->(∀r∈u,Ju r)->u.length<=1->D.nx [Ja p,Ya N,Ya k] H')->t D [Ja p,Ya c,Ya k] H:=by
 apply Qq (ae (be (JlZ 1) (Jii 0 I R n O (bb (Gb (Q5 2))))
     aU) (Jmr (i:=1) sQ.nd (X3 1)))
 rfl'
 intro D H p g d a q As Rs c k S aN B k1 k2 z;apply JnO _ _ _ (by show Je 4;decide) _ (λm=>(_,rfl,_,_,rfl,rfl,Qd (by decide),z H [] _ (by rw[List.append_nil];exact S) (M9 _) (λr n=>nomatch n) (by decide)));let(dx,J):=S.pr.ob;apply Jfy _ p dx _ rfl J (jx _ _ _) _ rfl _ rfl lS1 (λl L=>?_);let y:=GX L (Jk4 (-k));apply jz (ps:=[-k]) (S.same y) (SqL.of ao) (λx j=>?_) (by simp) B λH' r v Q M h=>?_
 .rw[mSq j];exact Jf3 (by lia) (by lia)
 .apply(_,rfl,_,_,rfl,rfl,Qd (by decide),z H' [r] _ Q (λb o e G F=>M _ _ (y _ _ e) G F) (λx j=>?_) (by simp));rw[mSq j];exact h
inductive sR (K)(C):Sp|m{vs H Q E9} (p tl al rl) (T) (As) (Rs) (c):JlO (vs=XF p c) (IV 20->U9 Rs.length->(∀H' R',WQ K C H' p T (Rs++R')->WV H al rl->(∀r∈R',Ju r)->R'.length<=2*As.length->QP H')->sR K C vs H Q E9)
def Ds (F:Ix "_law_units_added" "_law_units_added" kx)(T:YP C)(GR:JkG 2 fR K C)(bR:J1 dR')(mR:XW fR):NF 3 (Uk "_law_cell") (sR K C):=by
 apply V_b sQ a
 let(p,y,d,g,z,As,Rs,c,rfl,S,aN,rN,q):=h;let(t1,h1,g1):=unit1 (cdv:=cdv) (outer:=outer) T GR bR mR a;apply Qq (aj (JE (yz rfl T.range (Ih af (WG cv (UJ 0)))) (i:=2) sQ.nd (ae (be (JlZ 1) (Jii 0 mR GR a bR (JiP 2))
     aU) h1)))
 rfl'
 let(dx,ys,ho,Y,yl):=S.pr.lenA;apply(_,rfl,p,C,dx,_,_,rfl,ho,T.cl,T.nA,cX _ _ _,d,ys,rfl,Jc Y,_,_,rfl,rfl,_,_,rfl,(by apply JhK ?_ ?_ ?_<;>lia -ac),ee (λi M H'=>WV H d g/\∃c D k,M=[Ja p,Ya c,D]/\Gq K C H' p y d g z (Rs++k)/\(∀r∈k,Ju r)/\k.length<=2*i) (M9 _,c,_,[],rfl,by rw[List.append_nil];exact S,(λr a=>nomatch a),by simp) ?_ ?_)
 .rintro i M B hi ⟨f2,c2,D,R2,rfl,J,U,l2⟩;let hi':i<As.length:=by lia
  let rl2:(Rs++R2).length<=140:=by rw[lAq];lia
  let G:∀u L,Fr2 B u d g->(∀r∈L,Ju r)->L.length<=1->∀t j I,Gq K C t p y d g z (Rs++R2++L++j)->Fr2 u t d g->(∀r∈j,Ju r)->j.length<=1->
    (Fr2 H t d g/\∃c D k,[some (V.ref p),some (V.int I),some (V.int (1+(i:Int)))]=[Ja p,Ya c,D]/\Gq K C t p y d g z (Rs++k)/\(∀r∈k,Ju r)/\k.length<=2*(i+1)):=λu L f3 R l3 t j I S4 Z O l4=>
   (f2.trans (f3.trans Z),I,_,R2++L++j,rfl,by rw[←List.append_assoc,←List.append_assoc];exact S4,λr a=>by
    rcases mPq a with a|a
    .rcases mPq a with a | a
     .exact U r a
     .exact R r a
    .exact O r a,by rw[lAq,lAq];lia)
  apply JnO _ _ _ (by show Je 4;decide) _ (λn=>g1 _ B p y d g z As (Rs++R2) c2 (1+(i:Int)) J (by lia) (by lia) (by lia) (by lia) λt j I S4 Z O l4=>G B [] (M9 _) (λr a=>nomatch a) (by simp) t j I (by rw[List.append_nil];exact S4) Z O l4);let(dx2,X):=J.pr.ob;apply NL _ p dx2 _ rfl X (jx _ _ _) _ rfl lS1 (λl Y=>?_);let s1:=GX Y (Jk4 (1+(i:Int)));apply jz (ps:=[1+(i:Int)]) (J.same s1) (SqL.of ao) (λx W=>?_) (by simp) (by lia) λu r v S3 f3 N=>?_
  .rw[mSq W];exact Jf3 (by lia) (by lia)
  .let f23:Fr2 B u d g:=λb o e n1 n2=>f3 _ _ (s1 _ _ e) n1 n2;let R:∀x∈[r],dV As.length x:=λx W=>by rw[mSq W];exact N
   exact g1 _ u p y d g z As _ c2 (1+(i:Int)) S3 (by lia) (by rw[lAq,lS];lia) (by lia) (by lia) (G u [r] f23 R (by simp))
 .rintro M B ⟨f2,c2,D,R2,rfl,J,U,l2⟩;exact q B R2 J f2 U (by lia)
def Fr2.seq (f:WV H z y)(h:JD a)(c:a≠z)(b:a≠y):Vi H' a xs:=by
 rcases h with (h|⟨o,h⟩)|h
 .exact UZ (f _ _ h c b)
 .exact Jem o (f _ _ h c b)
 .exact .inr h
def jA:Vf ["_law_problem","_law_script","_law_first","_law_many","_law_k","_law_cell","_law_row","_law_j","_law_turn"] (JjI "_law_many") l_:=fsc
inductive sS (K:W.Frag)(C:Addr):Sp|m{vs H Q E9} (p tl al rl a:Addr) (T:List Tm) (As:List At) (Rs:List (List Int)) (ns:List Int) (fs n:Int):JlO (vs=[.ref p,.ref a,.int fs,.int n]) (Jdi (∀H',WV H al rl->Vi H' a (ns.map V.int)) (0<=fs->U9 fs->0<=n->n<=40->IV 20->U9 Rs.length->(∀(H':Hp) (R':Yl Int),WQ K C H' p T (Rs++R')->WV H al rl->(∀r∈R',Ju r)->(R'.length:Int)=n->QP H')->sS K C vs H Q E9))
def Du (h0:0<=i)(a:i<9):∃n:Int,VP [V.int 1,V.int 2,V.int 2,V.int 3,V.int 2,V.int 1,V.int 3,V.int 2,V.int 5] i (.int n)/\1<=n/\n<=5:=by
 have:i=0\/i=1\/i=2\/i=3\/i=4\/i=5\/i=6\/i=7\/i=8:=by lia
 rcases this with rfl|rfl|rfl|rfl|rfl|rfl|rfl|rfl|rfl<;>exact Yu (by decide)
abbrev NRw:List Str:=["_law_problem","_law_script","_law_first","_law_many","_law_k","_law_cell","_law_row","_law_j","_law_turn"]
abbrev rwB:List Stmt:=forB ((forB ((zas l_).getD 0 (Jbo 0 0 0 0))).getD 2 (Jbo 0 0 0 0))
def rows1 (T:YP C)(G:Jg "max"){cdv:Value}{A:Around}{outer:List Env}{s:Shared}{H0:Hp}{E:XK} :
  ∃t,Jiu (Jd7 CX0 P w K NRw "_law_rows_added" l_ f A s H0 E).nox rwB/\
   ∀(D:iZ) (H:Hp) (p r a g:Addr) (dx N Q:Addr) (ys:List V) (n:Nat) (v m k c j:Int) (M:Option V) (ps:List Int),Jnp p (cV N r Q)->Uo r ys->JbE n->n<=20->Uo g (ps.map V.int)->GV 100->0<=j->U9 j->
    (∀(H':Hp) (B:List Int) (d:Option V),Jip g->Ql g (B.map V.int)->B.length<=ps.length+1->(∀q∈B,q∈ps\/PIn n q)->D.nx [Ja p,Ja a,Ya v,Ya m,Ya k,Ya c,Ja g,Ya j,d] H')->
    t D [Ja p,Ja a,Ya v,Ya m,Ya k,Ya c,Ja g,Ya j,M] H:=by
 apply Qq (X7 (i:=8) jA.nd (N_ (WG iK (WG cv (aX cv (X3 5) (JaS iK af 7))))) (i:=8) jA.nd (aX aM (WG cm (N_ (aX cv (Jhn iK 8 8) (JaS iK af 8)))) (Vg (uj rfl) G PyProof.Rows.Boot.max (Ih af (aX iK af (UJ 0))))) (aj (be (J_ (JgQ (UJ 0)) (WC dh (Mw aM 5))) (JbR 6 (Gb (aX iK (Jed (Ih af (VI af)) (Mw aM 8)) (aX cv af (X3 8)))))
       aU)))
 rfl'
 intro D H p r a g dx N Q ys n v m k c j M ps W X yl n20 I pl j0 j1 R;let m1:=cw ((c/9+7919*j+1)*48271) (show Je 1000003 by decide);apply(_,rfl,_,_,rfl,rfl,Qd (by decide),_,rfl,_,_,rfl,rfl,Jgb (by decide),_,_,rfl,rfl,_,_,rfl,rfl,_,_,rfl,rfl,.inr (Qd (by decide)),_,_,rfl,rfl,(by show Je 1000003;decide),?_);generalize (c/9+7919*j+1)*48271%1000003=u at m1;let S:Je (if 2*((ys.length:Nat):Int)>1 then 2*((ys.length:Nat):Int) else 1):=by split<;>lia
 let U:=cw ((u*u+40692*u)%2147483399/7) S;apply(_,rfl,_,rfl,_,_,rfl,rfl,Uh (by lia) (by lia),_,rfl,_,_,rfl,rfl,Jgb (by decide),_,_,rfl,rfl,_,_,rfl,rfl,(by show Je 2147483399;decide),_,_,rfl,rfl,Qd (by decide),_,rfl,p,C,dx,_,_,rfl,W,T.cl,T.nA,cX _ _ _,r,ys,rfl,Jc X,_,_,rfl,rfl,Jgb (by decide),_,_,rfl,_,_,rfl,rfl,S,?_);generalize (u*u+40692*u)%2147483399/7%(if 2*((ys.length:Nat):Int)>1 then 2*((ys.length:Nat):Int) else 1)=z at U
 let no:∀d,D.nx [Ja p,Ja a,Ya v,Ya m,Ya k,Ya c,Ja g,Ya j,d] H:=λd=>R H ps d (λ_ _ e _=>e) I (by lia) λq J=>.inl J;apply(_,rfl,p,C,dx,_,_,rfl,W,T.cl,T.nA,cX _ _ _,r,ys,rfl,Jc X,_,_,rfl,rfl,_,rfl,bo (λZ=>JnO _ _ _ (by show Je 81;decide) _ (λ_=>no _)) (λ_=>no _));let Z:Je ((ys.length:Nat):Int):=oDq Z;rw[if_pos (by lia)]at U;let b2:=cw z (show Je 2 by decide);apply Jcs _ (JeM I) _ rfl lS2 (λl L=>?_);let(H1,eN,O,n1):=Uq L (V9 1 (-1));rw[eN];let(e,he,Y):=si (x:=1) (y:=-1) b2.1 b2.2;apply(_,rfl,_,_,rfl,rfl,(by show Je 2;decide),l,_,_,_,rfl,rfl,SqL.of n1,he,_,rfl,_,_,rfl,rfl,Qd (by decide),_,_,rfl,rfl,_,_,rfl,rfl,.inl (by rcases Y with rfl|rfl<;>exact Qd (by decide)),g,_,_,rfl,rfl,O _ _ I,eg (by rw[lM];lia),?_);apply R _ (ps++[e*(1+z/2)]) _ (λb o e n=>by rw[aq n];exact O _ _ e) (by rw[ao,mAq];rfl) (by rw[lAq];exact nRq _) λq J=>?_;rcases mPq J with h|h
 .exact .inl h
 .apply .inr ?_;rw[mSq h];unfold PIn;rcases Y with rfl|rfl<;>lia
def Dv (F:Ix "_law_rows_added" "_law_rows_added" l_)(T:YP C)(nMx:Jg "max")(GR:JkG 2 fR K C)(bR:J1 dR')(mR:XW fR)(R:Jno P w K 1 fC dC (kH K)):NF 3 (JjI "_law_many") (sS K C):=by
 apply V_b jA L
 let(p,Y,N,J,a,Tt,As,Rs,ns,t,n,rfl,S,kS,l,fs0,fs1,n0,n1,aN,rN,q):=h;let hr1:Jk2 1:=L.mono (by decide);let(t1,h1,g1):=rows1 (P:=P) (w:=w) (base:=base) (f:=f) (cdv:=cdv) (A:=A) (outer:=outer) (s:=s) (H0:=H) (E:=E) T nMx;apply Qq (aj (JE (Jny 3) (i:=4) jA.nd (JS (i:=5) jA.nd (V3 R.ok hr1 R.m R.kp R.b 1 (Jhn cv 2 4)) (Nn (i:=6) jA.nd (bb ac) (JE (Jbc (Gb (Jed (JgF af af (JgF af af (JgF af af (XM af af af)))) (Mw aM 5)))) (i:=7) jA.nd h1) (QG 0 mR GR L bR (Jd 6))))))
 rfl'
 apply JdA _ n (by lia) (by lia) (ee (lo:=0) (n:=n.toNat) (λi d H'=>WV H N J/\∃(X W U y u:Option V) (R':Yl Int),d=[Ja p,Ja a,Ya t,Ya n,X,W,U,y,u]/\Gq K C H' p Y N J Tt (Rs++R')/\(∀r∈R',Ju r)/\R'.length=i) (M9 _,none,none,none,none,none,[],rfl,by rw[List.append_nil];exact S,(λr L=>nomatch L),rfl) ?_ ?_)
 .rintro i d I hi ⟨M,X,W,U,y,u,R2,rfl,O,r2,l2⟩;let hi':i<n.toNat:=hi;let hS2:Vi I a (ns.map V.int):=kS I M;apply(_,rfl,_,rfl,_,rfl,_,_,rfl,rfl,a,ns,_,rfl,hS2,l,(by show Jc9 (t+(0+(i:Int)));lia),(by show Jt (t+(0+(i:Int)));lia),λc=>?_);apply JbF (λlw G=>?_);let(H3,eN,s3,n3):=Uq G [];rw[eN];let b3:=cw c (show Je 9 by decide);let(m,hm,m1,m5):=Du b3.1 b3.2;apply((by show Ic 9;decide),λl9 hl9=>?_);let(H9,eN,s9,n9):=Uq hl9 [V.int 1,V.int 2,V.int 2,V.int 3,V.int 2,V.int 1,V.int 3,V.int 2,V.int 5];rw[eN];apply(_,rfl,_,_,rfl,rfl,(by show Je 9;decide),l9,_,_,_,rfl,rfl,SqL.of n9,hm,_,rfl,by lia,by lia,ee (lo:=0) (n:=m.toNat) (λj d H'=>Xd I∧∃(y u:Option V) (ps:List Int),d=[Ja p,Ja a,Ya t,Ya n,Ya (0+(i:Int)),Ya c,Ja lw,y,u]∧Ql lw (ps.map V.int)∧GV j∧∀k∈ps,Jaj k) (s3.trans s9,_,_,[],rfl,s9 _ _ n3,nRq _,λk hk=>nomatch hk) ?_ ?_)
  .rintro j d H4 hj ⟨B,w7,w8,ps,rfl,hw,pl,g⟩;let hj':j<m.toNat:=hj;let(dx,ys,ho,hl,yl):=(O.same B).pr.lenA;apply g1 _ H4 p N a lw dx Y J ys As.length t n _ c _ w8 ps ho hl yl aN hw (by lia) (by lia) (by lia) λH' qs v8' f' hw' ql qin=>?_;exact(λb o e=>f' b o (B b o e) (λz=>by rw[z,G]at e;cases e),_,_,qs,rfl,hw',by lia,λk hk=>(qin k hk).elim (g k) id)
  .rintro d H4 ⟨B,w7,w8,ps,rfl,hw,pl,g⟩;let S4:=O.same B;let(dx,ho):=S4.pr.ob;apply XI _ p dx _ rfl ho (jx _ _ _) _ rfl ?_;apply jz (ps:=ps) S4 (SqL.of hw) g (by lia) (by rw[lAq];lia) λH5 r v S5 f5 Z=>?_;apply(M.trans (λb o e m1 m2=>f5 _ _ (B _ _ e) m1 m2),_,_,_,_,_,R2++[r],rfl,by rw[←List.append_assoc];exact S5,λx D=>?_,by rw[lAq,l2];rfl);rcases mPq D with D | D
   .exact r2 x D
   .rw[mSq D];exact Z
 .rintro d I ⟨M,X,W,U,y,u,R2,rfl,O,r2,l2⟩;exact q I R2 O M r2 (by lia)
noncomputable def zgm (Rs:Yl Int)(ps:List Int):Bool:=Rs.all λr=>r.any λk=>decide (k∈ps)
inductive pd (K)(C):Sp|m{vs H Q E9} (p tl al rl q) (T) (As) (Rs) (ps):vs=JC p q->JhD H->GY q->(∀r∈Rs,U9 r.length)->(∀H',ID (Yo (zgm Rs ps) H'))->pd K C vs H Q E9
def xI:Vf (MI "_law_held" "_law_row") (Uk "_law_held") oH:=fsc
theorem xJ:∀Rs:Yl Int,WU (Rs.map dR)
 |[]=>rfl
 |r::Rs=>by simp only[List.map_cons,a_,dR,nol,iO,xJ Rs,Bool.and_self]
def Dw (F:Ix "_law_each_held" "_law_each_held" oH)(T:YP C):Jih (Uk "_law_held") (pd K C):=by
 apply II xI
 let(p,tl,al,R,q,Tt,As,Rs,ps,rfl,S,hq,z,Q0):=h;let hu:=gp hr;apply Qq (J3 (Jck (Xe 0) (i:=2) xI.nd (aj (be (aA (pS hu) (GA (N':=["_law_part","_law_held"]) (ix:=[1]) rfl rfl rfl (λok=>JgX (sc:=ai oH)) rfl rfl (λj i h=>match j,h with | 0,h=>by cases h;exact QO _ | n+1,h=>by simp at h) (Jmj 2) (λm m m m=>(aA (r:=rIn K false) uQ (pv 0) (pv 1) rfl)) (λm m m m=>(pv 0))) (bb ac) rfl) (Ud de)
     aU))) de)
 rfl'
 let((dx,ho),_,_,(xs,X,hR)):=id S;let xl:Mz Rs.length:=by rw[<-hR.length,lM]
 apply(_,rfl,p,C,dx,_,_,rfl,ho,T.cl,T.nR,jv _ _ _,R,rfl,Jv X,JeA cR (λi J H'=>Xd H/\∃N,J=[some _,some _,N]/\Xh (zgm (Rs.take i) ps)) (λi J H' h=>by let⟨g⟩:=h;exact Jk7 _ _ X) (M_ (ap.refl _) none))
 .rintro i J H8 x H2 hi ⟨g,N,rfl,I⟩ ⟨rfl,hx⟩;let(r,a,u,rfl,ha):=Cz (hR.keep g.kt (xJ _)) (hx _ (Jk7 _ _ X));let R:=z r (mO u);apply Jdz _ a ha (λD hD=>gq eJ (λj us H'=>Xd H2∧us=((r.take j).filter λk=>decide (k∈ps)).map V.int) (λj us H' (d,_)=>d.tup ha) (YJ hD) ?_ ?_)
  .rintro j us H8 y H4 L G b ⟨d,rfl⟩ ⟨rfl,hy⟩;let Z:j<r.length:=by rw[lM]at L;exact L
   let t:=gG Z;generalize r[j]=k at t;let M:=hy _ (d.tup ha);rw[List.getElem?_map,t]at M;injection M with M;subst M;let U:=(g.trans d).tup hq;apply XJ _ _ rfl q _ rfl (.inr U) rfl (p_ _) _ rfl ?_;rw[nN];apply Nf (λc=>?_)
   .let c1:k∈ps:=by simpa using c
    exact Yu (Gz _ (by rw[lM];lia) L G b (d.upd hD,by rw[bf t,List.filter_append,List.filter_cons,N4 c1,mAq];rfl))
   .let c1:¬k∈ps:=by simpa using c
    exact f_ L G b (d,by rw[bf t,List.filter_append,List.filter_cons,if_neg (by simp [c1]),List.filter_nil,List.append_nil])
  .rintro us H4 b ⟨d,rfl⟩;rw[tO (by rw[lM];exact nRq _)]at b;apply JbF (λl W=>?_);let O:=GX W [];let n5:=ao (H:=H4) (a:=l) (o:=.lst []);generalize WW H4 l=H5 at O n5;let v:=g.trans (d.trans O);apply(.lst _,.lst [],Jgf (O _ _ b) _,Jll n5,(by simp only[dep,hV];decide),_,rfl,?_);by_cases e:(r.filter λk=>decide (k∈ps))=[]
   .rw[e];apply bU ?_;have:Xx (zgm Rs ps):=by unfold zgm;rw[List.all_eq_false];apply Id r (mO u);rw[List.any_eq_true];rintro ⟨k,t,Y⟩;have:k∈r.filter λk=>decide _:=Ig t Y;rw[e]at this;cases this
    let B:=Q0 H5 v;rw[this]at B;exact B
   .let e2':Xx (peq (.lst ((r.filter λk=>decide (k∈ps)).map Dt.int)) (.lst [])):=by
     cases h:(r.filter λk=>decide (k∈ps)) with
     |nil=>exact absurd h e
     |cons x xs=>rfl
    rw[e2'];apply bq (Yv v _ ?_);let(k,t):=List.exists_mem_of_ne_nil _ e;let(h1,h2):=List.mem_filter.mp t;unfold zgm at I⊢;rw[bf u,List.all_append,I];simp only[List.all_cons,List.all_nil,Bool.and_true,Bool.true_and];rw[List.any_eq_true];exact(k,h1,h2)
 .rintro J H2 ⟨g,N,rfl,I⟩;rw[tO (by lia)]at I;let B:=Q0 H2 g;rw[I]at B;exact B
end K52
namespace Le52
open PySem L2
abbrev s_levels:Stmt:=K52.s_levels
abbrev s_part_levels:Stmt:=K52.s_part_levels
abbrev s_is_replaced:Stmt:=K52.s_is_replaced
abbrev s_learnt:Stmt:=K52.s_learnt
structure Txt (K)(mg:UT Str):Prop where
 len:Jg "len"
 dict:Jg "dict"
 range:Jg "range"
 tuple:Jg "tuple"
 list:Jg "list"
 any:Jg "any"
 zip:Jg "zip"
 reversed:Jg "reversed"
 max:Jg "max"
 isinstance:Jg "isinstance"
 int:Jg "int"
 bool:Jg "bool"
 abs:Jg "abs"
 ib:JkC K "int" "bool" false
inductive sT (K):Sp|m{vs H Q E9} (a) (xs) (ts):vs=Gj a->JD a->Jnm dP->JI 100->(∀H' l,JgS l (Ql l ((Jk8 ts).map V.int)) l)->sT K vs H Q E9
def mD:Vf ["trail","found","level","step"] ["trail"] s_levels:=fsc
def ok_levels (F:Ix "levels" "levels" s_levels):Jih ["trail"] (sT K):=by
 apply V_b mD G
 let(a,xs,ts,rfl,v,y,I,q):=h;let d:Mz ts.length:=by rw[<-y.length,lM]
 apply Qq (X7 (i:=1) mD.nd (bb ac) (i:=2) mD.nd af (ae (Jck (pv 0) (i:=3) mD.nd (ae (be (JlV 3 (VI af)) (aj (ps_aug (i:=2) mD.nd rfl (Or.inl rfl) af ip_add))
     aU) (JbR 1 (Jd 2)))) (QJ 1)))
 rfl'
 apply(Nat.zero_le _,λl e=>UP _ a (xs,(Wm e).seq v) (yB (xs:=xs) (λi j H'=>Ex3 λ c st ys=>An5 (j=[Ja a,Ja l,Ya c,st]) (c=Im i) (Xd H) (JgN l) (ys=(gc ts i).map V.int))
  (Ji0 0 none [] (Wm e) ao rfl) ?_ ?_ ?_))
 .rintro i j H' _ ⟨c,st,ys,_,_,s⟩;exact s.seq v
 .rintro i x j H' u ⟨c,st,ys,rfl,rfl,s,b,rfl⟩;let(t,p,C,rfl,D):=gS y u;let J:W4 i:=(gEq u).1;let n:=s.tup D;let k:=jV C;let B:=Aw ts i;let r:((gc ts i).map V.int).length<sizeLine:=by rw[lM,vD];exact eg (by lia)
  apply(_,rfl,p,_,_,_,rfl,rfl,n,rfl,_,rfl,rfl,_,rfl,Nf (λc=>?_))
  .let o:t.2=-1:=by have:=oDq c;injection this
   let g:zaS t=1:=by unfold zaS;rw[if_pos o]
   apply(_,rfl,_,_,rfl,rfl,_,rfl,JeM b,_,rfl,l,_,_,rfl,rfl,b,r,_,_,_,rfl,?_,s.upd e,ao,?_)
   .rw[k,g]
   .rw[B,k,g,mAq];rfl
  .let o:¬t.2=-1:=λz=>Jbi (by rw[z]);let g:zaS t=0:=by unfold zaS;rw[if_neg o]
   apply(_,rfl,JeM b,_,rfl,l,_,_,rfl,rfl,b,r,_,_,_,rfl,?_,s.upd e,ao,?_)
   .rw[k,g,Int.add_zero]
   .rw[B,k,g,Int.add_zero,mAq];rfl
 .rintro j H' ⟨c,st,ys,rfl,rfl,s,b,rfl⟩;apply Yu (q H' l s e ?_);rw[b,d]
inductive sU (K):Sp|m{vs H Q E9} (a) (xs) (ts):vs=Gj a->JD a->Jnm dP->JI 100->(negs ts).Nodup->(∀H' d,JgS d (JgA H' d) d)->sU K vs H Q E9
def pe:Vf ["trail","found","step","level"] ["trail"] s_part_levels:=fsc
def ok_part_levels {P:Program}{w:World}{K:W.Frag}{mg:Str→Option Value}{base:Heap}{f fL:Addr}{fd dL:FuncData}(F:Ix "part_levels" "part_levels" s_part_levels)(T:JdT K)(g:IS 1 "levels" fL dL ["trail"] (sT K)):NF 2 ["trail"] (sU K):=by
 apply II pe
 let(a,xs,ts,rfl,G,Y,hn,nd,q):=h;let hu:=dr hr;let n:Mz ts.length:=by rw[<-Y.length,lM]
 apply Qq (Nn (i:=1) pe.nd gZ (Ib rfl (Ab rfl T.zip (QQ 0 (Jfg g.ok hr g.m g.kp g.b aJ 0))) (kR rfl (Jdu (i:=2) pe.nd (Jdu (i:=3) pe.nd kQ))) (aj (Jk0 hu (pv 1) (VI (Yk 2)) (pv 3)))) (QJ 1))
 rfl'
 apply λd X=>?_;let(H0,eN,M,U):=nwH X (.dK []);rw[eN];apply NL _ _ rfl a xs ts rfl (M.seq G) (Nu M.kt _ Y) hn (λH1 l s1 hl v=>?_);let u:=M.trans s1;let S:=s1 _ _ U;let el:((Jk8 ts).map V.int).length=xs.length:=by rw[lM,vD,n]
 apply(a,l,rfl,Qu (u.seq G),Jv v,JeA (zY el.symm) (λi B H'=>Ex3 λ L J kvs=>An6 (B=[Ja a,Ja d,L,J]) (Xd H) (Ql l ((Jk8 ts).map V.int)) (JeG d kvs) (WP i) (∀p:Int,I0 p=if p∈JcH i then Ya (Gm p) else none)) (λi B H' h=>by let(_,_,_,_,o,r):=h;exact(o.seq G,SqL.of r)) (none,none,[],rfl,u,v,S,nRq _,λp=>by simp [br,negs]))
 .rintro i B H' x H'' hi ⟨L,J,kvs,rfl,o,r,j,lk,D⟩ ⟨p,y,z,rfl,hp,rfl,hy,hz⟩;let(t,Z,ht,rfl,R):=gS Y (hy _ (o.seq G));let O:=hz _ (SqL.of r);let(c,hc,rfl):=cz O;rw[Ax ts (by lia)]at hc;cases hc;let C:VB H' H' p (XF Z (Im (i+1))):=Wm hp;apply(p,_,rfl,SqT.of ao,rfl,_,_,rfl,_,_,rfl,rfl,?_);let N:l≠d:=λe=>by rw[e,j]at r;cases r
  apply Jfw _ _ rfl _ rfl Z _ _ _ rfl rfl ((o.trans C).tup R) rfl _ rfl d _ rfl (fe.k (k:=Sum.inl _) (C _ _ j) (eg (by lia))) ?_;apply(_,_,_,rfl,(o.trans C).upd X,?_,ao,?_,λq=>?_)
  .rw[aq N];exact C _ _ r
  .have:=nO kvs (Sum.inl (-t.1)) (.int (Im (i+1)));lia
  .rw[gW,D];let em:JcH (i+1)=JcH i++[-t.1]:=by unfold negs;rw[bf ht,mAq];rfl
   rw[em];by_cases e:q=-t.1
   .subst e;rw[if_pos rfl,Jmp (by simp),c_ nd ht]
   .rw[if_neg (λz=>e (by cases z;rfl))];by_cases I:q∈JcH i
    .rw[if_pos I,Jmo I]
    .rw[if_neg I,if_neg (λz=>by
      rcases mPq z with z|z
      .exact I z
      .exact e (mSq z))]
 .rintro B H' ⟨L,J,kvs,rfl,o,r,j,lk,D⟩;rw[n,VM _]at D;exact Yu (q H' d o X (kvs,j,D))
def lvK (ts:Wl Int):Key->Int
 |.inl m=>Gm m
 |.inr _=>0
inductive mE (K:W.Frag):Sp|m{vs H Q E9} (p y last) (kd ld) (ks) (n) (ts):vs=[.int p,.int y,.ref kd,.ref ld,.int last]->Kst H kd ks n->JgA H ld->kd≠ld->Jh2 n->(∀m∈ks,Jl_ m)->(∀H',ID (Yo (cM ts ks last p y) H'))->mE K vs H Q E9
def Dx:Vf (Jhl "why") (Jhl "why") s_is_replaced:=fsc
def any_ks {ts:List (Iz Int)}{ks:List Int}{kvs:List (Jce V)}{p a:Int}(k:∀m:Int,(I0 m).isSome=decide (m∈ks))(r:∀c∈kvs,∃m:Int,XP c.1 m):
  (((kvs.filter λc=>decide (JgH c.1 p)).map λc=>decide (lvK ts c.1=a)).any id)=ks.any λo=>decide (o≠p)&&decide (Gm o=a):=by
 rw[Bool.eq_iff_iff,List.any_eq_true,List.any_eq_true];constructor
 .rintro ⟨b,n,eb⟩;let(c,i,e):=List.mem_map.mp n;let(f,q):=List.mem_filter.mp i;let(m,g):=r c f;let h:m∈ks:=by
   have:(I0 m).isSome=true:=by rw[<-gU];exact UY c f (dTq g)
   rw[k]at this;exact oDq this
  apply Id m h;let j:=oDq q;rw[g]at j e;let l:m≠p:=λz=>j (by rw[z]);let s:decide (Gm m=a)=true:=by
   have:decide (lvK ts (Sum.inl m)=a)=true:=by rw[e];exact eb
   exact this
  rw[dTq l,s];rfl
 .rintro ⟨m,h,e⟩;rw[Bool.and_eq_true]at e;have:(I0 m).isSome=true:=by rw[k];exact dTq h
  rw[<-gU]at this;let(c,f,g):=List.any_eq_true.mp this;let d:=oDq g;apply GB true (Vd c (Ig f (dTq λz=>(oDq e.1) ?_)) ?_)
  .rw[d]at z;cases z;rfl
  .rw[d];exact e.2
def ok_is_replaced {P:Program}{w:World}{K:W.Frag}{mg:Str→Option Value}{base:Heap}{f:Addr}{fd:FuncData}(F:Ix "is_replaced" "is_replaced" s_is_replaced)(T:JdT K):Jih (Jhl "why") (mE K):=by
 apply II Dx
 let(p,y,a,t,ld,ks,n,ts,rfl,hk,hl,ne,n5,sub,q):=h;let X:=dr hr;let(kvs,k1,k2,k3,k4):=id hk;let(N,l1,l2):=id hl;apply Qq (Wb (be (JcR (Jei X (pv 0) (pv 2)) (XZ bO 1 (VI af))) (Ud de)
   aU) (be (Jdv (Jm6 X 3 0 (λ_ _=>rfl))) (Ud de)
   aU) (J3 (be (aA dh (Jm6 X 3 0 (λ_ _=>rfl)) (pv 4)) (Ud de)
   aU) (Vg (zL rfl) T.any PyProof.Rows.Boot.any (Gb (Ad (GA (N':=["other","last","level_of","part"]) (ix:=[4,3,0]) rfl rfl rfl (λok=>JgX (sc:=ai s_is_replaced)) rfl rfl (λj i h=>match j,h with|0,h=>by cases h;exact QO _|1,h=>by cases h;exact QO _|2,h=>by cases h;exact QO _|n+3,h=>by simp at h) (Ac (pv 2)) (λ_ _ _ _=>(XZ dh 0 (pv 3))) (λ_ _ _ _=>(fZ bO (Jm6 X 2 0 (λ_ _=>rfl)) (pv 1)))))))))
 rfl'
 apply XI _ _ rfl t _ rfl (bV.k (k:=Sum.inl p) k1) _ rfl ?_;rw[k2];let l:=JdV H _;unfold cM at l;by_cases e:p∈ks
 .rw[dTq e]at l ⊢;apply bq (Ji0 _ rfl _ _ rfl (Nf (λc=>?_)))
  .let Y:y=-1:=by have:=oDq c;injection this
   rw[dFq (λz=>z Y)]at l;exact l
  .let Y:y≠-1:=λz=>Jbi (by rw[z]);rw[dTq Y]at l;let hp:Xg N p=some (.int (Gm p)):=by rw[l2,if_pos (sub p e)]
   let g:=bV.k (k:=Sum.inl p) l1;rw[hp]at g;apply JX _ _ rfl ld _ g rfl _ rfl (bo (λc0=>?_) (λc0=>?_))
   .let e0:Gm p=0:=by have:=oDq c0;injection this
    rw[dTq e0]at l;exact l
   .let e0:Gm p≠0:=λz=>c0 (dTq (by rw[z]));rw[dFq e0]at l;apply Jfz _ _ rfl ld _ g _ rfl rfl _ rfl (bo (λU=>?_) (λU=>?_))
    .let Z:Gm p≠a:=λz=>by rw[z]at U;rw[dTq (rfl:Jjj a a)]at U;cases U
     rw[dFq Z]at l;exact l
    .let Z:Gm p=a:=by
      by_cases z:Gm p=a
      .exact z
      .apply absurd ?_ U;rw[dFq (λr=>z (by injection r))];rfl
     rw[dTq Z]at l;apply Jcs _ t kvs rfl k1 (λo D R=>gq z_ (λi ys H'=>Vk t _/\(∀b u,b≠t->JeR b u b u)/\ys=(((kvs.take i).filter λC=>decide (JgH C.1 p)).map λC=>decide (lvK ts C.1=a)).map V.bl) (λi ys H' (G,_)=>G) ?_ ?_ ?_)
     .let M:t≠D:=λz=>by rw[←z,ao]at R;cases R
      apply GB ?_ (λb u L B=>?_)
      .rw[aq M];exact ao
      .let I:b≠D:=λz=>by rw[z]at B;rw[aq (λr=>L (z.trans r)),B]at R;cases R
       rw[aq I,aq L];exact B
     .rintro i ys H' x H'' hi O d ⟨G,S,rfl⟩ ⟨rfl,k,v,J,rfl⟩;let(m,em):=k4 _ (mO J);let em':=em;subst em';let hm:m∈ks:=by
       have:(I0 m).isSome=true:=by rw[<-gU];exact UY _ (mO J) (dTq rfl)
       rw[k2]at this;exact oDq this
      let et:((kvs.take (i+1)).filter λC=>decide (JgH C.1 p))=if m≠p then((kvs.take i).filter λC=>decide (JgH C.1 p))++[(Sum.inl m,v,)] else(kvs.take i).filter λC=>decide (JgH C.1 p):=by
       rw[bf J,List.filter_append];by_cases z:m=p
       .rw[if_neg (λh=>h z),List.filter_cons,if_neg (by simp [z]),List.filter_nil,List.append_nil]
       .rw[if_pos z,List.filter_cons,if_pos (by apply dTq λr=>z ?_;cases r;rfl),List.filter_nil]
      apply Ji0 _ rfl _ _ rfl ?_;by_cases z:m=p
      .subst z;rw[show Xx (!decide _) by let z:kV (Sum.inl m)=V.int m:=rfl;rw[z,dTq rfl];rfl]
       apply bq (f_ hi O d (Id G S));rw[et,if_neg (λh=>h rfl)]
      .rw[show Xh (!decide _) by let z2:¬(Jji (kV (Sum.inl m)) p):=λr=>z (by injection (show Jjj m p from r));rw[dFq z2];rfl]
       let hl2:=S ld _ (Ne.symm ne) l1;let g2:=bV.k (k:=Sum.inl m) hl2;rw[l2,if_pos (sub m hm)]at g2;apply bU (JX _ _ rfl ld _ g2 _ rfl rfl (cx (Nat.le_trans k3 (by rw[sizeLine_eq];lia)) hi O d (Id ?_ (λb u L B=>?_))))
       .let M:t≠D:=λz=>by rw[z,d]at G;cases G
        rw[aq M];exact G
       .let I:b≠D:=λz=>by rw[z]at B;have:=R;rw[aq (λr=>L (z.trans r)),B]at this;cases this
        rw[aq I];exact S b u L B
       .rw[et,if_pos z,mAq,mAq];let e5:decide (Jjj (Gm m) a)=decide (Gm m=a):=Ja6 (λz=>by injection z) (λz=>by rw[z]);rw[e5];rfl
     .rintro ys H' d ⟨G,S,rfl⟩;rw[VM _]at d;apply(t,o,kvs,G,λo' u' z=>?_,?_)
      .let r:=z;rw[k1]at r;cases r
      .let M:D≠t:=λz=>by rw[z,G]at d;cases d
       let s1:MU (Qc H' t kvs):=λb u B=>by
        by_cases z:b=t
        .subst z;rw[ao,<-k1];exact B
        .rw[aq z];exact S b u z B
       apply Gn D _ (SqL.of (by rw[aq M];exact d)) ?_;let q1:=q _ s1;unfold cM at q1;rw[dTq e,dTq Y,dFq e0,dTq Z,<-any_ks (kvs:=kvs) k2 k4]at q1;exact q1
 .rw[dFq e]at l⊢;exact bU (bU l)
inductive sp_learnt (K):Sp|m{vs H Q E9} (rl tl) (f) (xs zs) (Rs) (ts):vs=VU rl tl f->JD rl->Jal zcM->Ww tl zs->QC dP zs->JiC f->JI 100->(∀r∈Rs,U9 r.length)->(∀H' t tp th m,UN t (JfK (Vw t (VU tp th m)) (Vw tp ((WK f).map V.int)) (Vw th ((cA Rs ts f).reverse.map V.int)) (jo (((WK f).drop 1).map (lvF ts)) m) t))->sp_learnt K vs H Q E9
def iX:Vf ["rows","trail","fails","level_of","last","kept","hints","step","parts","level"] ["rows","trail","fails"] s_learnt:=fsc
abbrev NLn:List Str:=["rows","trail","fails","level_of","last","kept","hints","step","parts","level"]
def Dy (T:JdT K)
  {cdv:Value}{A:Around}{outer:List Env}{s:Shared}{H0:Hp}{E:XK}(hr:JaY 2 "learnt" s_learnt f):
  ∃t,Jiu (Jd7 CX0 P w K NLn "learnt" s_learnt f A s H0 E).nox ((zas s_learnt).drop 5)/\
   ∀D X H Y ld kd S zs Rs ts a n v0 v2 v4 v7,ap X H->Ww Y zs->QC dP zs->JiC a->JI 100->Kst H kd (gu Rs ts a) n->JgA H ld->Uo S ((cA Rs ts a).map V.int)->
    (∀H' t u b m,Mn X (Uf (X t)->Vw t (VU u b m)->Vw u ((WK a).map V.int)->Vw b ((cA Rs ts a).reverse.map V.int)->jo (((WK a).drop 1).map (lvF ts)) m->JmR (.ref t)))->
    t D [v0,Ja Y,v2,Ja ld,v4,Ja kd,Ja S,v7,none,none] H:=by
 let hu:=dr hr;apply Qq (X7 (i:=8) iX.nd (Iw jf rfl T.tuple (Gb (GA (N':=["step","kept"]) (ix:=[5]) rfl rfl rfl (λok=>JgX (sc:=ai s_learnt)) rfl rfl (λj i h=>match j,h with|0,h=>by cases h;exact QO _|n+1,h=>by simp at h) (qf rfl T.reversed (Jd 1)) (λ_ _ _ _=>(eW (lx hu (JlF (r:=dk K)) (pv 1)))) (λ_ _ _ _=>(JlF (r:=dk K)))))) (i:=9) iX.nd (Ap rfl rfl T.max (Gb (Vj (N':=["part","level_of"]) (ix:=[3]) rfl rfl rfl (λok=>JgX (sc:=ai s_learnt)) rfl rfl (λj i h=>match j,h with|0,h=>by cases h;exact QO _|n+1,h=>by simp at h) (eY (jP qj (pv 8) (jO af) jN)) (λ_ _ _ _=>(Jm6 hu 1 0 (λ_ _=>rfl))))) (yV af yU)) (Jmq (Va 8 (JbI (Au rfl rfl T.tuple rfl T.reversed (Jd 6)) 9))))
 rfl'
 rintro D X H Y ld kd S zs Rs ts a n v0 v2 v4 v7 M hS hL ok l100 hk hv hh q;let zl:Jdb ts.length:=by rw[<-hL.length,lM]
 let(kvs,k1,k2,k3,k4):=id hk;let(lvs,l1,l2):=id hv;let np:(negs ts).reverse.length=ts.length:=by rw[List.length_reverse,g_]
 apply Jcs _ Y zs rfl hS (λDl U=>gq qe (λi ys H'=>Xd H/\ys=(((negs ts).reverse.take i).filter λp=>decide (p∈gu Rs ts a)).map V.int) (λi ys H' (l,_)=>l.seq hS) (YJ U) ?_ ?_)
 .rintro i ys H' x H'' hi y o ⟨l,rfl⟩ ⟨rfl,hx⟩;let(t,p,C,rfl,L):=gS hL (hx _ (l.seq hS));let e0:zs.length-1-i=Xt 1-i:=by rw[zl]
  rw[e0]at C;let hr':(negs ts).reverse[i]?=some (-t.1):=by rw[vI,List.getElem?_map,jY (by lia),C];rfl
  let et:(((negs ts).reverse.take (i+1)).filter λp=>decide (p∈gu Rs ts a))=if -t.1∈gu Rs ts a then(((negs ts).reverse.take i).filter λp=>decide (p∈gu Rs ts a))++[-t.1] else((negs ts).reverse.take i).filter λp=>decide (p∈gu Rs ts a):=by
   rw[bf hr',List.filter_append];by_cases e:-t.1∈gu Rs ts a
   .rw[if_pos e,List.filter_cons,N4 e];rfl
   .rw[if_neg e,List.filter_cons,if_neg (by simp [e]),List.filter_nil,List.append_nil]
  apply Jfw _ p _ _ _ rfl rfl (l.tup L) rfl _ rfl _ rfl kd _ rfl (bV.k (k:=Sum.inl (-t.1)) (l _ _ k1)) _ rfl ?_;rw[k2];by_cases e:-t.1∈gu Rs ts a
  .rw[dTq e];apply bU (IY _ p _ _ _ rfl rfl (l.tup L) _ rfl (Jcn _ hi y o (l.upd U)));rw[et,if_pos e,mAq];rfl
  .rw[dFq e];apply bq (JjQ hi y o l);rw[et,if_neg e]
 rintro ys H1 o ⟨l,rfl⟩;rw[zl,tO (by lia)]at o;apply Yv Dl _ (JbK o (λu Q=>?_));let s2:VB H1 H1 u ((WK a).map V.int):=Wm Q;let N:=l.trans s2;let B:∀p∈(WK a).drop 1,p∈negs ts:=λp L=>List.mem_reverse.mp (List.mem_filter.mp (List.mem_of_mem_drop L)).1;let O:((WK a).drop 1).length<=100:=by let h1:(WK a).length<=(negs ts).reverse.length:=YE _;rw[List.length_drop];lia
 apply Jfe _ _ (AD (ps:=WK a) (SqT.of ao) λH3 tq Z hq=>?_);generalize hpt:(WK a).drop 1=pt at hq B O q;apply Ul tq (Qu hq) (λDe W=>Jl3 eJ (λi ys H'=>Xd H3/\ys=((pt.take i).map (lvF ts)).map V.int) (λi ys H' (v,_)=>v.tup hq) W)
 .rintro i ys H' x H'' hi y c ⟨v,rfl⟩ ⟨rfl,hx⟩;let(p,L,rfl):=GW _ (v.tup hq);let g:=bV.k (k:=Sum.inl p) (((N.trans Z).trans v) _ _ l1);rw[l2,if_pos (B p (mO L))]at g;apply(_,rfl,_,rfl,ld,_,rfl,g,cx (by rw[lM];exact Jk3 _) hi y c (Mm (v.upd W)));rw[bf L,mAq,mAq];rfl
 rintro ys F c ⟨v,rfl⟩;rw[lM,VM _]at c;let d:=(N.trans Z).trans v;apply Ji0 De (pt.map (lvF ts)) 0 (Jc c) (λe=>?_) (λm hm R=>?_)
 .apply(_,rfl,_,rfl,S,_,rfl,SqL.of (d _ _ hh),λb J=>?_);let I:VB F F b ((cA Rs ts a).map V.int).reverse:=Wm J;apply Ul _ lS3 (λt C=>?_);let G:VB _ (Mb F b ((cA Rs ts a).map V.int).reverse) t (VU u b 0):=Wm C;apply q _ t u b 0 (M.trans ((d.trans I).trans G)) ((M.trans (d.trans I)).free C) ao ?_ ?_ (λ_=>rfl,λz=>absurd e z)
  .exact G _ _ (I _ _ (v _ _ (Z _ _ ao)))
  .rw[List.map_reverse];exact G _ _ ao
 .apply(_,rfl,_,rfl,S,_,rfl,SqL.of (d _ _ hh),λb J=>?_);let I:VB F F b ((cA Rs ts a).map V.int).reverse:=Wm J;apply Ul _ lS3 (λt C=>?_);let G:VB _ (Mb F b ((cA Rs ts a).map V.int).reverse) t (VU u b m):=Wm C;apply q _ t u b m (M.trans ((d.trans I).trans G)) ((M.trans (d.trans I)).free C) ao ?_ ?_ (λz=>(by rw[z]at hm;cases hm),λ_=>(hm,R))
  .exact G _ _ (I _ _ (v _ _ (Z _ _ ao)))
  .rw[List.map_reverse];exact G _ _ ao
def atI_row (a:Jal zcM)(h0:0<=h)(b:h<(Rs.length:Int)):∃q,atI xs h=Ja q/\SqT K H q ((NP h).map V.int):=by
 let(q,d,c):=zO a (iQ h0 b);let e:h=(h.toNat:Int):=by lia
 apply(q,?_,c);rw[e];exact ay d
structure LnW (K:W.Frag)(Hb H)(rl tl ld kd hl:Addr)(xs zs:List V)(Rs)(ts)(fl)(i):Prop where
 sb:ap Hb H
 k:Kst H kd (Yx fl i).1 (100+100*i)
 v:JgA H ld
 h:Uo hl ((Yx fl i).2.map V.int)
 nk:Uf (Hb kd)
 nv:Uf (Hb ld)
 nh:Uf (Hb hl)
 kv:kd≠ld
def LnW.same (W:LnW K Hb H rl tl ld kd hl xs zs Rs ts fl i)(s:Xd H):LnW K Hb H' rl tl ld kd hl xs zs Rs ts fl i :=
 (W.sb.trans s,W.k.same s,W.v.same s,s _ _ W.h,W.nk,W.nv,W.nh,W.kv)
def Dz (T:JdT K)(a:IS 1 "is_replaced" fR dR' (Jhl "why") (mE K))
  {cdv:Value}{A:Around}{outer:List Env}{s:Shared}{H0:Hp}{E:XK}(hr:JaY 2 "learnt" s_learnt f):
  ∃t,Jiu (Jd7 CX0 P w K NLn "learnt" s_learnt f A s H0 E).nox ((zas s_learnt).drop 4)/\
   ∀D y H U O ld c J xs zs Rs ts d,Vi y U xs->Il y (Rs.map zcM) xs->Vi y O zs->Il y (ts.map dP) zs->JiC d->JI 100->(∀r∈Rs,U9 r.length)->LnW K y H U O ld c J xs zs Rs ts d 0->
    (∀H' t tp th m,Mn y (Uf (y t)->Vw t (VU tp th m)->Vw tp ((WK d).map V.int)->Vw th ((cA Rs ts d).reverse.map V.int)->jo (((WK d).drop 1).map (lvF ts)) m->JmR (.ref t)))->
    t D [Ja U,Ja O,Ya d,Ja ld,Ya (cnt ts),Ja c,Ja J,none,none,none] H:=by
 let hr1:Jk2 1:=hr.mono (by decide);let(t5,h5,q5):=Dy (base:=base) (outer:=outer) T hr;apply Qq (ae (Ib rfl (qf rfl T.reversed (Jd 1)) (ba (i:=7) iX.nd rfl (Or.inr rfl)) (aj (be (eF (Yj a.ok hr1 a.m a.kp a.b aJ (JgF (VI (Yk 7)) (Yk 7) (Va 5 (WS 3 4))))) (Wb (ah (vr (pv 5) (VI (Yk 7)) (Jea rfl))) (ah (cC PySem.F.plainAttrs_dict PySem.F.slot_dict_update PySem.F.type_dict_update Ae (pv 5) (Gb (di (vu rfl) rfl T.dict PyProof.Rows.Boot.dict (Gb (GA (N':=["part","step"]) (ix:=[7]) rfl rfl rfl (λok=>JgX (sc:=ai s_learnt)) rfl rfl (λj i h=>match j,h with | 0,h=>by cases h;exact QO _ | n+1,h=>by simp at h) (eY (Jd9 0 7)) (λ_ _ _ _=>(XZ dh 0 (JlD (r:=dk K) 1))) (λ_ _ _ _=>(ck (QQ 0 de))))))))) (JbR 6 (Jdd 7)))
     aU))) h5)
 rfl'
 rintro D y H U O ld c J xs zs Rs ts d hS hL hZ hT ok l100 r100 W0 q;let zl:Jdb ts.length:=by rw[<-hT.length,lM]
 apply Jcs _ O zs rfl (W0.sb.seq hZ) (JeA qe (λi σ H'=>∃v7,σ=[Ja U,Ja O,Ya d,Ja ld,Ya (cnt ts),Ja c,Ja J,v7,none,none]/\LnW K y H' U O ld c J xs zs Rs ts d i) (λi σ H' h=>by let(_,_,W):=h;exact W.sb.seq hZ) (Nc none W0))
 .rintro i σ H' x H'' hi ⟨v7,rfl,W⟩ ⟨rfl,hx⟩;let hi':UB i:=by lia
  let(t,p,ht,rfl,hp):=gS hT (hx _ (W.sb.seq hZ));rw[zl]at ht;let hr':ts.reverse[i]?=some t:=by rw[jY hi'];exact ht
  let es:=jX (Rs:=Rs) (f:=d) hr';let hp1:=W.sb.tup hp;let tm:t∈ts:=mO ht;apply(_,rfl,p,_,_,_,rfl,rfl,hp1,rfl,_,rfl,_,rfl,p,_,_,_,rfl,rfl,hp1,rfl,_,rfl,_,rfl,_,rfl,-t.1,t.2,cnt ts,c,ld,_,_,ts,rfl,W.k,W.v,W.kv,by lia,nU ok i,λH3 s3=>Yu ?_);let N:=W.same s3;let hp3:=s3.tup hp1;cases eb:JcD ts (Yx d i).1 ts (-t.1) t.2 with
  |false=>
   let e2:Yx d (i+1)=lrn Rs ts d i:=by rw[es];unfold fw;rw[eb];rfl
   let(kvs,k1,k2,k3,k4):=N.k;exact bq (Yu (N.sb,Jcq kvs k1 (by rw[e2];exact k2) k4,N.v,by rw[e2];exact N.h,W.nk,W.nv,W.nh,W.kv))
  | true =>
   let e2:Yx d (i+1)=(((Yx d i).1.filter λm=>decide (m≠-t.1))++(NP t.2).filter (λm=>decide (m≠t.1)),(Yx d i).2++[t.2],):=by rw[es];unfold fw;rw[eb];rfl
   let M:=eb;unfold cM at M;rw[Bool.and_eq_true,Bool.and_eq_true]at M;let pin:-t.1∈(Yx d i).1:=oDq M.1;let yn:t.2≠-1:=oDq M.2.1;let(y0,y1,_):=ok.why t tm yn;let(kvs,k1,k2,k3,k4):=N.k;obtain⟨v,hv⟩:∃v,I0 (-t.1)=some v:=by have:=k2 (-t.1);rw[dTq pin]at this;exact Option.isSome_iff_exists.mp this
   apply bU (_,rfl,c,rfl,Jay kvs k1,_,rfl,p,_,_,_,rfl,rfl,hp3,rfl,_,rfl,kvs,Sum.inl (-t.1),v,k1,rfl,hv,?_);let hK4:Kst (Jl4 H3 c (-t.1)) c _ _:=Kst.pop (p:=-t.1) k2 k3 k4;let Q:cq c H3 (Jl4 H3 c (-t.1)):=Jcr _;let kt34:=Q.kt k1;let B:ap y (Jl4 H3 c (-t.1)):=N.sb.upd W.nk;let v4:JgA (Jl4 H3 c (-t.1)) ld:=by let(l,l1,l2):=N.v;exact(l,Q _ _ (Ne.symm W.kv) l1,l2)
   let X:J≠c:=λe=>by rw[<-e,N.h]at k1;cases k1
   let h4:(Jl4 H3 c (-t.1)) J=_:=Q _ _ X N.h;let I:=kt34.sq hp3;generalize Jl4 H3 c (-t.1)=H4 at hK4 B v4 h4 I;let(o,j1,j2,j3,j4):=hK4;let(q',hq1,Z):=atI_row (ar.keep B.kt (du _) hL) y0 y1;let S:(NP t.2).length<=100:=r100 _ (mO (iQ y0 y1));apply(_,rfl,IN (Uh rfl (Uh o j1)),_,rfl,_,rfl,p,_,_,_,rfl,rfl,I,rfl,U,_,_,_,rfl,rfl,B.seq hS,hq1,q',rfl,Qu Z,λDl hDl=>gq eJ (λj ys H'=>Xd H4/\G_ ((((NP t.2).take j).filter λm=>decide (m≠t.1)).map dQT) ys) (λj ys H' (C,_)=>C.tup Z) (Wm hDl,.nil) ?_ ?_)
   .rintro j ys H5 x H6 hj hly L ⟨C,hy⟩ ⟨rfl,hx'⟩;let(m,hm,rfl):=cz (hx' _ (C.tup Z));let et:(((NP t.2).take (j+1)).filter λm=>decide (m≠t.1))=if m≠t.1 then(((NP t.2).take j).filter λm=>decide (m≠t.1))++[m] else((NP t.2).take j).filter λm=>decide (m≠t.1):=by
     rw[bf hm,List.filter_append];by_cases z:m=t.1
     .rw[if_neg (λh=>h z),List.filter_cons,if_neg (by simp [z]),List.filter_nil,List.append_nil]
     .rw[if_pos z,List.filter_cons,N4 z,List.filter_nil]
    apply(_,rfl,_,rfl,p,_,_,_,rfl,rfl,C.tup I,rfl,rfl,_,rfl,?_);by_cases z:m=t.1
    .rw[show Xx (!decide (Jjj m t.1)) by rw[dTq (by rw[z])];rfl];apply bq (JjQ hj hly L C);rw[et,if_neg (λh=>h z)];exact hy
    .rw[show Xh (!decide (Jjj m t.1)) by rw[dFq (λz'=>z (by injection z'))];rfl];apply bU (Ul _ lS2 (λu hu'=>?_));let R:VB H6 H6 u (Jlr m):=Wm hu';let hD6:=R _ _ L;apply cx (by rw[lM];exact Jk3 _) hj hly hD6 (Mm ((C.trans R).upd hDl));rw[et,if_pos z,mAq];exact Wv (ar.keep (R.kt.trans (bj.lst hD6)) (qd _) hy) (vx ((bj.lst hD6).sq (SqT.of ao)))
   rintro ys H5 L ⟨C,hy⟩;rw[lM,VM _]at hy;let(pl,pp):=vy hy;generalize hpt:((NP t.2).filter λm=>decide (m≠t.1))=g at pl pp hy e2;let lpt:U9 g.length:=by rw[<-hpt];exact JfG _ S
   apply IR Dl ys (tkv g) (SqL.of L) pl pp (λb hb=>?_);let R:ap H5 (Jeg H5 b g):=Wm hb;let Y:=C _ _ j1;let nkb:c≠b:=bY Y hb;let lm:(JcQ g).length<=g.length:=(jU g).2;apply(c,b,o,JcQ g,rfl,rfl,nkb,R _ _ Y,ao,by rw[sizeLine_eq];lia,?_);let G:=C.trans R;let x7:cq c (Jeg H5 b g) (Qc (Jeg H5 b g) c (bD o (JcQ g))):=Jcr _;let hp7:=(x7.kt (R _ _ Y)).sq (G.tup I);let h7:=x7 _ _ X (G _ _ h4);let v7':JgA (Qc (Jeg H5 b g) c (bD o (JcQ g))) ld:=by let(l,l1,l2):=v4;exact(l,x7 _ _ (Ne.symm W.kv) (G _ _ l1),l2)
   let hl2:=AB Rs ts d i;apply Jfw _ (JeM h7) _ rfl p _ _ _ rfl rfl hp7 rfl J _ _ rfl rfl h7 (eg (by rw[lM];lia)) ?_;apply Yu (((B.trans G).upd W.nk).upd W.nh,(bD o (JcQ g),?_,λm=>?_,?_,vG (vH g) j4),?_,?_,W.nk,W.nv,W.nh,W.kv)
   .rw[JJ X];exact ao
   .rw[Ay,j2,e2];show(decide (m∈_)||decide (m∈g))=decide (m∈_++g);by_cases z1:m∈(Yx d i).1.filter λm=>decide (m≠-t.1)
    .rw[dTq z1,dTq (Ma z1)];rfl
    .rw[dFq z1,Bool.false_or];exact Ja6 (λz=>Na z) (λz=>(mPq z).resolve_left z1)
   .have:=Az (JcQ g) o;lia
   .let(l,l1,l2):=v7';apply(l,?_,l2);rw[aq (Lev.ne (l,l1,l2) h7).symm];exact l1
   .rw[e2];rw[mAq];exact ao
 .rintro σ H' ⟨v7,rfl,W⟩;rw[zl]at W;exact q5 D y H' O ld c J zs Rs ts d _ _ _ _ v7 W.sb (W.sb.seq hZ) (Nu W.sb.kt _ hT) ok l100 W.k W.v W.h q
def DA (T:JdT K)(a:IS 1 "is_replaced" fR dR' (Jhl "why") (mE K))
  {cdv:Value}{A:Around}{outer:List Env}{s:Shared}{H0:Hp}{E:XK}(hr:JaY 2 "learnt" s_learnt f):
  ∃t,Jiu (Jd7 CX0 P w K NLn "learnt" s_learnt f A s H0 E).nox ((zas s_learnt).drop 2)/\
   ∀D c H z M ld xs zs Rs ts b,Vi c z xs->Il c (Rs.map zcM) xs->Vi c M zs->Il c (ts.map dP) zs->JiC b->JI 100->(∀r∈Rs,U9 r.length)->ap c H->Uf (c ld)->JgA H ld->
    (∀H' t tp th m,Mn c (Uf (c t)->Vw t (VU tp th m)->Vw tp ((WK b).map V.int)->Vw th ((cA Rs ts b).reverse.map V.int)->jo (((WK b).drop 1).map (lvF ts)) m->JmR (.ref t)))->
    t D [Ja z,Ja M,Ya b,Ja ld,Ya (cnt ts),none,none,none,none,none] H:=by
 let(t4,h4,q4):=Dz (outer:=outer) T a hr;apply Qq (Wb (JiM (i:=5) iX.nd rfl rfl (di (vu rfl) rfl T.dict PyProof.Rows.Boot.dict (Gb (Vj (N':=["part"]) (ix:=[]) rfl rfl rfl (λ_=>JfE []) rfl rfl (λj i h=>by simp at h) (eY (Jil 0 2)) (λ_ _ _ _=>(ck (QQ 0 de))))))) (Ie (i:=6) iX.nd (JiP 2)) h4)
 rfl'
 rintro D c H z M ld xs zs Rs ts b hS hL hZ hT B C k N S hv q;let(q',Y,o):=atI_row (ar.keep N.kt (du _) hL) B.f0 B.f1;let R:(NP b).length<=100:=k _ (mO (iQ B.f0 B.f1));apply(_,rfl,_,rfl,z,_,_,_,rfl,rfl,N.seq hS,Y,q',rfl,Qu o,λDl I=>eK eJ (λj ys H'=>Xd H/\G_ (((NP b).take j).map dQT) ys) (λj ys H' (d,_)=>d.tup o) (Wm I,.nil) ?_ ?_)
 .rintro j ys L x J hj Z p ⟨d,O⟩ ⟨rfl,W⟩;let(m,hm,rfl):=cz (W _ (d.tup o));apply Ul _ lS2 (λu X=>?_);let y:VB J J u (Jlr m):=Wm X;let v:=y _ _ p;apply cx (by rw[lM];exact Jk3 _) hj Z v (Mm ((d.trans y).upd I));rw[bf hm,mAq];exact Wv (ar.keep (y.kt.trans (bj.lst v)) (qd _) O) (vx ((bj.lst v).sq (SqT.of ao)))
 rintro ys L p ⟨d,O⟩;rw[lM,VM _]at O;let(pl,pp):=vy O;apply IR Dl ys (tkv _) (SqL.of p) pl pp (λn g=>?_);let y:ap L (Jeg L n (NP b)):=Wm g;let hk:Kst (Jeg L n (NP b)) n _ (NP b).length:=Kst.of;let F:=(hv.same d).same y;let l:=(N.trans d).trans y;let U:=(N.trans d).free g;let kv:n≠ld:=λe=>by let(lvs,l1,_):=hv.same d;rw[e,l1]at g;cases g
 generalize WW L n=J at hk F l;apply Ul _ lS1 (λhl G=>?_);let Q:JcI J J hl (WY b):=Wm G;let(kvs,k1,k2,k3,k4):=hk.same Q;exact q4 D c _ z M ld n hl xs zs Rs ts b hS hL hZ hT B C k (l.trans Q,Jcq kvs k1 k2 k4,F.same Q,ao,U,S,l.free G,kv) q
def ok_learnt (F:Ix "learnt" "learnt" s_learnt)(T:JdT K)(a:IS 2 "part_levels" fP dP' ["trail"] (sU K))(d:IS 1 "is_replaced" fR dR' (Jhl "why") (mE K)):NF 3 ["rows","trail","fails"] (sp_learnt K):=by
 apply V_b iX M
 let(S,o,X,xs,zs,Rs,ts,rfl,hS,hL,B,C,G,n,r,q):=h;let hu:=dr M;let(t2,h2,Z):=DA (outer:=outer) T d M;let l:Jdb ts.length:=by rw[<-C.length,lM]
 apply Qq (Wb (JiM (i:=3) iX.nd rfl rfl (Jfg a.ok M a.m a.kp a.b aJ 1)) (Ie (i:=4) iX.nd (iJ (JgQ (YH 1)) (Jm5 hu 3 (VI (aI aQ (IW 1 (VI af)) af)) (λV V=>rfl)) af)) h2)
 rfl'
 apply XI _ o zs ts rfl B C n G.nd (λH1 ld y I v=>?_);let x:=λD'=>Z D' H H1 S o ld xs zs Rs ts X hS hL B C G n r y I v;apply Jg2 _ o zs (.inl (y.seq B)) _ _ _ rfl (Nf (λc=>?_))
 .let Y:=oDq c;let W:ts≠[]:=λz=>by rw[z]at l;simp at l;rw[l]at Y;simp at Y
  obtain⟨j,t,rfl⟩:∃j t,ts=j++[t]:=(ts.dropLast,ts.getLast W,(List.dropLast_concat_getLast W).symm);let O:=Nu y.kt _ C;let L:(j++[t])[j.length]?=some t:=by rw[List.getElem?_append_right (nRq _),Nat.sub_self];rfl
  rw[lAq]at l;simp only[lS]at l;obtain⟨D,z,R⟩:∃D z,zs=D++[z]:=by
   let U:zs≠[]:=λe=>by rw[e]at l;simp at l
   exact(zs.dropLast,zs.getLast U,(List.dropLast_concat_getLast U).symm)
  let lz:D.length=j.length:=by rw[R,lAq]at l;simp only[lS]at l;lia
  let hz:zs[j.length]?=some z:=by rw[R,<-lz,List.getElem?_append_right (nRq _),Nat.sub_self];rfl
  let(t',p,u,rfl,hp):=gS O hz;rw[L]at u;cases u;let N:atI zs (-1)=some (.ref p):=by rw[R];exact za _ _
  let(lvs,l1,l2):=id v;let g:=bV.k (k:=Sum.inl (-t.1)) l1;let J:=mO (jW L);let lv:lvF (j++[t]) (-t.1)=cnt (j++[t]):=by rw[c_ G.nd L,tO (by rw[lAq];exact nRq _)]
  rw[l2,if_pos J,lv]at g;exact(_,rfl,_,rfl,_,rfl,o,_,_,_,rfl,rfl,y.seq B,N,p,_,_,_,rfl,rfl,hp,rfl,_,rfl,ld,_,rfl,g,x _ q)
 .let e0:ts=[]:=by exact List.length_eq_zero_iff.mp (by lia)
  subst e0;exact x _ q
end Le52
namespace H52
open PySem L2 K52
abbrev bmV:List Value:=[.type "ValueError",.type "Exception",.type "BaseException",.type "object"]
def Fun.okX (F:Ix x qual st)(S:Vf N ps st)
  (a:∀cdv A outer s H vs Q E,JaY k qual st f→JhU E →
   ∃t,Jd8 (IF w) P w K N qual st f A s H E (zas st) t/\t { nx:=λy H'=>Q .non H',rt:=Q } (Jix N) H)(b:∀vs H Q E,JhU E->MZ vs.length:=by intro _ _ _ _ h;cases h;subst_vars;rfl):Jg0 P w K w (k+1) f fd ps sp:=by let(l,od,kV,i,j,o,cdv,n,e,rfl,g,d):=F.ex;exact pI g d S b λA outer s H vs Q E h c=>a cdv A outer s H vs Q E h c
def xe1:Xe1 (XG (IF w) P w K mg N qual scope f cd A s H E) E:=Jea rfl
structure TxH (K)(C):Prop where
 cl:JhR K
 n_problem:Jkb "problem"
 n_most:Jkb "most"
 n_known:Jkb "known"
 n_paper:Jkb "paper"
 n_trail:Jkb "trail"
 n_held:Jkb "held"
 n_looked:Jkb "looked"
 n_begins:Jkb "begins"
 n_watched:Jkb "watched"
 n_watching:Jkb "watching"
 n_order:Jkb "order"
 n_lately:Jkb "lately"
def DB:(Jdl A).lookup ("problem":Str)=some (.ref pr):=rfl
def DC:(Jdl A).lookup ("most":Str)=some (.int most):=rfl
def iY:(Jdl A).lookup ("known":Str)=some (.ref A.kn):=rfl
def sV:(Jdl A).lookup ("paper":Str)=some (.ref A.pp):=rfl
def ie:(Jdl A).lookup ("trail":Str)=some (.ref A.tr):=rfl
def ig:(Jdl A).lookup ("held":Str)=some (.ref A.hd):=rfl
def sW:(Jdl A).lookup ("looked":Str)=some (.int lk):=rfl
def sX:(Jdl A).lookup ("begins":Str)=some (.ref A.bg):=rfl
def sY:(Jdl A).lookup ("watched":Str)=some (.ref A.wd):=rfl
def mJ:(Jdl A).lookup ("watching":Str)=some (.ref A.wg):=rfl
def sZ:(Jdl A).lookup ("order":Str)=some (.ref A.od):=rfl
def xK:(Jdl A).lookup ("lately":Str)=some (.ref A.lt):=rfl
abbrev xM:Stmt:=wO
abbrev xN:Stmt:=wQ
abbrev xO:Stmt:=wU
def cI (p:Int):Prop:=-100<=p/\JdP p
inductive jB (K)(C):Sp|m{vs H Q E9} (A) (F O) (pr) (most) (S) (R) (p y):vs=JaV A.h p y->Jio F O H A S R (QX (cI p) S.ts.length ((∀H' O' R',MA F O' H' A (S.hold p y) (S.hold p y).hs R'->dv R R'->QP H')->jB K C vs H Q E9))
def DD:Vf (WJ "why") (WJ "why") xM:=fsc
def DE (S:HS)(p y):(S.hold p y).hs=S.hs++[p]:=by show(S.ts++[(p,y,)]).map Prod.fst=_;rw[mAq];rfl
def Hu.zlen (U:X1 F):V4 R.zs.length:=by rw[<-U.u.tr.length,lM]
def DF (F:Ix "hold" "Hunt.hold" xM)(T:JdW C):Jih (WJ "why") (jB K C):=by
 apply V_b DD n
 let(A,x,O,i,a,S,R,p,y,rfl,U,o,z,q):=h;let j:=dr n;apply Qq (Ja7 (Y_ (Xe 0) (Jga (WS 1 2))) (aj (JmP j 0 1 de)))
 let d:=V7 3;apply(_,rfl,A.h,C,A.dx,_,_,rfl,U.ins,T.cl,T.n_trail,ie,JeM d,_,rfl,_,rfl,lS2,λl c=>?_);let e:=JhF c p y;let b:=e.at' 3 rfl rfl;let(D,B,v,r):=U.hold o c;let g:=e.setTr (ts:=S.ts++[(p,y,)]) (by rw[mAq];exact Wv e.u.tr (of_dP (SqT.of ao)))
 apply Ji0 A.tr _ _ b (hln (by rw[Hu.zlen U];lia)) ?_;apply(_,rfl,A.h,C,A.dx,_,_,rfl,g.ins,T.cl,T.n_held,ig,_,rfl,A.hd,_,rfl,JbW (k:=Sum.inl p) (g.at' 4 rfl rfl) U.u.hd.len,?_);exact q _ _ _ (by rw[DE];exact v) r
inductive pf (K)(C):Sp|m{vs H Q E9} (A) (F O) (pr) (most) (S) (R) (r a b):vs=[.ref A.h,.int r,.int a,.int b]->Jb7 F O H A S R->cI r->cI a->cI b->(S.wg a).length<=199000->(S.wg b).length<=199000->(∀H' O' R',Jio F O' H' A (S.watch r a b) R' (R'.xs=R.xs->QP H'))->pf K C vs H Q E9
def DG:Vf (Jhg "self") (Jhg "self") xN:=fsc
def DH (F:Ix "watch" "Hunt.watch" xN)(T:JdW C):Jih (Jhg "self") (pf K C):=by
 apply V_b DG N
 let(A,p,O,L,d,S,R,r,a,b,rfl,U,i,Y,X,la,Z,q):=h;let M:=dr N;apply Qq (Wb (JmP M 0 1 (ck (WS 2 3))) (JkA (lN (Xe 0) (QQ 2 (bb ac))) (Jd 1)) (JbB (lN (Xe 0) (QQ 3 (bb ac))) (Jd 1)))
 apply UP _ _ lS2 (λl v=>?_);let J:VB p p l (Qr a b):=Wm (U.t.none v).2;let o:=JhF v a b;let n:=(o.setWd i (SqT.of ao)).base J;apply(_,rfl,A.h,C,A.dx,_,_,rfl,o.ins,T.cl,T.n_watched,sY,_,rfl,A.wd,_,rfl,JbW (k:=Sum.inl r) (o.at' 6 rfl rfl) U.u.wd.len,?_);apply(_,rfl,A.h,C,A.dx,_,_,rfl,n.ins,T.cl,T.n_watching,mJ,Yv A.wg _ (n.at' 7 rfl rfl),_,rfl,lS0,λe W=>?_);apply n.setd (r:=r) Y W λl1 H1 B h_=>?_;let(O3,R3,g,_,I):=h_;apply(JeM B,_,rfl,l1,_,_,rfl,rfl,B,hln (by rw[lM];show(S.wg a).length<=_;lia),?_);rw[mAq]at g;apply(_,rfl,A.h,C,A.dx,_,_,rfl,g.ins,T.cl,T.n_watching,mJ,Yv A.wg _ (g.at' 7 rfl rfl),_,rfl,lS0,λe2 j=>?_);apply g.setd (r:=r) X j λl2 H2 z h_=>?_;let(O4,R4,D,_,G):=h_;apply(JeM z,_,rfl,l2,_,_,rfl,rfl,z,hln ?_,?_)
 .rw[lM];show(if b=a then Jft b [r] else S.wg b).length≤_
  split
  .rw[lAq];show _+1<=_;lia
  .lia
 .rw[mAq]at D;exact q _ _ _ D (G.trans I)
def DJ (h:Uf (fy (row.take i) o hs))(b:row[i]?=some k)(f:k≠o)(d:-k∉hs):fy row o hs=some k:=by
 let c:=(gEq b).1;let e:row=row.take i++k::row.drop (i+1):=by have:=JN row;rw[List.drop_eq_getElem_cons c]at this;let a:=gG c;rw[b]at a;injection a with a;rw[<-a]at this;exact this.symm
 unfold fy at h⊢;rw[e,List.find?_append,h,List.find?_cons_of_pos]
 .rfl
 .simp [f,d]
def xP {a hs:List Int}{o k:Int}{i:Nat}(h:Uf (fy (a.take i) o hs))(c:a[i]?=some k)(b:k=o\/-k∈hs):Uf (fy (a.take (i+1)) o hs):=by
 rw[bf c];unfold fy at h⊢;rw[List.find?_append,h,List.find?_cons_of_neg]
 .rfl
 .rcases b with z|z<;>simp [z]
def FinQ (K:W.Frag)(C:Addr)(F:Hp)(A:HA)(d:Addr)(a:Int)(S:HS)(R:HC)(r o:Int)(Q:VK):Option Int->Prop
 |some q=>∀H' c b,Hu K C F c H' A d a ((Jh3 o q).addG q r) S.hs b->dv R b->Jch H'
 |none=>∀H' c b,Hu K C F c H' A d a S S.hs b->dv R b->JjR H'
inductive s_ (K)(C):Sp|m{vs H Q E9} (A) (F O) (pr) (most) (S) (R) (r o):vs=JaV A.h r o->Jio F O H A S R (cI r->0<=r->r<(S.rs.length:Int)->(∀p∈JaK r,cI p)->(∀c,(S.wg c).length<=199000)->FinQ K C F A pr most S R r o Q (fy (JaK r) o S.hs)->s_ K C vs H Q E9)
def xQ:Vf ["self","number","other","part"] (Ys "number") xO:=fsc
def DK (F:Ix "finds" "Hunt.finds" xO)(T:JdW C):Jih (Ys "number") (s_ K C):=by
 apply II xQ
 let(A,L,O,pr,j,S,R,r,o,rfl,U,kr,r0,r1,X,hw,q):=h;let M:=dr hr;apply Qq (J3 (JE (eY (aI az (Xe 0) (pv 1))) (i:=3) xQ.nd (aj (be (J_ (XZ dh 3 (pv 2)) (Jei M (Q5 3) (Xe 0))) (JaT (JmP M 0 1 (ck (WS 2 3))) (JkA (lN (Xe 0) (QQ 3 (bb ac))) (Jd 1)) de)
     aU))) de)
 let(a,e1,p):=Le52.atI_row U.u.kn r0 r1;generalize N:JaK r=B at p X q;apply(_,rfl,A.h,C,A.dx,_,_,rfl,U.ins,T.cl,T.n_known,iY,_,rfl,A.kn,_,_,_,rfl,rfl,Jgl 1,e1,a,rfl,Qu p,JeA eJ (λi n H'=>∃v:Option V,An3 (n=[Ja A.h,Ya r,Ya o,v]) (H'=H) (Uf (fy (B.take i) o S.hs))) (λi n H' h=>by let(_,_,e):=h;exact e▸p) (Jea none))
 .rintro i n H1 x H2 hi ⟨v,rfl,rfl,g⟩ ⟨rfl,hx⟩;let(k,b,rfl):=GW _ p;let kk:=X k (mO b);let Z:=iU S.hs (-k);apply Ji0 _ rfl _ _ rfl (Nf (λc=>?_))
  .let G:k≠o:=λz=>by rw[z]at c;simp at c
   apply(_,rfl,_,rfl,_,rfl,A.h,C,A.dx,_,_,rfl,U.ins,T.cl,T.n_held,ig,A.hd,_,rfl,U.held _,_,rfl,bo (λd=>?_) (λd=>?_))
   .rw[Z]at d;let D:-k∉S.hs:=λz=>by rw[dTq z]at d;cases d
    let ef:=DJ g b G D;rw[ef]at q;apply UP _ _ lS2 (λl W=>?_);let sF:VB L L l (Qr o k):=Wm (U.t.none W).2;let J:=JhF W o k;let I:=(J.setWd kr (SqT.of ao)).base sF;apply(_,rfl,A.h,C,A.dx,_,_,rfl,J.ins,T.cl,T.n_watched,sY,_,rfl,A.wd,_,rfl,JbW (k:=Sum.inl r) (J.at' 6 rfl rfl) U.u.wd.len,?_);apply(_,rfl,A.h,C,A.dx,_,_,rfl,I.ins,T.cl,T.n_watching,mJ,Yv A.wg _ (I.at' 7 rfl rfl),_,rfl,lS0,λe he=>?_);apply I.setd (r:=r) kk he λl1 H3 Y h_=>?_;let(O3,R3,U3,g3):=h_;apply(JeM Y,_,rfl,l1,_,_,rfl,rfl,Y,hln (by rw[lM];have:=hw k;show(S.wg k).length<=_;lia),?_);rw[mAq]at U3;exact q _ _ _ U3 g3
   .rw[Z]at d;let D:=Decidable.byContradiction λz=>by rw[dFq z]at d;exact d rfl
    exact X5 _ (xP g b (.inr D))
  .let G:k=o:=Decidable.byContradiction λz=>c (by simp [z]);exact X5 _ (xP g b (.inl G))
 .rintro n H' ⟨v,rfl,rfl,g⟩;rw[lM,List.take_length]at g;rw[g]at q;exact q _ _ _ U (Ye (λy y z=>z))
abbrev xR:Stmt:=wV
def dv.trans {e R2 d:HC}(a:dv e R2)(b:dv R2 d):dv e d:=(λc v h=>b.1 c v (a.1 c v h),b.2.trans a.2)
noncomputable def oI:JjJ Int V
 |none=>.non
 |some f=>.int f
def WOk.glen (W:WOk S g k)(x):(g x).length<=S.rs.length:=gv _ (W.nd x) λr c=>by let(a,b,h,_):=(W.gw r x).mp c;exact(W.is r a b h).2.2.2
def LkI.glen (a:WOk S0 S0.wg k)(I:LkI n k c S0 (S0.wg c) i st)(x):(st.1.wg x).length<=S0.rs.length:=by
 by_cases e:x=c
 .rw[e,I.wc];exact JeD a
 .have:=WOk.glen I.w x;rw[if_neg e,I.rs]at this;exact this
structure SpL (n)(B)(Y)(S)(c):Prop where
 m:cH n B Y S
 n40:n<=40
 rl:Jf9 199000
 t0:∃t0,S.ts[S.lk]?=some t0/\c=-t0.1
inductive tf (K)(C):Sp|m{vs H Q E9} (A) (F O) (pr) (most) (S) (R) (c) (n) (B) (Y):vs=XF A.h c->Jio F O H A S R (SpL n B Y S c->(∀H' O' R',MA F O' H' A (da S c).1 (da S c).1.hs R'->Q (oI (da S c).2) H')->tf K C vs H Q E9)
def jC:Jfh ["self","part","fails","stay","number","pair","other"] "part" xR:=fsc
def Hu.pair (U:X1 F){r a b:Int}(h:NX r (a,b,)):∃q,bV H A.wd (.int r) (Ja q)/\SqT K H q (Qr a b):=by
 let d:=bV.k (k:=Sum.inl r) (V7 6);rw[U.u.wd.val]at d;let w:=U.u.wr r;rw[h]at w;generalize e:R.gw r=g at w d;cases w with
 |is c=>exact W7 d c
set_option tactic.hygienic true in
def DL (F:Ix "look_at" "Hunt.look_at" xR)(T:JdW C)(mF:JP "finds" fF)(BF:Mp 1 fF dF (Ys "number") (s_ K C))(bF:JbM dF "number")
  (mH:JgT fH)(BH:Mp 1 fH dH (WJ "why") (jB K C))(bH:JlA dH):NF 2 (Nk "part") (tf K C):=by
 apply II jC
 let(A,F',O,pr,d,S,R,c,n,B,Y,rfl,U,L,q):=h;let hu:=dr hr;apply Qq (X7 (i:=2) jC.nd eU (i:=3) jC.nd (bb ac) (Wb (Jck (jT hu (Xe 0) (pv 1) (bb ac) (Jea rfl)) (i:=4) jC.nd (X7 (i:=5) jC.nd (iM hu (Xe 0) (pv 4) (λ_ _=>rfl)) (i:=6) jC.nd (iJ (JlV 5 (pv 1)) (Yk 5) (Yk 5)) (Jej (eW (lx hu (pv 6) (Xe 0))) (JbR 3 (Jd 4)) (aj (be (Jbg (Yz 0 mF BF hr bF (WS 4 6))) (Ja7 (Y_ (pv 3) (Jd 4)) (Jej (eW (lx hu (Q5 6) (Xe 0))) (Jmr (i:=2) jC.nd (pv 4)) (QG 0 mH BH hr bH (WS 6 4))))
       aU))))) (JmP hu 0 1 (pv 3)) (QJ 2)))
 let(t0,ht0,ec):=L.t0;let hc:-c∈S.hs:=by rw[ec,Int.neg_neg];exact eR ht0
 let I:=LkI.all L.m (by have:=L.n40;lia) hc;let hrng:∀r,0<=r->r<(S.rs.length:Int)->∀p∈JaK r,cI p:=λr h0 h1 p hp=>by have:=((L.m.b.row _ (og h0 h1)).2 p hp).2;have:=L.n40;unfold cI;lia
 let hkc:cI c:=by have:=L.m.b.rng t0 (mO ht0);have:=L.n40;unfold cI;lia
 apply JbF (λl hl=>?_);let fl0:=(U.t.none hl).2;let U1:=U.newF hl (.lst []);let s1:ap F' (UC F' l):=Wm fl0;let hl1:=ao (H:=F') (a:=l) (o:=.lst []);generalize UC H l=H1 at U1;generalize UC F' l=F1 at U1 s1 hl1;apply(_,rfl,A.h,C,A.dx,_,_,rfl,U1.ins,T.cl,T.n_watching,mJ,A.wg,rfl,Jay _ (U1.at' 7 rfl rfl),_,rfl,lS0,λe he=>?_);let U2:=U1.newF he (.lst []);let fe1:=(U1.t.none he).2;let s2:ap F1 (Jkr F1):=Wm fe1;let he2:=ao (H:=F1) (a:=e) (o:=.lst []);let hl2:=s2 _ _ hl1;let nle:e≠l:=λz=>by rw[z,hl1]at fe1;cases fe1
 let s02:=s1.trans s2;generalize Jkr H1=H2 at U2;generalize Jkr F1=M at U2 s2 he2 hl2 s02;let dg:=bV.k (k:=Sum.inl c) (U2.at' 7 rfl rfl);rw[U2.u.wg.val]at dg;obtain⟨a,ea,ha⟩:∃a,(R.gg c).getD (.ref e)=.ref a/\(R.gg c=Ja a\/(a=e/\S.wg c=[])):=by
  cases h:R.gg c with
  |none=>exact Nc e (Jlj (U.gg0 h))
  |some v=>
   let(l1,rfl,_):=U.gg1 h;exact Nc l1 (.inl rfl)
 let lst:∀{i:Nat} {Fi Oi Hi:Hp} {st:LkS} {N:HC},Hu K C Fi Oi Hi A pr d st.1 st.1.hs N->dv R N->st.1.wg c=S.wg c->(∀b,b≠l->Fi b=M b)->Hi a=some (.lst ((S.wg c).map V.int)):=λ{i Fi Oi Hi st N} g Z wc fi=>by
  rcases ha with ha|⟨ha,hw⟩
  .let(l1,e1,h1):=g.gg1 (Z.1 _ _ ha);injection e1 with e1;rw[e1,h1,wc]
  .rw[hw,ha];exact g.t.f _ _ (by rw[fi _ nle];exact he2)
 let fiN:∀(o:HO) b,b≠l->upd M l o b=M b:=λo b nb=>aq nb;apply Qq dg;rw[ea];apply Jhp a (lst (i:=0) (st:=(S,[],none,)) U2 (Ye (λ_ _ z=>z)) rfl λ_ _=>rfl) (JeA (cR (xs:=(S.wg c).map V.int)) (λi σ H'=>Ex5 λ(v4 v5 v6:Option V) (Oi:Hp) (N:HC)=>An4 (σ=[Ja A.h,Ya c,some (oI (cN S c i).2.2),Ja l,v4,v5,v6]) (i<=(S.wg c).length) (Hu K C (Qa M l ((cN S c i).2.1.map V.int)) Oi H' A pr d (cN S c i).1 (cN S c i).1.hs N) (dv R N)) (λi σ H' h=>by let(_,_,_,_,_,_,hi,g,Z):=h;exact SqL.of (lst (i:=i) g Z (I i hi).wc (fiN _))) (Jdp none none none O R (Nat.zero_le _) ?_ (Ye (λ_ _ z=>z))))
 .let e0:Qa M l ((cN S c 0).2.1.map V.int)=M:=by
   funext b;unfold upd;split
   .rename_i z;rw[z];exact hl2.symm
   .rfl
  rw[e0];exact U2
 .rintro i σ H' x H'' hi ⟨v4,v5,v6,Oi,N,rfl,hi',g,Z⟩ ⟨rfl,hx⟩;let Ii:=I i hi';let(r,hr1,rfl):=Jik _ (lst (i:=i) g Z Ii.wc (fiN _));let hi1:i+1≤(S.wg c).length:=(gEq hr1).1;let sE:=wa hr1;generalize hst:cN S c i=st at g Ii sE;let(y,sy,fl):=st;dsimp only at g;let hrc:r∈(λx=>if x=c then sy++(S.wg c).drop i else y.wg x) c:=by
   show r∈if c=c then sy++(S.wg c).drop i else y.wg c
   rw[if_pos rfl];exact Na (by have:=List.getElem?_drop (xs:=S.wg c) (i:=i) (j:=0);rw[Nat.add_zero,hr1]at this;exact mO this)
  let(ow,oc,W,crow,r0,r1):=we Ii.w hrc;let Irs:y.rs=S.rs:=Ii.rs;dsimp only at ow oc W crow r1;rw[Irs]at W crow r1;let hko:cI (JfI y):=hrng r r0 r1 _ W;let hkr:cI r:=by have:=L.rl;unfold cI;lia
  let syl:sy.length<=199000:=by have:=JeD Ii.w;rw[if_pos rfl,Ii.rs,lAq]at this;let this:sy.length+_<=_:=this;have:=L.rl;lia
  obtain⟨a',b',wab,oab⟩:∃a b,Xa (y.wt r) (a,b,)/\JfI y=if a=c then b else a:=by
   rcases ow with z|z
   .exact(_,_,z,(if_pos rfl).symm)
   .exact(_,_,z,(if_neg oc).symm)
  let(pq,dq,hq):=Hu.pair g wab;let at0:W9 a' b' 0=some (.int a'):=Mv (j:=0);let at1:W9 a' b' 1=some (.int b'):=Mv (j:=1);let stay:∀{Fx Ox Hx:Hp} {Sx:HS} {hx:List Int} {Rx:HC},Hu K C (Qa M l (sy.map V.int)) Ox Hx A pr d Sx hx Rx->Wa (Hx l) (sy.map V.int)/\Hu K C (Qa M l ((sy++[r]).map V.int)) Ox (Qa Hx l (sy.map V.int++WY r)) A pr d Sx hx Rx:=λ{Fx Ox Hx Sx hx Rx} Ux=>by let h1:=Ux.frmL (u:=.lst (sy.map V.int++WY r)) ao;rw[tV]at h1;apply Mm (Ux.t.f _ _ ao);rw[mAq];exact h1
  apply(_,rfl,A.h,C,A.dx,_,_,rfl,g.ins,T.cl,T.n_watched,sY,_,rfl,A.wd,_,rfl,dq,?_);apply(_,rfl,pq,_,_,_,rfl,rfl,hq,at0,_,rfl,rfl,_,rfl,?_);let o1:a'=c->b'=zat y c r:=λz=>by rw[oab,if_pos z]
  let o2:a'≠c->a'=zat y c r:=λz=>by rw[oab,if_neg z]
  apply(λk=>bo (λJ=>Jcl _ pq _ _ _ rfl hq at1 (by rw[o1 (by have:=oDq J;injection this)];exact k)) (λJ=>Jcl _ pq _ _ _ rfl hq at0 (by rw[o2 (λz=>J (dTq (by rw[z])))];exact k))) ?_;let D:=sE;unfold L2.stepK at D;dsimp only at D;generalize JfI y=o at *;let fin:∀(st:LkS),cN S c (i+1)=st->∀(v4 v5 v6:Option V) Ox Rx Hx,Hu K C (Qa M l (st.2.1.map V.int)) Ox Hx A pr d st.1 st.1.hs Rx->dv R Rx->
    Ex5 λ(w4 w5 w6:Option V) (Oi:Hp) (N:HC)=>An4 ([Ja A.h,Ya c,some (oI st.2.2),Ja l,v4,v5,v6]=[Ja A.h,Ya c,some (oI (cN S c (i+1)).2.2),Ja l,w4,w5,w6]) (i+1<=(S.wg c).length) (Hu K C (Qa M l ((cN S c (i+1)).2.1.map V.int)) Oi Hx A pr d (cN S c (i+1)).1 (cN S c (i+1)).1.hs N) (dv R N):=λst e v4 v5 v6 Ox Rx Hx h1 h2=>by subst e;exact Jdp v4 v5 v6 Ox Rx hi1 h1 h2
  let g1:=iU y.hs o;let g2:=iU y.hs (-o);apply Jfw _ _ rfl A.h C A.dx _ _ rfl g.ins T.cl T.n_held ig A.hd _ rfl (g.held o) _ rfl (bo (λJ=>?_) (λJ=>?_))
  .rw[g1]at J;let J:=oDq J;rw[if_pos J]at D;let(X,U3):=stay (Fx:=M) g;apply Jg2 _ (JeM X) _ l _ _ X (hln (by rw[lM];lia)) ?_;exact fin _ D _ _ _ _ _ _ U3 Z
  .rw[g1]at J;let J:o∉y.hs:=λz=>J (dTq z);rw[if_neg J]at D;apply(_,rfl,A.h,A.dx,_,rfl,g.ins,rfl,_,rfl,_,rfl,A,_,Oi,pr,d,y,N,r,o,rfl,g,hkr,r0,(by rw[Irs];exact r1),(by rw[Irs];exact hrng r r0 r1),(λx=>Nat.le_trans (LkI.glen L.m.w Ii x) L.rl),?_);cases hf:fy (aY y.rs r) o y.hs with
   |some qq=>
    rw[hf]at D;intro H3 O3 R3 U3 g3;apply Yu (UV (λG=>Vq G));exact fin _ D _ _ _ _ _ _ U3 (Jm9 Z)
   | none =>
    rw[hf]at D;dsimp only at D;intro H3 O3 R3 U3 g3;apply Yu (Up (λG=>absurd (show Xh (!false) from rfl) G));let(X,U4):=stay (Fx:=M) U3;apply Jg2 _ (JeM X) _ l _ _ X (hln (by rw[lM];lia)) ?_;apply(_,rfl,_,rfl,_,rfl,A.h,C,A.dx,_,_,rfl,U4.ins,T.cl,T.n_held,ig,A.hd,_,rfl,U4.held (-o),_,rfl,bo (λG=>?_) (λG=>?_))
    .rw[g2]at G;let G:=oDq G;rw[if_pos G]at D;apply Yu ?_;exact fin _ D _ _ _ _ _ _ U4 (Jm9 Z)
    .rw[g2]at G;let G:-o∉y.hs:=λz=>G (dTq z);rw[if_neg G]at D;apply(_,rfl,A.h,A.dx,_,rfl,U4.ins,rfl,_,rfl,_,rfl,A,_,O3,pr,d,y,R3,o,r,rfl,U4,hko,?_,λH5 O5 R5 U5 g5=>?_)
     .have:=Ii.tok.len;show Jt y.ts.length;let this:y.ts.length<=61:=this;lia
     .exact fin _ D _ _ _ _ _ _ U5 (dv.trans (Jm9 Z) g5)
 .rintro σ H' ⟨v4,v5,v6,Oi,N,rfl,hi',g,Z⟩;rw[lM]at g hi';let sF:JcI F' M l ((cN S c (S.wg c).length).2.1.map V.int):=λb o h=>by rw[aq (λz=>by rw[z,fl0]at h;cases h)];exact s02 b o h
  let(O3,R3,U3,_,_):=g.give hkc ao fl0 sF;apply Jfw _ _ rfl A.h C A.dx _ _ rfl g.ins T.cl T.n_watching mJ _ rfl A.wg _ rfl (JbW (k:=Sum.inl c) (g.at' 7 rfl rfl) g.u.wg.len) ?_;apply Yu ?_;rw[lM];exact q _ _ _ U3
abbrev tu:Stmt:=wX
structure TxB (K:W.Frag)(mg:UT Str)(CL:Addr):Prop where
 len:Jg "len"
 reversed:Jg "reversed"
 abs:Jg "abs"
 enumerate:Jg "enumerate"
 sorted:Jg "sorted"
 tuple:Jg "tuple"
 list:Jg "list"
 range:Jg "range"
 blong:Jcy K "TooLong" CL
 xlong:Xh (W.excIn K CL bmV "ValueError.__new__")
def hF (ts:Wl Int)(ps:List Int):List Int:=(negs ts).reverse.filter λp=>decide (p∈ps)
structure SpP (K)(H)(S:HS)(ln tp)(l)(ps:List Int):Prop where
 has:JU K l ln
 nl:Jbj l
 sq:∃x0 x2,Nw ln [x0,.ref tp,x2]
 tp:GY tp
 pl:Jnf 199000
 rl:Jf9 198000
 tl:U9 S.ts.length
 tr:∀t∈S.ts,-60<=t.1/\t.1<=60
 nd:(negs S.ts).Nodup
 gl:∀c,(S.wg c).length<=198000
inductive pj (K)(C CL):Sp|m{vs H Q E} (A) (F O) (pr) (most) (S) (R) (ln tp) (l) (ps):vs=JC A.h ln->Jio F O H A S R (SpP K H S ln tp l ps->(most<=(S.pp.length:Int)->QU CL H)->((S.pp.length:Int)<most->∀H' O' R',Jio F O' H' A (Jnx (JgC ps)) R' (JeI (S.rs.length:Int)))->pj K C CL vs H Q E)
def xS:Jfh (Vs "line" "latest") "line" tu:=fsc
theorem xT:∀b bs,a_ (b++bs)=(a_ b&&a_ bs)
 |[],bs=>by simp only[List.nil_append,a_,Bool.true_and]
 |a::b,bs=>by simp only[List.cons_append,a_,xT b bs,Bool.and_assoc]
def ok_put (F:Ix "put" "Hunt.put" tu)(T:JdW C)(W:JgJ K)(mW:JP "watch" fW)(BW:Mp 1 fW dW (Jhg "self") (pf K C))(bW:Uj dW (Jhg "self")):Jg0 P w K w 2 f fd (Nk "line") (pj K C CL):=by
 apply Fun.okX F xS λcdv A outer s H vs Q E hr h=>?_
 let(A,F',O,pr,g,S,R,X,M,l,ps,rfl,U,L,qE,qQ):=h;let hu:=gp hr;apply Qq (Wb (be (aA m_ (Vg ak W.len bLq (Vr 0)) (Xe 0)) (aj (Bv (C:=CL) xe1 rfl rfl W.blong PySem.F.excBase_ValueError W.xlong (Gb aE)))
   aU) (JkA (Xe 0) (Jd 1)) (Ja7 (Y_ (Xe 0) (Jdd 1)) (JaT (vd (i:=2) (N':=["step","line"]) (ix:=[1]) xS.nd rfl (Or.inl rfl) rfl rfl (by decide +kernel) (by decide +kernel) rfl (λok=>JgX (sc:=ai tu)) (by decide +kernel) rfl rfl (λj i h=>match j,h with|0,h=>by cases h;exact QO _|n+1,h=>by simp at h) (qf rfl W.reversed (Vr 0)) (λm m m m=>(aA (r:=rIn K false) uQ (JlF (r:=dk K)) (JlD (r:=dk K) 1) rfl)) (λm m m m=>(JlF (r:=dk K)))) (be (JgQ (Vg ak W.len bLq (Jd 2))) (QG 0 mW BW hr bW (XM (WG ip (Vg ak W.len bLq (Vr 0))) (IW 2 af) (IW 2 af)))
   aU) (WG ip (Vg ak W.len bLq (Vr 0))))))
 let yl:R.ys.length=S.pp.length:=by rw[<-U.u.pp.length]
 let xl:R.xs.length=S.rs.length:=by rw[<-U.u.kn.length,lM]
 let(x0,x2,sq):=L.sq;apply(_,rfl,A.h,C,A.dx,_,_,rfl,U.ins,T.cl,T.n_paper,sV,A.pp,_,rfl,Jc (V7 2),_,rfl,A.h,C,A.dx,_,_,rfl,U.ins,T.cl,T.n_most,DC,_,_,rfl,rfl,_,rfl,Nf (λc=>?_))
 .let k:g<=((R.ys.length:Nat):Int):=oDq c;rw[yl]at k;exact((by show Ic 1;decide),qE k)
 let k:¬g<=((R.ys.length:Nat):Int):=λz=>Jbi z;rw[yl]at k;let qQ:=qQ (by lia);let N:=U.setPp (pp:=S.pp++[l]) (ys:=Jmu R.ys X) (Wv U.u.pp L.has) (by rw[xT,U.u.pn];simp only[a_,L.nl,Bool.and_self]);apply(_,rfl,A.h,C,A.dx,_,_,rfl,U.ins,T.cl,T.n_paper,sV,JeM (V7 2),_,rfl,A.pp,_,_,rfl,rfl,V7 2,hln (by rw[yl];have:=L.pl;lia),?_);let k1:Jkx A.pp (Jmu R.ys X):=bj.oth (V7 2) cB.1 cB.2;let G:=k1.sq sq;let D:=k1.sq L.tp;generalize QZ A.pp (Jmu R.ys X)=H1 at N G D;clear k1;let at1:atI [x0,V.ref M,x2] 1=some (.ref M):=Mv (j:=1);apply(_,rfl,A.h,C,A.dx,_,_,rfl,N.ins,T.cl,T.n_known,iY,JeM (N.at' 1 rfl rfl),_,rfl,X,_,_,_,rfl,rfl,G,at1,A.kn,_,_,rfl,rfl,N.at' 1 rfl rfl,hln (by rw[xl];have:=L.rl;lia),?_);let Z:=N.setKn (rs:=S.rs++[ps]) (xs:=Jmu R.xs M) (by rw[mAq];exact Wv N.u.kn (nJ D));let k2:bj H1 (Jmv H1 A.kn R.xs M):=bj.oth (N.at' 1 rfl rfl) cB.1 cB.2;let sq2:=k2.sq G;let tp2:=k2.sq D;generalize Jmv H1 A.kn R.xs M=H2 at Z sq2 tp2;clear k2 G D N;let hS:Vi H2 A.tr R.zs:=SqL.of (Z.at' 3 rfl rfl);let hL:Il H2 (S.ts.map dP) R.zs:=Z.u.tr;let zl:V4 R.zs.length:=Hu.zlen U;let np:(negs S.ts).reverse.length=S.ts.length:=by rw[List.length_reverse,g_]
 let tl:=L.tl;apply(_,rfl,A.h,C,A.dx,_,_,rfl,Z.ins,T.cl,T.n_trail,ie,A.tr,R.zs,rfl,hS,λDl I=>gq qe (λi ys H'=>Xd H2/\ys=(((negs S.ts).reverse.take i).filter λp=>decide (p∈ps)).map V.int) (λi ys H' (v,_)=>v.seq hS) (YJ I) ?_ ?_)
 .rintro i ys H' x H'' hi hly o ⟨v,rfl⟩ ⟨rfl,hx⟩;let(t,p,ht,rfl,hp):=gS hL (hx _ (v.seq hS));let e0:R.zs.length-1-i=S.ts.length-1-i:=by rw[zl]
  rw[e0]at ht;let hr':(negs S.ts).reverse[i]?=some (-t.1):=by rw[vI,List.getElem?_map,jY (by lia),ht];rfl
  let et:(((negs S.ts).reverse.take (i+1)).filter λp=>decide (p∈ps))=if -t.1∈ps then(((negs S.ts).reverse.take i).filter λp=>decide (p∈ps))++[-t.1] else((negs S.ts).reverse.take i).filter λp=>decide (p∈ps):=by
   rw[bf hr',List.filter_append];by_cases e:-t.1∈ps
   .rw[if_pos e,List.filter_cons,N4 e];rfl
   .rw[if_neg e,List.filter_cons,if_neg (by simp [e]),List.filter_nil,List.append_nil]
  apply(_,rfl,p,_,_,_,rfl,rfl,v.tup hp,rfl,_,rfl,_,rfl,X,_,_,_,rfl,rfl,v.tup sq2,at1,M,_,rfl,.inr (v.tup tp2),rfl,p_ _,_,rfl,?_);rw[if_neg (by decide:¬Xh false),nN];by_cases e:-t.1∈ps
  .rw[dTq e];apply bU (IY _ p _ _ _ rfl rfl (v.tup hp) _ rfl (Jcn _ hi hly o (v.upd I)));rw[et,if_pos e,mAq];rfl
  .rw[dFq e];apply bq (JjQ hi hly o v);rw[et,if_neg e]
 rintro ys H3 o ⟨v,rfl⟩;rw[zl,tO (by lia)]at o;let eLat:((negs S.ts).reverse.filter λp=>decide (p∈ps))=hF S.ts ps:=rfl;rw[eLat]at o;let J:=Z.more v I o;let sF:JcI F' F' Dl ((JgC ps).map V.int):=Wm (Z.t.none I).2;let B:∀a∈JgC ps,cI a:=λa ha=>by have:=(List.mem_filter.mp ha).1;let(i,t,ht,e):=lC (List.mem_reverse.mp this);have:=L.tr t (mO ht);unfold cI;lia
 let kr:cI ((S.rs.length:Nat):Int):=by have:=L.rl;unfold cI;lia
 let d:∀H' O' R',Hu K C F' O' H' A pr g (Jnx (JgC ps)) S.hs R'->Q (.int (((R'.xs.length:Nat):Int)-1)) H':=λH' O' R' U'=>by
  let e:R'.xs.length=S.rs.length+1:=by rw[<-U'.u.kn.length,lM];show(S.rs++[ps]).length=_;rw[lAq];rfl
  rw[e,show((S.rs.length+1:Nat):Int)-1=(S.rs.length:Int) by lia];exact qQ H' O' R' U'
 let Y:=SqL.of (K:=K) (J.t.f _ _ ao);generalize JgC ps=lat at J sF B d Y o;apply Jg2 _ Dl _ (.inl Y) _ _ _ rfl (Nf (λc=>?_))
 .let k:(1:Int)<(((lat.map V.int).length:Nat):Int):=oDq c;rw[lM]at k
  match lat,J,sF,B,d,Y,k with
  |a::b::y,J,sF,B,d,Y,_=>
   let a0:atI ((a::b::y).map V.int) 0=some (.int a):=Mv (j:=0);let a1:atI ((a::b::y).map V.int) 1=some (.int b):=Mv (j:=1);let xe:R.xs.length+1=S.rs.length+1:=by rw[xl]
   let gl:∀c,(S.wg c).length<=199000:=λc=>Mg (L.gl c);let nE:(((R.xs++[V.ref M]).length:Nat):Int)-1=((S.rs.length:Nat):Int):=by rw[lAq,xl];show((S.rs.length+1:Nat):Int)-1=_;lia
   apply(_,rfl,A.h,A.dx,_,rfl,J.ins,rfl,_,rfl,A.h,C,A.dx,_,_,rfl,J.ins,T.cl,T.n_known,iY,A.kn,_,rfl,Jc (J.at' 1 rfl rfl),_,_,rfl,rfl,_,rfl,Dl,_,_,_,rfl,rfl,Y,a0,_,rfl,Dl,_,_,_,rfl,rfl,Y,a1,A,_,_,pr,g,_,_,((S.rs.length:Nat):Int),a,b,?_,J,kr,B a (by simp),B b (by simp),gl a,gl b,λH4 O4 R4 U4 m=>?_)
   .exact congrArg (λz=>[V.ref A.h,.int z,.int a,.int b]) nE
   .let q:=U4.base sF;exact Jfw _ A.h C A.dx _ _ rfl q.ins T.cl T.n_known iY A.kn _ rfl (Jc (q.at' 1 rfl rfl)) _ _ rfl rfl (d _ _ _ q)
  |[a],_,_,_,_,_,k=>exact Vh k
  |[],_,_,_,_,_,k=>exact Vq k
 .let k:¬(1:Int)<(((lat.map V.int).length:Nat):Int):=λz=>Jbi z;rw[lM]at k;let q:=J.base sF
  match lat,q,d,k with
  |a::b::y,_,_,k=>exact absurd (by simp only[List.length_cons];lia) k
  |[a],q,d,_=>exact Jfw _ A.h C A.dx _ _ rfl q.ins T.cl T.n_known iY A.kn _ rfl (Jc (q.at' 1 rfl rfl)) _ _ rfl rfl (d _ _ _ q)
  |[],q,d,_=>exact Jfw _ A.h C A.dx _ _ rfl q.ins T.cl T.n_known iY A.kn _ rfl (Jc (q.at' 1 rfl rfl)) _ _ rfl rfl (d _ _ _ q)
abbrev s_cut:Stmt:=wY
def sIx_nat (h:j<=n):HT.sIx n d (some (j:Int))=j:=by
 unfold HT.sIx;simp only
 repeat' split
 all_goals lia
theorem oD {xs:List V}{j:Nat}(h:Jfn j):eZ xs none (some (j:Int))=xs.take j:=by unfold eZ;rw[sIx_nat h];rfl
def DM {xs:List V}{j:Nat}(h:Jfn j):eZ xs (some (j:Int)) none=xs.drop j:=by unfold eZ;rw[sIx_nat h];exact tO (by rw[List.length_drop];exact nRq _)
def DN (h:∀x,x∈hs↔x=p\/x∈hs')(n:p∉hs'):(λx=>if x=p then none else gH hs x)=gH hs':=by
 funext x;unfold gH;by_cases e:x=p
 .rw[if_pos e,if_neg (e▸n)]
 .rw[if_neg e];by_cases c:x∈hs'
  .rw[if_pos c,if_pos ((h x).mpr (.inr c))]
  .rw[if_neg c,if_neg (λz=>((h x).mp z).elim e c)]
def jD (la:JdZ Int):Prop:=∀a x,Xa (la a) x->x=a\/x=-a
def jD.put (h:jD la)(p):jD λz=>if z=(if p<0 then -p else p) then some p else la z:=λa x e=>by
 let e:(if a=(if p<0 then -p else p) then some p else la a)=some x:=e
 by_cases c:a=(if p<0 then -p else p)
 .rw[if_pos c]at e;injection e with e;rw[<-e,c];split<;>lia
 .rw[if_neg c]at e;exact h a x e
structure LaX (S:HS)(j)(la):Prop where
 ok:jD la
 p:LaP S.ts (λx=>j<=x) S.la la
structure SpC (S:HS)(m:Int):Prop where
 tok:Jju S.rs
 bs:S.bs=JkW S.ts
 m0:0<=m
 la:jD S.la
inductive pz (K)(C):Sp|m{vs H Q E9} (A) (F O) (pr) (most) (S) (R) (m):vs=XF A.h m->Jio F O H A S R (SpC S m->(∀A' H' O' R' j la,JiG m j->LaX S j la->A'.h=A.h->MA F O' H' A' (JaB j) (JaB j).hs R'->QP H')->pz K C vs H Q E9)
def tw:Jfh ["self","level","begin","step"] "level" s_cut:=fsc
def ok_cut (F:Ix "cut" "Hunt.cut" s_cut)(T:JdW C)(TB:JgJ K):Jih (Nk "level") (pz K C):=by
 apply II tw
 let(A,N,O,pr,G,S,R,m,rfl,U,L,q):=h;let hu:=dr hr;apply Qq (ae (Ja8 (aA cT (Jje 0) (pv 1)) (Nn (i:=2) tw.nd (JbZ pM (Xe 0)) (Jck (jP uO (Xe 0) (jO (pv 2)) jN) (i:=3) tw.nd (Ja7 (vr (Xe 0) (Yk 3) (Jea rfl)) (aj (Jk1 hu 0 (NN kT TB.abs (Jdd 3)) (Yk 3))))) (JnM (jP uO (Xe 0) jN (jO (pv 2)))))) (JnM (Jje 0)))
 apply Id (λk W H'=>Ex7 λ v2 X A' O' B j la=>An7 (W=[Ja A.h,Ya m,v2,X]) (k=(WF 0 j).length) (A'.h=A.h) (Jm_ j) ((JcE j->m<UE (j+1))) (LaX S j la) (Hu K C N O' H' A' pr G { S with ts:=S.ts.take j,bs:=bsF 0 (S.ts.take j),la:=la } ((S.ts.take j).map Prod.fst) B)) (_,none,none,A,O,R,S.ts.length,S.la,rfl,rfl,rfl,nRq _,λz=>Mr z _,(L.la,λz=>(λi t hi ht=>JgB (gEq ht).1,λ_=>rfl)),?_)
 .rw[List.take_length,<-L.bs];exact U
 rintro k W H1 ⟨v2,X,A',O',B,j,la,rfl,ek,I,jl,hj,b,U1⟩;let hbg:=U1.at' 5 rfl rfl;let i1:=U1.ins;rw[I]at i1;apply(_,rfl,A.h,C,A'.dx,_,_,rfl,i1,T.cl,T.n_begins,sX,A'.bg,_,rfl,Jc hbg,_,rfl,_,_,rfl,rfl,_,rfl,Nf (λc=>?_))
 .let c1:=oDq c;rw[lM,oj]at c1;let ne:WF 0 j≠[]:=λz=>by let h1:=oj (S.ts.take j);rw[z]at h1;let h1:(0:Int)=_:=h1;have:=L.m0;lia
  let(i,t,ht,t1,eb,ec):=AU _ ne;let it:=iE ht;let tt:(S.ts.take j).take i=S.ts.take i:=by rw[List.take_take,Nat.min_eq_left (by lia)]
  rw[tt]at eb ec;apply Qq (λ_ _ z=>z);let jl2:(S.ts.take j).length=j:=by rw[List.length_take];lia
  let U2:=U1.setBg (WF 0 i);generalize WW O' A'.bg=O2 at U2;let dl:((WF 0 j).map V.int).dropLast=(WF 0 i).map V.int:=by rw[eb,mAq];exact List.dropLast_concat
  let Y:((WF 0 j).map V.int)[((WF 0 j).map V.int).length-1]?=some (.int (i:Int)):=by rw[eb,mAq];simp
  apply Jfw _ A.h C A'.dx _ _ rfl i1 T.cl T.n_begins sX (JeM hbg) A'.bg _ _ rfl rfl hbg Y ?_;show(_:Prop);rw[dl];generalize WW H1 A'.bg=H2 at U2;let i2:=U2.ins;rw[I]at i2;let zl:B.zs.length=j:=by rw[Hu.zlen U1];exact jl2
  let htr:=U2.at' 3 rfl rfl;apply Jfw _ A.h C A'.dx _ _ rfl i2 T.cl T.n_trail ie _ rfl _ rfl A'.tr _ rfl (SqL.of htr) (λn hn=>?_);rw[DM (by rw[zl];lia)];let U3:=U2.newF hn (.lst (B.zs.drop i));let fn:=(U2.t.none hn).2;let sF:JcI N N n (B.zs.drop i):=Wm fn;let J:=ao (H:=N) (a:=n) (o:=.lst (B.zs.drop i));generalize Qa H2 n (B.zs.drop i)=H3 at U3;generalize Qa N n (B.zs.drop i)=F3 at U3 sF J;let D:=L.tok.take j;apply Jhp n (U3.t.f _ _ J) (JeA (cR) (λd W H'=>Ex4 λ X Ox y la=>An5 (W=[Ja A.h,Ya m,Ya (i:Int),X]) ((jD la/\LaP S.ts (λx=>j<=x\/i<=x/\x<i+d) S.la la)) (y.zs=B.zs) (i+d<=j) (Hu K C F3 Ox H' A' pr G { S with ts:=S.ts.take j,bs:=bsF 0 (S.ts.take i),la:=la } ((S.ts.take i++(S.ts.take j).drop (i+d)).map Prod.fst) y)) (λd W H' h=>by let(_,_,_,_,_,_,_,_,r):=h;exact SqL.of (r.t.f _ _ J)) (X,O2,B,la,rfl,(b.ok,b.p.imp λx _=>by lia),rfl,by lia,?_))
  .let e0:S.ts.take i++(S.ts.take j).drop (i+0)=S.ts.take j:=by rw[←tt,Nat.add_zero,List.take_append_drop]
   rw[e0];exact U3
  .rintro d W H' x H'' hd ⟨X,Ox,y,la,rfl,b,ez,hd2,r⟩ ⟨rfl,hx⟩;let hx:=hx _ (SqL.of (r.t.f _ _ J));rw[List.getElem?_drop,←ez]at hx;let(u,p,g,rfl,hp):=gS r.u.tr hx;let g:=g;let hd3:i+d<j:=by have:=(gEq g).1;lia
   let dE:(S.ts.take j).drop (i+d)=u::(S.ts.take j).drop (i+(d+1)):=by rw[List.drop_eq_getElem_cons (by lia)];let e2:=gG (l:=S.ts.take j) (i:=i+d) (by lia);rw[g]at e2;injection e2 with e2;rw[<-e2];rfl
   let hin:∀x,x∈(S.ts.take i++(S.ts.take j).drop (i+d)).map Prod.fst↔x=u.1\/x∈(S.ts.take i++(S.ts.take j).drop (i+(d+1))).map Prod.fst:=λx=>by
    rw[dE];simp only[mAq,List.map_cons,List.mem_append,List.mem_cons];constructor
    .rintro (z | z | z)
     .exact GZ z
     .exact .inl z
     .exact IN z
    .rintro (z | z | z)
     .exact GZ z
     .exact .inl z
     .exact IN z
   let hnot:u.1∉(S.ts.take i++(S.ts.take j).drop (i+(d+1))).map Prod.fst:=λz=>by
    rw[mAq]at z;rcases mPq z with z|z
    .rw[<-tt]at z;let(a,v,ha,hv):=iR z;let h1:=iE ha;have:=D.same_ix g h1.2 hv.symm;lia
    .let(a,v,ha,hv):=iR z;rw[List.getElem?_drop]at ha;have:=D.same_ix g ha hv.symm;lia
   let uE:-60<=u.1/\u.1<=60:=(D _ _ g).2.1;let ix:=r.ins;rw[I]at ix;let M:=r.setHd (kh:=QB y.kh u.1) (hs':=(S.ts.take i++(S.ts.take j).drop (i+(d+1))).map Prod.fst) (by rw[<-DN hin hnot];exact r.u.hd.drop u.1);let val:Xg y.kh u.1=some (.bl true):=by rw[r.u.hd.val];exact if_pos ((hin _).mpr (.inl rfl))
   apply(_,rfl,A.h,C,A'.dx,_,_,rfl,ix,T.cl,T.n_held,ig,A'.hd,rfl,Jay _ (r.at' 4 rfl rfl),_,rfl,p,_,_,_,rfl,rfl,hp,rfl,y.kh,Sum.inl u.1,_,r.at' 4 rfl rfl,rfl,val,?_);let k1:bj H'' (Jgj H'' A'.hd y.kh u.1):=bj.oth (r.at' 4 rfl rfl) dc.1 dc.2;let Z:=k1.sq hp;generalize Jgj H'' A'.hd y.kh u.1=H4 at M Z;let iy:=M.ins;rw[I]at iy;let kp:-100<=(if u.1<0 then -u.1 else u.1)/\JdP (if u.1<0 then -u.1 else u.1):=by split<;>lia
   let Uz:=M.setLt (c:=if u.1<0 then -u.1 else u.1) kp u.1
   apply(_,rfl,p,_,_,_,rfl,rfl,Z,rfl,_,rfl,A.h,C,A'.dx,_,_,rfl,iy,T.cl,T.n_lately,xK,_,rfl,p,_,_,_,rfl,rfl,Z,rfl,_,rfl,A'.lt,_,rfl,JbW (k:=Sum.inl (if u.1<0 then -u.1 else u.1)) (M.at' 9 rfl rfl) M.u.lt.len,?_)
   apply(_,_,_,_,rfl,(b.1.put u.1,b.2.put L.tok (iE g).2 λx=>by lia),?_,?_,Uz)
   .exact ez
   .lia
  .rintro W H' ⟨X,Ox,y,la,rfl,b,ez,hd2,r⟩;let dn:(B.zs.drop i).length=j-i:=by rw[List.length_drop,zl]
   rw[dn,show i+(j-i)=j by lia,List.drop_of_length_le (by lia),List.append_nil]at r;let ix:=r.ins;rw[I]at ix;apply Jfw _ A.h C A'.dx _ _ rfl ix T.cl T.n_trail ie _ rfl _ rfl A'.tr _ rfl (SqL.of (r.at' 3 rfl rfl)) (λn2 hn2=>?_);let zl2:y.zs.length=j:=by rw[ez,zl]
   rw[oD (by rw[zl2];lia)];let M:=r.newF hn2 (.lst (y.zs.take i));let fn2:=(r.t.none hn2).2;let sF2:JcI F3 F3 n2 (y.zs.take i):=Wm fn2;let f02:Uf (N n2):=by
    cases e:N n2 with
    |none=>rfl
    |some o=>have:=sF _ _ e;rw[fn2]at this;cases this
   let hz:Il (Qa H' n2 (y.zs.take i)) ((S.ts.take i).map dP) (y.zs.take i):=by rw[<-tt,List.map_take];exact ar.take i M.u.tr
   let(O5,U5):=M.moveTr (ts:=S.ts.take i) ao hz f02 (sF.trans sF2);let iy:=M.ins;rw[I]at iy;apply JX _ A.h C A'.dx _ iy T.cl T.n_trail (by show M8 12;decide) ?_;apply(_,?_,_,_,{ A' with tr:=n2 },O5,{ y with zs:=y.zs.take i },i,la,rfl,rfl,I,by lia,λ_=>?_,(b.1,b.2.imp λx _=>by lia),?_)
   .rw[ek,eb,lAq];show _<_+1;lia
   .rw[jV it.2];unfold zaS;rw[if_pos t1];lia
   .rw[<-I];exact U5
 .let c1:¬m<((((WF 0 j).map V.int).length:Nat):Int):=λz=>Jbi z;rw[lM,oj]at c1;let zl:B.zs.length=j:=by rw[Hu.zlen U1];show(S.ts.take j).length=j;rw[List.length_take];lia
  apply(_,rfl,A.h,C,A'.dx,_,_,rfl,i1,T.cl,T.n_trail,ie,A'.tr,_,rfl,Jc (U1.at' 3 rfl rfl),_,rfl,A.h,C,A'.dx,_,rfl,i1,T.cl,T.n_looked,(by show M8 12;decide),?_);rw[zl,<-I];apply q A' _ _ _ j la (jl,λi hi=>?_,hj) b I (U1.setLk j);have:=Jfu (ts:=S.ts) (i:=i+1) (j:=j);lia
abbrev xU:Stmt:=w_
abbrev tD:Stmt:=xb
def DO {b:Type}{p:b->Bool}{xs:List b}{i:Nat}{k:b}(h:(xs.take i).find? p=none)(c:xs[i]?=some k)(f:Xh (p k)):xs.find? p=some k:=by
 let d:=(gEq c).1;let e:xs=xs.take i++k::xs.drop (i+1):=by have:=JN xs;rw[List.drop_eq_getElem_cons d]at this;let a:=gG d;rw[c]at a;injection a with a;rw[<-a]at this;exact this.symm
 rw[e,List.find?_append,h,List.find?_cons_of_pos f];rfl
def xV {a:Type}{p:a->Bool}{xs:List a}{i:Nat}{k:a}(h:(xs.take i).find? p=none)(c:xs[i]?=some k)(b:Xx (p k)):(xs.take (i+1)).find? p=none:=by rw[bf c,List.find?_append,h,List.find?_cons_of_neg (by rw[b];decide)];rfl
def ChQ (K:W.Frag)(C:Addr)(F O H:Hp)(A:HA)(c:Addr)(b:Int)(S:HS)(R:HC)(Q:VK):Option Int->Prop
 |some a=>∀H' e d,Hu K C F e H' A c b (S.pick a) (S.pick a).hs d->Jch H'
 |none=>JjR H
structure SpCh (S:HS):Prop where
 tl:U9 S.ts.length
 bl:Jt S.bs.length
 od:∀a∈S.od,1<=a/\a<=60
 la:jD S.la
inductive tE (K)(C):Sp|m{vs H Q E9} (A) (F O) (pr) (most) (S) (R):vs=Gj A.h->Jio F O H A S R (SpCh S->ChQ K C F O H A pr most S R Q (kc S)->tE K C vs H Q E9)
def xW:Vf (Nk "atom") ["self"] xU:=fsc
def DP (F:Ix "choose" "Hunt.choose" xU)(T:JdW C)(TB:JgJ K)(W:JgT fH)(BH:Mp 1 fH dH (WJ "why") (jB K C))(bH:JlA dH):NF 2 ["self"] (tE K C):=by
 apply V_b xW D
 let(A,M,O,B,b,S,R,rfl,U,L,q):=h;let t:=dr D;apply Qq (J3 (Jck (Xe 0) (i:=1) xW.nd (aj (be (J_ (Jei t (pv 1) (Xe 0)) (Jei t (Q5 1) (Xe 0))) (JaT (JkA (Xe 0) (Gb (Jje 0))) (ah (Yz 0 W BH D bH (Ih (jT t (Xe 0) (pv 1) (Q5 1) (Jea rfl)) (VI af)))) de)
     aU))) de)
 let g:=V7 8;apply(_,rfl,A.h,C,A.dx,_,_,rfl,U.ins,T.cl,T.n_order,sZ,A.od,rfl,Jv g,JeA cR (λi o H'=>∃r:Option V,An3 (o=[Ja A.h,r]) (H'=H) ((S.od.take i).find? (λa=>decide (a∉S.hs)&&decide (-a∉S.hs))=none)) (λi o H' h=>by let(_,_,e,_):=h;exact e▸SqL.of g) (Jea none))
 .rintro i o H1 x H2 hi ⟨r,rfl,rfl,d⟩ ⟨rfl,X⟩;let(a,p,rfl):=cz (X _ (SqL.of g));let I:=iU S.hs a;let G:=iU S.hs (-a);let aR:=L.od a (mO p);apply Jfw _ _ rfl A.h C A.dx _ _ rfl U.ins T.cl T.n_held ig A.hd _ rfl (U.held a) _ rfl (Nf (λc=>?_))
  .rw[I]at c;let y:a∉S.hs:=λz=>by rw[dTq z]at c;cases c
   apply(_,rfl,_,rfl,_,rfl,A.h,C,A.dx,_,_,rfl,U.ins,T.cl,T.n_held,ig,A.hd,_,rfl,U.held _,_,rfl,bo (λj=>?_) (λj=>?_))
   .rw[G]at j;let v:-a∉S.hs:=λz=>by rw[dTq z]at j;cases j
    let Z:kc S=some a:=DO d p (by simp [y,v]);rw[Z]at q;let n:=V7 5;let l:=U.setBg (S.bs++[(S.ts.length:Int)]);rw[mAq]at l;apply(_,rfl,A.h,C,A.dx,_,_,rfl,U.ins,T.cl,T.n_begins,sX,JeM n,_,rfl,A.h,C,A.dx,_,_,rfl,U.ins,T.cl,T.n_trail,ie,A.tr,_,rfl,Jc (V7 3),A.bg,_,_,rfl,rfl,n,hln (by rw[lM];have:=L.bl;lia),?_);rw[Hu.zlen U];let J:=bV.k (k:=Sum.inl a) (l.at' 9 rfl rfl);rw[l.u.lt.val]at J;let N:((S.la a).map V.int).getD (.int (-a))=.int ((S.la a).getD (-a)):=by cases S.la a<;>rfl
    let Y:(S.la a).getD (-a)=a\/(S.la a).getD (-a)=-a:=by
     cases e:S.la a with
     |none=>exact .inr rfl
     |some x=>exact L.la a x e
    apply(_,rfl,A.h,A.dx,_,rfl,l.ins,rfl,_,rfl,A.h,C,A.dx,_,_,rfl,l.ins,T.cl,T.n_lately,xK,A.lt,rfl,Jay _ (l.at' 9 rfl rfl),_,rfl,_,rfl,_,rfl,_,J,?_);apply(_,rfl,A,M,_,B,b,_,_,(S.la a).getD (-a),-1,?_,l,?_,?_,λH' O' R' U' m=>?_)
    .exact congrArg (λz=>Uv (V.ref A.h) z (-1)) N
    .unfold cI;rcases Y with z|z<;>rw[z]<;>lia
    .have:=L.tl;lia
    .exact q H' O' R' U'
   .rw[G]at j;let v:=Decidable.byContradiction λz=>by rw[dFq z]at j;exact j rfl
    exact X5 _ (xV d p (by simp [v]))
  .rw[I]at c;let y:=Decidable.byContradiction λz=>by rw[dFq z]at c;exact c rfl
   exact X5 _ (xV d p (by simp [y]))
 .rintro o H' ⟨r,rfl,rfl,d⟩;rw[lM,List.take_length]at d;let d:Uf (kc S):=d;rw[d]at q;exact q
theorem xX:∀{c bs:List Int},c.Pairwise (· < ·)->bs.Pairwise (· < ·)->(∀x,x∈c↔x∈bs)->c=bs
 |[],[],_,_,_=>rfl
 |[],b::bs,_,_,h=>absurd ((h b).mpr List.mem_cons_self) (λz=>nomatch z)
 |a::c,[],_,_,h=>absurd ((h a).mp List.mem_cons_self) (λz=>nomatch z)
 | a :: c,b :: bs,k,j,h=>by
  let(d,i):=List.pairwise_cons.mp k;let(q1,g):=List.pairwise_cons.mp j;let e:a=b:=by
   rcases List.mem_cons.mp ((h a).mp List.mem_cons_self) with z|z
   .exact z
   .rcases List.mem_cons.mp ((h b).mpr List.mem_cons_self) with y | y
    .exact y.symm
    .have:=d b y;have:=q1 a z;lia
  subst e;rw[xX i g λx=>?_];constructor
  .intro z;rcases List.mem_cons.mp ((h x).mp (Jb z)) with y | y
   .have:=d x z;lia
   .exact y
  .intro z;rcases List.mem_cons.mp ((h x).mpr (Jb z)) with y | y
   .have:=q1 x z;lia
   .exact y
noncomputable def upN (n:Nat):List Int:=(List.range n).map λi:Nat=>(i:Int)+1
def ih:a∈upN n↔1<=a/\a<=n:=by
 unfold upN;rw[List.mem_map];constructor
 .rintro ⟨i,b,rfl⟩;have:=List.mem_range.mp b;lia
 .intro h;exact Jf3 ((a-1).toNat) (List.mem_range.mpr (by lia))
def xY (n):(upN n).Pairwise (· < ·):=by apply List.pairwise_map.mpr (List.pairwise_lt_range.imp λ{a b} h=>?_);lia
def bK (n:Nat)(hs:List Int):List Int:=(upN n).map λa=>if a∈hs then a else -a
inductive tH (K)(C):Sp|m{vs H Q E9} (A) (F O) (pr) (most) (S) (R) (n:Nat):vs=Gj A.h->Jio F O H A S R (n<=40->(∀a:Int,a∈S.od↔1<=a/\a<=n)->S.od.Nodup->(∀H' l,JgS l (Vw l ((QK n).map V.int)) l)->tH K C vs H Q E9)
def DQ:Vf ["self"] ["self"] tD:=fsc
def DR (F:Ix "held_parts" "Hunt.held_parts" tD)(T:JdW C)(TB:JgJ K):Jih ["self"] (tH K C):=by
 apply II DQ
 let(A,F',O,pr,v,S,R,n,rfl,U,n40,od,u,q):=h;let hu:=dr hr;apply Qq (Ud (Iw jf rfl TB.tuple (Gb (Vj (N':=["atom","self"]) (ix:=[0]) rfl rfl rfl (λok=>JgX (sc:=ai tD)) rfl rfl (λj i h=>match j,h with|0,h=>by cases h;exact QO _|n+1,h=>by simp at h) (cO (MW qA TB.sorted (Vr 0))) (λm m m m=>(iJ (eW (lx hu (pv 0) (qz K rfl (pv 1) rfl))) (pv 0) (Q5 0)))))))
 let odl:S.od.length<=n:=by
  have:=gv n (xs:=S.od.map λa=>a-1) (List.pairwise_map.mpr (u.imp λ{a b} h z=>h (by lia))) λx J=>by let(a,L,rfl):=List.mem_map.mp J;have:=(od a).mp L;lia
  rwa [lM]at this
 apply(_,rfl,A.h,C,A.dx,_,_,rfl,U.ins,T.cl,T.n_order,sZ,A.od,S.od,rfl,Jgl 8,by lia,λl W hl Y so=>?_);let k:W=upN n:=by
  apply xX ?_ (xY n) λx=>by rw[Y.mem_iff,od,ih]
  let nd:=Y.nodup_iff.mpr u;exact(so.and nd).imp λ{a b} h=>by have:=h.1;have:=h.2;lia
 subst k;let I:MU (QZ l ((upN n).map V.int)):=Wm hl;let B:=ao (H:=H) (a:=l) (o:=.lst ((upN n).map V.int));generalize Gk l _=H1 at I B;let p:(upN n).length=n:=by unfold upN;rw[lM,List.length_range]
 apply Jhp l B (λD M=>Jl3 cR (λi us H'=>Xd H1/\us=((QK n).take i).map V.int) (λi us H' (g,_)=>Jk7 _ _ B) M)
 .rintro i us H2 x H3 hi y d ⟨g,rfl⟩ ⟨rfl,J⟩;let(a,L,rfl):=cz (J _ (Jk7 _ _ B));let U2:=U.same (I.trans g);let Z:=iU S.hs a;let hH:(QK n)[i]?=some (if a∈S.hs then a else -a):=by unfold bK;rw[List.getElem?_map,L];rfl
  let G:((QK n).take (i+1)).map V.int=((QK n).take i).map V.int++WY (if a∈S.hs then a else -a):=by rw[bf hH,mAq];rfl
  rw[lM,p]at hi;apply Jfw _ _ rfl A.h C A.dx _ _ rfl U2.ins T.cl T.n_held ig A.hd _ rfl (U2.held a) _ rfl (Nf (λc=>?_))
  .rw[Z]at c;let N:=oDq c;rw[if_pos N]at G;exact Yu (Gz _ (by rw[lM,p];lia) (by rw[lM,p];lia) y d (g.upd M,G.symm))
  .rw[Z]at c;let N:a∉S.hs:=λz=>Jbi z;rw[if_neg N]at G;exact Jfe _ _ (Gz _ (by rw[lM,p];lia) (by rw[lM,p];lia) y d (g.upd M,G.symm))
 .rintro us H2 d ⟨g,rfl⟩;let e:(QK n).take ((upN n).map V.int).length=bK n S.hs:=by apply tO ?_;unfold bK;rw[lM,lM];exact nRq _
  rw[e]at d;apply Yv D _ (JbK d (λt X=>?_));let r:=I.trans g;exact q _ t (r.trans (Wm X)) (r.free X) ao
abbrev kN:Stmt:=wZ
def mK:Jfh ["self","fails","told","parts","forcing","fresh"] "fails" kN:=fsc
def DS {ps od:List Int}{n:Nat}(e:∀p∈ps,p≠0/\UX n)(b:∀a:Int,a∈od↔1<=a/\a<=n)(a):a∈gy ps od↔1<=a/\a<=n:=by
 unfold gy;rw[List.mem_append,List.mem_filter,decide_eq_true_eq];constructor
 .rintro (z | ⟨z,_⟩)
  .let(p,d,rfl):=List.mem_map.mp z;have:=e p d;unfold zaW;split<;>lia
  .exact(b a).mp z
 .intro h;by_cases c:a∈ps.map zaW
  .exact .inl c
  .exact Yg ((b a).mpr h) c
def DT (g:(ps.map zaW).Nodup)(f:od.Nodup):(gy ps od).Nodup:=by apply Yn g (f.filter _) (λa d b c e=>?_);have:=(List.mem_filter.mp c).2;rw[decide_eq_true_eq]at this;exact this (e▸d)
structure TlF (K)(H)(S)(t tp th)(ps:List Int)(m y:Int)(n):Prop where
 t:Nw t (VU tp th m)
 tp:GY tp
 c:SpC S m
 n40:n<=40
 pr:∀p∈ps,p≠0/\UX n
 pl:GV 100
 od:∀a:Int,a∈S.od↔1<=a/\a<=n
 odn:S.od.Nodup
def odlen {od:List Int}{n:Nat}(h:∀a:Int,a∈od↔1<=a/\a<=n)(c:od.Nodup):od.length<=n:=by
 have:=gv n (xs:=od.map λa=>a-1) (List.pairwise_map.mpr (c.imp λ{a b} h z=>h (by lia))) λx d=>by let(a,e,rfl):=List.mem_map.mp d;have:=(h a).mp e;lia
 rwa [lM]at this
def learn3 (T:JdW C)(TB:JgJ K)(mH:JgT fH)(BH:Mp 1 fH dH (WJ "why") (jB K C))(bH:JlA dH)
  (mC:JP "cut" fC)(BC:WN 1 fC dC "level" (pz K C))(bC:Wu dC "level")
  {cdv:Value}{Ar:Around}{outer:List Env}{s:Shared}{H0:Hp}{E:XK}(hr:ag 1 (Ar.deeper (QY "Hunt.learn" kN f cdv))):
  ∃z,Jd8 (IF w) P w K ["self","fails","told","parts","forcing","fresh"] "Hunt.learn" kN f Ar s H0 E ((zas kN).drop 3) z/\
   ∀D A F O H pr d S R t B th ps fl m y n,Hu K C F O H A pr d S S.hs R->TlF K H S t B th ps m y n->(ps=[]->D.rt (.bl false) H)->
    (∀a rest,ps=Xw a->∀A' H' O' R' j la,JiG m j->LaX S j la->A'.h=A.h->Hu K C F O' H' A' pr d { (JaB j).hold a y with od:=gy ps S.od } ((JaB j).hold a y).hs R'->JmR (.bl true))->
    z D [Ja A.h,Ya fl,Ja t,Ja B,Ya y,none] H:=by
 apply Qq (Wb (be (Jdv (JnG 3)) (Ud de)
   aU) (ah (Yz 0 mC BC hr bC (Jdd 2))) (Ja7 (Yz 0 mH BH hr bH (JlU 3 4)) (JaT (JiM (i:=5) mK.nd rfl rfl (Vj (N':=["part"]) (ix:=[]) rfl rfl rfl (λ_=>JfE []) rfl rfl (λj i h=>by simp at h) (Jmj 3) (λ_ _ _ _=>(NN kT TB.abs (Jd 0))))) (Jkv (Wg pN 5 (GA (N':=["atom","fresh"]) (ix:=[5]) rfl rfl rfl (λok=>JgX (sc:=ai kN)) rfl rfl (λj i h=>match j,h with|0,h=>by cases h;exact QO _|n+1,h=>by simp at h) (cO (Xe 0)) (λ_ _ _ _=>(aA (r:=rIn K true) uR (pv 0) (pv 1) rfl)) (λ_ _ _ _=>(pv 0))))) de)))
 rintro D A F O H pr d S R t B th ps fl m y n U L q0 q1;let pl:=L.pl;apply JkD B _ rfl (.inr L.tp) rfl _ rfl (Nf (λc=>?_))
 .let c1:=oDq c;injection c1 with c1;rw[lM]at c1;exact q0 (List.length_eq_zero_iff.mp (by lia))
 match ps,L,q1,pl with
 |[],L,q1,pl=>exact Jz (by decide +kernel)
 | a :: rest,L,q1,pl =>
  clear c q0;let q1:=q1 a rest rfl;let aP:=L.pr a List.mem_cons_self;let n40:=L.n40;let at2:atI (Je2 (V.ref B) (V.ref th) m) 2=some (.int m):=ay rfl;let at0:atI ((Xw a).map V.int) 0=some (.int a):=ay rfl;let(M,sF1,U1,Z):=U.sqF L.tp;apply(_,rfl,A.h,A.dx,_,rfl,U.ins,rfl,_,rfl,t,_,_,_,rfl,rfl,L.t,at2,A,M,O,pr,d,S,R,m,rfl,U1,L.c,λY H2 O2 R2 j la hcut hla X U2=>?_);let i2:=U2.ins;rw[X]at i2;let tl:((JaB j).ts).length<=1000:=by
   let h1:=(L.c.tok.take j).len;let h2:(S.ts.take j).length<=1000:=by lia
   exact h2
  apply(_,rfl,A.h,Y.dx,_,rfl,i2,rfl,_,rfl,B,_,_,_,rfl,rfl,U2.t.f.tup Z,at0,_,rfl,Y,M,O2,pr,d,JaB j,R2,a,y,by rw[X];rfl,U2,by unfold cI;lia,tl,λH3 O3 R3 U3 _=>?_);let v:=U3.t.f.tup Z;let fl1:((Xw a).map zaW).length=rest.length+1:=by rw[lM];rfl
  apply Jdz _ B v (λN q=>Jl3 eJ (λi us H'=>Xd H3/\us=(((Xw a).map zaW).take i).map V.int) (λi us H' (Q,_)=>Q.tup v) q)
  .rintro i us H4 x H5 W k l ⟨Q,rfl⟩ ⟨rfl,hx⟩;let(p,hp,rfl):=GW _ (Q.tup v);let hA:((Xw a).map zaW)[i]?=some (zaW p):=by rw[List.getElem?_map,hp];rfl
   apply Jfe _ _ (NO _ (by rw[lM];lia) W k l (Q.upd q));rw[bf hA,mAq];rfl
  rintro us H4 l ⟨Q,rfl⟩;let e4:((Xw a).map zaW).take ((Xw a).map V.int).length=(Xw a).map zaW:=tO (by rw[lM,lM];exact nRq _);rw[e4]at l;let U4:=U3.more Q q l;let f4:=(U3.t.none q).2;let G:JcI M M N (((Xw a).map zaW).map V.int):=Wm f4;let J:=ao (H:=M) (a:=N) (o:=.lst (((Xw a).map zaW).map V.int));generalize WW M N=F4 at U4 G J;generalize hfr:(Xw a).map zaW=g at *;let i4:=U4.ins;rw[X]at i4;let I:=U4.at' 8 rfl rfl;let odl:=odlen L.od L.odn;apply(_,rfl,_,rfl,A.h,C,Y.dx,_,_,rfl,i4,T.cl,T.n_order,sZ,Y.od,rfl,Jv I,λD2 hD2=>gq cR (λi us H'=>Xd H4/\us=((S.od.take i).filter λz=>decide (z∉g)).map V.int) (λi us H' (u,_)=>SqL.of (u _ _ I)) (YJ hD2) ?_ ?_)
  .rintro i us H5 x H6 W k b ⟨u,rfl⟩ ⟨rfl,hx⟩;let(z,hz,rfl):=Jik _ (u _ _ I);let et:((S.od.take (i+1)).filter λz=>decide (z∉g))=if z∈g then(S.od.take i).filter λz=>decide (z∉g) else((S.od.take i).filter λz=>decide (z∉g))++[z]:=by
    let hz:S.od[i]?=some z:=hz;rw[bf hz,List.filter_append];by_cases e:z∈g
    .rw[if_pos e,List.filter_cons,if_neg (by simp [e]),List.filter_nil,List.append_nil]
    .rw[if_neg e,List.filter_cons,N4 e];rfl
   let hil:i<S.od.length:=by rw[lM]at W;exact W
   apply XJ _ _ rfl N _ rfl (Jc (u _ _ (U4.t.f _ _ J))) rfl (p_ _) _ rfl ?_;rw[if_pos rfl,nN];by_cases e:z∈g
   .rw[dTq e];apply bq (JjQ W k b u);rw[et,if_pos e]
   .rw[dFq e];apply Jmx (NO _ (by rw[lM];show S.od.length<=_;lia) W k b (u.upd hD2));rw[et,if_neg e,mAq];rfl
  rintro us H5 b ⟨u,rfl⟩;let e5:S.od.take (S.od.map V.int).length=S.od:=tO (by rw[lM];exact nRq _);let b:H5 D2=some (.lst (((S.od.take (S.od.map V.int).length).filter λz=>decide (z∉g)).map V.int)):=b;rw[e5]at b;let U5:=U4.same u;let frl:U9 g.length:=by rw[<-hfr,lM];exact pl
  let h1:H5 N=some (.lst (g.map V.int)):=U5.t.f _ _ J;apply(N,D2,_,_,rfl,rfl,h1,b,?_,λn1 hn1=>?_)
  .have:=List.length_filter_le (λz=>decide (z∉g)) S.od;rw[lM,lM];exact Nat.le_of_lt (hln (by lia))
  rw[<-mAq];let eN:g++S.od.filter (λz=>decide (z∉g))=gy (Xw a) S.od:=by unfold gy;rw[hfr]
  rw[eN];let U6:=U5.newF hn1 (.lst ((gy (Xw a) S.od).map V.int));let f6:=(U5.t.none hn1).2;let sF6:JcI F4 F4 n1 ((gy (Xw a) S.od).map V.int):=Wm f6;let sF:ap F _:=(sF1.trans G).trans sF6;let f0:Uf (F n1):=by
   cases e:F n1 with
   |none=>rfl
   |some o=>have:=(sF1.trans G) _ _ e;rw[f6]at this;cases this
  let(O7,U7):=U6.moveOd ao f0 sF;let i6:=U6.ins;rw[X]at i6;apply JX _ A.h C Y.dx _ i6 T.cl T.n_order (by show M8 12;decide) ?_;have:=q1 { Y with od:=n1 } _ O7 R3 j la hcut hla X U7;rw[<-X];exact this
structure LrnTo (n)(B)(Y)(most)(S:HS)(f)(S'):Prop where
 mid:cH n B Y S'
 wgt:JgR 0<NJ 0 S'.ts
 st:LStp most S f S'
 to:(S'.pp=S.pp/\S'.rs=S.rs)\/((S.pp.length:Int)<most/\S'.pp=S.pp++[lnD (YF f) (QT f).reverse]/\S'.rs=S.rs++[YF f])
structure SpLn (n)(B)(Y)(S)(f):Prop where
 c:eS n B Y S f
 n40:n<=40
 rl:Jf9 197000
 pl:Jnf 197000
 gl:∀c,(S.wg c).length<=197000
inductive tI (K)(C CL):Sp|m{vs H Q E} (A) (F O) (pr) (most) (S) (R) (f) (n) (B) (Y):vs=XF A.h f->Jio F O H A S R (SpLn n B Y S f->(¬((QT f).length=1/\YF f≠[])->most<=(S.pp.length:Int)->∀H',Jl7 F CL)->(YF f=[]->(S.pp.length:Int)<most->∀H' O' R',Jio F O' H' A (S.put (Jk9 (QT f).reverse) [] []) R' (JjR H'))->(∀A' H' O' R' S',A'.h=A.h->LrnTo n B Y most S f S'->MA F O' H' A' S' S'.hs R'->Jch H')->tI K C CL vs H Q E)
section
variable {P:Program} {w:World} {K:W.Frag} {mg:Str->Option Value} {base:Heap} {C CL f fH fC fP fL:Addr} {fd dH dC dP' dL:FuncData}
def DU (ps hs):Jbj (lnD ps hs):=by simp only[lnD,nol,a_,iO,Bool.and_self]
def DV (h:Nw l (Jf1 "learnt" tp th))(b:GY tp)(a:Nw th (hs.map V.int)):JU K (lnD ps hs) l :=
 Has.tup' h (.cons (by simp only[Has]) (WL (nJ b) (nJ a)))
def DW (F:Ix "learn" "Hunt.learn" kN)(T:JdW C)(TB:JgJ K)(mH:JgT fH)(BH:Mp 1 fH dH (WJ "why") (jB K C))(bH:JlA dH)
  (mC:JP "cut" fC)(BC:WN 1 fC dC "level" (pz K C))(bC:Wu dC "level")
  (mP:JP "put" fP)(BP:Jg0 P w K w 2 fP dP' (Nk "line") (pj K C CL))(bP:Wu dP' "line")
  (BL:IS 3 "learnt" fL dL ["rows","trail","fails"] (Le52.sp_learnt K)):Jg0 P w K w 4 f fd (Nk "fails") (tI K C CL):=by
 apply Fun.okX F mK λcdv Ar outer s H vs Q E hr h=>?_
 let(A,F',O,pr,D,S,R,J,n,B,Y,rfl,U,L,qE,qN,qY):=h;let hr1:=Wo (j:=1);let hr2:=Wo (j:=2);let(z3,h3,q3):=learn3 (base:=base) T TB mH BH bH mC BC bC (cdv:=cdv) (outer:=outer) hr1;apply Qq (X7 (i:=2) mK.nd (Yj BL.ok hr BL.m BL.kp BL.b aJ (aa (Xe 0) (JbI (Xe 0) 1))) (i:=3) mK.nd (Yk 2) (ae (Ie (i:=4) mK.nd (iJ (J_ (Jdv (JgZ (Jdd 2))) (JgQ (JnG 3))) (pv 1) (Jk 0 mP BP hr2 bP (eE xe1) (Jga (aa aE (QQ 3 (Yk 2)))))))
  h3))
 let g:=L.c.b.tok;let n40:=L.n40;let tl:U9 S.ts.length:=by have:=g.len;lia
 apply(_,rfl,A.h,C,A.dx,_,_,rfl,U.ins,T.cl,T.n_known,iY,_,rfl,A.h,C,A.dx,_,_,rfl,U.ins,T.cl,T.n_trail,ie,_,rfl,A.kn,A.tr,J,R.xs,R.zs,S.rs,S.ts,rfl,Jgl 1,U.u.kn,Jgl 3,U.u.tr,L.c.ln,tl,L.c.b.rlen n40,λH1 t M W m s1 _ h1 h2 h3' mx=>?_);let U1:=U.same s1;let at0:atI (Je2 (V.ref M) (V.ref W) m) 0=some (.ref M):=ay rfl;let at1:atI (Je2 (V.ref M) (V.ref W) m) 1=some (.ref W):=Mv (j:=1);generalize d:YF J=ps at *;generalize hhs:(QT J).reverse=hh at *;let hpl:(ps.map V.int).length=ps.length:=lM _;let hhl:(hh.map V.int).length=(QT J).length:=by rw[lM,<-hhs,List.length_reverse]
 let inP:∀q∈ps,q≠0/\q.natAbs<=n:=λq hq=>by rw[<-d]at hq;let(i,u,hi,e,_):=jq g hq;let h1:=(g i u hi).1;let h2:=L.c.b.rng u (mO hi);lia
 let psl:GV 100:=by rw[<-d];unfold aZ;have:=List.length_filter_le (λp=>decide (p∈gu S.rs S.ts J)) (negs S.ts).reverse;rw[List.length_reverse,g_]at this;lia
 let m0:0<=m:=by
  by_cases e:(ps.drop 1).map (lvF S.ts)=[]
  .rw[mx.1 e];decide
  .let(x,_,e2):=List.mem_map.mp (mx.2 e).1;rw[<-e2];exact j_ x
 let absn:(ps.map zaW).Nodup:=by
  apply List.pairwise_map.mpr ((show ps.Nodup from d▸om g).imp_of_mem λ{x y} hx hy ne z=>?_);rw[<-d]at hx hy;let(i,u,hi,e,_):=jq g hx;let(j,v,hj,e',_):=jq g hy;unfold zaW at z;have:x=y\/x=-y:=by split at z<;>split at z<;>lia
  rcases this with z|z
  .exact ne z
  .exact g.cons (q:=u.1) (eR hi) (by rw[show -u.1=v.1 by lia];exact eR hj)
 apply Jcl _ t _ _ _ rfl (SqT.of h1) at0 ?_;let rest:∀(N:HS) (O2 Z:Hp) (R2:HC) (y:Int),N.ts=S.ts->N.bs=S.bs->N.la=S.la->N.od=S.od->TOk N.rs N.ts->Hu K C F' O2 Z A pr D N N.hs R2->Mh Z t (VU M W m)->Mh Z M (ps.map V.int)->(ps=[]->JjR Z)->
   (∀a rs j la,ps=a::rs->JiG m j->LaX S j la->LrnTo n B Y D S J { (N.cut j la).hold a y with od:=gy ps S.od })->
   z3 { nx:=λ_ H'=>Q .non H',rt:=Q } [Ja A.h,Ya J,Ja t,Ja M,Ya y,none] Z:=by intro N O2 Z R2 y e1 e2 e3 e4 tok1 U2 g1 g2 n0 n1;apply q3 _ A F' O2 Z pr D N R2 t M W ps J m y n U2 (g1,g2,(tok1,by rw[e2,e1];exact L.c.b.bs,m0,by rw[e3];exact L.c.b.la),n40,inP,psl,by rw[e4];exact L.c.b.od,by rw[e4];exact L.c.b.odn) n0 λa rs X A' H' O' R' j la r G eh U'=>?_;rw[e4]at U';exact qY A' H' O' R' _ eh (n1 a rs j la X (e1▸r) (G.ok,e1▸e3▸G.p)) U'
 let od1:=DS inP L.c.b.od;let od2:=DT absn L.c.b.odn;apply(λ(k:¬((QT J).length=1/\ps≠[])->_) (k2:((QT J).length=1/\ps≠[])->_)=>(_,rfl,t,_,_,_,rfl,rfl,SqT.of h1,at1,W,_,rfl,.inr (SqT.of h3'),rfl,_,rfl,bo (λc1=>Jg2 _ M _ (.inr (SqT.of h2)) _ _ _ rfl (bo (λc2=>k2 ?_) (λc2=>k ?_))) (λc1=>k ?_))) (λhn=>?_) (λhy=>?_)
 .apply(_,rfl,A.h,A.dx,_,rfl,U1.ins,rfl,_,rfl,_,rfl,t,_,_,_,rfl,rfl,SqT.of h1,at1,lS3,λl hl=>?_);let s2:VB H1 H1 l (Jf1 "learnt" M W):=Wm hl;let l2:=ao (H:=H1) (a:=l) (o:=.tup (Jf1 "learnt" M W));generalize WW H1 l=Z at s2 l2;let U2:=U1.same s2;let t2:=SqT.of (K:=K) (s2 _ _ h1);let tp2:=SqT.of (K:=K) (s2 _ _ h2);let th2:=SqT.of (K:=K) (s2 _ _ h3');let(F3,sF3,U3,t3):=U2.sqF t2;let(F4,sF4,U4,tp4):=U3.sqF tp2;let t4:=sF4.tup t3;let lat:JgC ps=ps:=by rw[←d];exact AX _ _ _
  let tr60:∀u∈S.ts,-60<=u.1/\u.1<=60:=λu hu=>by let(i,hi):=List.getElem?_of_mem hu;exact(g i u hi).2.1
  apply(A,F4,O,pr,D,S,R,l,M,lnD ps hh,ps,rfl,U4,(DV (SqT.of l2) tp2 th2,DU _ _,W7 _ (SqT.of l2),tp2,Mg L.pl,Mg L.rl,tl,tr60,g.negs,λc=>Mg (L.gl c)),λhm=>qE hn hm _ U2.t.f,λhm H5 O5 R5 U5=>?_);rw[lat]at U5;let U6:=U5.base (sF3.trans sF4);apply rest (Ja5 (lnD ps hh) ps) O5 H5 R5 _ rfl rfl rfl rfl (g.more:Jju (S.rs++[ps])) U6 (U5.t.f.tup t4) (U5.t.f.tup tp4) (λe=>?_) λa rs j la X r G=>?_
  .subst e;exact qN rfl hm _ _ _ U6
  .let ne:YF J≠[]:=by rw[d,X];exact λz=>nomatch z
   let(a',rs',I,c1,c2,c3):=L.c.next (by lia) ne (by rw[d];exact mx) r G.ok od1 od2;rw[d]at I c1;let e2:a'=a:=by rw[X]at I;injection I with h;exact h.symm
   subst e2;subst X;exact(c1 (lnD _ hh),c3 _ (by lia),(_,rs,m,j,la,d,by rw[d];exact mx,r,G.p,.inr (λz=>hn (z,λw=>nomatch w),hm,by rw[hhs])),.inr (hm,by rw[d,hhs];rfl,by rw[d];rfl))
 .apply Yu (rest S O H1 R J rfl rfl rfl rfl g U1 (SqT.of h1) (SqT.of h2) (λe=>absurd e hy.2) λa rs j la X r G=>?_);let ne:YF J≠[]:=by rw[d];exact hy.2
  let(a',rs',I,c1,c2,c3):=L.c.next (by lia) ne (by rw[d];exact mx) r G.ok od1 od2;rw[d]at I;let e2:a'=a:=by rw[X]at I;injection I with h;exact h.symm
  subst e2;subst X;exact(c2 hy.1,c3 _ (by have:=L.c.ln.f0;lia),(_,rs,m,j,la,d,by rw[d];exact mx,r,G.p,JaU hy.1),JaU rfl)
 .let d1:=oDq c1;injection d1 with d1;let d2:Je (((ps.map V.int).length:Nat):Int):=oDq c2;rw[hhl]at d1;rw[hpl]at d2;exact Js (λz=>by rw[z]at d2;exact Vq d2)
 .let d2:¬Je (((ps.map V.int).length:Nat):Int):=λz=>c2 (dTq z);rw[hpl]at d2;exact λz=>z.2 (List.length_eq_zero_iff.mp (by lia))
 .exact λz=>c1 (dTq (by rw[hhl,z.1];rfl))
end
abbrev xZ:Stmt:=wW
structure SpG (n)(B)(T)(As)(S):Prop where
 m:cH n B (V0 T) S
 n40:n<=40
 rl:Jf9 197000
 pl:Jnf 197000
 t60:Jbq 60
structure CfG (n)(B)(T)(As)(most)(S S')(f):Prop where
 r:JdF T (S,.grow,) (S',.odds f,)
 w:JgR 0<=NJ 0 S'.ts
 p:S'.pp.length<=S.pp.length+1
 q:(S.pp.length:Int)<=most->(S'.pp.length:Int)<=most
 c:eS n B (V0 T) S' f
 g:∀c,(S'.wg c).length<=S'.rs.length
structure RsG (n)(B)(T)(As)(most)(S S'):Prop where
 r:JdF T (S,.grow,) (S',.rest,)
 e:fz S S'
 m:cH n B (V0 T) S'
 l:S'.lk=S'.ts.length
 nc:∀r,Jj4 r->∃p∈r,-p∉S'.hs
structure LgG (T)(As)(most)(S S'):Prop where
 r:JdF T (S,.grow,) (S',.ask,)
 f:Jke (NC T) (S',.ask,) .long
 p:S'.pp=S.pp
inductive mM (K)(C CP CL):Sp|m{vs H Q E} (A) (F O) (pr tl al rl) (most) (S) (R) (n) (B) (T) (As) (Rs):vs=Gj A.h->Jio F O H A S R (SpG n B T As S->JlI CP F pr T->(∀H' S',LgG T As most S S'->Jl7 F CL)->(∀H' O' R' S',RsG n B T As most S S'->MA F O' H' A S' S'.hs R'->QP H')->(∀H' O' R' S' f,CfG n B T As most S S' f->MA F O' H' A S' S'.hs R'->JeI f)->mM K C CP CL vs H Q E)
set_option tactic.hygienic true in
def DX (g:lat.Nodup)(c):(putG r lat wg c).length<=(wg c).length+1:=by
 unfold putG;split
 .rename_i a b f;let ab:a≠b:=λe=>(List.nodup_cons.mp g).1 (e ▸ List.mem_cons_self);by_cases d:c=b
  .rw[if_pos d,if_neg (λz=>ab (z.symm.trans d)),lAq];exact nRq _
  .rw[if_neg d];split
   .rw[lAq];exact nRq _
   .lia
 .lia
def DY (h:kL K H a d B):JU K (eqD (JeC B) B) a/\Jbj (eqD (JeC B) B)/\∃b f,Nw a [.str "equal",.ref b,f]/\SqT K H b ((JeC B).map V.int):=by let(b,j,bs,e,c,i,g):=h;exact(Has.tup' e (.cons (by simp only[Has]) (WL (nJ c) (Has.tup' i g))),by simp only[eqD,nol,a_,iO,cG,Bool.and_self],b,_,e,c)
def tJ:Vf (Vs "fails" "line") ["self"] xZ:=fsc
section
variable {P:Program} {w:World} {K:W.Frag} {mg:Str->Option Value} {base:Heap} {C CP CL f fL fK fP:Addr} {fd dL dK' dP':FuncData}
def DZ (F:Ix "grow" "Hunt.grow" xZ)(T:JdW C)(TB:JgJ K)(mL:JP "look_at" fL)(BL:WN 2 fL dL "part" (tf K C))(bL:Jls dL)
  (mP:JP "put" fP)(BP:Jg0 P w K w 2 fP dP' (Nk "line") (pj K C CL))(bP:Wu dP' "line")(BK:IS 6 "clash" fK dK' (Yq "held") (sG K CP)):Jg0 P w K w 7 f fd ["self"] (mM K C CP CL):=by
 apply Fun.okX F tJ λcdv Ar outer s H vs Q E hr h=>?_
 let(A,F',O,pr,ptl,pal,prl,q,S,R,n,B,Tm,As,Rs,rfl,U,L,PP,qL,qN,qF):=h;let hr2:=Wo (j:=2);apply Qq (JaT (jK PassesOwn.leaving (aA iq (Xe 0) (Jje 0)) (Nn (i:=1) tJ.nd (Yz 0 mL BL hr2 bL (Gb (VI (aI aQ (aI az (Xe 0) (Xe 0)) af)))) (yM (pv 0) af in_add) (aj (be (XZ ni 1 eU) (QJ 1)
     aU)))) (Ie (i:=2) tJ.nd (Yj BK.ok hr BK.m BK.kp BK.b aJ (Ih (Xe 0) (Vj (N':=["step"]) (ix:=[]) rfl rfl rfl (λ_=>JfE []) rfl rfl (λj i h=>by simp at h) (cO (Xe 0)) (λ_ _ _ _=>(JlE (r:=dk K))))))) (iJ (XZ pD 2 eU) eU (Jk 0 mP BP hr2 bP (eE xe1) (Jd 2))))
 let n40:=L.n40;apply Id (λk σ H'=>Ex4 λ v1 S' O' R'=>An6 (σ=[Ja A.h,v1,none]) (k=n-S'.lk) (fz S S') (JmA Tm q (S,.grow,) (S',.grow,)) (cH n B (V0 Tm) S') (Hu K C F' O' H' A pr q S' S'.hs R')) (_,none,S,O,R,rfl,rfl,fz.refl S,.refl,L.m,U);rintro k σ H1 ⟨v1,o,O1,R1,rfl,ek,Z,r1,M1,v⟩;let zl:=Hu.zlen v;let tln:=M1.b.tlen;apply(_,rfl,A.h,C,A.dx,_,_,rfl,v.ins,T.cl,T.n_looked,sW,_,rfl,A.h,C,A.dx,_,_,rfl,v.ins,T.cl,T.n_trail,ie,A.tr,_,rfl,Jc (v.at' 3 rfl rfl),_,_,rfl,rfl,_,rfl,Nf (λc=>?_))
 .let c1:=oDq c;let X:o.lk<o.ts.length:=by lia
  let ht:=gG X;generalize o.ts[o.lk]=J at ht;let hx:=gG (l:=R1.zs) (i:=o.lk) (by lia);let(t1,p,W,ex,hp):=gS v.u.tr hx;rw[ht]at W;injection W with W;subst W;let at1:atI R1.zs (o.lk:Int)=some (.ref p):=by rw[<-ex];exact ay hx
  let LK:=M1.look (by lia) ht;let LKI:=LkI.all M1 (by lia) (by rw[Int.neg_neg];exact eR ht) _ (nRq _);let gl:∀c,((da o (-J.1)).1.wg c).length<=o.rs.length:=λc=>by have:=JeD LKI.w;rw[LKI.rs,List.drop_length,List.append_nil]at this;exact this
  apply Qq (λ_ _ z=>z);apply(_,rfl,A.h,A.dx,_,rfl,v.ins,rfl,_,rfl,A.h,C,A.dx,_,_,rfl,v.ins,T.cl,T.n_trail,ie,_,rfl,A.h,C,A.dx,_,_,rfl,v.ins,T.cl,T.n_looked,sW,A.tr,_,_,_,rfl,rfl,SqL.of (v.at' 3 rfl rfl),at1,p,_,_,_,rfl,rfl,hp,rfl,_,rfl,A,F',O1,pr,q,o,R1,-J.1,n,B,_,rfl,v,(M1,n40,by rw[Z.rs];have:=L.rl;lia,J,ht,rfl),λH2 O2 R2 U2=>?_);let lkE:(da o (-J.1)).1.lk=o.lk:=LKI.eq.2.1;let U3:=U2.setLk (o.lk+1);let rsE:=LK.1.rs;generalize hlr:da o (-J.1)=lr at *;let(S2,fl):=lr;apply Jfw _ A.h C A.dx _ _ rfl U2.ins T.cl T.n_looked sW _ _ rfl rfl _ _ U2.ins (by show M8 12;decide) ?_;let eI:(upd H2 A.h (Q6 C (zbu "looked" (.int ((S2.lk:Int)+1)) (zby A pr q S2.lk))))=upd H2 A.h (Q6 C (zby A pr q (o.lk+1))):=by rw[lkE];rfl
  rw[eI];generalize WW H2 A.h=H3 at U3;let EX:fz S { S2 with lk:=o.lk+1 }:=Z.trans (LK.1.rs,LK.1.pp,LK.1.ts);let gF:∀ph,phO fl=ph->Rch (NC Tm) q (S,.grow,) ({ S2 with lk:=o.lk+1 },ph,):=λph e=>r1.step (by show _=hC o;unfold hC;rw[ht];show _=(({ (da o (-J.1)).1 with lk:=o.lk+1 }:HS),phO (da o (-J.1)).2,);rw[hlr,<-e])
  cases fl with
  |none=>
   apply Ji7 (UV (λc=>absurd c (show ¬Xh (!decide (V.non=V.non)) by decide)));apply(_,?_,_,_,_,_,rfl,rfl,EX,gF _ rfl,LK.2.1 rfl,U3);show n-(o.lk+1)<k;lia
  |some g=>
   apply Ji7 (Up (λc=>Jz (by rfl)));apply Yu (qF _ _ _ { S2 with lk:=o.lk+1 } g (gF _ rfl,EX.wgt n,by rw[EX.pp];lia,(λz=>by rw[EX.pp];exact z),LK.2.2 g rfl,λc=>?_) U3);show(S2.wg c).length<=S2.rs.length;rw[rsE];exact gl c
 .let c1:¬((o.lk:Nat):Int)<((R1.zs.length:Nat):Int):=λz=>Jbi z;let X:o.lk=o.ts.length:=by have:=M1.lk;lia
  let G:JmA Tm q (S,.grow,) (o,.ask,):=r1.step (by show _=hC o;unfold hC;rw[List.getElem?_eq_none (by lia)])
  let htr:=v.at' 3 rfl rfl;apply(_,rfl,A.h,C,A.dx,_,_,rfl,v.ins,T.cl,T.n_problem,DB,_,rfl,A.h,C,A.dx,_,_,rfl,v.ins,T.cl,T.n_trail,ie,A.tr,rfl,Jv htr,λD hD=>Jl3 cR (λi us H'=>Xd H1/\us=(o.hs.take i).map V.int) (λi us H' (s2,_)=>SqL.of (s2 _ _ htr)) hD)
  .rintro i us H2 x H3 hi hly Y ⟨s2,rfl⟩ ⟨rfl,hx⟩;let(t,p,ht,rfl,hp):=gS v.u.tr (hx _ (SqL.of (s2 _ _ htr)));let hH:o.hs[i]?=some t.1:=by show(o.ts.map Prod.fst)[i]?=_;rw[List.getElem?_map,ht];rfl
   apply Jcl _ p _ _ _ rfl (s2.tup hp) rfl (NO _ (by rw[zl];lia) hi hly Y (s2.upd hD));rw[bf hH,mAq];rfl
  .rintro us H2 Y ⟨s2,rfl⟩;let e:o.hs.take R1.zs.length=o.hs:=tO (by rw[lM,zl];exact nRq _);rw[e]at Y;let U2:=v.same s2;let h64:o.hs.length<64:=by rw[lM];lia
   let I:=M1.b.tok;let hn:o.hs.Nodup:=by rw[List.Nodup,List.pairwise_map];exact(List.pairwise_map.mp I.negs).imp λh z=>h (by rw[z])
   apply(pr,ptl,pal,prl,D,Tm,As,Rs,o.hs,rfl,PP.same U2.t.f,Jc Y,h64,L.t60,λLs ms eL RL GL CL' pm so=>(λe H3 s3=>?_,λd r x y M H3 a e hd _ N ms2 s3 la=>?_))
   .exact Ji7 (bo (λ_=>qN _ _ _ o (G.step (GB none (ms,pm,so,eL▸e)),Z,M1,X,Dk GL CL' pm e) (U2.same s3)) (λc=>Jz (by decide)))
   .let U3:=U2.same s3;let hdm:d∈ms.filter (JlB Ls):=by rw[e];exact List.mem_cons_self
    let d0:=jy hd;let dn:-d∈o.hs:=by let(k,hk,ek):=List.mem_map.mp (pm.mem_iff.mp (List.mem_filter.mp hdm).1);rw[<-ek,Int.neg_neg];exact(List.mem_filter.mp hk).1
    let er:=Dh RL N hd;let nd:=Dj RL N.inn ms2 hn (show 0<d by lia);let fl:=Di RL N.inn dn;let(l1,l2,pa,x2,l3,l4):=DY la;subst eL;let cY:clR Tm As o.ts (some (clD Tm As o.hs d M)):=(ms,pm,so,(d,r,x,y,M,e,hd,N,ms2,RL,rfl));let rk:(o.pp.length:Int)<q->Rch (NC Tm) q (S,.grow,) _:=λhm=>G.step (_,cY,hm,rfl);dsimp only [clD]at rk;generalize eqD _ _=ld at l1 l2 rk;generalize JeC _=ps at er nd fl l4 rk;let gl:=λc=>JeD M1.w;let tr60:∀u∈o.ts,-60<=u.1/\u.1<=60:=λu hu=>by let(i,hi):=List.getElem?_of_mem hu;exact(I i u hi).2.1
    apply Ji7 (UV (λc=>Vh c));apply(_,rfl,A.h,A.dx,_,rfl,U3.ins,rfl,_,rfl,A,F',O1,pr,q,o,R1,a,pa,ld,ps,rfl,U3,(l1,l2,W7 _ l3,l4,by rw[Z.pp];have:=L.pl;lia,by rw[Z.rs];have:=L.rl;lia,by lia,tr60,I.negs,λc=>by have:=gl c;rw[Z.rs]at this;have:=L.rl;lia),λhm=>qL _ o (G,(_,cY,hm,rfl),Z.pp) U3.t.f,λhm H4 O4 R4 U4=>?_);apply qF _ _ _ (o.put ld ps (hF o.ts ps)) _ (rk hm,Z.wgt n,?_,(λ_=>by show((o.pp++[ld]).length:Int)<=q;rw[lAq];show((o.pp.length+1:Nat):Int)<=q;lia),M1.clash X ld er nd fl,λc=>?_) U4
    .show(o.pp++[ld]).length<=_;rw[lAq,Z.pp];exact nRq _
    .let h1:=DX (r:=(o.rs.length:Int)) (wg:=o.wg) ((List.pairwise_reverse.mpr (I.negs.imp Ne.symm)).filter λp=>decide (p∈ps)) c;let h2:=gl c;show _<=(o.rs++[ps]).length;rw[lAq];exact Nat.le_trans h1 (Nat.succ_le_succ h2)
end
abbrev x_:Stmt:=wR
structure SpB (n)(B)(T:List K52.Tm)(S):Prop where
 t60:Jbq 60
 b:cF n B 0 S
 hB:∀r∈B,r.Nodup/\∀p∈r,p≠0/\UX n
 n40:n<=40
 bl:Jt B.length
structure RsB (n)(B)(T)(As)(most)(S S'):Prop where
 r:JdF T (S,.beg 0,) (S',.rest,)
 m:cH n B (V0 T) S'
 nc:∀r,Jj4 r->∃p∈r,-p∉S'.hs
 l:S'.lk=S'.ts.length
 p:S'.pp=[]
structure CfB (n)(B)(T)(As)(most)(S S')(f):Prop where
 r:JdF T (S,.beg 0,) (S',.odds f,)
 c:eS n B (V0 T) S' f
 g:∀c,(S'.wg c).length<=S'.rs.length
 p:S'.pp.length<=1
inductive tK (K)(C CP CL):Sp|m{vs H Q E} (A) (F O) (pr tl al rl) (most) (S) (R) (n) (B) (T) (As) (Rs):vs=Gj A.h->Jio F O H A S R (SpB n B T S->JlI CP F pr T->(∀H' S',JdF T (S,.beg 0,) (S',.ask,)->Jke (NC T) (S',.ask,) .long->S'.pp=[]->Jl7 F CL)->(∀H' O' R' S',RsB n B T As most S S'->MA F O' H' A S' S'.hs R'->QP H')->(∀H' O' R' S' f,CfB n B T As most S S' f->MA F O' H' A S' S'.hs R'->JeI f)->tK K C CP CL vs H Q E)
def tL:Vf (Vs "number" "row") ["self"] x_:=fsc
def cF.glen (h:cF n B i S)(c):(S.wg c).length<=B.length:=by have:=JeD h.w;let this:=this;rw[List.length_take]at this;lia
def D0 (F:Ix "begin" "Hunt.begin" x_)(T:JdW C)(TB:JgJ K)(mW:JP "watch" fW)(BW:Mp 1 fW dW (Jhg "self") (pf K C))(bW:Uj dW (Jhg "self"))
  (mH:JgT fH)(BH:Mp 1 fH dH (WJ "why") (jB K C))(bH:JlA dH)
  (mG:JP "grow" fG)(BG:Jg0 P w K w 7 fG dG ["self"] (mM K C CP CL))(bG:JiV dG):Jg0 P w K w 8 f fd ["self"] (tK K C CP CL):=by
 apply Fun.okX F tL λcdv Ar outer s H vs Q E hr h=>?_
 let(A,F',O,pr,ptl,pal,prl,k,S,R,n,B,Tm,As,Rs,rfl,U,L,PP,qL,qN,qF):=h;let hu:=dr hr;let hr1:=Wo (j:=1);apply Qq (J3 (Jf8 rfl (nQ rfl TB.enumerate (Vr 0)) (kR rfl (Jdu (i:=1) tL.nd (Jdu (i:=2) tL.nd kQ))) (Jej (JgQ (JnG 2)) (QG 0 mW BW hr1 bW (Va 1 (JeP 2 2))) (Jej (JcR (Jdv (JnG 2)) (eW (lx hu (VI (Yk 2)) (Xe 0)))) (QJ 1) (aj (be (Jei hu (Yk 2) (Xe 0)) (QG 0 mH BH hr1 bH (JlU 2 1))
         aU))))) (kU (pv 0) T.cl mG BG hr bG .nil (eE xe1)))
 let n40:=L.n40;let bl:=L.bl;let kn0:∀{Fx Ox Hx:Hp} {Sx:HS} {hx:List Int} {Rx:HC},Hu K C Fx Ox Hx A pr k Sx hx Rx->Rx.xs=R.xs->Hx A.kn=some (.lst R.xs):=λUx e=>e▸Ux.at' 1 rfl rfl;apply(_,rfl,A.h,C,A.dx,_,_,rfl,U.ins,T.cl,T.n_known,iY,A.kn,rfl,Jv (V7 1),JeA (nP) (λi σ H'=>Ex5 λ v1 v2 S' O' R'=>An4 (σ=[Ja A.h,v1,v2]) (R'.xs=R.xs) ((cF n B i S'/\JmA Tm k (S,.beg 0,) (S',.beg i,))) (Hu K C F' O' H' A pr k S' S'.hs R')) (λi σ H' h=>by let(_,_,_,_,_,_,e,_,Ux):=h;exact SqL.of (kn0 Ux e)) (Jdp none none S O R rfl (L.b,.refl) U))
 .rintro i σ Y x H3 hi ⟨v1,v2,G,O1,R1,rfl,ex,⟨I,r1⟩,U1⟩ ⟨t,y,rfl,ht,rfl,hy⟩;let(v,q,d,rfl,hq):=zN U1.u.kn (ex ▸ hy _ (SqL.of (kn0 U1 ex)));let st:=r1.step (by show _=gA G i;unfold gA;rw[d])
  rw[I.rs]at d;let J:=L.hB v (mO d);let s3:VB Y Y t (VH i q):=Wm ht;let n3:=ao (H:=Y) (a:=t) (o:=JmB i q);generalize Mb Y t (VH i q)=H3 at s3 n3;let W:=U1.same s3;let D:=s3.tup hq;let iB:i<B.length:=(gEq d).1;let kI:cI (i:Int):=by unfold cI;lia
  let Z:∀p∈v,cI p:=λp hp=>by have:=(J.2 p hp).2;unfold cI;lia
  let gl:∀c,(G.wg c).length<=199000:=λc=>by have:=cF.glen I c;lia
  apply(t,_,rfl,SqT.of n3,rfl,_,_,rfl,_,_,rfl,rfl,?_);apply Jg2 _ q _ (.inr D) _ _ _ rfl (Nf (λc=>?_))
  .let N:=oDq c;rw[lM]at N
   match v,N,D,J,Z,d,st with
   |a::b::M,_,D,J,Z,d,st=>
    let a0:atI ((a::b::M).map V.int) 0=some (.int a):=ay rfl;let a1:atI ((a::b::M).map V.int) 1=some (.int b):=ay rfl;apply(_,rfl,A.h,A.dx,_,rfl,W.ins,rfl,_,rfl,_,rfl,q,_,_,_,rfl,rfl,D,a0,_,rfl,q,_,_,_,rfl,rfl,D,a1,A,F',O1,pr,k,G,R1,i,a,b,rfl,W,kI,Jna a,Jna b,gl a,gl b,λH4 O4 R4 U4 e4=>?_);exact Jdp _ _ _ _ _ (e4.trans ex) (I.add d J.1 (by simp) (λx e=>by injection e with _ e;cases e) rfl,st) U4
   |[a],N,_,_,_,_,_=>exact Vh N
   |[],N,_,_,_,_,_=>exact Vh N
  .let N:¬(1:Int)<(((v.map V.int).length:Nat):Int):=λz=>Jbi z;rw[lM]at N;let rl:((v.map V.int).length:Nat)=v.length:=lM _;let X:(∀p∈v,-p∈G.hs)→JmA Tm k (S,.beg 0,) (G,.odds (i:Int),)→Q (.int (i:Int)) H3:=λhf rr=>qF _ _ _ G _ (rr,I.fail L.hB d hf,λc=>by rw[I.rs];exact cF.glen I c,by rw[I.pp];exact Nat.zero_le _) W;apply JkD q _ rfl (.inr D) rfl _ rfl (bo (λc2=>?_) (λc2=>?_))
   .let c3:=oDq c2;injection c3 with c3;rw[rl]at c3;let e0:v=[]:=List.length_eq_zero_iff.mp (by lia);subst e0;exact Yu (X (λp hp=>nomatch hp) st)
   .match v,N,c2,D,J,Z,d,X,st with
    |[],_,c2,_,_,_,_,_,_=>exact absurd (by decide +kernel) c2
    |a::b::M,N,_,_,_,_,_,_,_=>exact absurd (by simp only[List.length_cons];lia) N
    | [a],_,_,D,J,Z,d,X,st =>
     let a0:atI ([a].map V.int) 0=some (.int a):=Mv (j:=0);let g1:=iU G.hs a;let g2:=iU G.hs (-a);apply(_,rfl,q,_,_,_,rfl,rfl,D,a0,_,rfl,_,rfl,A.h,C,A.dx,_,_,rfl,W.ins,T.cl,T.n_held,ig,A.hd,_,rfl,W.held (-a),_,rfl,bo (λc4=>?_) (λc4=>?_))
     .rw[g2]at c4;let c5:=oDq c4;exact Yu (X (λp hp=>by rw[mSq hp];exact c5) ((show begR G i [a]=_ from if_pos c5)▸st))
     .rw[g2]at c4;let c5:-a∉G.hs:=λz=>c4 (dTq z);apply(_,rfl,q,_,_,_,rfl,rfl,D,a0,_,rfl,A.h,C,A.dx,_,_,rfl,W.ins,T.cl,T.n_held,ig,A.hd,_,rfl,W.held a,_,rfl,bo (λc6=>?_) (λc6=>?_))
      .rw[g1]at c6;let c7:a∉G.hs:=λz=>by rw[dTq z]at c6;cases c6
       let tl:Jt G.ts.length:=by have:=I.tok.len;lia
       apply(_,rfl,A.h,A.dx,_,rfl,W.ins,rfl,_,rfl,q,_,_,_,rfl,rfl,D,a0,_,rfl,A,F',O1,pr,k,G,R1,a,i,rfl,W,Jna a,tl,λH4 O4 R4 U4 e4=>?_);exact Jdp _ _ _ _ _ (e4.2.trans ex) (I.hold (by lia) d (J.2 a (by simp)) c7 c5,(show begR G i [a]=_ from(if_neg c5).trans (if_neg c7))▸st) U4
      .rw[g1]at c6;let c7:a∈G.hs:=Decidable.byContradiction λz=>by rw[dFq z]at c6;exact c6 rfl
       exact Jdp _ _ _ _ _ ex (I.add d J.1 (by simp) (λx e=>by injection e with e;exact e▸c7) rfl,(show begR G i [a]=_ from(if_neg c5).trans (if_pos c7))▸st) W
 .rintro σ H' ⟨v1,v2,G,O1,R1,rfl,ex,⟨I,r1⟩,U1⟩;let xl:R.xs.length=B.length:=by rw[←ex,←U1.u.kn.length,lM,I.rs]
  rw[xl]at I r1;let r2:JmA Tm k (S,.beg 0,) (G,.grow,):=r1.step (by show _=gA G B.length;unfold gA;rw[I.rs,List.getElem?_eq_none (nRq _)]);let M1:=I.mid (E:=V0 Tm) L.hB;apply(_,rfl,A.h,A.dx,_,rfl,U1.ins,rfl,A,F',O1,pr,ptl,pal,prl,k,G,R1,n,B,Tm,As,Rs,rfl,U1,(M1,n40,by rw[I.rs];lia,by rw[I.pp];exact Nat.zero_le _,L.t60),PP,λY S2 r s2=>qL Y S2 (r2.trans r.r) r.f (r.p.trans I.pp) s2,λY O2 R2 S2 r U2=>?_,λY O2 R2 S2 f r U2=>?_)
  .exact qN _ _ _ S2 (r2.trans r.r,r.m,r.nc,r.l,r.e.pp.trans I.pp) U2
  .exact qF _ _ _ S2 f (r2.trans r.r,r.c,r.g,by have:=r.p;rw[I.pp]at this;exact this) U2
end H52
namespace L2
open PySem PySem.Spec PyProof.Rows
set_option maxRecDepth 100000
def D9:JbS X "range" (λxs H Q=>∃i j:Int,xs=Qr i j/\∀r,Jcu r r (Gk r (.rng i j))):=by intro a s f H xs us Q I r h;let(i,j,rfl,q):=h;let(u,v,rfl,d,c):=r.two;let(t,rfl):=d;let(t',rfl):=c;apply call_range_2 ?_;apply Xy _ (I.laid (λb g e=>Xz e) (nRq _) ?_) (Jni _ _);exact(_,_,_,Heap.get?_push_size _ rfl)
def D_ (D:Xh X.calm):JbS X "list" (λxs H Q=>∃r lo j,xs=Gj r∧Gc r (.rng lo (lo+j))∧0≤j∧Jh2 j∧0≤lo∧Jh2 lo∧∀l,Jcu l l (QZ l (((List.range j.toNat).map λi:Nat=>lo+(i:Int)).map V.int))):=by
 intro k s J H xs us Q I r h;let(z,lo,j,rfl,C,P,O,l0,l1,q):=h;let(u,rfl,y):=fu r;cases y;let(N,M,K,e):=VL z C;let E:Builtin.Range.rangeSize lo (lo+j) 1=(j.toNat:Int):=by rw[rangeSize_one];split<;>lia
 apply call_list_range (I.ok.hd D) e (small_one (by lia) (by lia) (by lia) (by lia)) E (by lia) λh' tk acc c A F a=>?_;let G:Jb2 j.toNat:=by rw[Array.length_toList];exact a.1
 let d:bc (((List.range j.toNat).map λi:Nat=>lo+(i:Int)).map V.int) acc.toList:=by
  let f:∀n L o,L.length=n->(∀i v,L[i]?=some v->∃t,v=YO (lo+(((o+i:Nat):Nat):Int)*1))->bc (((List.range' o n).map λi:Nat=>lo+(i:Int)).map V.int) L:=by
   intro n
   induction n with
   |zero=>
    intro L o b _;cases L with
    |nil=>exact .nil
    |cons _ _=>cases b
   | succ n B =>
    intro L o b p
    match L,b with
    |x::L,b=>
     apply Jjo (B L _ (by simpa using b) λi v e=>?_)
     .let(t,e):=p 0 x rfl;exact(t,by rw[e];congr 1;lia)
     .let(t,g):=p (i+1) v e;exact(t,by rw[g];congr 1;lia)
  have:=f j.toNat acc.toList 0 G λi v e=>by let(t,g):=a.2 i v (by rw[<-Array.getElem?_toList];exact e);exact(t,by rw[g,Nat.zero_add])
  rw[List.range_eq_range'];exact this
 apply JmH _ (t':=tk) A _ (show Jns _ h' _ (((List.range j.toNat).map λi:Nat=>lo+(i:Int)).map V.int) from(?_,acc.toList,c,d,by rw[Array.toArray_toList];exact F)) (Jni _ _);rw[lM,lM,List.length_range,sizeLine_eq];lia
end L2
namespace H52
open PySem L2 K52
abbrev ya:Stmt:=wN
def hS0 (Rs:Yl Int)(n:Nat):HS:=(Rs,[],[],0,[],λx=>none,λx=>[],upN n,λx=>none)
noncomputable def zeF (H:Hp)(x:Addr):Hp:=λb=>if b=x then none else H b
structure Bld (C x dx)(F O H)(as)(os:List HO)(fs):Prop where
 t:Jj6 F
 n:NoT O
 nd:(x::as).Nodup
 ins:Xa (O x) (Wh C fs)
 at_:∀(i:Nat) (a) (o),as[i]?=some a->os[i]?=some o->Xa (O a) o
 len:as.length=os.length
def Bld.all {C x dx:Addr}{F O H:Hp}{d:List Addr}{b:List HO}{g:List (U8 V)}(h:Bld C x dx F O H d b g){a:Addr}(f:a∈x::d):JkS (O a):=by
 rcases List.mem_cons.mp f with z|z
 .rw[z,h.ins];exact λz=>nomatch z
 .let(i,c):=List.getElem?_of_mem z;let e:Jnc i:=by rw[←h.len];exact(gEq c).1
  rw[h.at_ i a _ c (gG e)];exact λz=>nomatch z
def Bld.hi {C x dx:Addr}{F O H:Hp}{c:List Addr}{b:List HO}{a:List (U8 V)}(h:Bld C x dx F O H c b a):H x=some (Wh C a):=h.t.o _ _ h.ins
def Bld.put {C x dx:Addr}{F O H:Hp}{e:List Addr}{c:List HO}{j:List (U8 V)}(h:Bld C x dx F O H e c j)(b):Bld C x dx F (WB O x C b) (Gk x (Wh C b)) e c b:=by apply(h.t.own (by rw[h.ins];exact λz=>nomatch z) _,h.n.upd gJ,h.nd,ao,λi a o d g=>?_,h.len);let f:a≠x:=λz=>(List.nodup_cons.mp h.nd).1 (z▸mO d);rw[aq f];exact h.at_ i a o d g
def Bld.new {C x dx:Addr}{F O H:Hp}{g:List Addr}{j:List HO}{l:List (U8 V)}(h:Bld C x dx F O H g j l){n:Addr}(k:Gf n){o:HO}(no:NTup o):Bld C x dx F (upd O n o) (Gk n o) (g++[n]) (j++[o]) l:=by
 let p:=(h.t.none k).1;let nm:n∉x::g:=λz=>h.all z p;let q:x≠n:=λz=>nm (z▸List.mem_cons_self);apply(h.t.newO k o,h.n.upd no,?_,by rw[aq q];exact h.ins,λi a u d f=>?_,by rw[lAq,lAq,h.len];rfl)
 .rw[<-List.cons_append];exact Ja_ h.nd (λa v b s e=>nm (by rw[mSq s]at e;exact e▸v))
 .rcases Nat.lt_or_ge i g.length with c | c
  .rw[List.getElem?_append_left c]at d;rw[List.getElem?_append_left (by rw[<-h.len];exact c)]at f;let r:a≠n:=λz=>nm (Jb (z▸mO d));rw[aq r];exact h.at_ i a u d f
  .rw[List.getElem?_append_right c]at d;rw[List.getElem?_append_right (by rw[<-h.len];exact c),<-h.len]at f;let y:=mSq (mO d);let w:=mSq (mO f);rw[y,w];exact ao
def Bld.putE {C x dx:Addr}{F O H:Hp}{c:List Addr}{b:List HO}{a:List (U8 V)}(h:Bld C x dx F O H c b a)(n)(v):∃d H',Gk x (Wh C (zbu n v a))=H'/\Bld C x dx F d H' c b (zbu n v a):=Yv _ _ (h.put _)
def Bld.newE {C x dx:Addr}{F O H:Hp}{c:List Addr}{a:List HO}{b:List (U8 V)}(h:Bld C x dx F O H c a b){n:Addr}(d:Gf n)(o)(no:NTup o):∃e H',Gk n o=H'/\Bld C x dx F e H' (c++[n]) (a++[o]) b:=Yv _ _ (h.new d no)
inductive tM (K)(C CP):Sp|m{vs H Q E9} (x dx p tl al rl) (most) (T) (As) (Rs):vs=VU x p most->Jnp x []->QX (Jhy CP H tl al rl T) As.length ((∀A O R H',A.h=x->Xf K C (zeF H x) O H' A p (JgK As.length) [] R->QP H')->tM K C CP vs H Q E9)
def Ea:Vf (JaF "most") (JaF "most") ya:=fsc
set_option tactic.hygienic true in
def bld0 (h:Jnp x []):Bld C x dx (zeF H x) (λb=>if b=x then some (Wh C []) else none) H [] [] []:=by
 apply((λb o e=>?_,λb o e=>?_,λb e=>?_),λb o e=>?_,by simp,if_pos rfl,λi a o h=>(by cases h),rfl)
 .unfold zeF at e;split at e
  .cases e
  .exact e
 .split at e
  .rename_i z;rw[z,h];exact e
  .cases e
 .unfold zeF;rw[if_pos (Decidable.byContradiction λz=>e (if_neg z))]
 .split at e
  .injection e with e;exact e▸gJ
  .cases e
def Eb (F:Jmy "Hunt.__init__" ya)(c:JdW C)(TB:JgJ K)(T:YP CP):Jih (JaF "most") (tM K C CP):=by
 apply F.ok Ea λcdv Ar outer s H vs Q E hr h=>?_
 let(x,dx,p,W,N,A,r,T',As,Rs,rfl,hx,S,a1000,q):=h;apply Qq (Wb (Jkv (pv 1)) (Jkv (pv 2)) (ae (Jkv (Vy ny rfl TB.list (Vr 1))) (Wb (Jkw ac) (Jkw ac) (Wb (Jkv gZ) (Jkv af) (Wb (Jkw ac) (Jkv gZ) (Wb (Jkv gZ) (Jkv (Vy (D_ rfl) rfl TB.list (Gb (di D9 rfl TB.range PyProof.Rows.Boot.range (Ih af (WG cv (Jje 1))))))) (JnM gZ)))))))
 let Y:J4 (zeF H x):=λb xs h=>by
  let nb:b≠x:=λz=>by rw[z]at h;rcases h with h|⟨o,h⟩<;>rw[hx]at h<;>cases h
  unfold Rd zeF at *;rw[if_neg nb];exact h
 let B:∀b o,Gc b o->(∀d,o≠.ins C d [])->zeF H x b=some o:=λb o h n=>by unfold zeF;rw[if_neg (λz=>n dx (by rw[z,hx]at h;injection h with h;exact h.symm))];exact h
 let S0:Jhy CP (zeF H x) W N A T':=by let((d,h1),(xs,Z,h3),(ys,h4,h5),(U,h6,h7),h8,h9,h10):=S;apply((d,B _ _ h1 λd' e=>?_),(xs,B _ _ Z λm e=>(nomatch e),h3.keep Y (hX _)),(ys,B _ _ h4 λm e=>(nomatch e),h5.keep Y (dw iG As)),(U,B _ _ h6 λm e=>(nomatch e),h7.keep Y (dw iH Rs)),h8,h9,h10);injection e with _ _ e;have:=dy W N A;rw[e]at this;cases this
 let b0:=bld0 hx;clear Y B S;generalize zeF H x=F0 at *;let pr:∀{O' H' as os fs},Bld C x dx F0 O' H' as os fs->bu K CP H' p W N A T' As Rs:=λb=>S0.same b.t.f;apply Jfy _ _ rfl x C dx _ rfl b0.hi c.cl c.n_problem (by decide) ?_;let(O1,H1,e,b1):=b0.putE "problem" (.ref p);rw[e];apply Jfy _ _ rfl x C dx _ rfl b1.hi c.cl c.n_most (by show M8 1;decide) ?_;let(O2,H2,e,b2):=b1.putE "most" (.int r);rw[e];let((d2,g1),_,_,(U,g2,g3),_):=pr b2;apply(_,rfl,p,CP,d2,_,_,rfl,g1,T.cl,T.nR,jv _ _ _,A,_,rfl,Jc g2,λkn hkn=>?_);let(O3,H3,e,b3):=b2.newE hkn (.lst U) cB;rw[e];apply JX _ x C dx _ b3.hi c.cl c.n_known (by show M8 2;decide) ?_;let(O4,H4,e,b4):=b3.putE "known" (.ref kn);rw[e];apply JbF (λpp hpp=>?_);let(O5,H5,e,b5):=b4.newE hpp (.lst []) cB;rw[e];apply JX _ x C dx _ b5.hi c.cl c.n_paper (by show M8 3;decide) ?_;let(O6,H6,e,b6):=b5.putE "paper" (.ref pp);rw[e];apply JbF (λtr htr=>?_);let(O7,H7,e,b7):=b6.newE htr (.lst []) cB;rw[e];apply JX _ x C dx _ b7.hi c.cl c.n_trail (by show M8 4;decide) ?_;let(O8,H8,e,b8):=b7.putE "trail" (.ref tr);rw[e];apply λhd hhd=>?_;let(O9,H9,e,b9):=b8.newE hhd (.dK []) dc;rw[e];apply JX _ x C dx _ b9.hi c.cl c.n_held (by show M8 5;decide) ?_;let(O10,H10,e,M):=b9.putE "held" (.ref hd);rw[e];apply JX _ x C dx _ M.hi c.cl c.n_looked (by show M8 6;decide) ?_;let(O11,H11,e,b11):=M.putE "looked" (.int 0);rw[e];apply JbF (λbg hbg=>?_);let(O12,H12,e,L):=b11.newE hbg (.lst []) cB;rw[e];apply JX _ x C dx _ L.hi c.cl c.n_begins (by show M8 7;decide) ?_;let(O13,H13,e,b13):=L.putE "begins" (.ref bg);rw[e];apply λwd hwd=>?_;let(O14,H14,e,J):=b13.newE hwd (.dK []) dc;rw[e];apply JX _ x C dx _ J.hi c.cl c.n_watched (by show M8 8;decide) ?_;let(O15,H15,e,b15):=J.putE "watched" (.ref wd);rw[e];apply λwg hwg=>?_;let(O16,H16,e,I):=b15.newE hwg (.dK []) dc;rw[e];apply JX _ x C dx _ I.hi c.cl c.n_watching (by show M8 9;decide) ?_;let(O,l,e,g):=I.putE "watching" (.ref wg);rw[e];let((d3,g4),_,(ys,g5,g6),_):=pr g;let yl:JbE As.length:=by rw[<-g6.length,lM]
 apply(_,rfl,p,CP,d3,_,_,rfl,g4,T.cl,T.nA,cX _ _ _,N,_,rfl,Jc g5,_,_,rfl,rfl,1,_,rfl,λX hrg=>?_);let s1:ap l (upd l X (.rng 1 (((ys.length:Nat):Int)+1))):=Wm hrg;apply(X,1,(ys.length:Int),rfl,by rw[ao,Int.add_comm],by lia,by lia,by decide,by decide,λod D=>?_);let u:Bld C x dx F0 O _ _ _ _:=((g.t.f.trans s1,g.t.o.trans s1,g.t.d),g.n,g.nd,g.ins,g.at_,g.len);generalize WW l X=R at u D;let eO:(List.range (ys.length:Int).toNat).map (λi:Nat=>(1:Int)+(i:Int))=upN As.length:=by rw[Int.toNat_natCast,yl];exact List.map_congr_left λi m=>Int.add_comm _ _
 rw[eO];let k:=u.new (o:=.lst ((upN As.length).map V.int)) D cB;generalize WW R od=H18 at k;generalize WW O od=O18 at k;apply JX _ x C dx _ k.hi c.cl c.n_order (by show M8 10;decide) ?_;let(O19,H19,e,b19):=k.putE "order" (.ref od);rw[e];apply λlt hlt=>?_;let(O20,H20,e,G):=b19.newE hlt (.dK []) dc;rw[e];apply JX _ x C dx _ G.hi c.cl c.n_lately (by show M8 11;decide) ?_;let(O21,H21,e,j):=G.putE "lately" (.ref lt);rw[e];apply q (x,dx,kn,pp,tr,hd,bg,wd,wg,od,lt) _ (U,[],[],[],[],λm=>none,[],λm=>none,[]) _ rfl (j.n,j.t,?_,?_,?_,ar.nil,rfl,ar.nil,DI.nil,DI.nil,λm=>.no,DI.nil,λm=>.no rfl,DI.nil)
 .exact j.nd
 .intro i a o h1 Z;cases i with
  |zero=>
   cases h1;cases Z;exact j.ins
  |succ i=>exact j.at_ i a o h1 Z
 .let(_,_,_,(w0,k0,_),_):=S0;let(_,_,_,(w1,k1,k2),_):=pr j;let y:=b2.t.f _ _ k0;let v:=j.t.f _ _ k0;rw[g2]at y;rw[k1]at v;injection y with y;injection y with y;injection v with v;injection v with v;rw[v,<-y]at k2;exact k2
def Ec (h:p∈hs)(h0:p≠0)(a:UX n)(no:p<0->-p∉hs):p∈bK n hs:=by
 rcases Int.lt_or_gt_of_ne h0 with c|c
 .exact Jkk (-p) (by lia) (by rw[if_neg (no c),Int.neg_neg])
 .exact Jkk p (by lia) (by rw[if_pos h])
structure FD (K)(x)(st)(f td)(fd)(tk):Prop where
 a:Jcy K x f
 ex:∃(oc:Value) (od:Option Addr) (kV doc pm:Value) (an:Option Addr) (cdv ct:Value) (osl:Jha Value),
  fd=X9 x x st (zas st) (ai st) (.ref td) kV doc pm an cdv ct/\JcP f oc od fd osl/\Jff K cdv x
 k:NW K f
 t:∃(od:Option Addr) (n:Nat) (sl:Jha Value),JcO td (.type "tuple") od (.seq #[GQ tk] n) sl
def fd_in {K:W.Frag}{x:Str}{st:Stmt}{f g:Addr}{p kV b h cdv i:Value}{od j e:Option Addr}{d o:Array (Option Value)}{tk:Tok}{n:Nat}(a:Jcy K x f)(l:JcP f p od (X9 x x st (zas st) (ai st) (.ref g) kV b h j cdv i) d)(c:Jff K cdv x)(k:NW K f)
  (t:JcO g (.type "tuple") e (.seq #[GQ tk] n) o):FD K x st f g (X9 x x st (zas st) (ai st) (.ref g) kV b h j cdv i) tk:=(a,(p,od,kV,b,h,j,cdv,i,d,rfl,l,c),k,e,n,o,t)
def FD.okX {P:Program}{w:World}{K:W.Frag}{mg:Str->Option Value}{base:Heap}{x:Str}{st:Stmt}{f g:Addr}{e:FuncData}{tk:Tok}{N ps:List Str}{k:Nat}{sp:Sp}(F:FD K x st f g e tk)(S:Vf N ps st)
  (a:∀cdv A outer s H vs Q E,JaY k x st f→JhU E →
   ∃t,Jd8 (IF w) P w K N x st f A s H E (zas st) t/\t { nx:=λy H'=>Q .non H',rt:=Q } (Jix N) H)(b:∀vs H Q E,JhU E->MZ vs.length:=by intro _ _ _ _ h;cases h;subst_vars;rfl):Jg0 P w K w (k+1) f e ps sp:=by let(o,od,kV,l,n,q,cdv,p,h,rfl,i,d):=F.ex;exact pI i d S b λA outer s H vs Q E j c=>a cdv A outer s H vs Q E j c
def bindD (F:FD K x st f td fd tk)
  (h:∀kV d i l cdv j a b,∃k:JjJ (Array Value) (Sem (Jf_ Str)),JbQ (X9 x x st (zas st) (ai st) (.ref td) kV d i l cdv j) [a,b]=seqItems? (.ref td)>>=k/\JcB (k (some #[GQ tk])) [(p,a,),(q,b,)]):Uj fd [p,q]:=by
 let(A,od,kV,d,i,l,cdv,j,o,e,B,v):=F.ex;let(r,n,z,u):=F.t;intro s us X g;rw[List.append_nil]at g⊢;rcases us with _|⟨a,_|⟨b,_|⟨c,us⟩⟩⟩
 .cases g
 .cases g
 .let(k,y,w):=h kV d i l cdv j a b;subst e;exact BindsTo.of_defaults rfl (X _ _ u) rfl y w
 .cases g
def bind1 (F:FD K x st f td fd tk)
  (h:∀kV c d i cdv g a,∃k:JjJ (Array Value) (Sem (Jf_ Str)),JbQ (X9 x x st (zas st) (ai st) (.ref td) kV c d i cdv g) [a]=seqItems? (.ref td)>>=k/\JcB (k (some #[GQ tk])) [(p,a,),(q,GQ tk,)]):aw K fd [p,q] [GQ tk]:=by
 let(z,od,kV,c,d,i,cdv,g,l,e,A,u):=F.ex;let(o,n,y,r):=F.t;intro s us X j;rcases us with _|⟨a,_|⟨b,us⟩⟩
 .simp at j
 .let(k,w,v):=h kV c d i cdv g a;subst e;exact BindsTo.of_defaults rfl (X _ _ r) rfl w v
 .simp at j
structure tP (n)(B:Yl Int):Prop where
 row:∀r∈B,r.Nodup/\∀p∈r,p≠0/\UX n
 n40:n<=40
 bl:Jt B.length
structure SrQ (K)(CL)(H)(n)(T)(As)(Rs)(most)(Q:VK)(E:XK):Prop where
 long:∀x,JnI (NC T) n x .long->most<2^(n+2)->∀H',JgW CL
 yes:∀H' t th S,JnI (NC T) n (S,.rest,) .yes->UN t (JfK (Vw t (XQ "yes" th)) (Vw th ((QK n).map V.int)) (∀r∈Rs,∃p∈r,p∈QK n) (∀r,Jj4 r->∃p∈r,-p∉QK n) t)
 no:∀H' t pl ys S f,JnI (NC T) n (S,.odds f,) .no->UN t (VA pl (Vw t (XQ "no" pl)->JfK (JgN pl) (G_ (S.pp++[Jk9 (QT f).reverse]) ys) (WU (S.pp++[Jk9 (QT f).reverse])) (∀v,iS (V0 T) v->¬gx v Rs) t))
inductive kO (K)(CP CL):Sp|m{vs H Q E} (p tl al rl) (T) (As) (Rs) (most):vs=XF p most->JlJ CP H T->Jbq 60->tP As.length Rs->1<=most->Jh2 most->SrQ K CL H As.length T As Rs most Q E->kO K CP CL vs H Q E
def pA:Vf (JjD "most" "hunt" "fails") (Yq "most") ku:=fsc
structure HG (P)(w)(K)(mg)(base)(C CP CL fI fB fN fC fG fP)(dI dB dN dC dG dP'):Prop where
 mI:Mk K C fI
 I:Mp 1 fI dI (JaF "most") (tM K C CP)
 bI:Uj dI (JaF "most")
 gI:mg "Hunt"=Ja C
 mB:JP "begin" fB
 B:Jg0 P w K w 8 fB dB ["self"] (tK K C CP CL)
 bB:JiV dB
 mN:JP "learn" fN
 N:Jg0 P w K w 4 fN dN (Nk "fails") (tI K C CL)
 bN:Wu dN "fails"
 mC:JP "choose" fC
 C':Mp 2 fC dC ["self"] (tE K C)
 bC:JiV dC
 mG:JP "grow" fG
 G:Jg0 P w K w 7 fG dG ["self"] (mM K C CP CL)
 bG:JiV dG
 mP:JP "held_parts" fP
 P':Mp 1 fP dP' ["self"] (tH K C)
 bP:JiV dP'
theorem yb:∀ts:Wl Int,cnt ts<=(ts.length:Int)
 |[]=>Int.le_refl _
 |t::ts=>by have:=yb ts;show zaS t+cnt ts<=(ts.length+1:Int);unfold zaS;split<;>lia
inductive HSt (n)(B)(T)(As)(most)(S):V->Prop
 |rest:cH n B (V0 T) S->V4 S.lk->(∀r,Jj4 r->∃p∈r,-p∉S.hs)->S.pp.length<=2*JgR 0->JdF T (hS0 B n,.beg 0,) (S,.rest,)->HSt n B T As most S .non
 |odds {f:Int}:eS n B (V0 T) S f->(∀c,(S.wg c).length<=S.rs.length)->S.pp.length<=2*JgR 0+1->JdF T (hS0 B n,.beg 0,) (S,.odds f,)->HSt n B T As most S (.int f)
def HSt.b (h:HSt n B T As most S v):HB n B (V0 T) S/\S.pp.length<=2*JgR 0+1:=by
 cases h with
 |rest h _ _ p _=>exact(h.b,by lia)
 |odds h _ p _=>exact(h.b,p)
inductive SI (K)(C)(H)(p x)(most)(n)(Rs)(Ts)(As)(m)(σ)(H'):Prop|m (v) (A') (S') (O') (R'):σ=[Ja p,Ya most,Ja x,some v]->m=2^(n+1)-NJ 0 S'.ts->A'.h=x->HSt n Rs Ts As most S' v->(S'.pp.length:Int)<=most->Xf K C H O' H' A' p S' S'.hs R'->SI K C H p x most n Rs Ts As m σ H'
set_option tactic.hygienic true in
def Ed (T:JdW C)(G:HG P w K mg base C CP CL fI fB fN fC fG fP dI dB dN dC dG dP'){cdv:Value}{Ar:Around}{outer:List Env}{s:Shared}{H0:Hp}{E:XK}(hr:ag 8 (Ar.deeper (QY "search" ku f cdv))) :
  ∃z,Jd8 (IF w) P w K (JjD "most" "hunt" "fails") "search" ku f Ar s H0 E ((zas ku).drop 2) z/\
   ∀H Q p x tl al rl Ts As Rs k n A H2 v,As.length=n->JlJ CP H Ts->Ts.length<=60->tP n Rs->1<=k->Jh2 k->SrQ K CL H n Ts As Rs k Q E->A.h=x->(∃X O2 R2,HSt n Rs Ts As k X v/\(X.pp.length:Int)<=k/\Hu K C H O2 H2 A p k X X.hs R2)->
    z { nx:=λ_ H'=>Q .non H',rt:=Q } [Ja p,Ya k,Ja x,some v] H2:=by
 let hr1:=Wo (j:=1);let hr2:=Wo (j:=2);let hr4:=Wo (j:=4);let hr7:=Wo (j:=7);apply Qq (aj (jK PassesOwn.leaving (eF de) (ae (be (XZ ni 3 eU) (aj (be (Jbg (Jk 2 G.mN G.N hr4 G.bN (eE xe1) (Jd 3))) (Jmq (Ih aE (Xe 2)))
       aU)) (aj (be (Jbg (kU (pv 2) T.cl G.mC G.C' hr2 G.bC .nil aJ)) (Jmq (Ih aE (kU (pv 2) T.cl G.mP G.P' hr1 G.bP .nil aJ)))
       aU))) (Jmr (i:=3) pA.nd (kU (pv 2) T.cl G.mG G.G hr7 G.bG .nil (eE xe1))))))
 rintro H Q p x tl al rl' Ts As Rs k n A H2 v hn PP t60 ro m1 m2 q J ⟨X,O2,R2,h2,p2,U2⟩;let U:=ro.n40;apply Id (SI K C H p x k n Rs Ts As) (_,v,A,X,O2,R2,rfl,rfl,J,h2,p2,U2)
 clear h2 p2 U2 X O2 R2 v H2 J A;rintro m σ H1 ⟨v,A,o,O1,R1,rfl,em,J,st,pmx,U1⟩;let wl:NJ 0 o.ts+2<=2^(n+1):=by have:=lJ n o.ts 0 (by have:=st.b.1.tlen;lia);rw[Nat.sub_zero]at this;exact this
 let rl:o.rs.length<=101000:=by have:=st.b.1.len;have:=ro.bl;lia
 let i1:=U1.ins;rw[J]at i1;apply Yu (Up (λc=>Jz rfl));apply Qq (λ_ _ z=>z);let gr:∀{I O3:Hp} {R3:HC} {S:HA} {B:HS} {v3:V},S.h=x->cH n Rs (V0 Ts) B->JmA Ts k (JgK n,.beg 0,) (B,.grow,)->NJ 0 o.ts<NJ 0 B.ts->B.pp.length<=2*NJ 0 B.ts->(B.pp.length:Int)<=k->Hu K C H O3 I S p k B B.hs R3->
   (JhL (pG C "grow" (mM K C CP CL) [] E (mY 2) je) 3) { nx:=λσ' H'=>∃m',m'<m/\SI K C H p x k n Rs Ts As m' σ' H',rt:=Q,bk:=λ_ _=>False,ct:=λ_ _=>False } [Ja p,Ya k,Ja x,some v3] I:=by
  intro I O3 R3 S B v3 W M3 O w3 pw3 pm3 D;let i3:=D.ins;rw[W]at i3;let wl3:NJ 0 B.ts+2<=2^(n+1):=by have:=lJ n B.ts 0 (by have:=M3.b.tlen;lia);rw[Nat.sub_zero]at this;exact this
  let wl4:(wgt n 0 B.ts:Int)+2<=(2:Int)^(n+1):=by exact_mod_cast wl3
  let pl3:Jh2 B.pp.length:=by lia
  let rl3:B.rs.length<=197000:=by have:=M3.b.len;have:=ro.bl;lia
  let fin:∀Y O4 R4 F v4,NJ 0 B.ts<=NJ 0 F.ts->HSt n Rs Ts As k F v4->(F.pp.length:Int)<=k->Hu K C H O4 Y S p k F F.hs R4->∃m',m'<m/\SI K C H p x k n Rs Ts As m' [some (V.ref p),Ya k,Ja x,some v4] Y:=by intro Y O4 R4 F v4 w4 st4 p4 U4;let wl5:=lJ n F.ts 0 (by have:=st4.b.1.tlen;lia);rw[Nat.sub_zero]at wl5;exact(_,by lia,v4,S,F,O4,R4,rfl,rfl,W,st4,p4,U4)
  exact(_,rfl,x,S.dx,_,rfl,i3,rfl,S,H,O3,p,tl,al,rl',k,B,R3,n,Rs,Ts,As,Rs,by rw[W];rfl,D,Jcq M3 U rl3 t60,PP,λY F lg s4=>q.long _ (O.trans lg.r,lg.f) (by let(_,_,h,_):=lg.f;let h:k<=(F.pp.length:Int):=h;rw[lg.p]at h;lia) Y s4,λY O4 R4 F r U4=>fin _ _ _ _ _ (r.e.wgt n) (.rest r.m r.l r.nc (by rw[r.e.pp];have:=r.e.wgt n;lia) (O.trans r.r)) (by rw[r.e.pp];exact pm3) U4,λY O4 R4 F g r U4=>fin _ _ _ _ _ r.w (.odds r.c r.g (by have:=r.p;have:=r.w;lia) (O.trans r.r)) (r.q pm3) U4)
 cases st with
 | odds Cf gl pw Z =>
  rename_i fl;let sp:SpLn n Rs (V0 Ts) o fl:=Jcq Cf U (by lia) (λc=>by have:=gl c;lia);apply Ji7 (Up (λc=>Jz (by rfl)));apply(_,rfl,x,A.dx,_,rfl,i1,rfl,_,rfl,A,H,O1,p,k,o,R1,fl,n,Rs,_,by rw[J];rfl,U1,sp,λhn' hm H' s'=>q.long _ (Z,Qi hn' hm rfl) (by lia) H' s',λR hm I O3 R3 D=>?_,λS I O3 R3 B e3 O D=>?_)
  .apply Yu (Up (λc=>Jz (by rfl)));let i3:=D.ins;rw[J]at i3;apply Jfy _ x C A.dx _ _ rfl i3 T.cl T.n_paper sV lS2 (λt ht=>?_);let s3:VB I I t (XQ "no" A.pp):=Wm ht;exact q.no _ t A.pp _ o fl (Z,.inr (GB R hm)) (D.t.f.trans s3) (D.t.f.free ht) (D.t.d _ (by rw[D.u.at_ 2 _ _ rfl rfl];exact λz=>nomatch z)) ao (s3 _ _ (D.at' 2 rfl rfl)) (D.u.pp.keep s3.kt D.u.pn) D.u.pn λv ve=>Cf.no R v ve
  .apply Yu (UV (λc=>Vq c));let w3:=O.wgt;let pp3:B.pp.length≤o.pp.length+1∧(B.pp.length:Int)≤k:=by
    rcases O.to with ⟨e,_⟩|⟨e1,e,_⟩
    .rw[e];exact Js pmx
    .rw[e,lAq];show _+1<=_/\((_+1:Nat):Int)<=_;lia
   exact gr (e3.trans J) O.mid (Z.step (Ye O.st)) w3 (by lia) pp3.2 D
 | rest M hl nc pw Z =>
  apply Ji7 (UV (λc=>absurd c (show ¬Xh (!decide (V.non=V.non)) by decide)));let tln:=M.b.tlen;let bsl:Jt o.bs.length:=by let h1:=oj o.ts;let h2:=yb o.ts;rw[<-M.b.bs]at h1;lia
  apply(_,rfl,x,A.dx,_,rfl,i1,rfl,A,H,O1,p,k,o,R1,by rw[J];rfl,U1,(by lia,bsl,λa L=>by have:=(M.b.od a).mp L;lia,M.b.la),?_);cases R:kc o with
  | none =>
   apply Yu (Up (λc=>Jz (by rfl)));apply(_,rfl,x,A.dx,_,rfl,i1,rfl,A,H,O1,p,k,o,R1,n,by rw[J];rfl,U1,U,M.b.od,M.b.odn,λI th s3 n3 h3=>(lS2,λt ht=>?_));let s4:VB I I t (XQ "yes" th):=Wm ht;let sH:=U1.t.f.trans s3;let all:∀a∈o.od,a∈o.hs\/-a∈o.hs:=λa L=>by
    have:=List.find?_eq_none.mp R a L;simp only[Bool.and_eq_true,decide_eq_true_eq,not_and,Decidable.not_not]at this;by_cases c:a∈o.hs
    .exact .inl c
    .exact .inr (this c)
   apply q.yes _ t th o (GB Z R) (sH.trans s4) (sH.free ht) ao (s4 _ _ h3) (λr hr'=>?_) λr er=>?_
   .let(z,z1,z2):=M.yes hl all r hr';let z3:=(ro.row r hr').2 z z1;exact(z,z1,Ec z2 z3.1 z3.2 λ_ y=>M.b.tok.cons z2 y)
   .let(z,z1,z2):=nc r er;apply(z,z1,λz3=>z2 ?_);unfold bK at z3;let(a,L,e):=List.mem_map.mp z3;rw[←e];let L:=(M.b.od a).mpr (ih.mp L);split
    .assumption
    .rename_i c;exact(all a L).resolve_left c
  |some a=>
   intro I O3 R3 D;apply Yu (UV (λc=>Vq c));let L:=List.mem_of_find?_eq_some R;let hb:=List.find?_some R;simp only[Bool.and_eq_true,decide_eq_true_eq]at hb;let w3:=AR n o.ts ((o.la a).getD (-a),-1,);exact gr J (M.pick (by lia) hl L hb.1 hb.2 nc) (Z.step (GB a R)) w3 (Nat.le_trans pw (Nat.mul_le_mul_left 2 (Nat.le_of_lt w3))) pmx D
def Ee {td:Addr}{tk:Tok}(F:FD K "search" ku f td fd tk)(T:JdW C)(G:HG P w K mg base C CP CL fI fB fN fC fG fP dI dB dN dC dG dP'):Jg0 P w K w 9 f fd (Yq "most") (kO K CP CL):=by
 apply FD.okX F pA λcdv Ar outer s H vs Q E hr h=>?_
 let(p,t,J,v,Ts,As,Rs,d,rfl,S,k,u,m1,m2,q):=h;let hr2:=Wo (j:=2);let(z2,h2,q2):=Ed (base:=base) T G (cdv:=cdv) (outer:=outer) hr;apply Qq (JS (i:=2) pA.nd (yT G.mI G.I hr2 rfl G.gI G.bI .nil aJ (WS 0 1)) (ae (Ie (i:=3) pA.nd (kU (pv 2) T.cl G.mB G.B hr G.bB .nil (eE xe1)))
  h2))
 generalize hn:As.length=n at *;let Y:=u.n40;apply Jfe _ _ (λx dx hx D nd=>?_);let y:(Jhu x) x=some _:=ao;let s1:MU (zeF (Jhu x) x):=λb o e=>by
  let M:b≠x:=λz=>by rw[z,hx]at e;cases e
  let Z:b≠dx:=λz=>by rw[z,D]at e;cases e
  unfold zeF;rw[if_neg M,aq M,aq Z];exact e
 let X:MU (Jhu x):=λb o e=>by
  let M:b≠x:=λz=>by rw[z,hx]at e;cases e
  let Z:b≠dx:=λz=>by rw[z,D]at e;cases e
  rw[aq M,aq Z];exact e
 apply(x,dx,p,t,J,v,d,Ts,As,Rs,rfl,y,S.pr.same X,by lia,λA O R H1 N U=>Mm rfl);rw[hn]at U;let U:=U.base s1;let sb:cF n Rs 0 (JgK n):=cF.zero rfl rfl rfl rfl (λa=>ih) ((xY n).imp λ{a b} h e=>by lia) (λV=>rfl) rfl (λV=>rfl) λV=>rfl;let i1:=U.ins;rw[N]at i1;apply(_,rfl,x,A.dx,_,rfl,i1,rfl,A,H,O,p,t,J,v,d,JgK n,R,n,Rs,Ts,As,Rs,by rw[N];rfl,U,(k,sb,u.row,Y,u.bl),S,λW L V fn e X=>absurd m1 (by let(_,_,h,_):=fn;let h:=h;rw[e]at h;let h:d<=0:=h;lia),λW O2 R2 L r U2=>?_,λW O2 R2 L fl r U2=>?_)
 .exact q2 H Q p x t J v Ts As Rs d n A W .non hn S k u m1 m2 q N (L,O2,R2,.rest r.m r.l r.nc (by rw[r.p];exact Nat.zero_le _) r.r,by rw[r.p];show Jc9 d;lia,U2)
 .exact q2 H Q p x t J v Ts As Rs d n A W _ hn S k u m1 m2 q N (L,O2,R2,.odds r.c r.g (by have:=r.p;lia) r.r,by have:=r.p;lia,U2)
def kP (K)(n:String):Jb8 K n n=some true:=by unfold W.kitOne;simp
theorem yc:∀xs ys:List Dt,aD (xs++ys)=JkU (aD xs) ys
 |[],ys=>(Nat.zero_max _).symm
 |x::xs,ys=>by show JkU (dep x) (xs++ys)=JkU (JkU (dep x) xs) ys;rw[yc xs ys,Nat.max_assoc]
theorem yd (c):∀(L:List Int) st,(L.foldl (L2.stepK c) st).1.pp=st.1.pp
 |[],_=>rfl
 | r :: L,st=>(yd c L (L2.stepK c st r)).trans (by
  unfold L2.stepK;split
  .rfl
  .split
   .rfl
   .split<;>rfl)
def Ef (S)(i):(gA S i).1.pp=S.pp:=by
 unfold gA;split
 .rfl
 .unfold begR;split
  .rfl
  .split
   .rfl
   .split<;>rfl
  .rfl
def Eg (S):(hC S).1.pp=S.pp:=by
 unfold hC;split
 .rfl
 .exact yd _ _ _
def ye (ps hs):dep (lnD ps hs)<=3:=by simp only[lnD,dep,aD,hV];decide
def dep_eq (ps)(ls):dep (eqD ps ls)<=3:=by have:=vV ls;simp only[eqD,dep,aD,hV];lia
def tQ (h:JjK ds 3)(a:dep d<=3):JjK (ds++[d]) 3:=by rw[yc];show max _ (max (dep d) 0)<=3;lia
def stp_pp (s:Jkd (NC T) x y)(h:JjK x.1.pp 3):JjK y.1.pp 3:=by
 let(S,p):=x;cases p with
 |beg i=>
  rw[show y=gA S i from s,Ef];exact h
 |grow=>
  rw[show y=hC S from s,Eg];exact h
 | ask =>
  let(o,(g,_,_,c),b):=s;cases o with
  |none=>
   rw[show y=(S,.rest,) from b];exact h
  |some q=>
   let(_,_,_,_,_,_,_,_,_,_,e):=c.ex;rw[b.2];apply tQ h ?_;rw[e];exact dep_eq _ _
 |rest=>
  let(a,_,e):=s;rw[e];exact h
 |odds f=>
  let(a,rest,m,j,la,_,_,_,_,d):=s.1.ex;rcases d with ⟨_,e⟩|⟨_,_,e⟩
  .rw[e];exact h
  .rw[e];exact tQ h (ye _ _)
def rch_pp (r:JdF T (S,.beg 0,) x)(h:JjK S.pp 3):JjK x.1.pp 3:=by
 induction r with
 |refl=>exact h
 |step _ s a=>exact stp_pp s a
structure Bare (x:HS×Ph):Prop where
 w:∀c,x.1.wg c=[]
 r:x.1.rs=[]
 o:∀f,x.2≠.odds f
def no_cl (D:Ja9 []){ts:List (Iz Int)}{q:Dt×List Int}:¬clR [] As ts (some q):=λ(b,_,_,h)=>by let(d,r,x,y,M,_,e,_):=h.ex;have:=(iV D e).1;let c:=this.1;let a:=this.2;simp only[List.length_nil]at a;lia
set_option tactic.hygienic true in
def Eh (D:Ja9 []){x y:HS×Ph}(s:Jkd (NC []) x y)(h:Bare x):Bare y:=by
 let(S,p):=x;let d:=h.r;let b:=h.w;cases p with
 |beg i=>
  let e:gA S i=(S,.grow,):=by unfold gA;rw[d];rfl
  rw[show y=gA S i from s,e];exact(b,d,nofun)
 | grow =>
  rw[show y=hC S from s];unfold hC;split
  .exact(b,d,nofun)
  .rename_i t _;let e:da S (-t.1)=(S.setG (-t.1) [],none,):=by unfold da cN;rw[b];rfl
   rw[e];apply(λc=>?_,d,nofun);show(if c=-t.1 then [] else S.wg c)=[]
   rw[b,ite_self]
 | ask =>
  let(o,g,j):=s;cases o with
  |none=>
   rw[show y=(S,.rest,) from j];exact(b,d,nofun)
  |some q=>exact absurd g (no_cl D)
 |rest=>
  let(a,_,e):=s;rw[e];exact(b,d,nofun)
 |odds f=>exact GE (h.o f)
def Ei (D:Ja9 []){x:HS×Ph}(r:JdF [] (hS0 [] n,.beg 0,) x):Bare x:=by
 induction r with
 |refl=>exact Nc (λy=>rfl) nofun
 |step _ s a=>exact Eh D s a
def Ej (D:Ja9 []){x:HS×Ph}:¬Ans (NC []) most (hS0 [] n) x .long:=λ(r,f)=>by
 let b:=Ei D r;let(S,p):=x;cases p with
 |beg i=>exact f
 |grow=>exact f
 |ask=>
  let(q,h,_):=f;exact no_cl D h
 |rest=>exact nomatch f.2
 |odds g=>exact b.o g rfl
def Ek (D:Ja9 []):iS (V0 []) (λz=>true):=λr h=>by let(d,_,a):=h (λz=>0) (λz z z z h=>nomatch h) λz z z z z=>rfl;let(x,y,e,_):=my a;have:=(iV D e).1;let b:=this.1;let a:=this.2;simp only[List.length_nil]at a;lia
def fdD (n:Nat)(x:HS×Ph):Dt:=match x.2 with
 |.odds f=>JmF "no" (.lst (x.1.pp++[Jk9 (cA x.1.rs x.1.ts f).reverse]))
 |_=>JmF "yes" (.tup ((bK n x.1.hs).map Dt.int))
inductive Fdt (K)(H:Hp)(t)(n)(T)(As)(Rs:Yl Int):HS×Ph->Wd->Prop
 |yes (S) (th):MB t (XQ "yes" th)->MB th ((QK n).map V.int)->(∀r∈Rs,∃p∈r,p∈QK n)->(∀r,Jj4 r->∃p∈r,-p∉QK n)->Fdt K H t n T As Rs (S,.rest,) .yes
 |no (S) (f) (pl) (ys):MB t (XQ "no" pl)->Uo pl ys->JjV (S.pp++[Jk9 (QT f).reverse]) ys (WU (S.pp++[Jk9 (QT f).reverse])->(∀v,iS (V0 T) v->¬gx v Rs)->Fdt K H t n T As Rs (S,.odds f,) .no)
structure dY (K)(H)(t)(n)(T)(As)(Rs)(most)(x)(w:Wd):Prop where
 a:JnI (NC T) n x w
 f:Fdt K H t n T As Rs x w
def dY.det (a:dY K H t n T As Rs most x w)(b:dY K H' t' n T As Rs most x' w'):x=x'/\w=w':=a.a.det (Dq T As) b.a
def dY.same (a:dY K H t n T As Rs most x w)(s:Xd H):dY K H' t n T As Rs most x w:=by
 let(a,f):=a;apply Mm a;cases f with
 |yes S g e d c b=>exact .yes S g (s _ _ e) (s _ _ d) c b
 |no S f pl ys e d c b h=>exact .no S f pl ys (s _ _ e) (s _ _ d) (c.keep (.of_same s) b) b h
def dY.has (a:dY K H t n T As Rs most x w):JU K (fdD n x) t:=by
 cases a.f with
 |yes S g c b d e=>exact Wr c (WL (by simp only[Has]) (Wr b (ar.ints _)))
 |no S f pl ys c b d e h=>exact Wr c (WL (by simp only[Has]) (Nl b d))
def dY.dep (a:dY K H t n T As Rs most x w):L2.dep (fdD n x)<=60:=by
 cases a.f with
 |yes S i h g e c=>
  simp only[fdD,L2.dep,aD,hV];decide
 |no S f pl ys h g e c j=>
  let b:=tQ (d:=Jk9 (QT f).reverse) (rch_pp a.a.1 (Nat.zero_le _)) (ye _ _);simp only[fdD,L2.dep,aD];lia
def dY.eq (a:dY K H t n T As Rs most x w)(b:dY K H t' n T As Rs most x' w'){P:Bool->Prop}(h:P true):rEqD K (.ref t) (.ref t') H λv y=>∃b,v=.bl b/\P b:=by let(rfl,rfl):=a.det b;exact(_,_,a.has,b.has,a.dep,_,rfl,by rw[gR];exact h)
def sr_of (long:∀x,JnI (NC T) n x .long->most<2^(n+2)->∀H',JgW CL)
  (out:∀H' t x w,JgS t (dY K H' t n T As Rs most x w) t):SrQ K CL H n T As Rs most Q E :=
 (long,λH' t h S g s a e d c b=>out _ _ _ _ s a (g,.yes S h e d c b),λH' t pl ys S f g s a y e d c b i=>out _ _ _ _ s a (g,.no S f pl ys e d c b i))
def tR (n)(hs):(bK n hs).length=n:=by simp [bK,upN]
def tS (h:k∈bK n hs):PIn n k:=by let(a,b,rfl):=List.mem_map.mp h;have:=ih.mp b;unfold PIn;split<;>lia
def El {n:Nat}(hs){i:Nat}(h:i<n):∃k,(bK n hs)[i]?=some k/\(if k<0 then -k else k)=(i:Int)+1:=by
 apply Id (if(i:Int)+1∈hs then(i:Int)+1 else -((i:Int)+1)) ?_
 .unfold bK upN;rw[List.map_map,List.getElem?_map,List.getElem?_range h];rfl
 .split<;>split<;>lia
def pow_le (h:n<=8):(2:Int)^(n+2)<=2000:=by
 have:(2:Nat)^(n+2)<=2^10:=Nat.pow_le_pow_right (by decide) (by lia);let a:((2^(n+2):Nat):Int)<=(2^10:Int):=by exact_mod_cast this
 rw[show(2^(n+2))=((2^(n+2):Nat):Int) by push_cast;rfl];exact Int.le_trans a (by decide)
abbrev NAs:List Str:=Jmk "_law_kept" "_law_found" "_law_held" "_law_k"
def mU:Vf NAs ["_law_problem"] ky:=fsc
structure gN (K)(C)(H)(p tl al rl)(T)(As)(Rs):Prop where
 d:JlL H
 t:Jbq 60
 r:∀r∈Rs,Ju r
 a:IV 40
 l:Jkh 200
def gN.ro (h:gN K C H p tl al rl T As Rs):tP As.length Rs:=(λr b=>((h.r r b).2.2,λk c=>by have:=(h.r r b).1 k c;unfold PIn at this;lia),h.a,by have:=h.l;lia)
def gN.same (h:gN K C H p tl al rl T As Rs)(s:Xd H):gN K C H' p tl al rl T As Rs:=(h.d.same s,h.t,h.r,h.a,h.l)
def gN.go (h:gN K C H p tl al rl T As Rs)(long:Jar 9->∀H',JgW CL)
  (out:∀H' t x w,JgS t (dY K H' t As.length T As Rs 2000 x w) t):kO K C CL (XF p 2000) H Q E :=
 (p,tl,al,rl,T,As,Rs,2000,rfl,h.d,h.t,h.ro,by decide,by decide,sr_of (λy y m=>long (Decidable.byContradiction λz=>absurd m (Int.not_lt.mpr (pow_le (by lia))))) out)
structure TxA (K)(mg:UT Str):Prop where
 list:Jg "list"
 int:Jg "int"
 ib:JkC K "int" "bool" false
def asked3 (T:YP C)(TA:TxA K mg)(M:IS 1 "_law_each_held" fE dE (Uk "_law_held") (pd K C))(N:IS 4 "_law_denied" fD dD (Uk "_law_held") (o_ K C))
  {cdv:Value}{A:Around}{outer:List Env}{s:Shared}{H0:Hp}{E:XK}(Z:JaY 9 "_law_asked" ky f):
  ∃z,Jd8 (IF w) P w K NAs "_law_asked" ky f A s H0 E ((zas ky).drop 3) z/\
   ∀H Q p k t F B I D As Rs x wd,gN K C H p F B I D As Rs->dY K H t As.length D As Rs 2000 x wd->(∀H',JnB H')->
    z { nx:=λ_ H'=>Q .non H',rt:=Q } [Ja p,Ja k,Ja t,none,none] H:=by
 let Y:=Z.mono (j:=1) (by decide);let X:=Z.mono (j:=4) (by decide);let hu:=gp Z;apply Qq (Wb (be (UH (Jbg (Jif qb (QQ 2 (Jb1 (v:=.ty "tuple") rfl T.tuple rfl)))) (dZ (WC dh (YH 2)) (fq (JlV 2 aE)))) (Ud (i_ (Jif qb (QQ 2 (Jb1 (v:=.ty "tuple") rfl T.tuple rfl))) (i_ (fZ bO (YH 2) af) (jJ (Jif zU (JbL 2 (jI (v:=.ty "list") rfl TA.list PyProof.Rows.Boot.list rfl)))))))
   aU) (Ie (i:=3) mU.nd (Yk 2)) (JaT (be (UH (Jct dh 2 aE) (dZ (Jbg (Jif qb (QQ 3 (Jb1 (v:=.ty "tuple") rfl T.tuple rfl)))) (fq (aA dh (YH 3) (UJ 0)))))
   fc
   aU) (Jf8 rfl (Jbc (Gb (YH 3))) (Us (i:=4) mU.nd) (aj (be (UH (Jbg (Jif uZ (Ih (Ij 3 (pv 4)) (jI (v:=.ty "int") rfl TA.int PyProof.Rows.Boot.int rfl)))) (dZ (eF (Jif uZ (Ih (Ij 3 (pv 4)) (jI (v:=.ty "bool") rfl T.bool PyProof.Rows.Boot.bool rfl)))) (fq (aA dh (NN kT T.abs (Gb (Ij 3 (pv 4)))) (Mw cv 4)))))
     fc
     aU))) (i_ (JbA M.ok Y M.m M.kp M.b 0 3) (jJ (fZ (pS hu) (JbA N.ok X N.m N.kp N.b 0 3) (bb ac) rfl)))))
 rintro H Q p k t F B I D As Rs x wd G td q;cases td.f with
 |no S g pl ys h1 h2 h3 h4 h5=>
  let J:Je8 "no" pl 0=some (.str "no"):=Mv (j:=0);let a1:Je8 "no" pl 1=some (.ref pl):=Mv (j:=1);let h:=SqT.of (K:=K) h1;apply JX _ t _ _ _ h (kP _ _) _ rfl (bq (JkD t _ rfl (.inr h) rfl _ rfl (bq (Jgo _ t _ _ _ h J _ (bU ?_)))));exact JX _ t _ _ _ h (kP _ _) _ rfl (bU (JkD t _ rfl (.inr h) rfl _ rfl (bU (_,rfl,t,_,_,_,rfl,rfl,h,a1,pl,_,_,_,rfl,SqL.of h2,kP _ _,JdV H _))))
 | yes S e h1 h2 h3 h4 =>
  let J:Je8 "yes" e 0=some (.str "yes"):=Mv (j:=0);let a1:Je8 "yes" e 1=some (.ref e):=Mv (j:=1);let h:=SqT.of (K:=K) h1;let o:=SqT.of (K:=K) h2;let y:=tR As.length S.hs;let n40:=G.a;let(dx,ys,ho,hla,yl):=G.d.pr.lenA;apply JX _ t _ _ _ h (kP _ _) _ rfl (bq (JkD t _ rfl (.inr h) rfl _ rfl (bq (Jgo _ t _ _ _ h J _ (bq ?_)))));apply Jcl _ t _ _ _ rfl h a1 ?_;apply Jgo _ t _ _ _ h J _ (bq (JX _ e _ _ _ o (kP _ _) _ rfl (bq (_,rfl,e,_,rfl,.inr o,_,rfl,p,C,dx,_,_,rfl,ho,T.cl,T.nA,cX _ _ _,B,ys,rfl,Jc hla,rfl,_,rfl,?_))));rw[lM,y,yl];apply bo (λc=>Vh c) λ_=>?_;apply Jfk _ e _ (.inr o) _ (by rw[lM,y];lia) (by rw[lM,y];lia -ac) (Jb0 (lo:=0) (((((QK As.length).map V.int).length:Nat):Int).toNat) (λi O H'=>H'=H/\∃U,O=[Ja p,Ja k,Ja t,Ja e,U]) (GB rfl none) ?_)
  .rintro i O H1 hi ⟨rfl,U,rfl⟩;rw[Int.toNat_natCast,lM,y]at hi;let(m,m1,m2):=El S.hs hi;let am:atI ((QK As.length).map V.int) (0+(i:Int))=some (.int m):=by rw[Int.zero_add];exact ay (by rw[List.getElem?_map,m1];rfl)
   apply(_,rfl,_,rfl,e,_,_,_,rfl,rfl,o,am,_,_,_,_,rfl,.int _,kP _ _,_,rfl,bq (_,rfl,_,rfl,e,_,_,_,rfl,rfl,o,am,_,_,_,_,rfl,.int _,TA.ib,_,rfl,bq (_,rfl,_,rfl,e,_,_,_,rfl,rfl,o,am,_,rfl,_,rfl,_,_,rfl,rfl,rfl,_,rfl,bo (λc=>?_) λ_=>GB rfl _)));let c:¬(if m<0 then -m else m)=0+(i:Int)+1:=by simpa using c
   lia
  .rintro O H1 ⟨rfl,U,rfl⟩;let e1:Xh (zgm Rs (QK As.length)):=by unfold zgm;rw[List.all_eq_true];intro r u;let(j,k1,k2):=h3 r u;exact UY j k1 (dTq k2)
   apply(_,rfl,_,rfl,p,F,B,I,e,D,As,Rs,_,rfl,G.d.pr,o,λr u=>Mg (G.r r u).2.1,λH2 W=>Yu ?_);rw[e1];apply bU (_,rfl,_,rfl,p,F,B,I,e,D,As,Rs,_,rfl,G.d.same W,W.tup o,λj hj=>tS hj,by rw[y];lia,λH3 l ms L s3 h6 pm so R Gv Cl=>JbF (λl5 hl5=>?_));let(H4,eN,s4,n4):=Uq hl5 [];rw[eN];rw[Dm R h4 pm]at h6;exact(.lst [],.lst [],Jll (s4 _ _ h6),Jll n4,by decide,q H4 (W.trans (s3.trans s4)))
inductive jE (K)(C CL):Sp|m{vs H Q E} (p tl al rl) (T) (As) (Rs):vs=Gj p->gN K C H p tl al rl T As Rs->(Jar 9->∀H',JgW CL)->(∀H',JnB H')->jE K C CL vs H Q E
def Em (F:Ix "_law_asked" "_law_asked" ky)(T:YP C)(TA:TxA K mg)(BE:IS 1 "_law_each_held" fE dE (Uk "_law_held") (pd K C))(BD:IS 4 "_law_denied" fD dD (Uk "_law_held") (o_ K C))
  (S:Jg0 P w K w 9 fS dS (Yq "most") (kO K C CL))(bS:aw K dS (Yq "most") [GQ tk])(mS:mg "search"=Ja fS)(kS:NW K fS):Jg0 P w K w 10 f fd ["_law_problem"] (jE K C CL):=by
 apply Fun.okX F mU λcdv A outer s H vs Q E O h=>?_
 let(p,L,R,N,l,As,Rs,rfl,G,lg,q):=h;let hu:=gp O;let hv:bc (Jk4 2000) [GQ tk]:=Wy (Ye _);let(t3,g3,k3):=asked3 (base:=base) (cdv:=cdv) (outer:=outer) T TA BE BD O;apply Qq (JS (i:=1) mU.nd (ck (XM (Vy ny rfl TA.list (Vr 0)) (Vy ny rfl TA.list (Vr 0)) (Vy ny rfl TA.list (Vr 0)))) (Nn (i:=2) mU.nd (au S O rfl mS kS bS hv (eE xe1) (Jd 0)) (be (JcR (aA (nH hu) (pv 1) (ck (XM (Xe 0) (Xe 0) (Xe 0))) rfl) (aA (nH hu) (au S O rfl mS kS bS hv (eE xe1) (Jd 0)) (pv 2) rfl))
   fc
   aU) g3))
 let((dx,u),(ts,ht,hT),(as,ha,hA),(rs,B,hR),_):=id G.d.pr;apply(_,rfl,p,C,dx,_,_,rfl,u,T.cl,T.nT,dy _ _ _,L,_,rfl,Jc ht,λl1 hl1=>?_);let(H1,e,X,n1):=Uq hl1 ts;rw[e];apply(_,rfl,p,C,dx,_,_,rfl,X _ _ u,T.cl,T.nA,cX _ _ _,R,_,rfl,Jc (X _ _ ha),λl2 hl2=>?_);let(H2,e,s2,n2):=Uq hl2 as;rw[e];let j:=X.trans s2;apply(_,rfl,p,C,dx,_,_,rfl,j _ _ u,T.cl,T.nR,jv _ _ _,N,_,rfl,Jc (j _ _ B),λl3 Z=>?_);let(H3,e,U,n3):=Uq Z rs;rw[e];let Y:=j.trans U;apply(lS3,λk hk=>?_);let(H4,e,M,n4):=nwH hk (.tup (JnF l1 l2 l3));rw[e];let g:=Y.trans M;apply Yu ((G.same g).go (λh9 H' s'=>lg h9 H' (g.trans s')) λH5 t x wd y n5 o=>?_);let c:=g.trans y;apply(_,rfl,_,rfl,p,C,dx,_,_,rfl,c _ _ u,T.cl,T.nT,dy _ _ _,_,rfl,p,C,dx,_,_,rfl,c _ _ u,T.cl,T.nA,cX _ _ _,_,rfl,p,C,dx,_,_,rfl,c _ _ u,T.cl,T.nR,jv _ _ _,lS3,λk2 hk2=>?_);let(H6,e,r,n6):=nwH hk2 (.tup (JnF L R N));rw[e];let b:=c.trans r;let D:=Jm7 (.of_same b) l;let J:=hA.keep (.of_same b) (dw iG As);let I:=hR.keep (.of_same b) (dw iH Rs);let d1:=Wr ((y.trans r) _ _ n4) (Me (Nl ((s2.trans (U.trans (Jek r))) _ _ n1) D) (Nl ((U.trans (Jek r)) _ _ n2) J) (Wy (Nl ((Jek r) _ _ n3) I)));let d2:=Wr n6 (.cons (Nl (b _ _ ht) D) (WL (Nl (b _ _ ha) J) (Nl (b _ _ B) I)));let dd:dep (.tup [.lst (l.map dT),.lst (As.map dA),.lst (Rs.map dR)])<=60:=by let h1:=rB l;let h2:=me (code:=dA) (n:=1) (λa=>by rw[rD];exact nRq _) As;let h3:=me (code:=dR) (n:=1) (λa=>by rw[dep_dR];exact nRq _) Rs;simp only[dep,aD];lia
 apply(_,_,d1,d2,dd,_,rfl,?_);rw[gR];apply bq (Yu ((G.same b).go (λh9 H' s'=>lg h9 H' (b.trans s')) λH7 t7 x7 wd7 s7 n7 v=>?_));let o:=(o.same r).same s7;let(rfl,rfl):=o.det v;apply JkD _ _ v.has o.has o.dep _ rfl ?_;rw[gR];let z:=b.trans s7;exact bq (k3 H7 Q p k t L R N l As Rs _ _ (G.same z) o λH' s'=>q H' (z.trans s'))
def chC (i:Int):Nat:=(atI ("abcdefg":Str).cps.toList i).getD 0
def ch_at (h0:0<=i)(a:i<7):atI ("abcdefg":Str).cps.toList i=some (chC i):=by
 have:i=0\/i=1\/i=2\/i=3\/i=4\/i=5\/i=6:=by lia
 rcases this with rfl|rfl|rfl|rfl|rfl|rfl|rfl<;>rfl
def chN (i:Nat):Str:=("p":Str)++⟨#[chC ((0+(i:Int))/7)]⟩++⟨#[chC ((0+(i:Int))%7)]⟩
def En:∀i<40,Jeo (chN i)/\(chN i).length<=1000:=by decide +kernel
def Eo:∀i<40,∀j<i,chN j≠chN i:=by decide +kernel
def chA (n:Nat):List At:=(List.range n).map λi=>.plain (chN i)
def yf (n):(chA n).length=n:=by simp [chA]
def Ep (n):chA (n+1)=chA n++[.plain (chN n)]:=by unfold chA;rw[List.range_succ,mAq];rfl
def Er (h:n<40):At.plain (chN n)∉chA n:=λz=>by let(j,a,e):=List.mem_map.mp z;injection e with e;exact Eo n h j (List.mem_range.mp a) e
abbrev NCh:List Str:=["_law_cell","_law_problem","_law_many","_law_k","_law_turn","_law_place"]
def jF:Vf NCh ["_law_cell"] kz:=fsc
inductive pB (K)(C):Sp|m{vs H Q E9} (c):vs=WY c->(∀H' p tl al rl As Rs,UN tl (JeL al rl (JlK H' []->JfK (∀r∈Rs,Ju r) (IV 40) (Jar 9) (U9 Rs.length) p)))->pB K C vs H Q E9
def chain6 (T:YP C)(S:JkG 2 fR K C)(N:J1 dR')(G:XW fR)
  {cdv:Value}{A:Around}{outer:List Env}{s:Shared}{H0:Hp}{E:XK}(j:JaY 2 "_law_chain" kz f):
  ∃z,PSs (Jd7 CX0 P w K NCh "_law_chain" kz f A s H0 E).nox ((zas kz).drop 6) z/\
   ∀H d Q p h g e c m y u t As b,MU d->Gf g->Gf e->Gq K C d p h g e [] b->(∀r∈b,Ju r)->b.length<=41->10<=m->As.length=m.toNat->
    (∀H' Rs,ID (Jdx (Gq K C H' p h g e [] Rs) (∀r∈Rs,Ju r) (U9 Rs.length) p))->z { nx:=λY H'=>Q .non H',rt:=Q } [Ya c,Ja p,Ya m,y,u,t] d:=by
 apply Qq (ae (be (WC iq (Jdj 0)) (Jii 1 G S j N (bb (Gb (Q5 2))))
   aU) (QJ 1))
 intro H d Q p h g e c m y u t As b D L J o F W U O q;let(n,k):=o.pr.ob;apply(_,rfl,_,_,rfl,rfl,Qd (by decide),_,_,rfl,rfl,(by show Je 3;decide),_,_,rfl,rfl,_,rfl,Up (λY=>Yu (q d b D o F (by lia))));apply Jfy _ p n _ rfl k (jx _ _ _) _ rfl _ rfl lS1 (λl I=>?_);let B:=GX I (Jk4 (-m));apply jz (ps:=[-m]) (o.same B) (SqL.of ao) (λx a=>?_) (by simp) (by lia) λH' r v R M i=>Yu (q H' _ (M.fresh (D.trans B) L J) R (λx a=>?_) (by rw[lAq];show _+1<=_;lia))
 .rw[mSq a];unfold PIn;lia
 .rcases mPq a with a | a
  .exact F x a
  .rw[mSq a];exact i
def Es (F:Ix "_law_chain" "_law_chain" kz)(T:YP C)(G:Own P w K mg base C fI fA fQ fS dI dA' dQ dS)(GR:JkG 2 fR K C)(bR:J1 dR')(mR:XW fR):NF 5 ["_law_cell"] (pB K C):=by
 apply II jF
 let(c,rfl,q):=h;let e:=Wo (j:=2);let(t6,h6,g6):=chain6 (base:=base) (cdv:=cdv) (outer:=outer) T GR bR mR e;apply Qq (JS (i:=1) jF.nd (jM G.mI G.I e rfl G.gI G.bI .nil aJ) (Nn (i:=2) jF.nd (aX cv af (Mw aM 0)) (JE (Jny 2) (i:=3) jF.nd (Jii 1 G.mQ G.Q hr G.bQ (aX ui (aX ui aE (aI uM aE (X3 3))) (aI uM aE (Mw aM 3))))) (Nn (i:=4) jF.nd (JaS aM (X3 0) 2) (JE (Jny 2) (i:=3) jF.nd (JS (i:=5) jF.nd (JaS aM (Jhn cv 3 4) 2) (aj (be (JgQ (pv 5)) (Jii 1 mR GR e bR (bb (Ih (Q5 5) (Mw cv 5))))
     aU)))) (ae (be (JgQ (Jdj 0)) (Jii 1 mR GR e bR (bb (Gb af)))
   aU)
  h6))))
 intro p dx np ndx nex;apply Gn p dx ao (λN al R H1 ht ha U na nr nx k1 k2 k3 k4 k5=>Mm rfl);let(S1,s1,ft,Y,W):=oS (K:=K) (C:=C) np ndx nex ht ha U na nr nx k1 k2 k3 k4 k5;clear k1 k2 k3 k4 k5 ht ha U;let b3:=cw c (show Je 31 by decide);apply NL _ _ _ rfl rfl (by show Je 31;decide) _ _ rfl rfl ?_;generalize hm:(10+c%31:Int)=m;let m0:10<=m:=by lia
 let m1:m<=40:=by lia
 apply JdA _ _ (by show -(2^62)<=m;lia) (by show m<2^62;lia) (ee (lo:=0) (n:=m.toNat) (λi o H'=>∃(L:Option V),JjN (o=[Ya c,Ja p,Ya m,L,none,none]) H (PrD K C H' p N al R [] (chA i) [])) (Ul none s1 S1) ?_ ?_)
 .rintro i o H2 hi ⟨L,rfl,s2,S2⟩;let B:i<40:=by lia
  let((dx2,ho2),_):=id S2.pr;let b7:=cw (0+((i:Nat):Int)) (show Je 7 by decide);apply(_,rfl,p,dx2,_,rfl,ho2,kC _ _ _,_,rfl,_,_,rfl,rfl,Qd (by decide),_,_,_,rfl,rfl,(by show Ic 7;decide),ch_at (by lia) (by lia),_,_,rfl,rfl,(by show Ic 2;decide),_,rfl,_,_,rfl,rfl,(by show Je 7;decide),_,_,_,rfl,rfl,(by show Ic 7;decide),ch_at b7.1 b7.2,_,_,rfl,rfl,(by show Ic 3;decide),?_);let g:=En i B;apply CN (z:=chN i) S2 g.1 g.2 (by rw[yf];exact B) (Er B) λH' k pr Z=>Ul _ (Z.fresh s2 Y W) ?_;rw[Ep];exact pr
 rintro o H2 ⟨L,rfl,s2,S2⟩;let aln:=yf m.toNat;generalize chA m.toNat=As at S2 aln;let d:Je m:=by lia
 apply(_,rfl,_,_,rfl,rfl,Qd (by decide),_,rfl,_,_,rfl,rfl,d,?_);generalize c/31%m=tn;apply JdA _ _ (by show -(2^62)<=m;lia) (by show m<2^62;lia) (ee (lo:=0) (n:=m.toNat) (λi o H'=>Ex3 λ(L v5:Option V) (Rs:Yl Int)=>An5 (o=[Ya c,Ja p,Ya m,L,Ya tn,v5]) (Xd H) (MO K C H' p N R [] Rs) (∀r∈Rs,Ju r) (Jkh i)) (IR L none [] s2 S2 (λr hr=>nomatch hr) (nRq _)) ?_ ?_)
 .rintro i o H3 hi ⟨M,v5,Rs,rfl,O,J,S,l3⟩;let b:=cw (0+(i:Int)+tn) d;apply(_,rfl,_,rfl,_,_,rfl,rfl,_,rfl,_,_,rfl,rfl,d,?_);generalize (0+(i:Int)+tn) % m=pl at b;let(D,y):=J.pr.ob;apply JlX _ rfl _ _ _ rfl (bo (λc0=>?_) (λ_=>IR _ _ Rs O J S (by lia)));let c0:0<pl:=oDq c0;apply(_,rfl,p,D,_,rfl,y,jx _ _ _,_,rfl,_,rfl,_,rfl,_,_,rfl,rfl,lS2,λl hl=>?_);let t:=GX hl (V9 (-pl) (pl+1));apply jz (ps:=[-pl,pl+1]) (J.same t) (SqL.of ao) (λx a=>?_) (by simp) (by lia) λH' r v S' Z u=>IR _ _ _ (Z.fresh (O.trans t) Y W) S' (λx a=>?_) (by rw[lAq];exact Nat.add_le_add_right l3 1)
  .let a:x=-pl∨x=pl+1:=by simpa using a
   unfold PIn;lia
  .rcases mPq a with a | a
   .exact S x a
   .rw[mSq a];exact u
 rintro o H3 ⟨M,v5,Rs,rfl,O,J,S,l3⟩;let l3:Jkh 40:=by lia
 let X:∀(H4:Hp) (R4:Yl Int),MU H4->MO K C H4 p N R [] R4->(∀r∈R4,Ju r)->R4.length<=41->t6 { nx:=λ_ H'=>Q .non H',rt:=Q } [Ya c,Ja p,Ya m,M,Ya tn,v5] H4:=λH4 R4 t S4 r4 l4=>g6 H H4 Q p N al R c m _ _ _ As R4 t Y W S4 r4 l4 m0 aln λH' Rs' s' S' r' l'=>q H' p N al R As Rs' s' ft Y W S' r' (by lia) (by lia) l';let(D,y):=J.pr.ob;apply(_,rfl,_,_,rfl,rfl,Qd (by decide),_,_,rfl,rfl,(by show Je 3;decide),_,_,rfl,rfl,_,rfl,Up (λ_=>X H3 Rs O J S (by lia)))
 .apply JkE p D _ y (jx _ _ _) lS1 (λl hl=>?_);let t:=GX hl (Jk4 1);apply jz (ps:=[1]) (J.same t) (SqL.of ao) (λx a=>?_) (by simp) (by lia) λH' r v S' Z u=>X H' _ (Z.fresh (O.trans t) Y W) S' (λx a=>?_) (by rw[lAq];exact Nat.add_le_add_right l3 1)
  .rw[mSq a];unfold PIn;lia
  .rcases mPq a with a | a
   .exact S x a
   .rw[mSq a];exact u
def Et (h:p∈bK n hs):-p∉bK n hs:=λz=>by
 let(a,f,e):=List.mem_map.mp h;let(b,d,c):=List.mem_map.mp z;let i:=ih.mp f;let g:=ih.mp d;let ab:a=b:=by split at e<;>split at c<;>lia
 subst ab;rw[e]at c;have:=tS h;lia
def Eu (h:PIn n p)(d:-p∉bK n hs):p∈bK n hs:=Decidable.byContradiction λz=>by
 unfold PIn at h;let b:∀a:Int,1<=a->a<=n->a∈bK n hs\/-a∈bK n hs:=λa f e=>by
  by_cases c:a∈hs
  .exact .inl (Jkk a (f,e) (if_pos c))
  .exact .inr (Jkk a (f,e) (if_neg c))
 rcases Int.lt_or_gt_of_ne h.1 with c|c
 .rcases b (-p) (by lia) (by lia) with k | k
  .exact d k
  .rw[Int.neg_neg]at k;exact z k
 .exact(b p (by lia) h.2.2).elim z d
def yg (h:p∈bK n hs):Xh (zaT (λk=>decide (k∈bK n hs)) p):=by
 unfold zaT;split
 .exact dTq h
 .show Xh (!decide _);rw[dFq (Et h)];rfl
def eqr_in (h:Jj4 r):Jj4 (r.filter λp=>decide (p≠0/\-(As.length:Int)<=p/\Jar p)):=λg C e=>by let(d,f,b):=h g C λp c x y a=>e p (Jdc c (by have:=jy a;lia)) x y a;let(x,y,a,_):=my b;exact(d,Jdc f (by have:=jy a;lia),b)
def yi (a){k:Int}{q:Int×Int}(h:MD k q):smF (As++a) k=some q:=by let p:=jy h;unfold smF at h⊢;rw[if_pos p]at h;rw[if_pos (p.1,by rw[lAq];lia),List.getD_eq_getElem?_getD,List.getElem?_append_left (by lia),<-List.getD_eq_getElem?_getD];exact h
def Ew (h:Jj4 r)(j)(c):EqR (T++j) (As++c) r:=λg C l=>by
 let i:∀{a:Nat} {t:K52.Tm},T[a]?=some t->(T++j)[a]?=some t:=λ{a t} e=>by rw[List.getElem?_append_left (gEq e).1];exact e
 let(d,s,q):=h g (λa b t u o n=>C a b t u (i o) (i n)) λp k x y f=>l p k x y (yi c f);let(x,y,f,e):=my q;exact(d,s,by rw[sM (yi c f),e];exact dTq rfl)
def Ex (f:Fdt K H t As.length T As Rs x .yes):∃v,iS (V0 T) v/\gx v Rs:=by
 cases f with
 |yes S j n l h g=>
  apply(λk=>decide (k∈QK As.length),λr i=>?_,λr d=>?_)
  .let(p,e,c):=g _ (eqr_in i);let(b,a):=List.mem_filter.mp e;exact(p,b,yg (Eu (by let a:=oDq a;exact a) c))
  .let(p,b,a):=h r d;exact(p,b,yg a)
def Ey (f:WV H z y)(hz:UL z)(a:Uo y ys):J4 H':=λb us q=>by
 rcases q with q|⟨o,q⟩
 .exact .inl (f b _ q (bX q hz (λe=>by cases e)) (bX q a (λe=>by cases e)))
 .exact Yg o (f b _ q (bX q hz (λe=>by cases e)) (bX q a (λe=>by cases e)))
def tT (h:JlL H)(f:WV H al rl):J4 H':=by let(_,_,(_,b,_),(_,a,_)):=h.pr;exact Ey f b a
def prd_k1 (h:JlL H)(f:Jip tl):J4 H':=by let(_,(_,a,_)):=h.pr;exact Fr1.keepT f a
abbrev NGo:List Str:=["_law_script","_law_problem","_law_found","_law_again","_law_bare","_law_k"]
def jG:Vf NGo ["_law_script"] cU:=fsc
def rZ (h0:0<=i)(a:i<5):∃z,Jku [V.str "p",V.str "q",V.str "a",V.str "pq",V.str "qp"] i z/\kJ z:=by
 have:i=0\/i=1\/i=2\/i=3\/i=4:=by lia
 rcases this with rfl|rfl|rfl|rfl|rfl<;>exact U_ _
structure Sr (P)(w)(K)(mg)(base)(C CL fE)(dE)(tk):Prop where
 S:Jg0 P w K w 9 fE dE (Yq "most") (kO K C CL)
 b1:aw K dE (Yq "most") [GQ tk]
 b2:Jlp dE "most"
 m:mg "search"=Ja fE
 k:NW K fE
def gone10 (T:YP C)(G:Own P w K mg base C fI fA fQ fS dI dA' dQ dS)(W:Jno P w K 1 fX dX (gL K))(X:JiR P w K mg (IF w) 10 fK dK' ["_law_problem"] (jE K C CL))(g:Sr P w K mg base C CL fE dE tk)
  {cdv:Value}{A:Around}{outer:List Env}{s:Shared}{H0:Hp}{E:XK}(e:Jec 10 cU f):
  ∃z,Jg1 (IF w) P w K NGo cU f A s H0 E ((zas cU).drop 10) z/\
   ∀H Q a p t B tl al rl x1 x2 (ns:List Int) Tt As Rs w1 w2,Jbv a->Jap 63->gN K C H p tl al rl Tt As Rs->JgU t w1 x1->JgU B w2 x2->(w1="yes"\/w2="no")->(Jar 9->∀H',JgW CL)->(∀H',JnB H')->
    z { nx:=λ_ H'=>Q .non H',rt:=Q } [Ja a,Ja p,Ja t,Ja B,none,none] H:=by
 let hr1:=JaC (j:=1);let hr2:=JaC (j:=2);let hr4:=JaC (j:=4);let L:=JaC (j:=9);apply Qq (JS (i:=4) jG.nd (jM G.mI G.I hr2 rfl G.gI G.bI .nil aJ) (JaT (Jf8 rfl (Jbc (Gb (N_ (V3 W.ok hr1 W.m W.kp W.b 0 af)))) (Us (i:=5) jG.nd) (Jii 4 G.mQ G.Q hr4 G.bQ (Jed (JgF aE aE (XM aE aE aE)) (pv 5)))) (be (JcR (aA dh (aI aQ (Go g.S L g.m g.k g.b2 (eE xe1) 4 (Gb af)) af) aE) (aA dh (XA (Gb (aI aQ (Go g.S L g.m g.k g.b2 (eE xe1) 4 (Gb af)) af))) (UJ 4)))
   fc
   aU) (i_ (Jfg X.ok e X.m X.kp X.b (eE xe1) 1) (jJ (pe_or (fZ bO (Yk 2) aE) (jJ (fZ bO (Yk 3) aE)))))))
 intro H Q a p t B tl al rl x1 x2 ns Tt As Rs w1 w2 hS n63 G0 ht ht2 hw lg q;intro b dx np ndx nex;apply Gn b dx ao (λbt R br H1 F M J na nr nx k1 k2 k3 k4 k5=>Mm rfl);let(S1,s1,ft,fa,fr):=oS (K:=K) (C:=C) np ndx nex F M J na nr nx k1 k2 k3 k4 k5;clear k1 k2 k3 k4 k5 F M J;let b6:=cw (ic ns 1) (show Je 6 by decide);apply(_,rfl,a,ns,1,rfl,s1.seq hS,by lia,by decide,by decide,_,_,rfl,rfl,(by show Je 6;decide),_,rfl,(by lia),(by show ic ns 1%6<2^62;lia),Jb0 (lo:=0) ((ic ns 1%6).toNat) (λi Y H'=>Ex2 λ(v5:Option V) (h:List At)=>An4 (Y=[Ja a,Ja p,Ja t,Ja B,Ja b,v5]) (Xd H) (PrD K C H' b bt R br [] h []) (h.length<=i)) (none,[],rfl,s1,S1,nRq _) ?_)
 .rintro i Y H2 hi ⟨v5,h,rfl,O,y,l2⟩;let(dx2,ho2):=y.pr.ob;let(z,hz,gz):=rZ (i:=0+(i:Int)) (by lia) (by lia);apply JkE b dx2 _ ho2 (kC _ _ _) (by show Ic 5;decide) (λl hl=>?_);let(v,eN,o,n3):=Jnj [V.str "p",V.str "q",V.str "a",V.str "pq",V.str "qp"];rw[eN];exact Jcl _ l _ _ _ rfl (SqL.of n3) hz (kG (y.same o) gz.1 gz.2 (by lia) λH' more k pr f' m1 _=>(_,_,rfl,f'.fresh (O.trans o) fa fr,pr,by rw[lAq];lia))
 rintro Y H2 ⟨v5,h,rfl,O,y,l2⟩;let l5:h.length<=5:=by lia
 let go:∀{v:Hp} {Q':VK},MU v->PrD K C v b bt R br [] h []->(∀H' t N S,Mn v (Jkm t (XQ "yes" N)->Jkm N ((bK h.length S).map V.int)->Q' (.ref t) H'))->kO K C CL (XF b 1) v Q' E:=λ{v Q'} o U k=>by
  apply(b,bt,R,br,[],h,[],1,rfl,U,by decide,((λr e=>nomatch e),by lia,by decide),by decide,by decide,sr_of (λx an _=>absurd an (Ej U.dm)) λH' t x w' s' _ td=>?_);cases td.f with
  |yes S N h1 h2 h3 h4=>exact k H' t N _ s' (SqT.of h1) (SqT.of h2)
  |no S f pl ys h1 h2 h3 h4 h5=>exact absurd (λr e=>nomatch e) (h5 _ (Ek U.dm))
 apply Yu (go O y λv t3 th3 U o h3 h4=>?_);apply(t3,_,_,_,rfl,rfl,h3,Mv (j:=0),rfl,_,rfl,bq ?_);let D:=O.trans o;apply Yu (go D (y.same o) λH4 t4 th4 S4 s4 h5 h6=>?_);let u:=D.trans s4;let(dx4,ys,ho4,hl4,Z):=(y.same (o.trans s4)).pr.lenA;apply(t4,_,_,_,rfl,rfl,h5,Mv (j:=1),th4,_,rfl,.inr h6,_,rfl,b,C,dx4,_,_,rfl,ho4,T.cl,T.nA,cX _ _ _,R,ys,rfl,Jc hl4,rfl,_,rfl,?_);rw[lM,tR,Z];apply bo (λc=>Vh c) λ_=>?_;apply IY _ p tl al rl Tt As Rs (G0.same u) (λh9 H' s'=>lg h9 H' (u.trans s')) (λH5 s5=>Yu (bU ?_));let d:=u.trans s5;apply Jgo _ t _ _ _ (d.tup ht) (Mv (j:=0)) _ (Nf (λc=>?_))
 .exact q H5 d
 .apply JX _ B _ _ _ rfl (d.tup ht2) (Mv (j:=0)) rfl ?_;rcases hw with rfl | rfl
  .exact JiZ rfl
  .exact q H5 d
inductive Fo (K)(H)(t)(T)(As)(Rs):Prop
 |yes (th):JgU t "yes" th->Fo K H t T As Rs
 |no (x):dY K H t As.length T As Rs 2000 x .no->Fo K H t T As Rs
structure Fp (K)(H)(t x)(w)(T)(As)(Rs):Prop where
 s:JgU t w x
 n:w="yes"\/w="no"/\∀v,iS (V0 T) v->¬gx v Rs
def Ez (h:Q7 q)(k:∀H' r,Jks (Jkm r (eZ xs lo hi)) r):qh K (.ref q) lo hi H Q:=by
 by_cases c:WH 0 lo=0/\Jev (Jly hi)
 .apply J6 q xs rfl h c (k H q (ap.refl _) ?_);let e:eZ xs lo hi=xs:=by unfold eZ;rw[c.1,c.2,List.drop_zero,Nat.sub_zero,List.take_length]
  rw[e];exact h
 .exact JaJ q xs rfl h c (λp a=>k _ p (Wm a) (SqT.of ao))
def cut20 (ps:List Int):eZ (ps.map V.int) none (some 20)=(ps.take 20).map V.int:=by
 show((ps.map V.int).drop 0).take (min 20 (ps.map V.int).length-0)=_;rw[List.drop_zero,Nat.sub_zero,List.map_take];rcases Nat.le_total 20 (ps.map V.int).length with h|h
 .rw[Nat.min_eq_left h]
 .rw[Nat.min_eq_right h,VM _,tO h]
structure GoI (K)(C CL)(Hi H)(a p tl al rl)(ns:List Int)(T)(As)(Rs)(n)(Q:VK)(E:XK):Prop where
 s:ap Hi H
 a:Vi Hi a (ns.map V.int)
 l:Jap 63
 ft:Uf (Hi tl)
 fa:Uf (Hi al)
 fr:Uf (Hi rl)
 g:gN K C H p tl al rl T As Rs
 tn:T.length+n<=59
 rn:Rs.length+n<=150
 e:Jar 9->∀H',Jl7 Hi CL
 q:∀H',Mn Hi (Jch H')
def GoI.same {h H H':Hp}{a p b d c:Addr}{ns:List Int}{T:List K52.Tm}{As:List At}{Rs:List (List Int)}{n:Nat}{Q:VK}{E:XK}(g:GoI K C CL h H a p b d c ns T As Rs n Q E)(s:Xd H):GoI K C CL h H' a p b d c ns T As Rs n Q E :=
 (g.s.trans s,g.a,g.l,g.ft,g.fa,g.fr,g.g.same s,g.tn,g.rn,g.e,g.q)
def gone8 (T:YP C)(G:Own P w K mg base C fI fA fQ fS dI dA' dQ dS)(BX:Jno P w K 1 fX dX (gL K))(BK:JiR P w K mg (IF w) 10 fK dK' ["_law_problem"] (jE K C CL))(X:Sr P w K mg base C CL fE dE tk)
  {cdv:Value}{A:Around}{outer:List Env}{s:Shared}{H0:Hp}{E:XK}(hr:Jec 10 cU f):
  ∃z,Jg1 (IF w) P w K NGo cU f A s H0 E ((zas cU).drop 8) z/\
   ∀D H Q a p t o u y F ns b As Rs B,GoI K C CL D H a p o u y ns b As Rs 1 Q E->Fp K H t F B b As Rs->
    z { nx:=λ_ H'=>Q .non H',rt:=Q } [Ja a,Ja p,Ja t,none,none,none] H:=by
 let J:=Wo (j:=4);let hr9:=Wo (j:=9);let hv:bc (Jk4 2000) [GQ tk]:=Wy (Ye _);let(t10,h10,g10):=gone10 (base:=base) (cdv:=cdv) (outer:=outer) T G BX BK X hr;obtain⟨t9,N,g9⟩:∃z,Jg1 (IF w) P w K NGo cU f A s H0 E ((zas cU).drop 9) z/\
   ∀D H Q a p t o u y F ns b As Rs (B:Str),GoI K C CL D H a p o u y ns b As Rs 0 Q E->Fp K H t F B b As Rs->
    z { nx:=λ_ H'=>Q .non H',rt:=Q } [Ja a,Ja p,Ja t,none,none,none] H:=by
  apply Qq (JS (i:=3) jG.nd (au X.S hr9 rfl X.m X.k X.b1 hv (eE xe1) (Jd 1)) h10);intro D H Q a p t o u y F ns b As Rs B g L;apply Yu (g.g.go (λN H' s'=>Jki N H' s') λH1 t1 x wd O _ Z=>?_);let I:=g.s.trans O;let M:∀(Y:Str) (x2:Addr),Mh H1 t1 _->(B="yes"\/Y="no")->t10 { nx:=λ_ H'=>Q .non H',rt:=Q } [Ja a,Ja p,Ja t,Ja t1,none,none] H1:=λY x2 h2 hw=>
   g10 H1 Q a p t t1 o u y F x2 ns b As Rs B Y (I.seq g.a) g.l (g.g.same O) (O.tup L.s) h2 hw (λN H' s'=>g.e N H' (I.trans s')) λH' s'=>g.q H' (I.trans s')
  rcases L.n with e|⟨_,no⟩
  .cases Z.f with
   |yes S th U h2 h3 h4=>exact M _ _ (SqT.of U) (.inl e)
   |no S g pl ys U h2 h3 h4 h5=>exact M _ _ (SqT.of U) (.inl e)
  .cases wd with
   |yes=>
    let(v,v1,v2):=Ex Z.f;exact absurd v2 (no v v1)
   |no=>
    cases Z.f with
    |no S g pl ys U h2 h3 h4 h5=>exact M _ _ (SqT.of U) (.inr rfl)
   |long=>cases Z.f
 apply Qq (ae (be (J_ (WC iq (UJ 1)) (JgQ (UJ 1))) (Ja7 (Yz 1 G.mQ G.Q J G.bQ (Gb aE)) (QG 1 G.mS G.S J G.bS (Ih (Yz 1 G.mA G.A J G.bA (Ih aE (ck ac))) af)))
   aU) N)
 intro D H Q a p t o u y F ns b As Rs B g L;let up:∀{H'},GoI K C CL D H' a p o u y ns b As Rs 1 Q E->GoI K C CL D H' a p o u y ns b As Rs 0 Q E:=λg=>(g.s,g.a,g.l,g.ft,g.fa,g.fr,g.g,by have:=g.tn;lia,by have:=g.rn;lia,g.e,g.q);let(dx,ys,ho,hla,yl):=g.g.d.pr.lenA;let(dx',us,ho',hlt,ul):=g.g.d.pr.lenT;apply(_,rfl,p,C,dx,_,_,rfl,ho,T.cl,T.nA,cX _ _ _,u,ys,rfl,Jc hla,_,_,rfl,rfl,_,rfl,Nf (λ_=>bq (g9 D H Q a p t o u y F ns b As Rs B (up g) L)));apply(_,rfl,p,C,dx',_,_,rfl,ho',T.cl,T.nT,dy _ _ _,o,us,rfl,Jc hlt,_,_,rfl,rfl,_,rfl,bo (λc2=>?_) (λ_=>g9 D H Q a p t o u y F ns b As Rs B (up g) L));let c:((ys.length:Nat):Int)<5:=oDq c;let c2:Je ((us.length:Nat):Int):=oDq c2;rw[yl]at c;rw[ul]at c2;apply Jdp _ rfl p dx _ ho (kC _ _ _) (kG g.g.d (by decide +kernel) (by decide +kernel) (by lia) λH1 m1 _ D1 f1 l1 _=>?_);let(W,R):=D1.pr.ob;apply(_,rfl,p,W,_,rfl,R,mj _ _ _,_,rfl,p,W,_,rfl,R,mi _ _ _,lS0,λe he=>?_);let(H2,eN,s2,n2):=nwH he (.tup []);rw[eN];let tn:=g.tn;apply mq (D1.same s2) (SqT.of n2) (by decide +kernel) (by decide +kernel) (ps:=[]) (by show 0<=3;decide) (λ_ h=>nomatch h) (by lia) (λH3 mT k D3 f3 l3 kl _=>?_);let tl3:(b++mT).length=b.length+mT.length:=lAq;apply mr D3 (Js (by lia)) (Qd (by lia)) (by rw[lAq];lia) (λH4 m4 _ D4 f4 l4 _=>?_);let k4:J4 H4:=(tT g.g.d f1).trans ((bj.of_same s2).trans ((prd_k1 (D1.same s2) f3).trans (tT D3 f4)));let O:=f1.fresh g.s g.fa g.fr;let s3:=f3.fresh (O.trans s2) g.ft;let s4:=f4.fresh s3 g.fa g.fr;let al4:(As++m1++m4).length<=As.length+2:=by rw[lAq,lAq];lia
 let rn:=g.rn;apply g9 D H4 Q a p t o u y F ns (b++mT) (As++m1++m4) Rs B (s4,g.a,g.l,g.ft,g.fa,g.fr,Jcq D4 (by lia) (λr hr'=>?_) g.g.l,by lia,by lia,λN=>by lia,g.q) (k4.sq L.s,L.n.imp id λ(e,no)=>(e,λv v1=>no v λr er=>v1 r ?_))
 .let h:=g.g.r r hr';apply(λk' hk'=>?_,h.2);have:=h.1 k' hk';let hl:As.length≤(As++m1++m4).length:=by rw[lAq,lAq];lia
  unfold PIn at this⊢;lia
 .rw[List.append_assoc];exact Ew er mT (m1++m4)
def gone4 (T:YP C)(G:Own P w K mg base C fI fA fQ fS dI dA' dQ dS)(GR:JkG 2 fR K C)(bR:J1 dR')(mR:XW fR)(BX:Jno P w K 1 fX dX (gL K))(L:JiR P w K mg (IF w) 10 fK dK' ["_law_problem"] (jE K C CL))(J:Sr P w K mg base C CL fE dE tk)
  {cdv:Value}{A:Around}{outer:List Env}{s:Shared}{H0:Hp}{E:XK}(X:Jec 10 cU f):
  ∃z,Jg1 (IF w) P w K NGo cU f A s H0 E ((zas cU).drop 4) z/\
   ∀B H Q a p o c y ns n As Rs,GoI K C CL B H a p o c y ns n As Rs 2 Q E->
    z { nx:=λ_ H'=>Q .non H',rt:=Q } [Ja a,Ja p,none,none,none,none] H:=by
 let hr2:=X.mono (j:=2) (by decide);let hr9:=X.mono (j:=9) (by decide);let hu:=gp X;let hv:bc (Jk4 2000) [GQ tk]:=Wy (Ye _);let(t8,h8,g8):=gone8 (base:=base) (cdv:=cdv) (outer:=outer) T G BX L J X;obtain⟨t7,h7,g7⟩:∃z,Jg1 (IF w) P w K NGo cU f A s H0 E ((zas cU).drop 7) z/\
   ∀B H Q a p t o c y ns n As Rs,GoI K C CL B H a p o c y ns n As Rs 1 Q E->Fo K H t n As Rs->
    z { nx:=λ_ H'=>Q .non H',rt:=Q } [Ja a,Ja p,Ja t,none,none,none] H:=by
  apply Qq (ae (be (JcR (Jbg (Jfg L.ok X L.m L.kp L.b (eE xe1) 1)) (J_ (JlV 2 aE) (aA (nH hu) (au J.S hr9 rfl J.m J.k J.b1 hv (eE xe1) (Jd 1)) (pv 2) rfl)))
   fc
   aU) h8)
  intro B H Q a p t o c y ns n As Rs g fo;apply IY _ p o c y n As Rs g.g (λU H' s'=>Jki U H' s') (λH1 N=>Yu (bq ?_));let O:=g.same N;cases fo with
  |yes th h=>
   exact Jgo _ t _ _ _ (N.tup h) (ay rfl) _ (bq (bq (g8 B H1 Q a p t o c y th ns n As Rs _ O (N.tup h,.inl rfl))))
  | no x td =>
   cases td.f with
   |no S gf pl ys Y h2 h3 h4 h5=>
    apply Jgo _ t _ _ _ (N.tup (SqT.of Y)) (ay rfl) _ (Jmx (O.g.go (λU H' s'=>g.e U H' (O.s.trans s')) λH2 t2 x2 w2 s2 _ R=>?_));let Z:=(td.same N).same s2;let(rfl,rfl):=Z.det R;apply JkD _ _ R.has Z.has R.dep _ rfl ?_;rw[gR];exact bq (g8 B H2 Q a p t o c y pl ns n As Rs _ (O.same s2) ((N.trans s2).tup (SqT.of Y),Jlj h5))
 apply Qq (ae (be (Jbg (Jfg L.ok X L.m L.kp L.b (eE xe1) 1))
   fc
   aU) (Nn (i:=2) jG.nd (au J.S hr9 rfl J.m J.k J.b1 hv (eE xe1) (Jd 1)) (be (J_ (JlV 2 aE) (JgQ (UJ 1))) (Jii 1 mR GR hr2 bR (Vj (N':=["_law_part"]) (ix:=[]) rfl rfl rfl (λ_=>JfE []) rfl rfl (λj i h=>by simp at h) (eY (jP qj (Yk 2) jN (jO af))) (λ_ _ _ _=>(Q5 0))))
   aU) h7))
 intro B H Q a p o c y ns n As Rs g;apply IY _ p o c y n As Rs g.g (λU H' s'=>Jki U H' s') (λH1 N=>Yu (bq ?_));let O:=g.same N;apply Yu (O.g.go (λU H' s'=>g.e U H' (O.s.trans s')) λH2 t x wd s2 _ td=>?_);let g2:=O.same s2;let up:∀{H'},GoI K C CL B H' a p o c y ns n As Rs 2 Q E->GoI K C CL B H' a p o c y ns n As Rs 1 Q E:=λg=>(g.s,g.a,g.l,g.ft,g.fa,g.fr,g.g,by have:=g.tn;lia,by have:=g.rn;lia,g.e,g.q);let n40:=g.g.a;cases td.f with
 |no S gf pl ys Y h2 h3 h4 h5=>
  exact Jgo _ t _ _ _ (SqT.of Y) (Mv (j:=0)) _ (bq (bq (g7 B H2 Q a p t o c y ns n As Rs (up g2) (.no _ td))))
 | yes S th Y h2 h3 h4 =>
  let ht:=SqT.of (K:=K) Y;let hh:=SqT.of (K:=K) h2;let(dx,ys,ho,hla,yl):=g2.g.d.pr.lenA;apply Jgo _ t _ _ _ ht (Mv (j:=0)) _ (bU (_,rfl,p,C,dx,_,_,rfl,ho,T.cl,T.nA,cX _ _ _,c,ys,rfl,Jc hla,_,_,rfl,rfl,_,rfl,Up (λ_=>g7 B H2 Q a p t o c y ns n As Rs (up g2) (.yes th ht))));apply Jfw _ p dx _ rfl ho (jx _ _ _) _ rfl t _ _ _ rfl rfl ht (Mv (j:=1)) _ rfl (Ez hh λH3 u s3 F=>?_);rw[cut20]at F;let hl:=tR As.length S.hs;let hin:∀k∈(QK As.length).take 20,PIn As.length k:=λk hk=>tS (List.mem_of_mem_take hk);let M:((QK As.length).take 20).length<=20:=by rw[List.length_take];lia
  generalize (QK As.length).take 20=ps at F hin M;apply Ul u (Qu F) (λD hD=>Jl3 eJ (λi us H'=>Xd H3/\us=((ps.take i).map λk=>-k).map V.int) (λi us H' (W,_)=>W.tup F) hD)
  .rintro j us H9 x H4 hj hly I ⟨W,rfl⟩ ⟨rfl,hx⟩;let(k,hk,rfl):=GW _ (W.tup F);apply Jfe _ _ (NO _ (by rw[lM];lia) hj hly I (W.upd hD));rw[bf hk,mAq,mAq];rfl
  rintro us H4 I ⟨W,rfl⟩;rw[lM,List.take_length]at I;let s34:=s3.trans W;let g4:=g2.same s34;let rn:=g.rn;apply jz (ps:=ps.map λk=>-k) g4.g.d (SqL.of I) (λk hk=>?_) (by rw[lM];exact M) (by lia) λH5 r v D5 f5 rin=>?_
  .let(j,hj,rfl):=List.mem_map.mp hk;exact(hin j hj).neg
  let tn:=g.tn;apply g7 B H5 Q a p t o c y ns n As (Rs++[r]) (f5.fresh g4.s g.fa g.fr,g.a,g.l,g.ft,g.fa,g.fr,(D5,g.g.t,λr' hr'=>?_,g.g.a,?_),by lia,?_,g.e,g.q) (.yes th ((tT g4.g.d f5).sq (s34.tup ht)))
  .rcases mPq hr' with h | h
   .exact g.g.r r' h
   .rw[mSq h];exact rin
  .rw[lAq];show _+1<=_;lia
  .rw[lAq];show _+1+1<=_;lia
def sc_law:Vf ["_law_script"] ["_law_script"] rA:=fsc
inductive tU (K)(CL):Sp|m{vs H Q E} (a) (ns):vs=Gj a->Jbv a->Jap 63->(ic ns 3%9=4->∀H',JgW CL)->(∀H',JnB H')->tU K CL vs H Q E
def gone3 (T:YP C)(G:Own P w K mg base C fI fA fQ fS dI dA' dQ dS)(GR:JkG 2 fR K C)(bR:J1 dR')(S:XW fR)(d:Jno P w K 1 fX dX (gL K))(k:IS 5 "_law_chain" fH dH ["_law_cell"] (pB K C))(BK:JiR P w K mg (IF w) 10 fK dK' ["_law_problem"] (jE K C CL))(SR:Sr P w K mg base C CL fE dE tk)
  {cdv:Value}{A:Around}{outer:List Env}{s:Shared}{H0:Hp}{E:XK}(v:Jec 10 cU f):
  ∃z,Jg1 (IF w) P w K NGo cU f A s H0 E ((zas cU).drop 3) z/\
   ∀h H Q a p o y t ns D As Rs,GoI K C CL h H a p o y t ns D As Rs 2 Q E->(ic ns 3%9=4->∀H',Jl7 h CL)->
    z { nx:=λV H'=>Q .non H',rt:=Q } [Ja a,Ja p,none,none,none,none] H:=by
 let e:=v.mono (j:=1) (by decide);let u:=v.mono (j:=5) (by decide);let(t4,W,L):=gone4 (base:=base) (cdv:=cdv) (outer:=outer) T G GR bR S d BK SR v;apply Qq (ae (be (Jdv (N_ (V3 d.ok e d.m d.kp d.b 0 af))) (Jmr (i:=1) jG.nd (Yj k.ok u k.m k.kp k.b aJ (Gb (WG cm (V3 d.ok e d.m d.kp d.b 0 af)))))
   aU) W)
 intro h H Q a p o y t ns D As Rs g U;let J:=g.s.seq g.a;let R:=g.l;apply(_,rfl,a,ns,3,rfl,J,by lia,by decide,by decide,_,_,rfl,rfl,(by show Je 9;decide),rfl,_,rfl,Nf (λV=>L h H Q a p o y t ns D As Rs g));let c:=oDq c;injection c with c;apply(_,rfl,a,ns,3,rfl,J,by lia,by decide,by decide,_,_,rfl,rfl,Qd (by decide),_,rfl,λH1 O n x r I F M X Z Y D1 N B V l1=>?_);exact L h H1 Q a O n x r ns [] I F (g.s.trans M,g.a,g.l,g.s.free X,g.s.free Z,g.s.free Y,(D1,by decide,N,B,by lia),by decide,by lia,λV=>U c,g.q)
def EA (F:Ix "_law_gone" "_law_gone" cU)(T:YP C)(G:Own P w K mg base C fI fA fQ fS dI dA' dQ dS)(GR:JkG 2 fR K C)(bR:J1 dR')(mR:XW fR)(c:Jno P w K 1 fX dX (gL K))(L:IS 6 "_law_problem_by" fB dB (Jmn "_law_atoms") (sj K C))
  (J:IS 3 "_law_rows_added" fO dO (JjI "_law_many") (sS K C))(I:IS 3 "_law_units_added" fU dU (Uk "_law_cell") (sR K C))(BH:IS 5 "_law_chain" fH dH ["_law_cell"] (pB K C))(BK:JiR P w K mg (IF w) 10 fK dK' ["_law_problem"] (jE K C CL))(SR:Sr P w K mg base C CL fE dE tk):Jg0 P w K w 11 f fd ["_law_script"] (tU K CL):=by
 apply Fun.okX F jG λcdv A outer s H vs Q E B h=>?_
 let(a,ns,rfl,e,O,lg,q):=h;let d:=JdX (j:=1);let o:=JdX (j:=3);let S:=JdX (j:=6);let(Y,h3,g3):=gone3 (base:=base) (cdv:=cdv) (outer:=outer) T G GR bR mR c BH BK SR B;apply Qq (Nn (i:=1) jG.nd (GG L.ok S L.m L.kp L.b 0 (XM af (aX cv af (N_ (V3 c.ok d c.m c.kp c.b 0 af))) (N_ (V3 c.ok d c.m c.kp c.b 0 af)))) (ah (GG J.ok o J.m J.kp J.b 1 (Va 0 (Ih af (N_ (V3 c.ok d c.m c.kp c.b 0 af)))))) (ae (be (Jdv (N_ (V3 c.ok d c.m c.kp c.b 0 af))) (Qp (V3 I.ok o I.m I.kp I.b 1 (WG cm (V3 c.ok d c.m c.kp c.b 0 af))))
   aU)
  h3))
 apply(_,rfl,_,rfl,a,ns,0,rfl,e,by lia,by decide,by decide,_,_,rfl,rfl,(by show Je 6;decide),_,_,rfl,rfl,_,rfl,a,ns,1,rfl,e,by lia,by decide,by decide,_,_,rfl,rfl,(by show Je 6;decide),?_);apply(a,ns,6,_,_,rfl,e,by lia,by decide,by decide,by lia,by lia,by lia,by lia,λH1 p v u n D As M np nt z y PD t1 Z a7=>?_);apply(_,rfl,_,rfl,_,rfl,a,ns,2,rfl,M.seq e,by lia,by decide,by decide,_,_,rfl,rfl,(by show Je 10;decide),?_);let R:∀H',WV H1 u n->SqL K H' a _:=λH' f'=>(f'.fresh M z y).seq e;apply(p,v,u,n,a,D,As,[],ns,18,_,rfl,PD,R,by lia,by decide,by decide,by lia,by lia,by lia,by decide,λH2 R2 g f2 X l2=>?_);rw[List.nil_append]at g;let x:=f2.fresh M z y;let t:∀k l,Gq K C k p v u n D l->MU k->(∀r∈l,Ju r)->U9 l.length->Y { nx:=λV H'=>Q .non H',rt:=Q } [some _,some _,none,none,none,none] k:=λk l D3 s3 N l3=>
  g3 H k Q a p v u n ns D As l (s3,e,O,nt,z,y,Jcq D3 (by lia) N (by lia),by lia,by lia,λh9=>JgB h9,q) lg
 apply(_,rfl,a,ns,4,rfl,x.seq e,by lia,by decide,by decide,_,_,rfl,rfl,(by show Je 2;decide),rfl,_,rfl,Up (λV=>t H2 R2 g x X (by lia)));apply(_,rfl,_,rfl,a,ns,4,rfl,x.seq e,by lia,by decide,by decide,_,_,rfl,rfl,Qd (by decide),?_);apply(p,v,u,n,D,As,R2,_,rfl,g,by lia,by lia,λk l W f3 N l3=>t k _ W (f3.fresh x z y) (λr U=>(mPq U).elim (X r) (N r)) (by rw[lAq];lia))
def EB (F:Ix "_law_cell_at" "_law_cell_at" rY)(T:YP C):FnS P w K mg base 1 f fd (Qm "_law_k") (gL K):=by
 apply F.okS xu λcdv A l outer s H vs Q E j h=>?_
 let(a,ns,k,rfl,b,e,k0,k1,q):=h;apply Qq (J3 (be (Jdv (YH 0)) (QJ 1)
   aU) (aX cv (IW 0 (Wg aM 1 (YH 0))) (aX iK af (Wg cm 1 (YH 0)))))
 apply JkD a _ rfl (.inl b) rfl _ rfl (Je_ (λc=>Yu ?_))
 .let c:=oDq c;injection c with c;unfold ic at q;rw[if_pos c]at q;exact q
 let d:0<(((ns.map V.int).length:Nat):Int):=by have:¬(((ns.map V.int).length:Nat):Int)=0:=λz=>c (by rw[z];exact dTq rfl);lia
 unfold ic at q;rw[if_neg (Int.ne_of_gt d)]at q;let m:=cw k d;let g:JbH (((ns.map V.int).length:Nat):Int):=by rw[lM];lia -ac
 let i:JjB (k%(((ns.map V.int).length:Nat):Int)):=by rw[lM]at m⊢;exact m
 apply(_,rfl,_,rfl,_,rfl,a,_,rfl,.inl b,_,_,rfl,rfl,d,a,_,_,_,rfl,rfl,b,dz i,_,rfl,_,rfl,a,_,rfl,.inl b,_,_,rfl,rfl,(d,g),_,_,rfl,rfl,Jgb (by decide),_,_,rfl,rfl,q)
inductive mV (K):Sp|m{vs H Q E9} (a) (ns:List Int):vs=Gj a->Jbv a->Jap 63->(∀H',Jch H')->mV K vs H Q E9
def ok_law (F:Ix "law" "law" rA)(t:mg "TooLong"=Ja CL)(p:Xa (Jkf K CL (.ref CL)) true)(i:Jno P w K 1 fX dX (gL K))(u:FnS P w K mg base 1 fX dX (Qm "_law_k") (gL K))(d:Ng P w K mg (IF w) 11 "_law_gone" fG dG ["_law_script"] (tU K CL)):NF 12 ["_law_script"] (mV K):=by
 apply V_b sc_law l
 let(a,ns,rfl,n,e,q):=h;let g:=l.mono (j:=1) (by decide);apply Qq (aj (B1 rfl rfl (λk y x o r=>Ud (B0 d.ok l rfl d.m d.kp d.b .nil r (Jd 0))) (Br rfl t (λv=>Ud (fZ bO (N_ (BZ (E:=E0) u g rfl i.m i.kp i.b (QQ 0 af))) af)) Bq)))
 apply(rfl,_,rfl,a,ns,rfl,n,e,λc H' s'=>(CL,rfl,true,p,bU ?_),λH' z=>q H');apply(_,rfl,a,ns,3,rfl,s'.seq n,by lia,by decide,by decide,_,_,rfl,rfl,(by show Je 9;decide),rfl,?_);rw[c];exact q H'
def all_mk {l:W.OpenLaw}{K:W.Frag}{h:Heap}{fa aK C CL S j fs es:Addr}(X:K.In h)(G:Jbx mg)(hfa:mg "law"=Ja fa){slK:Array (Option Value)}{t1 t2 t3 t4 t5 t6 t7 ts u1 u2 u3 u4 u5 u6 u7 u8:Tok}{nK:Nat}{ds:FuncData}
  (aC:Jcy K "Problem" C)(aL:Jcy K "TooLong" CL)(aG:Jcy K "Groups" S)(aH:Jcy K "Hunt" j)(y1:V_a "is_word" qO f1 d1)(y2:V_a "is_name" qP f2 d2)(y3:V_a "ask_name" qR f3 d3)(y4:V_a "once_each" qS f4 d4)(y5:V_a "place_of" qT f5 d5)(y6:V_a "given_links" W52.s_given_links f6 d6)(y7:V_a "alike_links" W52.s_alike_links f7 d7)(y8:V_a "links" W52.s_links f8 d8)(y9:V_a "groups_of" W52.s_groups_of f9 d9)(Z9:V_a "heads" W52.s_heads f10 d10)(Z8:V_a "steps_of" W52.s_steps_of f11 d11)(Z7:V_a "way" W52.s_way f12 d12)(Z6:V_a "part_pairs" W52.s_part_pairs f13 d13)(Z5:V_a "ways" W52.s_ways f14 d14)(p:V_a "sameness" ov f15 d15)(Z4:V_a "held_same" lO f16 d16)(Z3:V_a "same_links" lP f17 d17)(Z2:V_a "clashing_atom" ox f18 d18)(Z1:V_a "equal_line" lQ f19 d19)(Z0:V_a "clash" oy f20 d20)(ZZ:V_a "levels" s_levels f21 d21)(ZY:V_a "part_levels" s_part_levels f22 d22)(ZX:V_a "is_replaced" s_is_replaced f23 d23)(ZW:V_a "learnt" s_learnt f24 d24)(z:V_a "_law_cell_at" xc f25 d25)(ZV:V_a "_law_term_by" q_ f26 d26)(ZU:V_a "_law_woven" rg f27 d27)(ZT:V_a "_law_other_by" oF f28 d28)(ZS:V_a "_law_problem_by" ri f29 d29)(ZR:V_a "_law_units_added" kx f30 d30)(ZQ:V_a "_law_rows_added" l_ f31 d31)(ZP:V_a "_law_merged" oG f32 d32)(ZO:V_a "_law_alike" ma f33 d33)(ZN:V_a "_law_next" rj f34 d34)(ZM:V_a "_law_joined_by" rq f35 d35)(ZL:V_a "_law_denied" rz f36 d36)(ZK:V_a "_law_each_held" oH f37 d37)(ZJ:V_a "_law_asked" ky f38 d38)(ZI:V_a "_law_chain" kz f39 d39)(ZH:V_a "_law_gone" cU f40 d40)(ZG:V_a "law" rA f41 d41)(ZF:FM K C "__init__" "Problem.__init__" qU f42 d42)(ZE:FM K C "ask_term" "Problem.ask_term" qV f43 d43)(ZD:FM K C "ask_part" "Problem.ask_part" qW f44 d44)(ZC:FM K C "add_term" "Problem.add_term" sAdd f45 d45)(ZB:FM K C "add_plain" "Problem.add_plain" qX f46 d46)(ZA:FM K C "add_same" "Problem.add_same" qZ f47 d47)(Zz:FM K C "add_row" "Problem.add_row" sRow f48 d48)(Zy:FM K S "__init__" "Groups.__init__" W52.s_init f49 d49)(Z:FM K S "head" "Groups.head" W52.s_head f50 d50)(Zx:FM K S "together" "Groups.together" W52.s_together f51 d51)(Zw:FM K S "merge" "Groups.merge" W52.s_merge f52 d52)(Zv:FM K j "__init__" "Hunt.__init__" wN f53 d53)(Y:FM K j "hold" "Hunt.hold" wO f54 d54)(Zu:FM K j "watch" "Hunt.watch" wQ f55 d55)(Zt:FM K j "begin" "Hunt.begin" wR f56 d56)(Zs:FM K j "finds" "Hunt.finds" wU f57 d57)(Zr:FM K j "look_at" "Hunt.look_at" wV f58 d58)(Zq:FM K j "grow" "Hunt.grow" wW f59 d59)(Zo:FM K j "put" "Hunt.put" wX f60 d60)(Zn:FM K j "cut" "Hunt.cut" wY f61 d61)(Zm:FM K j "learn" "Hunt.learn" wZ f62 d62)(Zl:FM K j "choose" "Hunt.choose" w_ f63 d63)(Zk:FM K j "held_parts" "Hunt.held_parts" xb f64 d64)(s1:JM K "SMALL_LETTERS" (some (.str abc t1)))(s2:JlT K "LONGEST_NAME" 8 t2)(s3:JlT K "MOST_TERM_PARTS" 3 t3)(s4:JlT K "MOST_TERMS" 60 t4)(s5:JlT K "MOST_ATOMS" 40 t5)(s6:JlT K "MOST_ROW_PARTS" 20 t6)(s7:JlT K "MOST_ROWS" 200 t7)(s8:Jcy K "KEPT_WORDS" aK)(s9:JcO aK (.type "tuple") none (.seq #[.str "or" u1,.str "and" u2,.str "not" u3,.str "never" u4,.str "always" u5,.str "then" u6,.str "as" u7,.str "unlike" u8] nK) slK)(u:JmD "len")(Zj:JmD "all")(b:JmD "range")(c:JmD "isinstance")(x:JmD "bool")(d:JmD "tuple")(y:JmD "abs")(o:JmD "reversed")(n:JmD "enumerate")(f:JmD "sorted")(g:JmD "list")(Zi:JmD "zip")(U:JmD "dict")(Zh:JmD "any")(t:JmD "max")(Zg:JmD "min")(J:JmD "int")(Zf:JkC K "int" "bool" false)(Ze:Xh (JdD K C))(Zd:Jgd K C)(Zc:Jge K C)(Zb:Jlx (Jho K C) "object.__setattr__")(Za:JiT K C)(Y9:NW K C)(Y8:Xh (JdD K S))(Y7:Jgd K S)(Y6:Jge K S)(Y5:Jlx (Jho K S) "object.__setattr__")(Y4:JiT K S)(Y3:NW K S)(Y2:Xh (JdD K j))(Y1:Jgd K j)(Y0:Jge K j)(YZ:Jlx (Jho K j) "object.__setattr__")(YY:JiT K j)(YX:NW K j)(YW:IQ K C "terms")(YV:IQ K C "atoms")(YU:IQ K C "rows")(R:IQ K S "least")(r:IQ K S "gathered")(B:IQ K j "problem")(YT:IQ K j "most")(Q:IQ K j "known")(N:IQ K j "paper")(L:IQ K j "trail")(YS:IQ K j "held")(D:IQ K j "looked")(I:IQ K j "begins")(A:IQ K j "watched")(q:IQ K j "watching")(O:IQ K j "order")(E:IQ K j "lately")(xL:Xh (W.excIn K CL bmV "ValueError.__new__"))(YR:Xa (Jkf K CL (.ref CL)) true)(ys:FD K "search" ku fs es ds ts)
  : ∃fd:FuncData,(∀(s:Shared) (v:Value),JdK fd (WX [v]) [("_law_script",v,)])/\∀base:Heap,K.In base->VX mg->aS l.prog w K mg base CX0 12 fa fd ["_law_script"] (mV K):=by let gn:=λ{x:Str} (e:JmD x)=>W.mg_none_of X G e;let gm:=λ{x:Str}{v:Value} (e:JM K x (some v))=>W.mg_of X G e;let e:=hfa.symm.trans (ZG.m X G);cases e;let T:YP C:=(Jgh s1,Jgh s2,Jgh s3,Jgh s4,Jgh s5,Jgh s6,Jgh s7,gm s8,λH=>.inr (_,_,_,s9,rfl,rfl,(by show Ic 8;decide),Me (Ye _) (Ye _) (Me (Ye _) (Ye _) (Me (Ye _) (Ye _) (WL (Ye _) (Ye _))))),gn u,gn Zj,gn b,gn c,gn x,gn d,gn y,(Ze,Zd,Zc,Zb),YW,YV,YU);let TB:JgJ K:=(gn u,gn o,gn y,gn n,gn f,gn d,gn g,gn b,aL,xL);let TG:W52.TxG K mg S:=((Y8,Y7,Y6,Y5),R,r,gn Zg,gn t,gn b);let TW:W52.Txt K mg:=(gn u,gn g,gn b,gn c,gn J,gn x,gn Zg,gn t,gn d,gn n,gn Zi,gn f,gn U,Zf);let TH:JdW j:=((Y2,Y1,Y0,YZ),B,YT,Q,N,L,YS,D,I,A,q,O,E);let TE:Le52.Txt K mg:=(gn u,gn U,gn b,gn d,gn g,gn Zh,gn Zi,gn o,gn t,gn c,gn J,gn x,gn y,Zf);let bs:aw K ds (Yq "most") [GQ ts]:=bind1 ys λV V V V V V V=>Yu rfl;let bs2:Jlp ds "most":=bindD ys λV V V V V V V V=>Yu rfl;let TA:TxA K mg:=(gn g,gn J,Zf);let b1:JiU d1 "text":=y1.F.b1 λV V V V V V V=>rfl;let b2:JiU d2 "word":=y2.F.b1 λV V V V V V V=>rfl;let b3:JiU d3 "word":=y3.F.b1 λV V V V V V V=>rfl;let b4:JiU d4 "parts":=y4.F.b1 λV V V V V V V=>rfl;let b5:Uj d5 (Jmi "most"):=y5.F.b3 λV V V V V V V V V=>rfl;let b6:Uj d6 (Jdr "given"):=y6.F.b2 λV V V V V V V V=>rfl;let b7:Uj d7 (Jdr "terms"):=y7.F.b2 λV V V V V V V V=>rfl;let b8:Uj d8 (JjA "given"):=y8.F.b2 λV V V V V V V V=>rfl;let b9:JiU d9 "links":=y9.F.b1 λV V V V V V V=>rfl;let b10:Uj d10 ["many","links"]:=Z9.F.b2 λV V V V V V V V=>rfl;let b11:JiU d11 "links":=Z8.F.b1 λV V V V V V V=>rfl;let b12:Uj d12 ["steps","one","other"]:=Z7.F.b3 λV V V V V V V V V=>rfl;let b13:Uj d13 (JjA "link"):=Z6.F.b2 λV V V V V V V V=>rfl;let b14:Uj d14 (Jhh "links"):=Z5.F.b4 λV V V V V V V V V V=>rfl;let b15:Jlp d15 "number":=p.F.b2 λV V V V V V V V=>rfl;let b16:Jlp d16 "held":=Z4.F.b2 λV V V V V V V V=>rfl;let b17:Jlp d17 "held":=Z3.F.b2 λV V V V V V V V=>rfl;let b18:Uj d18 ["problem","held","found"]:=Z2.F.b3 λV V V V V V V V V=>rfl;let b19:Uj d19 (JjF "atom"):=Z1.F.b4 λV V V V V V V V V V=>rfl;let b20:Jlp d20 "held":=Z0.F.b2 λV V V V V V V V=>rfl;let b21:JiU d21 "trail":=ZZ.F.b1 λV V V V V V V=>rfl;let b22:JiU d22 "trail":=ZY.F.b1 λV V V V V V V=>rfl;let b23:Uj d23 (Jhl "why"):=ZX.F.b5 λV V V V V V V V V V V=>rfl;let b24:Uj d24 ["rows","trail","fails"]:=ZW.F.b3 λV V V V V V V V V=>rfl;let b25:Uj d25 (Qm "_law_k"):=z.F.b2 λV V V V V V V V=>rfl;let b26:Uj d26 (Uk "_law_cell"):=ZV.F.b2 λV V V V V V V V=>rfl;let b27:Uj d27 (Qm "_law_first"):=ZU.F.b2 λV V V V V V V V=>rfl;let b28:Uj d28 (Jdf "_law_one"):=ZT.F.b3 λV V V V V V V V V=>rfl;let b29:Uj d29 (Jmn "_law_atoms"):=ZS.F.b4 λV V V V V V V V V V=>rfl;let b30:Uj d30 (Uk "_law_cell"):=ZR.F.b2 λV V V V V V V V=>rfl;let b31:Uj d31 (JjI "_law_many"):=ZQ.F.b4 λV V V V V V V V V V=>rfl;let b32:Uj d32 (Jf6 "_law_one"):=ZP.F.b3 λV V V V V V V V V=>rfl;let b33:Uj d33 (Jh6 "_law_one"):=ZO.F.b4 λV V V V V V V V V V=>rfl;let b34:Uj d34 (Jcm "_law_roots"):=ZN.F.b3 λV V V V V V V V V=>rfl;let b35:Uj d35 (Uk "_law_held"):=ZM.F.b2 λV V V V V V V V=>rfl;let b36:Uj d36 (Uk "_law_held"):=ZL.F.b2 λV V V V V V V V=>rfl;let b37:Uj d37 (Uk "_law_held"):=ZK.F.b2 λV V V V V V V V=>rfl;let b38:JiU d38 "_law_problem":=ZJ.F.b1 λV V V V V V V=>rfl;let b39:JiU d39 "_law_cell":=ZI.F.b1 λV V V V V V V=>rfl;let b40:JiU d40 "_law_script":=ZH.F.b1 λV V V V V V V=>rfl;let b42:JiV d42:=ZF.F.b1 λV V V V V V V=>rfl;let b43:Jnk d43:=ZE.F.b2 λV V V V V V V V=>rfl;let b44:Jls d44:=ZD.F.b2 λV V V V V V V V=>rfl;let b45:Uj d45 (JeJ "name"):=ZC.F.b3 λV V V V V V V V V=>rfl;let b46:Wu d46 "name":=ZB.F.b2 λV V V V V V V V=>rfl;let b47:JbN d47:=ZA.F.b3 λV V V V V V V V V=>rfl;let b48:J1 d48:=Zz.F.b2 λV V V V V V V V=>rfl;let b49:JiV d49:=Zy.F.b1 λV V V V V V V=>rfl;let b50:JgO d50:=Z.F.b2 λV V V V V V V V=>rfl;let b51:JbN d51:=Zx.F.b3 λV V V V V V V V V=>rfl;let b52:JbN d52:=Zw.F.b3 λV V V V V V V V V=>rfl;let b53:Uj d53 (JaF "most"):=Zv.F.b3 λV V V V V V V V V=>rfl;let b54:JlA d54:=Y.F.b3 λV V V V V V V V V=>rfl;let b55:Uj d55 (Jhg "self"):=Zu.F.b4 λV V V V V V V V V V=>rfl;let b56:JiV d56:=Zt.F.b1 λV V V V V V V=>rfl;let b57:JbM d57 "number":=Zs.F.b3 λV V V V V V V V V=>rfl;let b58:Jls d58:=Zr.F.b2 λV V V V V V V V=>rfl;let b59:JiV d59:=Zq.F.b1 λV V V V V V V=>rfl;let b60:Wu d60 "line":=Zo.F.b2 λV V V V V V V V=>rfl;let b61:Wu d61 "level":=Zn.F.b2 λV V V V V V V V=>rfl;let b62:Wu d62 "fails":=Zm.F.b2 λV V V V V V V V=>rfl;let b63:JiV d63:=Zl.F.b1 λV V V V V V V=>rfl;let b64:JiV d64:=Zk.F.b1 λV V V V V V V=>rfl;apply W7 (ZG.F.top λV V V V V V V=>rfl) (λbase V V=>?_);let MKI:Mk K C f42:=(Za,ZF.a,ZF.i,Y9);let MKG:Mk K S f49:=(Y4,Zy.a,Zy.i,Y3);let MKH:Mk K j f53:=(YY,Zv.a,Zv.i,YX);let G1:=Ci (P:=l.prog) (w:=w) (base:=base) y1.F T;let G2:=Cj y2.F T G1 b1 y1.k (y1.m X G);let G3:=Ck y3.F (G2,b2,y2.k,y2.m X G);let G4:=Cu (P:=l.prog) (w:=w) (base:=base) y4.F T;let G5:=Cm (P:=l.prog) (w:=w) (base:=base) y5.F T;let G42:=K52.ok_init (P:=l.prog) (w:=w) (base:=base) ZF.F T;let G43:=Cn (P:=l.prog) (w:=w) (base:=base) ZE.F T;let G44:=Co (P:=l.prog) (w:=w) (base:=base) ZD.F T;let G45:=ok_add ZC.F T (G3,b3,y3.k,y3.m X G) G43 b43 ZE.M (G5,b5,y5.k,y5.m X G);let G46:=Cr ZB.F T (G3,b3,y3.k,y3.m X G) (G5,b5,y5.k,y5.m X G);let G47:=Cs ZA.F T G43 b43 ZE.M (G5,b5,y5.k,y5.m X G);let G48:=ok_row Zz.F T G44 b44 ZD.M (G4,b4,y4.k,y4.m X G);let OW:Own l.prog w K mg base C f42 f45 f46 f47 _ _ _ _:=(G42,b42,MKI,gm aC,G45,b45,ZC.M,G46,b46,ZB.M,G47,b47,ZA.M);let G49:=W52.ok_init (P:=l.prog) (w:=w) (base:=base) Zy.F TG;let G50:=W52.ok_head (P:=l.prog) (w:=w) (base:=base) Z.F TG;let G51:=W52.ok_together Zx.F TG Z.M G50 b50;let G52:=W52.ok_merge Zw.F TG Z.M G50 b50;let G6:=W52.ok_given_links y6.F TG TW.enumerate Zx.M G51 b51 Zw.M G52 b52;let G7:=W52.ok_alike_links y7.F TG TW.enumerate TW.tuple Z.M G50 b50 Zx.M G51 b51 Zw.M G52 b52;let G8:=W52.ok_links y8.F TW.len MKG (gm aG) G49 b49 (G6,b6,y6.k,y6.m X G) (G7,b7,y7.k,y7.m X G);let G9:=W52.ok_groups_of y9.F TG MKG (gm aG) G49 b49 Zw.M G52 b52;let G10:=W52.ok_heads Z9.F TG (G9,b9,y9.k,y9.m X G) Z.M G50 b50;let G11:=W52.ok_steps_of (P:=l.prog) (w:=w) (base:=base) Z8.F TW;let G12:=W52.ok_way (P:=l.prog) (w:=w) (base:=base) Z7.F TW;let G13:=W52.ok_pairs (P:=l.prog) (w:=w) (base:=base) Z6.F TW;let G14:=W52.ok_ways Z5.F TW (G11,b11,Z8.k,Z8.m X G) (G12,b12,Z7.k,Z7.m X G) (G13,b13,Z6.k,Z6.m X G);let G15:=CA (P:=l.prog) (w:=w) (base:=base) p.F T;let G16:=C4 Z4.F (G15,b15,p.k,(p.m X G));let G17:=C6 Z3.F T (G15,b15,p.k,(p.m X G)) (G16,b16,Z4.k,Z4.m X G) (G8,b8,y8.k,y8.m X G);let G18:=C7 Z2.F T (gn f) (G15,b15,p.k,(p.m X G)) (G10,b10,Z9.k,Z9.m X G);let G19:=C9 Z1.F T (gn d) (G15,b15,p.k,(p.m X G)) (G16,b16,Z4.k,Z4.m X G) (G14,b14,Z5.k,Z5.m X G);let G20:=C_ Z0.F (G17,b17,Z3.k,Z3.m X G) (G18,b18,Z2.k,Z2.m X G) (G19,b19,Z1.k,Z1.m X G);let G21:=Le52.ok_levels (P:=l.prog) (w:=w) (base:=base) (mg:=mg) ZZ.F;let G22:=Le52.ok_part_levels ZY.F TE (G21,b21,ZZ.k,ZZ.m X G);let G23:=Le52.ok_is_replaced (P:=l.prog) (w:=w) (base:=base) ZX.F TE;let G24:=Le52.ok_learnt ZW.F TE (G22,b22,ZY.k,ZY.m X G) (G23,b23,ZX.k,ZX.m X G);let G54:=DF (P:=l.prog) (w:=w) (base:=base) (mg:=mg) Y.F TH;let G55:=DH (P:=l.prog) (w:=w) (base:=base) (mg:=mg) Zu.F TH;let G57:=DK (P:=l.prog) (w:=w) (base:=base) (mg:=mg) Zs.F TH;let G58:=DL Zr.F TH Zs.M G57 b57 Y.M G54 b54;let G60:=ok_put Zo.F TH TB Zu.M G55 b55;let G61:=ok_cut (P:=l.prog) (w:=w) (base:=base) Zn.F TH TB;let G63:=DP Zl.F TH TB Y.M G54 b54;let G64:=DR (P:=l.prog) (w:=w) (base:=base) Zk.F TH TB;let G62:=DW Zm.F TH TB Y.M G54 b54 Zn.M G61 b61 Zo.M G60 b60 (G24,b24,ZW.k,ZW.m X G);let G59:=DZ Zq.F TH TB Zr.M G58 b58 Zo.M G60 b60 (G20,b20,Z0.k,Z0.m X G);let G56:=D0 Zt.F TH TB Zu.M G55 b55 Y.M G54 b54 Zq.M G59 b59;let G53:=Eb (P:=l.prog) (w:=w) (base:=base) Zv.F TH TB T;let GH:HG l.prog w K mg base j C CL f53 f56 f62 f63 f59 f64 _ _ _ _ _ _:=(MKH,G53,b53,gm aH,Zt.M,G56,b56,Zm.M,G62,b62,Zl.M,G63,b63,Zq.M,G59,b59,Zk.M,G64,b64);let Gs:=Ee (P:=l.prog) (w:=w) (base:=base) ys TH GH;let G25:=CO (P:=l.prog) (w:=w) (base:=base) z.F T;let BW:Jno l.prog w K 1 f25 _ (kH K):=(CQ G25,b25,z.k,(z.m X G));let G26:=CT ZV.F T OW;let G27:=CW ZU.F T (gn g) (gn b) OW BW;let G28:=CU (P:=l.prog) (w:=w) (base:=base) ZT.F T (gn b);let G29:=CY ZS.F T (gn b) OW BW (G27,b27,ZU.k,ZU.m X G) (G26,b26,ZV.k,ZV.m X G) (G28,b28,ZT.k,ZT.m X G);let G30:=Ds ZR.F T G48 b48 Zz.M;let G31:=Dv ZQ.F T (gn t) G48 b48 Zz.M BW;let G32:=CH (P:=l.prog) (w:=w) (base:=base) (mg:=mg) ZP.F;let G33:=CJ (P:=l.prog) (w:=w) (base:=base) ZO.F T;let G34:=CM ZN.F T (gn b) (gn y) (G33,b33,ZO.k,ZO.m X G);let G35:=Dc ZM.F T (gn g) (gn b) (G34,b34,ZN.k,ZN.m X G) (G32,b32,ZP.k,ZP.m X G);let G36:=Df ZL.F T (gn f) (G35,b35,ZM.k,ZM.m X G);let G37:=Dw (P:=l.prog) (w:=w) (base:=base) ZK.F T;let SR:Sr l.prog w K mg base C CL fs ds ts:=(Gs,bs,bs2,gm ys.a,ys.k);let G38:=Em ZJ.F T TA (G37,b37,ZK.k,ZK.m X G) (G36,b36,ZL.k,ZL.m X G) Gs bs (gm ys.a) ys.k;let G39:=Es ZI.F T OW G48 b48 Zz.M;let G40:=EA ZH.F T OW G48 b48 Zz.M (G25,b25,z.k,(z.m X G)) (G29,b29,ZS.k,ZS.m X G) (G31,b31,ZQ.k,ZQ.m X G) (G30,b30,ZR.k,ZR.m X G) (G39,b39,ZI.k,ZI.m X G) (G38,b38,ZJ.k,ZJ.m X G) SR;exact ok_law ZG.F (gm aL) YR (G25,b25,z.k,(z.m X G)) (EB z.F T) (G40,b40,ZH.k,ZH.m X G)
def walk {l:W.OpenLaw}{q:Program}{b:List Str}{t:(UT Str)->Heap->Prop}{i:World->Heap->Prop}{d:DefRec}{K:Params->W.Frag}(j:Jlb 63)(c:Jgy [])(p:∀(w:World) (h:Heap),i w h->(K w.params).In h)(F:∀(w:World) (mg:UT Str) (g:Addr) (h:Heap),(K w.params).In h->Jbx mg->mg d.name=Ja g->
   ∃e:FuncData,(∀(s:Shared) (u:Value),JdK e (WX [u]) [("_law_script",u,)])/\∀base:Heap,(K w.params).In base->VX mg->Gp l.prog (K w.params) 12 g e ["_law_script"] (mV (K w.params))):
  W.WalkO q b t i l.row.toRowW d [] (λf vs=>Jjn f) :=
 L2.walk_of (n:=63) (k:=12) (x:="_law_script") (CX:=λy=>CX0) (sp:=λw=>mV (K w.params)) j (by decide) c (rfl,by decide,by decide,rfl) p F (λy y a ns o y r=>(a,ns,rfl,r,o,λy=>rfl)) λy y y y y z=>z
end H52
init_quot
open PySem PySem.W PyProof.Rows
set_option maxRecDepth 100000 in
set_option maxHeartbeats 0 in
theorem PySem.Challenge.cw_yesorno_k52_whole_yes_holds : PySem.Challenge.rw_yesorno_k52_whole_yes.Holds := by
 w_on;o_law;k_head;(case hw=>w_witness2)
 k_fill
 refine H52.walk (l:=PySem.Challenge.rw_yesorno_k52_whole_yes) rfl rfl (λw h Y=>W.kIn_of Y) ?F
 case F =>
  intro w mg fa h KX G hmg;apply H52.all_mk KX G hmg
  iterate 4 ·k_is
  iterate 41 ·exact L2.ft_in (by k_is) (by k_is) (by k_is) (by k_is)
  iterate 23 ·exact L2.fm_in (by k_is) (by k_is) (by k_is) (by k_is) (by k_is)
  iterate 26 ·k_is
  ·kit_is
  iterate 35 ·k_is
  ·k_exc
  ·kts_exm
  ·exact H52.fd_in (by k_is) (by k_is) (by k_is) (by k_is) (by k_is)
