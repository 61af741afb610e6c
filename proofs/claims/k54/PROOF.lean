import PyProof.Rows.All
import Wide.All
import OpenK.AllK
import Wide.FinOn
import Lean
import PyProof.EqAt
import PyProof.EqKinds
import PyProof.TupleCall
import PySem.Challenge.RW_yesorno_k54_plain_search
set_option bootstrap.genMatcherCode false
set_option Elab.async false
set_option linter.all false
set_option compiler.extract_closed false
set_option genSizeOf false
set_option maxRecDepth 100000
set_option maxHeartbeats 8000000
namespace J
open Lean
def n(k:Name)(a:Array Syntax):Syntax:=.node .none k a
def t(s:String):Syntax:=.atom .none s
def q(s:String)(a:Array Syntax):Syntax:=n (.str `Lean.Parser.Term s) a
def c(a:Array Syntax):Syntax:=n `null (a.foldl (λb x=>if b.isEmpty then #[x] else (b.push (t ",")).push x) #[])
def a(x:Array Syntax):Syntax:=if x.size<2 then x.getD 0 .missing else q "app" #[x[0]!,n `null (x.extract 1 x.size)]
def l(x y:Array Syntax)(s:String):Syntax:=
 let r:=(s.drop 1).toString
 let h:=q "hole" #[t "_"]
 let f:=s.front
 if f=='$' then x[r.toNat!]! else if f=='%' then y[r.toNat!]! else if s=="_" then h else if s=="?_" then q "syntheticHole" #[t "?",h] else if f=='.' then q "dotIdent" #[t ".",mkIdent r.toName] else if f.isDigit then n `num #[t s] else if f=='"' then n `str #[t s] else mkIdent s.toName
def g(s:String)(e:Array Syntax):Syntax:=if s=="⟨" then q "anonymousCtor" #[t s,c e,t "⟩"] else if s=="[" then n `«term[_]» #[t s,c e,t "]"] else if s=="(" then e[0]! else q "namedArgument" #[t "(",mkIdent (s.dropEnd 2).toString.toName,t ":=",e[0]!,t ")"]
def k(x y:Array Syntax):Nat→List String→Array Syntax→Array Syntax→Option (String×Syntax)→Array Syntax×List String
|0,r,_,e,_=>(e,r)
|m+1,r,b,e,p=>
 let z:=e.push (match p with|none=>a b|some (o,w)=>n (.mkSimple ("term_"++o++"_")) #[w,t o,a b])
 match r with
 |[]=>(z,[])
 |v::r=>if [")","⟩","]"].contains v then (z,r) else if v=="," then k x y m r #[] z none else if ["(","⟨","["].contains v then
   let (s2,r):=match v,r with|"(",q::r'=>if q.endsWith ":=" then (q,r') else (v,r)|_,_=>(v,r)
   let (u,r):=k x y m r #[] #[] none
   k x y m r (b.push (g s2 u)) e p
  else if ["=","≠","≤","<","∈","∉"].contains v then k x y m r #[] e (some (v,a b)) else k x y m r (b.push (l x y v)) e p
def w(s:String):List String:=((s.foldl (λ(b:List String×String) d=>if "()⟨⟩[], ".contains d then (if d==' ' then (if b.2=="" then b.1 else b.2::b.1,"") else (d.toString::(if b.2=="" then b.1 else b.2::b.1),"")) else (b.1,b.2.push d)) ([],"")) |>(λb=>if b.2=="" then b.1 else b.2::b.1)).reverse
def T:="
Ja some (.ref $0)
Xa $0 = some $1
Qa upd $0 $1 (.lst $2)
Va aa (pv $0) $1
Jb some (.int $0)
Xb List.mem_append_right _ $0
Qb Xa $0 (.lst $1)
Vb wpAny (model $0 $1) $2 $3 $4 $5 $6
Xc Inv $0 pins $1 $2 $3
Qc List.mem_append_left _ $0
Vc cB PySem.F.plainAttrs_list $0 $1 $2 $3 $4
Xd List.mem_cons_of_mem _ $0
Qd starEach $0 X.env
Vd ad $0 (ad $1 $2)
Je aD $0 $1 $2 $3 base $4 $5 $6 $7 $8 $9
Xe upd $0 $1 (.dK $2)
Jf eval $0 X.env
Xf aa $0 ac
Vf ar $0 (pv $1) $2
Jg Xa (H $0) $1
Xg Q (.ref $0) $1
Qg .inl (SqL.of $0)
Vg ⟨$0,rfl,$1⟩
Jh wpAny_bind (wpAny_seqItems $0 $1 $2)
Xh $0 < s.heap.objs.size
Vh upd $0 $1 (.tup $2)
Qi absurd $0 Bool.false_ne_true
Vi Va $0 ac
Jj Xa (X.env.cells.lookup $0) $1
Xj ao $0 H'
Qj ak (aI $0)
Xk List.mem_map.mpr ⟨$0,$1,$2⟩
Qk ⟨$0,$1,?_⟩
Vk ⟨%1,$0⟩
Jl Hu $0 $1 $2 $3 $4 $5 $6 most $7 $8 $9
Xl wpAny_pure (wpAny_pure $0)
Vl aB (pv $0) rfl
Xm az $0 $1 rfl (Or.inl rfl) $2
Qm Xc $0 σ $1 $2
Vm aU $0 (Sum.inl $1)
Xn aF $0 $1 (ap $2)
Qn $0 = none
Vn Qn (H $0)
Jo .inl ⟨$0,$1⟩
Xo .ins C $0 $1
Qo model prog $0
Vo Qn (mg $0)
Xp List.mem_filter.mpr ⟨$0,$1⟩
Vp $0 = Value.ref $1
Jq Nat.le_trans $0 %1
Xq Nat.lt_of_lt_of_le (hLq $0) $1
Qq model X.prog $0
Vq InR T.length $0
Jr ⟨$0,$1,$2,rfl,$3⟩
Xr ⟨$0,rfl⟩
Js dZ $0 $1 $2 $3 %0 %0 $4 $5 %0 $6 $7 $8 $9 $10
Xs aw $0 (pv $1) $2
Jt ff $0 $1 $2 $3 (PyProof.Rows.callWith_type1 $4 $5 $6)
Xt SqL K $0 $1 $2
Vt [.ref $0]
Ju $0 ≤ sizeLine
Qu $0 = true
Vu wpAny_bind (wpAny_holding $0)
Jv absurd $0 %4
Xv aa $0 (Xf $1)
Qv .cons $0 .nil
Vv SqT K $0 $1 $2
Jw aE $0 rfl $1 $2 $3
Xw upd H $0 $1
Vw Xa (H' $0) $1
Jx .inr ⟨$0,$1⟩
Xx Around.under_plainId $0 _
Vx Qb (H' $0) $1
Jy aj K $0 $1 $2
Xy $0 = .ref $1
Qy wpAny_bind (wpAny_pure $0)
Vy Qm X $0 $1
Jz Xa (X.env.kindOf $0) $1
Xz bY $0 $1 %4
Qz Vf $0 $1 ae
Vz aW $0 $1 rfl $2 $3 $4 .nil $5 $6
JA OpR $0 (compareOp $1) $2
XA ⟨$0,$1,rfl,$2⟩
QA Qz aA $0
VA .Call (.Name $0 $1) $2 $3 $4
JB List (List $0)
XB cnt (ts.take $0)
QB nwH $0 (.lst $1)
VB absurd $0 (Nat.not_lt_zero $1)
JC ⟨$0,$1,rfl,$2,$3⟩
QC aj.keep $0 (cR $1) $2
XD codeAny_builtin $0 ?_
JE Je P w K mg CX0 $0 $1 $2 $3 $4
XE ⟨$0,?_⟩
QE Vy H $0
XF backTo $0 (Qd $1)
QF lvF ts $0
QG PE X $0 $1
VG I.hok.fresh (nRq $0)
JH Xo dx $0
QH Xa (sc.names.lookup $0) $1
VH Qb (H $0) $1
XI lrn $0 ts $1 $2
QI ⟨$0,SqL.of $1⟩
VI Q (.int $0) $1
JJ [\"_law_problem\",$0]
XJ Calls.callWith_builtin $0 (Calls.evalArgs_plain $1)
QJ wpAny_bind (wpAny_bind $0)
VJ wpAny_bind (wpAny_rule $0)
JK Inv X $0 $1 $2 $3
QK relabel scope $0
JL [\"self\",$0]
QL aq $0 _
XM U.u.pp.keep $0 U.u.pn
VM Jr (.ref $0) $1 $2 $3
QN envOfC $0 $1 s.heap.objs.size $2 $3
VN [.int $0,$1]
JO VN $0 (.int $1)
XO ⟨$0,rfl,$1,$2,$3,$4⟩
QO Vd (Xm $0 $1 $2) $3 $4
VO wpAny_bind (wpAny_letGo $0)
JP sIx items.size $0 $1
XP wpAny_bind (wpAny_specialOf $0 $1 $2)
QP hr.mono $0 %1
VP Qk _ $0
JQ Jy H $0 $1
XQ upd $0 $1 (JH $2)
QQ Has.tup' $0 (.cons $1 $2)
VQ aQ %2 $0
JR .builtin $0 ⟨$1,$2⟩
XR Q (.bl $0) $1
QR IsPair s.heap $0 $1 $2
VR Jg $0 (.dK $1)
JS PySem.W.findIn $0 (.ref $1) $2
XS ak (aY $0)
VS bj $0 $1 rfl (Or.inl rfl)
JT wpAny_bind (wpAny_standAt $0)
XT aj.keep $0 (cm $1) $2
QT Xw $0 (.own $1)
VT List.nodup_append.mpr ⟨$0,$1,$2⟩
JU plainId_quiet $0 _
XU X.s₀.heap.objs.size ≤ $0
QU aV $0 (.inl $1) $2
VU au $0 $1 $2 %7
JV bsF $0 (S.ts.take $1)
XV iA %0 $0
QV absurd $0 (Nat.lt_irrefl $1)
VV wpAny _ $0 $1 $2 $3 $4
JW U.u.kn.keep $0 (dy $1)
XW wpAny_bind (wpAny_typeOf $0 $1)
QW [\"self\",$0,$1]
VW QW $0 \"other\"
JX Xt H $0 $1
XX hG _ $0
QX wpAny_pure ⟨$0,$1⟩
VX Nat.le_of_lt (cY $0)
JY smF As $0
XY PrD $0 $1 $2 $3 $4 $5 $6 $7 As $8
QY eQ $0 $1 $2 PyProof.Rows.Boot.tuple $3
VY [\"problem\",$0]
JZ bJ PassesOwn.never rfl $0 $1 $2
XZ Heap.SameBut $0 s.heap $1
QZ JZ $0 (VS $1 $2) $3
J0 hsF As $0
X0 ⟨%5,$0⟩
V0 Xf (Vl $0)
J1 Vw $0 (.tup $1)
X1 .Name x $0
Q1 ⟨$0,rfl,$1,$2⟩
V1 cQ (top $0) $1
J2 VM s.heap.objs.size $0 $1 $2
Q2 wpAny_bind (wpAny_tryCatch $0)
V2 Vg _ $0
J3 XI Rs $0 $1
X3 bc $0 (tkv $1)
Q3 U.u.tr.keep $0 (cm $1)
V3 HT.sIx xs.length $0 $1
X4 Fun K $0 $1 $2 f fd
Q4 $0 = Value.bool $1
Q5 hF $0 $1 $2 $3 %0 %0 $4 $5 %0 $6 $7 $8 $9 $10 $11
J6 Jl K C $0 $1 $2 $3 pr $4 $5 $6
Q6 Jw $0 T.len bLq $1
V6 PySem.W.instObj $0 s.heap.objs.size
J7 TOk Rs $0
X7 [$0,$1,.int $2]
Q7 X7 $0 (.int $1) $2
V7 gsF As $0
J8 Xa (K.lookup $0) $1
X8 Nat.ne_of_lt (Xq $0 $1)
Q8 xs.length = $0
V8 cnt (S.ts.take $0)
J9 Has $0 H $1 $2
X9 Vv H $0 $1
Q9 $0 = false
J_ JQ (ts.map $0) $1
X_ Qa $0 $1 %7
Q_ Xs $0 $1 ae
V_ Nat.ne_of_lt (hLq $0)
Jab typeLookup (.type $0) $1
Jac aj.append $0 (aj.one $1)
Jad congrArg List.length $0
Jae wpAny_bind (wpAny_isInstance $0 $1 $2)
Jaf List.length_filter_le _ $0
Jag aX $0 (A.deeper $1)
Jai wpAny_bind (wpAny_updateSeq $0 $1 $2)
Jaj Has.lst' (SqL.of $0) $1
Jak $0 ≠ X.env.locals
Jal s.TypeIs (.ref $0) $1
Jam aV $0 (Sum.inl $1) $2
Jan aU $0 (.inl $1)
Jao k $0 %4 $1 $2
Jap absurd $0 %1
Jar $0 < ts.length
Jat hdL (L.take $0) $1
Jau bO (hdL $0) $1
Jax wpAny_pyIter_list $0 ?_
Jay dr $0 (.builtin $1) $2
Jaz h $0 List.mem_cons_self
JaA QU $0 $1 (.ref $2)
JaC W54.atP $0 M
JaD OpR $0 (binaryOp $1) $2
JaG jm $0 $1 $2 %0 %0 %0
JaH $0 < sizeLine
JaI ai (Ne.symm $0)
JaJ s.heap.objs.size ≠ $0
JaK Jg $0 (.tup $1)
JaL Xa (JY $0) $1
JaM gA As.length $0
JaO wpAny_bind (wpAny_newObj_type $0 $1)
JaP List.take_append_drop i $0
JaQ Xg s.heap.objs.size $0
JaR dw $0 (Sum.inl $1)
JaS ax $0 (pv $1) $2
JaT cv $0 (ps.take $1)
JaU Qn (X.mg $0)
JaV .ok (.ret $0)
JaW Vb X.prog X.w $0 $1 $2 $3 $4
JaX JaW X.A $0 $1 $2 $3
JaY JaX $0 $1 X.xe $2
JaZ [\"_law_script\",$0]
Ja0 cz $0 $1 $2 $3 (XE $4)
Ja1 ⟨$0,$1,I.tok $2,$3,$4⟩
Ja2 PW.pt (fg $0 $1)
Ja3 nwH $0 (.tup $1)
Ja4 ⟨$0,$1,rfl⟩
Ja6 JX $0 xs
Ja7 Loc X.env.scope $0
Ja8 ns.getD $0 0
Ja9 jv PassesOwn.never $0 $1
Ja_ aQ $0 %2
Jbb XA $0 $1 rfl
Jbc QW \"part\" $0
Jbd ai (bX $0 $1)
Jbe ⟨rfl,$0⟩
Jbh $0 = Value.none
Jbi PySem.W.keepIn $0 (.ref $1)
Jbj call (.builtin $0) $1
Jbk wpAny_newObj_type (wpAny_newFunctionEnv $0 $1 $2 $3)
Jbm Qj (pv $0)
Jbn Xr (QL $0)
Jbp ps.length ≤ $0
Jbq Xg $0 H'
Jbr Jr (.bl $0) $1 $2 $3
Jbs bp (pv $0) T.cl $1 $2 $3 $4 .nil ay $5
Jbt Q7 (.int $0) $1 $2
Jbu tO (nRq $0)
Jbv pairsF ts $0
Jbw Jw $0 $1 PyProof.Rows.Boot.sorted $2
Jbz JC $0 rfl (.inl rfl) (.inl rfl)
JbA XO $0 $1 rfl $2 $3
JbB mk1 (J0 $0)
JbC Jbe (I.turned $0 $1 $2 $3 $4 $5 $6)
JbD XS (Jbs $0 $1 $2 $3 $4 $5)
JbE assignEach $0 X.env
JbF .inr (.inr $0)
JbG ZipApart $0 $1 TO $2 $3 $4 $5
JbH List.take_append_of_le_length (nRq $0)
JbJ aT S.rs S.ts $0
JbK Qn (H' $0)
JbM aM $0 us
JbO [.ref $0,$1]
JbP JbO $0 (.ref $1)
JbQ JbO $0 (.int $1)
JbR I.laid $0 $1 (nRq $2) $3
JbS ar $0 $1 (pv $2) $3
JbT absurd rfl $0
JbU [\"_law_problem\",$0,$1]
JbV hitD X.K $0 $1
JbW List.nodup_cons.mpr ⟨$0,$1⟩
JbZ .BoolOp $0 $1 pos
Jb0 Builtin.Tuple.tupleItemsOf (.ref $0)
Jb1 TuI s.heap $0 $1 $2 $3
Jb2 wpAny_pure (V2 $0)
Jb4 Txt K mg aK $0
Jb6 X7 (.ref $0) (.ref $1) $2
Jb7 Q .non $0
Jb8 aV kvs $0 $1
Jb9 PIn As.length $0
Jb_ absurd %6 $0
Jca U.at' $0 rfl rfl
Jcb ⟨$0,rfl,$1,$2,$3,$4,$5,$6,$7,$8,$9⟩
Jcc aT $0 ts $1
Jcd Jcc Rs $0
Jce wgt n $0 $1
Jcg Ja1 (.int $0) $1 $2 $3 $4
Jch s.heap.objs.size ≤ $0
Jci aO Rs $0
Jcj ts.length ≤ $0
Jck cc cg $0
Jcl Xa (S.wt $0) $1
Jcm ao $0 (Vh $1 $2 $3)
Jcn Va $0 (Vi $1)
Jco ad (Xm $0 $1 $2) $3
Jcq bM X N' scope $0 $1 $2 $3
Jcr Jg $0 (JH $1)
Jcs Q6 bf $0
Jct Jcs (V0 $0)
Jcu Jcs (Vi $0)
Jcv .int $0 t
Jcx iT $0 $1 $2 %1 $3
Jcy eQ $0 $1 $2 PyProof.Rows.Boot.list $3
Jcz Jw $0 $1 PyProof.Rows.Boot.abs $2
JcA JE $0 $1 $2 (JL $3) $4
JcB cI $0 pr most $1
JcC Value.int $0 t
JcD $0 = Sum.inl $1
JcE wpAny_passesOwn K $0
JcF IsZip $0 $1 $2 TO $3
JcG u.TypeIs $0 \"list_reverseiterator\"
JcH ⟨$0,rfl,$1,$2,$3,$4,$5,$6,$7,$8,$9,$10,$11⟩
JcI aa $0 (Xv $1 $2)
JcJ .inl ⟨rfl,_,SqL.of $0⟩
JcK .inr ⟨$0,$1,$2,$3⟩
JcL wpAny_call_entry $0 $1 $2 ?_ $3
JcM if_pos (dTq $0)
JcN Fr2.of_same (ao.refl $0)
JcO J9 $0 $1 (.ref $2)
JcP bE X.prog X.w $0 $1 $2 $3
JcQ Inv (Jcq $0 $1 $2 $3) $4 $5 $6 $7
JcR tupleKind (bV $0 $1)
JcS Nat.le_trans I.ok.bsz $0
JcT congrArg Array.toList $0
JcU swapsWith $0 $1 $2 X.env
JcV fvs $0 ix
JcW dh a.negs $0
JcX IsPair $0 s.heap.objs.size $1 $2
JcY hx $0 (SqL.of $1)
JcZ bsz $0 %5
Jc0 cZ $0 $1 rfl %0 %0
Jc1 Xa (scope.names.lookup $0) .local
Jc2 VH $0 xs
Jc3 Vz $0 $1 $2 $3 $4 ay (Va $5 $6)
Jc4 JcH $0 $1 $2 $3 $4 $5 $6 rfl $7 $8 $9 $10
Jc5 ⟨$0,$1,$2,$3,%5,$4,$5⟩
Jc6 wpAny_bind (wpAny_tupleItemsOf $0 $1 $2)
Jc7 eY $0 (hdL $1)
Jc8 aw $0 $1 ae
Jc9 Qu (bz $0)
Jc_ JbA $0 $1 ⟨$2,$3⟩ $4
Jda Jc3 $0 $1 $2 $3 $4 $5 (Vi $6)
Jdb aO S.rs $0
Jdc Xa (env.cells.lookup $0) $1
Jdd backToKw $0 (keywordEach $1 X.env)
Jde VN $0 (.ref $1)
Jdf JQ $0 xs
Jdg Jdf (Rs.map $0)
Jdh .frz $0 (.dK kvs)
Jdi IsTup s.heap $0 $1
Jdj pyNext (.ref $0)
Jdk s.heap.IsSliceOf $0 $1 $2 .none
Jdl Xa (atI $0 $1) $2
Jdm wpAny_bind (wpAny_field $0 $1 rfl $2)
Jdn Qu (PySem.W.plainGet $0 $1 $2)
Jdo JE $0 f fd $1 $2
Jdp VR $0 kvs
Jdq Jck (pv $0)
Jdr ⟨$0,$1,$2,rfl,$3,$4,$5,$6⟩
Jds lvF d.ts $0
Jdt InR rs.length $0
Jdu some (.builtin $0)
Jdv I.hok $0 _ $1
Jdw c.toArray.any (eqU $0)
Jdx .inl (lookup_relabel_local $0)
Jdy .inr (lookup_relabel_local $0)
Jdz Qu (X.fn $0)
JdB Jc4 $0 $1 $2 $3 $4 $5 $6 rfl $7 $8 $9
JdC Vis X.env.scope $0
JdD h_ $0 (i:= $1) (j:= $2) %5
JdE Vm kvs $0
JdF Xo A.dx $0
JdG XF cpos $0
JdH Ja2 $0 (fx $1)
JdJ XQ (QT dx $0) $1 %7
JdK JX $0 (ps.map V.int)
JdL X9 $0 (ps.map V.int)
JdM Jc3 $0 $1 $2 $3 $4 $5 (Xf $6)
JdN wpAny_bind (wpAny_attempt $0)
JdO $0 < xs.length
JdP bu $0 (V7 $1) $2
JdQ a.toArray.any (JbV $0 $1)
JdR JdF (JcB $0 $1)
JdS PySem.F.args_tuple_add_2 _ $0
JdT kvs.length ≤ $0
JdU $0 ≠ s.heap.objs.size
JdV aq $0 (.lst $1)
JdW absurd $0 %0
JdX SqL.of (g $0 $1 $2)
JdY aL $0 (Qa $1 $2 $3)
JdZ Va $0 (Xf $1)
Jd0 Jo $0 (.inl $1)
Jd1 QJ (wpAny_onRaise $0)
Jd2 Xe $0 $1 (JaA $2 $3 $4)
Jd4 eval $0 env
Jd5 absurd z $0
Jd6 Builtin.Slice.slicePlaces $0 $1 1
Jd7 cC (pv $0)
Jd8 aJ $0 rfl
Jd9 Call_ (Jt $0 $1 $2 $3 $4 $5 $6)
Jea Jdo 1 $0 $1
Jeb aS $0 u
Jec atKey $0 k
Jed Xy x $0
Jee Q9 (behindInMarks $0 $1)
Jef Jcb $0 $1 $2 $3 $4 $5 rfl $6 $7 $8
Jeg Jce 0 $0
Jeh .call (.ref $0) $1
Jei d.hok.fresh (nRq $0)
Jej $0 = ps.length
Jek $0 = .function
Jel $0 < S.ts.length
Jem field (.ref $0) $1
Jen eZ $0 (hdL $1)
Jeo ax $0 $1 ae
Jep As.length ≤ $0
Jeq Vd $0 $1 (Qj $2)
Jer Q7 (.ref $0) $1 $2
Jet Q7 (.str \"same\") $0 $1
Jeu Un $0 $1 $2 $3 s.heap $4
Jev .Attribute $0 f $1
Jew ⟨$0,%7⟩
Jex IntsAre $0 ns
Jey ⟨$0,iter,$1,$2⟩
Jez codeAny_compStart_list $0 (T.self $1 $2 $3 $4 $5 $6 $7)
JeA aU kvs $0
JeB hdL ls $0
JeC S.put $0 ps $1
JeD decide_eq_decide.mpr ⟨$0,$1⟩
JeE W.nsIn $0 mainGlobals $1
JeF Fr2 $0 H' $1 $2
JeG EqR $0 As
JeH .int 2000 $0
JeI A.under (JR $0 $1 $2)
JeK Ja4 _ $0
JeL Jc0 $0 ok
JeM Jc8 bx $0
JeN wpAny_call_entry F.slot_zip_next $0 F.entry_zip_next $1 (F.args_zip_next_1 $2)
JeO I.base.free b $0 $1 $2 $3
JeP .Subscript $0 $1 pos
JeQ wpAny_bind (wpAny_of_eq $0 $1)
JeR ⟨lS0,$0⟩
JeT Qu (nol $0)
JeU QO $0 $1 $2 (Xm $3 $4 $5) $6
JeV Jae $0 isSubtype_tuple_tuple $1
JeW Jbs $0 $1 $2 $3 $4 (Vi $5)
JeX Jdr $0 $1 $2 rfl $3 $4 $5
JeY .cons r $0
JeZ congrArg some $0
Je0 .Pass ⟨$0,$1,$2,$3⟩
Je1 $0 = S.ts.length
Je2 S.cut $0 la
Je3 atS kvs $0
Je4 List.any_eq_true.mpr ⟨$0,$1,$2⟩
Je5 $0 < L.length
Je6 .cons $0 (Qv $1)
Je7 GO $0 $1 $2 $3 $4 ts.length $5 (hdL $6) $7
Je9 Clo $0 scope $1
Je_ .inr ⟨$0,$1,$2,$3,$4⟩
Jfa h'.IsTupleIter $0 l1 $1
Jfb h'.IsTupleIter $0 l2 $1
Jfd [V.int $0,V.int $1]
Jfe atI (Jfd $0 $1) $2
Jff Jw bf TB.len bLq $0
Jfg Jeo ck $0
Jfh ns.length ≤ $0
Jfi $0 < 1000
Jfk ag $0 $1 $2 $3 $4 base $5 $6 $7 $8 $9 $10 outer $11 $12 $13
Jfl ys.length = $0
Jfn bq ld gd $0 $1
Jfo Jfn H $0
Jfp p.natAbs ≤ $0
Jfq hdL (ls.take $0) $1
Jfr ⟨$0,rfl,$1,$2,$3,$4,$5,$6,$7,$8,$9,$10⟩
Jfs Jfr $0 $1 $2 $3 $4 rfl $5 $6 $7 $8 $9
Jfu eX $0 (hdL $1)
Jfv rf rs $0
Jfw $0 ≤ PySem.sizeLine
Jfx aa $0 (Vi $1)
Jfy Qk $0 (List.mem_range.mpr $1)
Jfz Jo (SqL.of $0) $1
JfB X9 $0 xs
JfC Jaj $0 (aj.ints $1)
JfD cX (pv 0) $0 rfl
JfE loF (d $0) (d $1)
JfF dr $0 (.type $1) $2
JfG wpAny_Call_method_late $0 $1 $2 rfl $3
JfH ItemsOf $0 acc $1
JfI cnt (d.ts.take $0)
JfJ cw $0 (.ref $1) $2
JfM pB PySem.F.plainAttrs_list PySem.F.slot_list_pop PySem.F.type_list_pop $0 $1
JfN c (dTq $0)
JfO acc.toList.length = $0
JfP Vc PySem.F.slot_list_append PySem.F.type_list_append cL $0 $1
JfQ XS (JfP $0 $1)
JfR aY (JfP $0 $1)
JfS JfQ (pv $0) $1
JfT Vf a_ $0 $1
JfU JfT $0 (QA $1)
JfV Qn (H0 $0)
JfW Qu (PySem.W.hasDictIn $0 $1)
JfX VO (wpAny_pure $0)
JfY items.toList.drop (JP $0 $1)
JfZ JT (wpAny_bind $0)
Jf0 XX (XX $0)
Jf1 J6 $0 $1 $2 $3 $4 S.hs $5
Jf2 Ja0 (sz $0 $1) $2 $3 $4 $5
Jf3 HOk X.prog X.w $0 $1
Jf4 assign $0 X.env
Jf5 wpAny_pyIter_tuple $0 ?_
Jf6 seqIndex_neg %5 $0
Jf7 SeqAt.EqAt $0 s $1 $2 $3
Jf8 bV X.prog $0
Jf9 bo $0 c $1
Jf_ Jf9 $0 r
Jga [V.int $0]
Jgc .ListComp elt $0 scope pos
Jgd .compLoop (Jgc $0) $1 $2 $3 $4
Jge XO $0 $1 $2 rfl $3
Jgf Jge $0 rfl $1 $2
Jgg QW \"problem\" $0
Jgh QZ $0 $1 $2 (ak $3)
Jgi X3 %7 $0
Jgj Jan kvs $0
Jgk Jbb $0 rfl
Jgl Jdm hz rfl $0
Jgm Jew (Vt $0)
Jgn Jff (V0 $0)
Jgo ⟨_,$0⟩
Jgp Jgo (gG $0)
Jgq J.stop i $0
Jgr [.int $0]
Jgs PySem.W.fnOf $0 $1 $2 $3 $4 $5 $6 $7 $8 $9 cdv $10
Jgt aw $0 $1 (pv $2)
Jgu cb.put _ $0
Jgw Jy H' $0 $1
Jgx .tup (JO $0 $1)
Jgy QQ (SqT.of $0) $1 $2
Jgz XY $0 $1 $2 $3 $4 $5 $6 $7 Rs
JgE Q1 $0 %0 %0
JgF J3 f $0
JgG J6 $0 $1 $2 A $3 hs $4
JgH JgG $0 $1 $2 $3 R
JgI JgH $0 $1 $2 S
JgJ JgI $0 O $1
JgK JgJ $0 H
JgL Qu (W.keepIn $0 (.ref $1))
JgM Xe $0 $1 (Jgi $2)
JgN Jgz K $0 $1 $2 tl al rl $3
JgO wpAny_truthy_bool ⟨$0,$1,$2⟩
JgP SqL X.K $0 $1 $2
JgQ J.yld i $0 $1 $2
JgR br $0 C $1 $2
JgS JgR K $0 $1
JgT I2.lnew $0 (Nat.zero_le $1)
JgU $0 < h.objs.size
JgV IsPair h $0 $1 $2
JgW cV $0 $1 (cnt $2) $3 $4
JgX [.str $0,$1]
JgY JgX $0 (.ref $1)
JgZ $0 = s.heap.objs.size
Jg0 Xa $0 (Ja $1)
Jg1 Jg $0 (.own $1)
Jg2 ad $0 (Qj $1)
Jg3 Xv (QA $0) $1
Jg4 Q_ cF $0
Jg5 JeM (Jg4 $0)
Jg6 JgN $0 $1 p $2
Jg7 KV kvs $0
Jg8 xs.map (entryOfKey $0)
Jg9 I.freeC x $0 $1
Jg_ some (.str $0)
Jha xs.length ≤ $0
Jhb wpAny_Call_Name_kw (mw $0 $1 $2 $3 $4)
Jhc $0 = Option.none
Jhd Wk $0 xs.length $1
Jhe ⟨$0,$1,%5⟩
Jhf $0 ≤ ts.length
Jhg eg $0 $1 s.heap $2 $3
Jhh iI s.heap $0 $1
Jhi fh rfl $0 $1
Jhj nbr $0 L.length $1
Jhk Fr1 $0 H' $1
Jhl zs.length = $0
Jhm Vg rfl $0
Jhn Jh $0 rfl $1
Jho Xk $0 $1 rfl
Jhp Xp $0 (dTq $1)
Jhq Xf (QA $0)
Jhr JcB $0 lk
Jhs Jc5 $0 $1 $2 $3 %5 $4
Jht Jg6 C $0 $1
Jhu Jhi $0 (Vi $1)
Jhv Jhn $0 ?_
Jhw Value.str x $0
Jhx base.Ns mainGlobals $0
Jhy model $0 w
Jhz $0 = .int $1
JhA f.fpOk $0 (f.hok.fresh $1)
JhB PySem.W.lookIn name $0
JhC W.fnOf $0 $1 (fk $2) $3 $4 $5 $6 $7 $8 $9 $10 $11
JhD f.fresh $0 fa $1
JhE gF (VS $0 $1) $2
JhG Jht $0 T
JhH aj.keep $0 (jM $1) $2
JhI ngF (ps.take $0)
JhJ d_ $0 $1 $2 (Jbn $3) $4 $5
JhK Jeu (frs $0) $1 $2 $3 $4
JhL JhK X.stack $0 $1 $2 $3
JhM bindArgs $0 (Jew $1)
JhN PySem.W.instObj $0 dx
JhP HOk P w $0 $1
JhQ h.IsListIter $0 $1 i
JhR PySem.W.isFn $0 (.ref $1)
JhS ⟨$0,$1,.func $2,$3⟩
JhT ixN xs.length $0
JhU ao H $0
JhV .Name y0 $0
JhW hU I.hok $0
JhX argBest $0 k
JhY $0 < 199900
JhZ U.set $0 rfl $1 $2 $3 $4
Jh0 ad $0 (ak $1)
Jh2 cT $0 $1 $2 $3 ?_ ?_
Jh3 G.seqG $0 hS
Jh4 Txt $0 mg
Jh5 hdL L $0
Jh6 u.mono $0 %1
Jh7 $0 < 1073741824
Jh8 Jo rfl $0
Jh9 Jz $0 .cell
Jh_ Jz $0 .free
Jia QX (JU $0) $1
Jib Jia PySem.F.plain_max_loop $0
Jie FB P w K mg base CX0 $0 $1 $2 $3 $4 $5
Jif Jie 1 $0 $1 $2 $3 $4
Jig Jif \"_law_cell_at\" $0 $1 $2 $3
Jih X8 $0 I.ok.above
Jii attributeBase $0 $1 X.env (Jf $2)
Jij JaK $0 (k.map $1)
Jik R (JaV $0) $1
Jil R (.error $0) s'
Jin JbS $0 aA $1 ae
Jio Jb8 k $0
Jip JcF $0 $1 $2 .none
Jiq JdR $0 S.lk
Jir JX $0 (ns.map V.int)
Jis JhP H $0
Jit bu ts $0 $1
Jiu Jit gs $0
Jiv eM (hV $0 $1 $2)
Jix Xb (Xb (iv $0 $1))
Jiy Qu (peq $0 $1)
Jiz Qu (PySem.W.codeIn $0 $1 $2)
JiA VU K $0 $1
JiB VU K $0 (JL $1)
JiC Jcg $0 $1 $2 (Xr $3) $4
JiD Jfg (Q_ $0 $1)
JiE JfJ \"least\" $0 $1
JiF JgX \"plain\" (.str $0)
JiG I.pin p $0
JiH congrArg Prod.fst $0
JiI congrArg Prod.snd $0
JiJ Has.tup' $0 (aj.ints $1)
JiL xs.getD (ps.idxOf $0) $1
JiM ys.getD (ps.idxOf $0) $1
JiN gp $0 $1 $2 most $3 $4
JiO bD $0 $1 $2 $3 $4 $5 $6 $7 $8 Rs
JiQ rs.length = $0
JiR kV (Sum.inl $0)
JiS TxH K $0
JiT PyProof.Rows.envOfC $0 (ap $1) s.heap.objs.size $2 $3
JiU Jag $0 (JiT $1 $2 $3 $4)
JiV Vp $0 b
JiW Xw $0 o
JiX Vw $0 (.dK $1)
JiY Nat.le_trans (Jaf $0) $1
JiZ JaR kvs $0
Ji0 Jbb _ $0
Ji1 SqL.of (Jca $0)
Ji2 PW.pt (iS $0 (iR $1))
Ji3 JfT $0 (pv $1)
Ji4 JgS \"hold\" $0
Ji5 Jg3 $0 (QA $1)
Ji6 JiA $0 (VW $1)
Ji7 Ji6 $0 \"one\"
Ji8 loF (hd $0) (hd $1)
Ji9 I.cell $0 c $1
Ji_ I.base.there b $0 $1 $2
Jja .Constant $0 $1 pos
Jjb congrArg not $0
Jjc compEnvC $0 $1 $2 X.env
Jjd aj X.K $0 $1 $2
Jje bc kvs $0
Jjg GO $0 $1 $2 ld gd $3 $4 $5 $6
Jjh Jjg $0 $1 $2 $3 $4 $5 av
Jji Jjh $0 $1 $2 $3 $4 hd
Jjj S.setW r $0 $1
Jjk cM (hx $0 $1)
Jjl [$0,$1,V.int $2]
Jjo atI (Jjl (V.int $0) (V.int $1) $2) $3
Jjp Dom $0 As
Jjq Qa $0 $1 N.dropLast
Jjr Qu (W.codeIn $0 $1 $2)
Jjs VA $0 $1 $2 %7 $3
Jjt Xn $0 (JL $1) $2
Jju Jau $0 As
Jjv Jb2 (wpAny_pure $0)
Jjw .tup (Jet $0 $1)
Jjx ar a_ (ba $0) $1
Jjy Jjx $0 (Jg5 $1)
Jjz Jjs \"reversed\" $0 $1 $2
JjA ⟨o,$0,$1⟩
JjB JjA e $0
JjC SqT X.K $0 $1 $2
JjD s.heap.IsTuple a $0
JjE ⟨$0,%4,$1,$2⟩
JjF $0 = V.int $1
JjG JjF (V.int $0) $1
JjH $0 = pure $1
JjI z.length ≤ $0
JjJ ⟨$0,$1,$2,$3,$4,rfl,$5,$6,$7⟩
JjK ⟨$0,pl.isList.push $1⟩
JjL ⟨$0,$1,rfl,$2,$3,$4⟩
JjM jO $0 $1 $2 $3 (rawInt $4) $5
JjN As.length < $0
JjO T.length ≤ $0
JjP r.length ≤ $0
JjQ $0 < f.heap.objs.size
JjR $0 < c.heap.objs.size
JjS S.ts.length ≤ $0
JjT $0 < d.heap.objs.size
JjU Xa (bootBuiltins $0) $1
JjV ao $0 (Qa $1 $2 $3)
JjW QG $0 ta
JjX VI $0 H'
JjY JK $0 $1 H $2
JjZ JjY $0 $1 s
Jj0 JjZ a $0
Jj1 Jbd q $0
Jj2 JbU \"_law_parts\" $0
Jj3 JfD (ba $0)
Jj4 .dict es $0
Jj5 I.hok $0 $1 e
Jj6 some (.lst $0)
Jj7 .inl (.inl $0)
Jj8 .inr (.inl $0)
Jj9 absurd (hLq $0) $1
Jj_ hO $0 vals $1
Jka call (.type $0) $1
Jkb jc I.hok $0
Jkc jd I.hok $0
Jkd s.heap.DictOfH $0 $1 xs
Jke absurd $0 c
Jkf s4.seq (SqL.of $0)
Jkg Xf (cu $0)
Jkh ba (Vi $0)
Jki wpAny_pure (Xl $0)
Jkj .inr (Xr $0)
Jkk wpAny_bind (Vu $0)
Jkl VJ (wpAny_pure $0)
Jkm Vh $0 $1 (JO $2 $3)
Jko QR $0 (.ref $1) (.ref $2)
Jkp Q1 $0 (QI $1 $2) $3
Jkq foldedSetIterable iter X.env $0
Jkr Jdf (T.map $0)
Jks JeF H $0 $1
Jkt S.hold (Jf_ $0) $1
Jku Jip s.heap $0 $1
Jkv .int $0 u
Jkw ⟨$0,$1,$2,?_⟩
Jkx .int $0 s.toks
Jky getMethod $0 $1 pl
Jkz Nat.le_trans $0 hz
JkA operate $0 (getItem $1 $2)
JkB gX c.heap $0
JkC call_meetsIn $0 f.typeIs $1 $2 $3 $4
JkD Nat.lt_irrefl _ $0
JkE Lev $0 $1 ts
JkF tupleKeyHash (bV $0 $1) $2
JkG SD $0 $1 $2 $3 kvs
JkH [$0,\"groups\"]
JkI InR n $0
JkJ EqR $0 As $1
JkK TxB $0 mg
JkL Qa H $0 $1
JkM Xg $0 (JkL $1 $2)
JkN Jr $0 rfl $1 $2
JkO JK $0 $1 H' $2
JkP JkO $0 $1 s'
JkQ VT $0 %4 $1
JkR .Call (.Attribute $0 $1 apos) $2 $3 $4
JkS Jal $0 \"zip\"
JkT ms.filter (Jau $0 As)
JkU QO $0 $1 $2 $3 (Jbm $4)
JkV J2 $0 (JbR $1 $2 $3 $4) $5
JkW JbU $0 \"_law_cell\"
JkX JcU $0 $1 pos.line
JkY JdB $0 $1 $2 rfl $3 $4 $5 $6 $7 $8
JkZ JdJ x $0
Jk0 Jeo eC $0
Jk1 Jey (X1 px) $0 $1
Jk2 Jfs $0 $1 $2 $3 $4 $5 $6 $7 $8 ?_
Jk3 Jgw $0 zs
Jk4 Jif \"sameness\" $0 $1 $2 $3
Jk6 JiO K $0 $1 p $2 $3 $4 $5 As
Jk7 Jk6 C $0 $1 $2 $3 $4
Jk8 Jk7 $0 $1 $2 $3 T
Jk9 Jk2 $0 $1 $2 $3 $4 $5 c.cl $6 $7
Jk_ Jk8 H $0 $1 $2
Jlb Jk_ tl al $0
Jlc ⟨_,$0,$1⟩
Jld upd $0 a $1
Jle Jld $0 u
Jlf PSs $0 $1 t
Jlg $0 = xs.length
Jlh ys.length ≤ $0
Jli Array (Option $0)
Jlj rest.map (lvF $0)
Jlk Two $0 O $1
Jll ⟨$0,rfl,$1,$2,$3,$4,$5,$6,$7,$8,$9,$10,$11,$12,$13,$14,$15,$16,$17,$18,$19⟩
Jlm kt.sq (SqT.of $0)
Jln ao.g (ao.refl $0)
Jlo $0 ≤ As.length
Jlp negs (ts.take $0)
Jlq eT.k $0 $1 (hln $2)
Jlr Jg b $0
Jls wpAny_pure (Vg $0 $1)
Jlt Vz $0 $1 $2 $3 $4 ay $5
Jlu Jlt $0 $1 $2 $3 $4 (Vi $5)
Jlv Vb prog w $0 $1 $2 $3 $4
Jlw Jlv A $0 $1 $2 $3
Jlx Jlw $0 $1 E $2
Jly Jlx $0 Q $1
Jlz Jly $0 s
JlB Jc7 (V7 $0) $1
JlC k $0 _ (.inl rfl) $1
JlD JlC $0 e
JlE Jef $0 $1 $2 rfl $3 $4 $5 $6 $7
JlF Xa (Je3 $0) $1
JlG U.newF $0 (Jgx $1 $2)
JlH Qu (JgW $0 $1 $2 $3 $4)
JlI Jck (Jin $0 $1)
JlJ I9.pin $0 (Jix $1 $2)
JlK JjE $0 (Nat.zero_le $1) $2
JlL Xa (mg $0) (Jcv $1)
"
end J
set_option hygiene false
local macro_rules|`($f:ident $x*)=>do
 let n:=f.getId.toString
 unless n.length<4&&n.length>1&&"JXQV".contains n.front do Lean.Macro.throwUnsupported
 match J.T.splitOn ("\n"++n++" ") with
 |[_,r]=>return (J.k x.raw #[←`(by decide +kernel),←`(by decide),←`(λ_=>?_),←`(λ_ _=>?_),←`(by simp),←`(by lia),←`(by rfl),←`([])] 999 (J.w (r.splitOn "\n").head!) #[] #[] none).1[0]!
 |_=>Lean.Macro.throwUnsupported
noncomputable section
def lM{α β}{l:List α}(f:α→β):(l.map f).length=l.length:=List.length_map f
def lAq{α}{a b:List α}:(a++b).length=a.length+b.length:=List.length_append
def mAq{α β}{f:α→β}{a b:List α}:(a++b).map f=a.map f++b.map f:=List.map_append
def lS{α}{a:α}:[a].length=1:=rfl
def mO{α}{l:List α}{i:Nat}{a:α}(h:l[i]?=some a):a∈l:=List.mem_of_getElem? h
def mPq{α}{a:α}{s t:List α}(h:a∈s++t):a∈s∨a∈t:=List.mem_append.mp h
def mSq{α}{a b:α}(h:a∈[b]):a=b:=List.mem_singleton.mp h
def gEq{α}{i:Nat}{a:α}{l:List α}(h:l[i]?=some a):∃h,l[i]=a:=List.getElem?_eq_some_iff.mp h
def gG{α}{l:List α}{i:Nat}(h:i < l.length):l[i]?=some l[i]:=List.getElem?_eq_getElem h
def sAq{α}{l:List α}:l.toArray.size=l.length:=List.size_toArray
def nRq(n:Nat):n≤n:=Nat.le_refl n
def tO{α}{i:Nat}{l:List α}(h:l.length≤i):l.take i=l:=List.take_of_length_le h
def dTq{p:Prop}[Decidable p](h:p):decide p=true:=decide_eq_true h
def oDq{p:Prop}[Decidable p](h:decide p=true):p:=of_decide_eq_true h
def dFq{p:Prop}[Decidable p](h:¬p):decide p=false:=decide_eq_false h
def hG{h:PySem.Heap}{a:PySem.Addr}{u:PySem.Obj}(o:PySem.Obj)(e:h.get? a=some u):(h.push o).get? a=some u:=PySem.Heap.get?_push_of_some o e
def bLq:PySem.bootBuiltins "len"=some (.builtin "len"):=PySem.boot_len
def hLq{h:PySem.Heap}{a:PySem.Addr}{o:PySem.Obj}(e:h.get? a=some o):JgU a:=PySem.Heap.lt_size e
namespace L2
open PySem PySem.Spec PyProof.Rows
abbrev Key:=Sum Int Str
noncomputable def gW:Key→Value→Bool
  | .inl k,v=>Value.isInt k v
  | .inr x,v=>Value.isStrOf x v
noncomputable def keyH (w:World):Key→Int
  | .inl k=>hashInt k
  | .inr x=>hashStr w x
def gC:∀ {k:Key} {v:Value},Qu (gW k v)→(∃i t,JcD k i∧v=JcC i)∨(∃x t,k=Sum.inr x∧v=Jhw t)
  | .inl i,v,h=>by obtain⟨t,e⟩:=Value.isInt_shape h;exact .inl (XA i t e)
  | .inr x,v,h=>by obtain⟨t,e⟩:=Value.isStrOf_shape h;exact .inr (XA x t e)
def xE (i)(t):Qu (gW (.inl i) (Jcv i)):=by simp [gW,Value.isInt]
def xF (x)(t):Qu (gW (.inr x) (.str x t)):=by simp [gW,Value.isStrOf]
def key_ll (a b):decide (JcD (Sum.inl a:Key) b)=(a == b):=by
  lia
def key_rr (a b):decide ((Sum.inr a:Key)=Sum.inr b)=decide (a=b):=by
  lia
def key_lr (a)(b):decide ((Sum.inl a:Key)=Sum.inr b)=false:=dFq (λq=>nomatch q)
def key_rl (a)(b):decide (JcD (Sum.inr a:Key) b)=false:=dFq (λq=>nomatch q)
noncomputable def bV (prog)(w):PySem.KeyKind prog w Key where
  is:=gW
  hash:=keyH w
  inj:=λv a b l f=>by
    rcases gC l with ⟨i,t,rfl,rfl⟩ | ⟨x,t,rfl,rfl⟩
    · rcases gC f with ⟨j,u,rfl,e⟩ | ⟨y,u,rfl,e⟩
      · injection e with c _;rw[c]
      · exact nomatch e
    · rcases gC f with ⟨j,u,rfl,e⟩ | ⟨y,u,rfl,e⟩
      · exact nomatch e
      · injection e with c _;rw[c]
  byValue:=λk v h=>by rcases gC h with ⟨i,t,rfl,rfl⟩ | ⟨x,t,rfl,rfl⟩ <;> rfl
  pyHash:=λd h=>by
    rcases gC d with ⟨i,t,rfl,rfl⟩ | ⟨x,t,rfl,rfl⟩
    · exact wpAny_pyHash_int h
    · exact wpAny_pyHash_str h
  eqBool:=λg d h=>by
    rcases gC g with ⟨i,t,rfl,rfl⟩ | ⟨x,t,rfl,rfl⟩
    · rcases gC d with ⟨j,u,rfl,rfl⟩ | ⟨y,u,rfl,rfl⟩
      · rw[key_ll]at h;exact wpAny_eqBool_int h
      · rw[key_lr]at h;exact SeqAt.EqAt.int_str i t y u _ _ _ _ h
    · rcases gC d with ⟨j,u,rfl,rfl⟩ | ⟨y,u,rfl,rfl⟩
      · rw[key_rl]at h;exact SeqAt.EqAt.str_int x t j u _ _ _ _ h
      · rw[key_rr]at h;exact wpAny_eqBool_str h
  «strs»:=λk x t v h=>by
    rcases gC h with ⟨i,u,rfl,e⟩ | ⟨y,u,rfl,e⟩
    · exact nomatch e
    · injection e with c _;subst c;cases v <;> rfl
def xG (prog)(w)(i)(t):(bV prog w).is (.inl i) (Jcv i)=true:=xE i t
def mv (prog)(w)(x)(t):(bV prog w).is (.inr x) (.str x t)=true:=xF x t
inductive V where
  | non | bl (b:Bool) | int (i:Int) | str (x:Str) | byt (b:Array UInt8) | flt (b:UInt64) | ref (a:Addr) | ty (n:String)
  deriving DecidableEq
def aS:V→Value→Prop
  | .non,u=>Jbh u
  | .bl b,u=>Q4 u b
  | .int i,u=>∃t,u=JcC i
  | .str x,u=>∃t,u=Jhw t
  | .byt b,u=>∃t,u=Value.bytes b t
  | .flt b,u=>∃t,u=Value.float b t
  | .ref a,u=>Vp u a
  | .ty n,u=>u=Value.type n
abbrev aM:List V→List Value→Prop:=Paired aS
def aM.length (r:JbM xs):Q8 us.length:=Paired.length r
def aM.get:∀ {xs:List V} {us:List Value} {i:Nat} {x:V},JbM xs→xs[i]?=some x→∃u,us[i]?=some u∧Jeb x
  | _,_,_,_,.nil,e=>by simp at e
  | _,_,0,_,JeY _,e=>by simp at e;subst e;exact V2 r
  | _,_,i+1,x,.cons _ t,e=>by obtain⟨u,b,a⟩:=aM.get t (by simpa using e);exact⟨u,by simpa using b,a⟩
def aM.set (r:Jeb x):∀ {xs:List V} {us:List Value} (i:Nat),JbM xs→aM (xs.set i x) (us.set i u)
  | _,_,_,.nil=>.nil
  | _,_,0,.cons _ t=>JeY t
  | _,_,i+1,.cons q t=>.cons q (aM.set r i t)
def aM.append:∀ {xs ys:List V} {us a:List Value},JbM xs→aM ys a→aM (xs++ys) (us++a)
  | _,_,_,_,.nil,s=>s
  | _,_,_,_,JeY t,s=>JeY (aM.append t s)
def aM.take:∀ {xs:List V} {us:List Value} (n:Nat),JbM xs→aM (xs.take n) (us.take n)
  | _,_,0,_=>.nil
  | _,_,_+1,.nil=>.nil
  | _,_,n+1,.cons r t=>JeY (aM.take n t)
def aM.drop:∀ {xs:List V} {us:List Value} (n:Nat),JbM xs→aM (xs.drop n) (us.drop n)
  | _,_,0,r=>r
  | _,_,_+1,.nil=>.nil
  | _,_,n+1,.cons _ t=>aM.drop n t
def dc:Option V→Option Value→Prop
  | some v,some u=>Jeb v
  | none,none=>True
  | _,_=>False
def KV {a:Type}:List (a × V)→List (a × Value)→Prop:=Paired λ p q=>p.1=q.1∧aS p.2 q.2
noncomputable def kV:Key→V
  | .inl i=>.int i
  | .inr x=>.str x
inductive HO where
    | lst (xs:List V)
    | tup (xs:List V)
    | dK (kvs:List (Key × V)) | dT (kvs:List (List Key × V))
    | set (S:Int→Bool)(n:Nat)
    | ins (C dx:Addr)(fs:List (Str × V))
    | own (x:Addr)
    | xd (fs:List (Str × V))
    | met (f x:Addr)
    | rng (lo hi:Int)
    | frz (o:Obj)(u:HO)
    | tbl (ps:Array Value)
    | ext (φ:Heap→Prop)
abbrev Hp:=Addr→Option HO
noncomputable def upd (H:Hp)(a:Addr)(o:HO):Hp:=λb=>if b=a then some o else H b
def af:upd H a o a=some o:=by unfold upd;rw[if_pos rfl]
def ai (h:b≠a):upd H a o b=H b:=by unfold upd;rw[if_neg h]
def oY:Jle (JiW a)=upd H a u:=by funext b;unfold upd;split <;> rfl
def cq {H:Hp}{a b:Addr}{o u:HO}(h:Jg a o)(h':Jlr u)(d:o≠u):a≠b:=by intro e;subst e;rw[h]at h';exact d (Option.some.inj h')
def bX {H:Hp}{a b:Addr}{o:HO}(h:Jg a o)(h':Vn b):a≠b:=by intro e;subst e;rw[h]at h';cases h'
def fw (h:Heap)(a:Addr)(items:Array Value):Prop:=∃o,h.get? a=some o∧(o.cls,o.dict)=(Value.type "tuple",none)∧∃n,o.data=.seq items n
def fw.up (x:fw h a items):IsTup h a items:=let ⟨o,e,c,d⟩:=x;⟨o,e,(Prod.mk.inj c).1,d⟩
def fw.lt (x:fw h a items):JgU a:=x.up.lt
def fw.new (h:Heap)(items):fw (h.push { cls:=.type "tuple",data:=.seq items }) h.objs.size items:=JC _ (Heap.get?_push_size _ rfl) _ rfl
section
variable (P:Program) (w:World)
def bE (H:Hp)(h:Heap)(a:Addr):HO→Prop
  | .lst xs=>Ju xs.length∧∃b n,aM xs b∧h.get? a=some { cls:=.type "list",data:=.seq b.toArray n }
  | .tup xs=>Ju xs.length∧∃b:List Value,aM xs b∧fw h a b.toArray
  | .dK kvs=>Ju kvs.length∧Q9 (a == sysModules)∧∃vs,Jg7 vs∧h.DictOf (bV P w) a vs
  | .dT kvs=>Ju kvs.length∧Q9 (a == sysModules)∧∃xs:List (List Key × Addr × Value),
      Paired (λ p q=>p.1=q.1∧JaK q.2.1 (p.1.map kV)∧aS p.2 q.2.2) kvs xs ∧
      ∃o es ep,h.get? a=some o∧o.ExactDict∧o.data=Jj4 ep∧es.toList=Jg8 (JcR P w)∧(xs.map (·.1)).Nodup
  | .set S n=>h.SetOf (intKind P w) a S n
  | .ins C dx d=>Jg1 dx a∧d.length≤1000∧dx≠a∧h.get? a=some (JhN C) ∧
      ∃c,h.Ns1 dx c∧(∀f,dc (d.lookup f) (c f))∧PySem.Within c (d.map (·.1))
  | .own _=>∃o,h.get? a=some o
  | .xd d=>∃c,h.Ns1 a c∧∀f,dc (d.lookup f) (c f)
  | .rng lo j=>∃t u v,h.get? a=some { cls:=.type "range",data:=.fields #[Jcv lo,Jkv j,.int 1 v] }
  | .frz o u=>h.get? a=some o∧bE H h a u
  | .tbl ps=>h.get? a=some { cls:=.none,data:=.fields ps }
  | .met f x=>h.get? a=some (PySem.W.methodObj (.ref f) (.ref x))
  | .ext e=>e h∧(∃o,h.get? a=some o)∧∀i g:Heap,e i→(∀o,i.get? a=some o→g.get? a=some o)→e g
def HOk (H:Hp)(h:Heap):Prop:=∀a o,Jg a o→bE P w H h a o
end
section
variable {P:Program} {w:World} {H H':Hp} {h h':Heap} {a:Addr} {o:HO}
def bE.lt (x:bE P w H h a o):JgU a:=by
  cases o with
  | lst xs=>obtain⟨_,_,_,_,e⟩:=x;exact hLq e
  | tup xs=>obtain⟨_,_,_,p⟩:=x;exact p.lt
  | dK kvs=>obtain⟨_,_,_,_,o,_,_,e,_⟩:=x;exact hLq e
  | dT kvs=>obtain⟨_,_,_,_,o,_,_,e,_⟩:=x;exact hLq e
  | set S n=>obtain⟨o,_,_,_,e,_⟩:=x;exact hLq e
  | ins C dx b=>obtain⟨_,_,_,e,_⟩:=x;exact hLq e
  | own y=>obtain⟨_,e⟩:=x;exact hLq e
  | xd b=>obtain⟨_,⟨_,_,_,e,_⟩,_⟩:=x;exact hLq e
  | rng lo g=>obtain⟨_,_,_,e⟩:=x;exact hLq e
  | frz d u=>obtain⟨e,_⟩:=x;exact hLq e
  | tbl ps=>exact hLq (show h.get? a=some _ from x)
  | met f y=>exact hLq (show h.get? a=some _ from x)
  | ext c=>obtain⟨_,⟨_,e⟩,_⟩:=x;exact hLq e
def Paired.mapP:∀ {d:List α} {c:List β},Paired F d c→(∀a b,F a b→G a b)→Paired G d c
  | _,_,.nil,_=>.nil
  | _,_,JeY t,f=>.cons (f _ _ r) (Paired.mapP t f)
def bE.stay (x:bE P w H h a o)(k:∀b u,(b=a∨Jg1 b a)→h.get? b=some u→h'.get? b=some u)
    (B:∀b,Jg1 b a→Vw b (.own a))(A:∀b xs,JaK b xs→J1 b xs):bE P w H' h' a o:=by
  induction o with
  | lst xs=>obtain⟨z,i,n,r,e⟩:=x;exact⟨z,i,n,r,JlD _⟩
  | tup xs=>obtain⟨z,i,r,g,e,c⟩:=x;exact⟨z,i,r,g,JlD _,c⟩
  | dK kvs=>obtain⟨z,y,vs,r,g,es,ep,e,c⟩:=x;exact⟨z,y,vs,r,g,es,ep,JlD _,c⟩
  | dT kvs =>
    obtain⟨z,y,xs,r,g,es,ep,e,c⟩:=x;exact⟨z,y,xs,Paired.mapP r λp q z=>⟨z.1,A _ _ z.2.1,z.2.2⟩,g,es,ep,JlD _,c⟩
  | set S n=>obtain⟨g,es,ep,t,e,c⟩:=x;exact⟨g,es,ep,t,JlD _,c⟩
  | ins C dx D =>
    obtain⟨d,z,l,e,j,⟨od,es,ep,E,c⟩,r⟩:=x;exact⟨B _ d,z,l,JlD _,j,⟨od,es,ep,k _ _ (.inr d) E,c⟩,r⟩
  | own y=>obtain⟨g,e⟩:=x;exact⟨g,JlD _⟩
  | xd D=>obtain⟨j,⟨od,es,ep,e,c⟩,r⟩:=x;exact⟨j,⟨od,es,ep,JlD _,c⟩,r⟩
  | rng lo G=>obtain⟨t,u,v,e⟩:=x;exact⟨t,u,v,JlD _⟩
  | frz g u s=>obtain⟨e,q⟩:=x;exact⟨JlD _,s q⟩
  | tbl ps =>
    have e:=x;exact JlD a
  | met f y =>
    have e:=x;exact JlD a
  | ext F=>obtain⟨p,⟨o,e⟩,st⟩:=x;exact⟨st _ _ p λo q=>JlC _ q,⟨o,JlD _⟩,st⟩
def HOk.lt (x:Jis h)(e:Jg a o):JgU a:=(x a o e).lt
def HOk.fresh (x:Jis h)(e:h.objs.size≤a):Vn a:=by
  cases q:H a with
  | none=>rfl
  | some u=>exact QV (Nat.lt_of_lt_of_le (x.lt q) e) _
def HOk.kept (x:Jis h)(k:∀b u,h.get? b=some u→h'.get? b=some u):Jis h':=λa o e =>
  (x a o e).stay (λb u _ q=>k b u q) (λ_ q=>q) λ_ _ q=>q
def HOk.laid (x:Jis h)(k:∀b u,h.get? b=some u→h'.get? b=some u)(i:h.objs.size≤a)(d:bE P w (JiW a) h' a o):JhP (JiW a) h':=λb u e=>by
  have f:=x.fresh i;by_cases g:b=a
  · subst g;rw[af]at e;cases e;exact d
  · rw[ai g]at e;exact(x b u e).stay (λc v _ q=>k c v q) (λc q=>by rw[Jj1 f];exact q) λc xs q=>by rw[Jj1 f];exact q
end
def Rd (H:Hp)(a:Addr)(u:HO):Prop:=Jg a u∨∃o,Jg a (.frz o u)
def Rd.of (h:Jg a u):Rd H a u:=.inl h
def Rd.ok (r:Rd H a u)(x:Jis h):bE P w H h a u:=by
  rcases r with r | ⟨o,r⟩
  · exact x a u r
  · obtain⟨_,q⟩:=x a _ r;exact q
def Mut:Option HO→Prop
  | some (.lst _)=>True
  | some (.dK _)=>True
  | some (.dT _)=>True
  | some (.set _ _)=>True
  | some (.ins _ _ _)=>True
  | some (.ext _)=>True
  | _=>False
section
variable {P:Program} {w:World} {H:Hp} {h h':Heap} {x e:Addr} {o':HO}
def HOk.write (s:Jis h)(g:Mut (H x))(p:e=x∨Jg1 e x)(k:∀b u,b≠e→h.get? b=some u→h'.get? b=some u)(n:∃u,h'.get? e=some u)
    (l:bE P w (Xw x o') h' x o'):JhP (Xw x o') h':=λb u q=>by
  have d:∀c y,Jg1 c y→c≠x:=λc y r z=>by subst z;rw[r]at g;exact g
  have f:∀c xs,JaK c xs→c≠x:=λc xs r z=>by subst z;rw[r]at g;exact g
  by_cases j:b=x
  · subst j;rw[af]at q;cases q;exact l
  · rw[ai j]at q;by_cases a:b=e
    · have o:H b=some (.own x):=by
        lia
      rw[q]at o;cases o;obtain⟨v,t⟩:=n;exact⟨v,by rw[a];exact t⟩
    · refine(s b u q).stay (λc v i r=>k c v ?_ r) (λc r=>by rw[ai (d c b r)];exact r) λc xs r=>by rw[ai (f c xs r)];exact r
      rcases i with rfl | i
      · exact a
      · rintro rfl;rcases p with z | z
        · exact d c b i z
        · rw[i]at z;cases z;exact j rfl
end
structure Un (fs ex:List Addr)(H H':Hp)(h h':Heap):Prop where
  keep:∀b o,h.get? b=some o→Vn b→b∉fs→b∉ex→h'.get? b=some o
  slot:∀b o,h.get? b=some o→Vn b→b∈fs→b∉ex→∃sl,h'.get? b=some { o with slots:=sl }
  free:∀b o,h.get? b=some o→Vn b→b∉ex→JbK b
  there:∀b o,h.get? b=some o→b∉ex→∃o',h'.get? b=some o'
  tups:∀b xs,JaK b xs→J1 b xs
  frzs:∀b o u,Jlr (.frz o u)→Vw b (.frz o u)
  tbls:∀b ps,Jlr (.tbl ps)→∃more,Vw b (.tbl (ps++more))
section
variable {fs fs' ex ex':List Addr} {H H1 H2:Hp} {h h1 h2 h':Heap} {a x e:Addr} {o:HO}
def Un.any (u:Un fs ex H H1 h h1){b:Addr}{c:Obj}(q:h.get? b=some c)(n:Vn b)(d:b∉ex):∃g,h1.get? b=some { c with slots:=g }:=by
  by_cases f:b∈fs
  · exact u.slot b c q n f d
  · exact⟨c.slots,u.keep b c q n f d⟩
def Un.trans (a:Un fs ex H H1 h h1)(b:Un fs ex H1 H2 h1 h2):Un fs ex H H2 h h2 where
  keep:=λc d q n i f=>b.keep c d (a.keep c d q n i f) (a.free c d q n f) i f
  slot:=λc d q n i f=>by obtain⟨s,g⟩:=a.slot c d q n i f;obtain⟨j,l⟩:=b.slot c _ g (a.free c d q n f) i f;exact⟨j,l⟩
  free:=λc d q n f=>by obtain⟨k,g⟩:=a.there c d q f;exact b.free c k g (a.free c d q n f) f
  there:=λc d q f=>by obtain⟨k,g⟩:=a.there c d q f;exact b.there c k g f
  tups:=λc xs q=>b.tups c xs (a.tups c xs q)
  frzs:=λc d xs q=>b.frzs c d xs (a.frzs c d xs q)
  tbls:=λc ps q=>by obtain⟨r,g⟩:=a.tbls c ps q;obtain⟨p,l⟩:=b.tbls c _ g;exact⟨r++p,by rw[l,Array.append_assoc]⟩
def Un.kept (k:∀b u,h.get? b=some u→h'.get? b=some u):Un fs ex H H h h' :=
  ⟨λb c q _ _ _=>k b c q,λb c q _ _ _=>⟨c.slots,k b c q⟩,λ_ _ _ n _=>n,λb c q _=>⟨c,k b c q⟩,λ_ _ q=>q,λ_ _ _ q=>q,λ_ ps q=>⟨#[],by rw[q];simp⟩⟩
def Un.refl:Un fs ex H H h h:=Un.kept λ_ _ q=>q
def Un.laid (k:∀b u,h.get? b=some u→h'.get? b=some u)(d:h.objs.size≤a)(c:Vn a):Un fs ex H (JiW a) h h' where
  keep:=λb u q _ _ _=>k b u q
  slot:=λb u q _ _ _=>⟨u.slots,k b u q⟩
  free:=λb u q n _=>by rw[ai (X8 q d)];exact n
  there:=λb u q _=>⟨u,k b u q⟩
  tups:=λb xs q=>by rw[Jj1 c];exact q
  frzs:=λb u xs q=>by rw[Jj1 c];exact q
  tbls:=λb ps q=>⟨#[],by rw[Jj1 c,q];simp⟩
def Un.write (d:Mut (H x))(p:e=x∨Jg1 e x)(k:∀b u,b≠e→h.get? b=some u→h'.get? b=some u)(g:∃u,h'.get? e=some u):Un fs ex H (JiW x) h h':=by
  have i:∀b,Vn b→b≠x:=λb n z=>by subst z;rw[n]at d;exact d
  have j:∀b,Vn b→b≠e:=λb n z=>by
    lia
  have f:∀b u,Jlr u→¬Mut (some u)→b≠x:=λb u q l z=>by subst z;rw[q]at d;exact l d
  refine⟨λb u q n _ _=>k b u (j b n) q,λb u q n _ _=>⟨u.slots,k b u (j b n) q⟩,λb u q n _=>by rw[ai (i b n)];exact n,λb u q _=>?_,λb xs q=>by rw[ai (f b _ q λz=>z)];exact q,λb u xs q=>by rw[ai (f b _ q λz=>z)];exact q,λb ps q=>⟨#[],by rw[ai (f b _ q λz=>z),q];simp⟩⟩
  by_cases c:b=e
  · subst c;exact g
  · exact⟨u,k b u c q⟩
end
noncomputable def trk (h:Heap)(H:Hp):List Addr:=(List.range h.objs.size).filter λa=>(H a).isSome
noncomputable def gX (h:Heap)(H:Hp):Heap:=PySem.W.hideAll h (trk h H)
def xH (h)(H):(gX h H).objs.size=h.objs.size:=PySem.W.hideAll_size _ _
def xI (e:h.get? b=some o)(n:Vn b):(gX h H).get? b=some o :=
  PySem.W.hideAll_get _ e λa=>by have q:=(List.mem_filter.mp a).2;rw[n]at q;simp at q
def xJ (e:(gX h H).get? b=some o):h.get? b=some o∧Vn b:=by
  have a:=PySem.W.of_hideAll (trk h H) e;refine XE a;cases q:H b with
  | none=>rfl
  | some x =>
    have c:b∈trk h H:=Xp (List.mem_range.mpr (hLq a)) (by simp [q]);have z:(gX h H).get? b=none:=PySem.W.hideAll_none (trk h H) c;rw[z]at e;cases e
noncomputable def xK (g h:Heap)(L:Addr):List (Addr × Obj):=(List.range h.objs.size).filterMap λa=>if a=L∨(g.get? a).isSome=true then none else(h.get? a).map λo=>(a,o)
noncomputable def rest (g h:Heap)(L d:Addr):List (Addr × Obj):=(xK g h L).filter λp=>decide (p.1≠d)
structure Mod (K:PySem.W.Frag)(mg)(base):Prop where
  kin:K.In base
  glob:Jhx mg
  blt:∃mb,base.Ns builtinsNs mb∧∀x:Str,x≠"__name__"→mb x=bootBuiltins x
  nolimit:base.NoLimit
structure Cx where
  prog:Program
  w:World
  K:PySem.W.Frag
  mg:Str→Option Value
  base:Heap
  A:Around
  N:List Str
  s₀:Shared
  H₀:Hp
  env:Env
  outer:List Env
  stack:List Env
  ex:List Addr
  fn:Str→Bool
  calm:Bool
  pn:List (Addr × Obj)
  xe:Value→Shared→Prop
noncomputable def frs (l:List Env):List Addr:=l.filterMap (·.frame)
abbrev Cx.fs (X:Cx):List Addr:=frs X.outer
def Vis (sc:Scope)(x:Str):Prop:=QH x .local∨QH x .cell∨QH x .free
def Loc (sc:Scope)(x:Str):Prop:=QH x .local∨QH x .cell
def Look (env:Env)(h:Heap)(m:Str→Option Value)(x:Str)(u:Value):Prop :=
  (Xa (env.kindOf x) .local∧Xa (m x) u)∨((Xa (env.kindOf x) .cell∨Xa (env.kindOf x) .free)∧∃c,Jdc x c∧h.IsCell c (some u))
structure Cx.Ok (X:Cx):Prop where
  mod:Mod X.K X.mg X.base
  kind:Jek X.env.scope.kind
  glob:X.env.globals=mainGlobals
  blt:X.env.builtins=builtinsNs
  above:XU X.env.locals
  inj:∀x y c,Jj x c→Jj y c→x=y
  has:∀x,(Jh9 x∨Jh_ x)→∃c,Jj x c
  cab:∀x c,Jdz x→Jj x c→XU c
  hd:Qu X.calm→Qn X.A.handled
  frames:Xa X.A.frames X.stack
  stk:X.stack=X.outer∨(X.stack=X.env :: X.outer∧Xa X.env.frame X.env.locals)
  exf:∀b∈X.ex,Jak b∧∀x c,Jj x c→c≠b
  bs:∀b o,X.base.get? b=some o→X.s₀.heap.get? b=some o∧Qn (X.H₀ b)
  bsz:X.base.objs.size≤X.s₀.heap.objs.size
  noex:∀b o,X.base.get? b=some o→b∉X.ex
  exfs:∀b∈X.ex,b∉X.fs
  funs:X.s₀.heap.FunFrames X.base X.outer
  frf:∀b∈X.fs,Qn (X.H₀ b)
structure Inv (X:Cx)(pins)(σ:List (Option V))(H)(s:Shared):Prop where
  ok:X.Ok
  os:s.os=X.s₀.os
  bare:AllBare s.gens
  base:Un X.fs X.ex X.H₀ H X.s₀.heap s.heap
  loc:∃m,s.heap.Ns X.env.locals m∧∀(i:Nat) (x) (v),X.N[i]?=some x→σ[i]?=some (some v)→JdC x→∃u,Jeb v∧Look X.env s.heap m x u
  cell:∀x c,Jj x c→∃v,s.heap.IsCell c v
  free:Vn X.env.locals
  freeC:∀x c,Jj x c→Vn c
  pin:∀p∈X.pn++pins,s.heap.get? p.1=some p.2∧Vn p.1∧Jak p.1∧p.1∉X.fs∧∀v,p.2.data≠.cell v
  hok:Jf3 H s.heap
  len:σ.length=X.N.length
section
variable {X:Cx} {pins:List (Addr × Obj)} {σ:List (Option V)} {H H':Hp} {s:Shared} {h':Heap}
def Cx.Ok.nofr (a:X.Ok){b:Addr}{o:Obj}(e:X.base.get? b=some o):b∉X.fs:=λc=>by have:=(a.funs.mem c).1;rw[e]at this;cases this
def Inv.bs (I:QE s):∀b o,X.base.get? b=some o→s.heap.get? b=some o∧Vn b:=λb o e =>
  ⟨I.base.keep b o (I.ok.bs b o e).1 (I.ok.bs b o e).2 (I.ok.nofr e) (I.ok.noex b o e),JeO o (I.ok.bs b o e).1 (I.ok.bs b o e).2 (I.ok.noex b o e)⟩
def Inv.bk (I:QE s):∀b o,X.base.get? b=some o→s.heap.get? b=some o:=λb o e=>(I.bs b o e).1
def Inv.mod (I:QE s):Mod X.K X.mg X.base:=I.ok.mod
def Inv.kIn (I:QE s):X.K.In s.heap:=I.ok.mod.kin.keeps I.bk
def Inv.lt (I:QE s):Xh X.env.locals:=let ⟨_,hn,_⟩:=I.loc;hn.lt
def Inv.sz (I:QE s):XU s.heap.objs.size:=Nat.le_trans I.ok.above (Nat.le_of_lt I.lt)
def Inv.nofs (I:QE s){a:Addr}(h:Jch a):a∉X.fs:=λc=>by obtain⟨_,o,b,_⟩:=I.ok.funs.mem c;exact QV (Xq b (Nat.le_trans I.sz h)) _
def Inv.cne (I:QE s):∀x c,Jj x c→Jak c:=λx c e z=>by obtain⟨v,o,d,f⟩:=Ji9 x e;obtain⟨m,⟨g,es,ep,a,b,_⟩,_⟩:=I.loc;rw[z,a]at d;cases d;rw[b]at f;cases f
def Inv.funs (I:QE s):s.heap.FunFrames X.base X.outer:=by
  have f:∀l,(∀b∈frs l,b∈X.fs)→X.s₀.heap.FunFrames X.base l→s.heap.FunFrames X.base l:=by
    intro l
    induction l with
    | nil=>intro _ _;trivial
    | cons env r g =>
      intro hs k;obtain⟨n,⟨L,o,a,j,i,p⟩,h⟩:=k;have d:=hs L (by unfold frs;rw[List.filterMap_cons,a];exact List.mem_cons_self);obtain⟨q,e⟩:=I.base.slot L o i (I.ok.frf L d) d λz=>I.ok.exfs L z d;exact⟨n,⟨L,_,a,j,e,p⟩,g (λb c=>hs b (by unfold frs;rw[List.filterMap_cons,a];exact Xd c)) h⟩
  exact f X.outer (λ_ c=>c) I.ok.funs
def Inv.stack (I:QE s):s.heap.FunFrames X.base X.stack:=by
  rcases I.ok.stk with e | ⟨e,b⟩
  · rw[e];exact I.funs
  · rw[e];obtain⟨m,a,_⟩:=I.loc;refine .cons (by rw[I.ok.kind];decide) b a ?_ I.funs;exact Heap.get?_none_of_le (JcS I.ok.above)
def Inv.stkSub (I:QE s):∀b∈frs X.stack,b∈X.env.locals :: X.fs:=λb a=>by
  rcases I.ok.stk with e | ⟨e,c⟩
  · rw[e]at a;exact List.mem_cons_of_mem _ a
  · rw[e]at a;unfold frs at a;rw[List.filterMap_cons,c]at a;exact a
def Inv.stkFree (I:QE s):∀b∈frs X.stack,Vn b:=λb a=>by
  rcases List.mem_cons.mp (I.stkSub b a) with e | a
  · rw[e];exact I.free
  · obtain⟨_,o,c,_⟩:=I.ok.funs.mem a;exact I.base.free b o c (I.ok.frf b a) λz=>I.ok.exfs b z a
def Inv.step {g':Array GenState}{t':Nat}{d':Drawn}{ch:List Addr}(I:QE s)
    (j:∀b∈ch,(b∈X.ex∨XU b)∧Jak b∧(∀x c,Jj x c→c≠b)∧∀p∈X.pn++pins,p.1≠b)
    (h:∀b o,Jak b→b∉X.fs→b∉ch→s.heap.get? b=some o→Vn b→h'.get? b=some o)
    (B:∀b o,Jak b→b∈X.fs→b∉ch→s.heap.get? b=some o→Vn b→∃P,h'.get? b=some { o with slots:=P })(f:∀b o,b∉ch→s.heap.get? b=some o→Vn b→JbK b)
    (C:∀b o,b∉ch→s.heap.get? b=some o→∃J,h'.get? b=some J)
    (F:∀b xs,JaK b xs→J1 b xs)(M:∀b o u,Jlr (.frz o u)→Vw b (.frz o u))(G:∀b ps,Jlr (.tbl ps)→∃L,Vw b (.tbl (ps++L)))
    (ns:∀m,s.heap.Ns X.env.locals m→h'.Ns X.env.locals m)(Q:Jf3 H' h')(hg:AllBare g') :
    Inv X pins σ H' { s with heap:=h',gens:=g',drawn:=d',toks:=t' }:=by
  have K:∀b o,X.s₀.heap.get? b=some o→Jak b:=λb o e=>Jih e;have y:∀b o,X.s₀.heap.get? b=some o→b∉X.ex→b∉ch:=λb o e a D=>by
    rcases(j b D).1 with z | z
    · exact a z
    · exact absurd (Xq e z) (Nat.lt_irrefl _)
  have t:∀x c,Jj x c→∀v,s.heap.IsCell c v→h'.IsCell c v:=λx c e v ⟨o,E,R⟩=>by
    have g:c∉ch:=λz=>(j c z).2.2.1 x c e rfl;by_cases U:c∈X.fs
    · obtain⟨P,q⟩:=B c o (I.cne x c e) U g E (Jg9 c e);exact Jlc q R
    · exact JjA (h c o (I.cne x c e) U g E (Jg9 c e)) R
  refine⟨I.ok,I.os,hg,⟨λb o e n D a=>?_,λb o e n D a=>?_,λb o e n a=>?_,λb o e a=>?_,λb xs e=>F b xs (I.base.tups b xs e),λb o xs e=>M b o xs (I.base.frzs b o xs e),λb ps e=>?_⟩,?_,λx c e=>?_,?_,λx c e=>?_,λp T=>?_,Q,I.len⟩
  · exact h b o (K b o e) D (y b o e a) (I.base.keep b o e n D a) (JeO o e n a)
  · obtain⟨P,A⟩:=I.base.slot b o e n D a;obtain⟨O,N⟩:=B b _ (K b o e) D (y b o e a) A (JeO o e n a);exact⟨O,N⟩
  · obtain⟨J,A⟩:=Ji_ o e a;exact f b J (y b o e a) A (JeO o e n a)
  · obtain⟨J,A⟩:=Ji_ o e a;exact C b J (y b o e a) A
  · obtain⟨Y,A⟩:=I.base.tbls b ps e;obtain⟨W,N⟩:=G b _ A;exact⟨Y++W,by rw[N,Array.append_assoc]⟩
  · obtain⟨m,Z,hl⟩:=I.loc;refine⟨m,ns m Z,λi x v A N e3=>?_⟩;obtain⟨u,r,l⟩:=hl i x v A N e3;refine Qk u r;rcases l with l | ⟨k,c,e,z⟩
    · exact .inl l
    · exact .inr ⟨k,c,e,t x c e _ z⟩
  · obtain⟨v,z⟩:=Ji9 x e;exact⟨v,t x c e v z⟩
  · obtain⟨m,⟨o,_,_,E,_⟩,_⟩:=I.loc;exact f _ o (λz=>(j _ z).2.1 rfl) E I.free
  · obtain⟨v,o,E,R⟩:=Ji9 x e;exact f c o (λz=>(j c z).2.2.1 x c e rfl) E (Jg9 c e)
  · obtain⟨e,n,S,nf,d⟩:=JiG T;have g:p.1∉ch:=λz=>(j p.1 z).2.2.2 p T rfl;exact⟨h p.1 p.2 S nf g e n,f p.1 p.2 g e n,S,nf,d⟩
def Inv.un {t':Nat}(I:QE s)(u:Jeu X.fs [] H H' h')(c:Jf3 H' h'):Vy H' { s with heap:=h',toks:=t' }:=by
  obtain⟨m,⟨o,es,ep,h,r⟩,_⟩:=id I.loc;obtain⟨l,k⟩:=u.any h I.free (by simp);exact I.step (g':=s.gens) (d':=s.drawn) (ch:=[]) (λ_ z=>nomatch z) (λb o _ d _ e n=>u.keep b o e n d (by simp)) (λb o _ d _ e n=>u.slot b o e n d (by simp)) (λb o _ e n=>u.free b o e n (by simp)) (λb o _ e=>u.there b o e (by simp)) u.tups u.frzs u.tbls (λq j=>by obtain⟨p,f,g,a,i⟩:=j;rw[h]at a;cases a;exact⟨_,f,g,k,i⟩) c I.bare
def Inv.call {g':Array GenState}{t':Nat}{d':Drawn}{ch:List Addr}(I:QE s)(u:JhL ch H H' h')(g:Jf3 H' h')(t:AllBare g')
    (f:∀b∈ch,(b∈X.ex∨XU b)∧Jak b∧(∀x c,Jj x c→c≠b)∧∀p∈X.pn++pins,p.1≠b) :
    Inv X pins σ H' { s with heap:=h',gens:=g',drawn:=d',toks:=t' }:=by
  obtain⟨m,⟨o,es,ep,k,r⟩,_⟩:=id I.loc;obtain⟨y,h⟩:=u.any k I.free λz=>(f _ z).2.1 rfl;exact I.step f (λb o h v a e n=>u.keep b o e n (λz=>(List.mem_cons.mp (I.stkSub b z)).elim h v) a) (λb o _ _ a e n=>u.any e n a) (λb o a e n=>u.free b o e n a) (λb o a e=>u.there b o e a) u.tups u.frzs u.tbls (λB q=>by obtain⟨A,i,j,d,l⟩:=q;rw[k]at d;cases d;exact⟨_,i,j,h,l⟩) g t
def Inv.turned {t':Nat}{it:Addr}(I:QE s)(k:∀b o,b≠it→s.heap.get? b=some o→h'.get? b=some o)(h:Vn it)(f:Jak it)
    (w:it∈X.ex∨XU it)(t:∀x c,Jj x c→c≠it)(l:∀p∈X.pn++pins,p.1≠it):QE { s with heap:=h',toks:=t' }:=by
  have d:∀b u,Jlr u→b≠it:=λb u e z=>by rw[z,h]at e;cases e
  refine I.step (g':=s.gens) (d':=s.drawn) (ch:=[it]) (λb j=>?_) (λb o _ _ a e _=>k b o (λz=>a (by simp [z])) e) (λb o _ _ a e _=>⟨o.slots,k b o (λz=>a (by simp [z])) e⟩) (λ_ _ _ _ n=>n)
    (λb o a e=>⟨o,k b o (λz=>a (by simp [z])) e⟩) (λ_ _ e=>e) (λ_ _ _ e=>e) (λb ps e=>⟨#[],by rw[e];simp⟩) (λm i=>?_) (λb u e=>?_) I.bare
  · have e:b=it:=by simpa using j
    subst e;exact⟨w,f,t,l⟩
  · obtain⟨o,es,ep,g,r⟩:=i;exact⟨o,es,ep,k _ o (Ne.symm f) g,r⟩
  · refine(Jj5 b u).stay (λc v a q=>k c v ?_ q) (λ_ q=>q) λ_ _ q=>q;lia
def Inv.tok (I:QE s)(t):QE { s with toks:=t }:=I.un (h':=s.heap) (t':=t) Un.refl I.hok
def Inv.kept (I:QE s)(k:∀b u,s.heap.get? b=some u→h'.get? b=some u):QE { s with heap:=h',toks:=t' }:=I.un (Un.kept k) (I.hok.kept k)
def Inv.laid (I:QE s)(k:∀b u,s.heap.get? b=some u→h'.get? b=some u)(d:Jch a)(c:JcP (JiW a) h' a o) :
    Inv X pins σ (JiW a) { s with heap:=h',toks:=t' }:=I.un (Un.laid k d (I.hok.fresh d)) (I.hok.laid k d c)
def Inv.write (I:QE s)(d:Mut (H x))(f:e=x∨Jg1 e x)(k:∀b u,b≠e→s.heap.get? b=some u→h'.get? b=some u)(a:∃u,h'.get? e=some u)
    (c:JcP (JiW x) h' x o):Vy (JiW x) { s with heap:=h',toks:=t' }:=I.un (Un.write d f k a) (I.hok.write d f k a c)
def Inv.pins_of (I:QE s)(h:∀p∈pins',s.heap.get? p.1=some p.2∧Vn p.1∧Jak p.1∧p.1∉X.fs∧∀v,p.2.data≠.cell v):JjZ pins' σ :=
  ⟨I.ok,I.os,I.bare,I.base,I.loc,I.cell,I.free,I.freeC,λp a=>(mPq a).elim (λz=>JiG (Qc z)) (h p),I.hok,I.len⟩
def sW {N:List Str}(c:N.Nodup){i j:Nat}{x:Str}(a:N[i]?=some x)(b:N[j]?=some x):i=j:=by obtain⟨g,e⟩:=gEq a;obtain⟨f,d⟩:=gEq b;exact(List.getElem_inj c).mp (e.trans d.symm)
def oZ {M:Model}{A:Around}{E:Value→Shared→Prop}{i:Nat}{x:Str}{v:V}{u:Value}{Q:Unit→Shared→Prop}(I:QE s)(hN:X.N.Nodup)(R:X.N[i]?=some x)(t:Ja7 x)(r:Jeb v)
    (h:∀s',Xc X (σ.set i (some v)) H s'→(∃a,XZ a s'.heap∧(a=X.env.locals∨Jj x a))→Q () s')(hf:Jdz x∨X.env.scope.names.lookup x=some .local:=by first | exact .inl rfl | exact .inr rfl | assumption):wpAny M A (storeName X.env x u) Q E s:=by
  obtain⟨m,hn,hl⟩:=id I.loc;have S:Q9 (X.env.scope.kind == .class||(X.env.scope.kind == .module&&X.env.locals != X.env.globals)):=by rw[I.ok.kind];rfl
  have F:i < σ.length:=by rw[I.len];exact(gEq R).1
  have L:=I.cne;have f:∀ {a:Addr} {h':Heap},(∃o,s.heap.get? a=some o∧Vn a)→XZ a h'→HOk X.prog X.w H h':=λ{a h'} ha hs b ob e=>by
    obtain⟨_,_,B⟩:=ha;refine(Jj5 b ob).stay (λc W l q=>(hs.2 c ?_).trans q) (λ_ q=>q) λ_ _ q=>q;lia
  rcases t with D | D
  · refine wpAny_storeName_local D hn (λh' hn' hs=>?_) S;obtain⟨oL,_,_,hoL,_⟩:=id hn;refine h _ ⟨I.ok,I.os,I.bare,⟨λb o e n K t=>?_,λb o e n K t=>?_,I.base.free,λb o e t=>?_,I.base.tups,I.base.frzs,I.base.tbls⟩,Jlc hn' (λj y v' g C e3=>?_),λy c e=>?_,I.free,I.freeC,λp hp=>?_,f ⟨oL,hoL,I.free⟩ hs,by simpa using I.len⟩ (Jlc hs (.inl rfl))
    · exact(hs.2 b (Jih e)).trans (I.base.keep b o e n K t)
    · obtain⟨sl,g⟩:=I.base.slot b o e n K t;exact⟨sl,(hs.2 b (Jih e)).trans g⟩
    · obtain⟨o',g⟩:=Ji_ o e t;exact⟨o',(hs.2 b (Jih e)).trans g⟩
    · by_cases G:j=i
      · subst G;rw[R]at g;cases g;rw[List.getElem?_set_self F]at C;cases C;exact⟨u,r,Jo D (by simp)⟩
      · rw[List.getElem?_set_ne (Ne.symm G)]at C;obtain⟨u',r',q⟩:=hl j y v' g C e3;refine Qk u' r';rcases q with ⟨k,e⟩ | ⟨k,c,e,z⟩
        · refine Jo k ?_;have:y≠x:=λe=>G (sW hN g (e ▸ R));simp [this,e]
        · exact .inr ⟨k,c,e,z.sameBut hs (L y c e)⟩
    · obtain⟨W,z⟩:=Ji9 y e;exact⟨W,z.sameBut hs (L y c e)⟩
    · obtain⟨e,n,Y,nf,d⟩:=JiG hp;exact⟨(hs.2 p.1 Y).trans e,n,Y,nf,d⟩
  · have J:Jdz x:=by
      lia
    obtain⟨c,l⟩:=I.ok.has x (.inl D);obtain⟨W,z⟩:=Ji9 x l;refine wpAny_storeName_cell I.ok.kind D l z (λh' U hs=>?_);obtain⟨oc,P,O⟩:=id z;refine h { s with heap:=h' } ⟨I.ok,I.os,I.bare,⟨λb o e n K t=>?_,λb o e n K t=>?_,I.base.free,λb o e t=>?_,I.base.tups,I.base.frzs,I.base.tbls⟩,⟨m,hn.sameBut hs (Ne.symm (L x c l)),λj y v' g C e3=>?_⟩,λy Z e=>?_,I.free,I.freeC,λp hp=>?_,f ⟨oc,P,Jg9 c l⟩ hs,by simpa using I.len⟩ ⟨c,hs,.inr l⟩
    · exact(hs.2 b (X8 e (I.ok.cab x c J l))).trans (I.base.keep b o e n K t)
    · obtain⟨sl,g⟩:=I.base.slot b o e n K t;exact⟨sl,(hs.2 b (X8 e (I.ok.cab x c J l))).trans g⟩
    · obtain⟨o',g⟩:=Ji_ o e t;exact⟨o',(hs.2 b (X8 e (I.ok.cab x c J l))).trans g⟩
    · by_cases G:j=i
      · subst G;rw[R]at g;cases g;rw[List.getElem?_set_self F]at C;cases C;exact⟨u,r,JcK (.inl D) c l U⟩
      · rw[List.getElem?_set_ne (Ne.symm G)]at C;obtain⟨u',r',q⟩:=hl j y v' g C e3;refine Qk u' r';rcases q with q | ⟨k,Z,e,z'⟩
        · exact .inl q
        · refine JcK k Z e (z'.sameBut hs ?_);rintro rfl;exact G (sW hN g (I.ok.inj _ _ _ e l ▸ R))
    · by_cases T:Z=c
      · subst T;exact Jgo U
      · obtain⟨w2,z2⟩:=I.cell y Z e;exact⟨w2,z2.sameBut hs T⟩
    · obtain⟨e,n,Y,nf,d⟩:=JiG hp;refine⟨(hs.2 p.1 ?_).trans e,n,Y,nf,d⟩;intro q;rw[q,P]at e;have q':=Option.some.inj e;exact d W (by rw[←q'];exact O)
def o_ (I:QE s)(d:X.N.Nodup)(b:X.N[i]?=some x)(a:Ja7 x)(r:Jeb v)
    (h:∀s',Xc X (σ.set i (some v)) H s'→Q () s')(c:Jdz x∨X.env.scope.names.lookup x=some .local:=by first | exact .inl rfl | exact .inr rfl | assumption):wpAny M A (storeName X.env x u) Q E s :=
  oZ I d b a r (λs' e _=>h s' e) c
def Inv.call' (I:QE s)(g:s'.os=s.os)(u:JhL ch H H' s'.heap)(a:Jf3 H' s'.heap)(h:AllBare s'.gens)
    (d:∀b∈ch,(b∈X.ex∨XU b)∧Jak b∧(∀x c,Jj x c→c≠b)∧∀p∈X.pn++pins,p.1≠b):Vy H' s':=by obtain⟨h',g',d',t',f⟩:=s';have e:=g;subst e;exact I.call (g':=g') (t':=t') (d':=d') u a h d
end
abbrev XK:=Value→Option Addr→Hp→Prop
abbrev St:=List (Option V)
abbrev VK:=V→Hp→Prop
abbrev TE:=St→Hp→VK→Prop
abbrev TT:=St→Hp→(Bool→Hp→Prop)→Prop
abbrev TA:=St→Hp→(List V→Hp→Prop)→Prop
structure ir where
  nx:St→Hp→Prop
  rt:VK
  bk:St→Hp→Prop:=λ_ _=>False
  ct:St→Hp→Prop:=λ_ _=>False
abbrev TS:=ir→St→Hp→Prop
def EP (X:Cx)(a:List (Addr × Obj))(b:St)(Q:VK)(u:Value)(s':Shared):Prop:=∃v H',JkP a b∧Jeb v∧Q v H'
def TP (X:Cx)(a:List (Addr × Obj))(c:St)(Q:Bool→Hp→Prop)(b:Bool)(s':Shared):Prop:=∃H',JkP a c∧Q b H'
def AP (X:Cx)(a:List (Addr × Obj))(b:St)(Q:List V→Hp→Prop)(us:List Value)(s':Shared):Prop:=∃vs H',JkP a b∧JbM vs∧Q vs H'
def SP (X:Cx)(b:List (Addr × Obj))(D:ir)(f:Flow)(s':Shared):Prop :=
  match f with
  | .next=>∃a H',JkP b a∧D.nx a H'
  | .brk=>∃a H',JkP b a∧D.bk a H'
  | .cont=>∃a H',JkP b a∧D.ct a H'
  | .ret u=>∃v a H',JkP b a∧Jeb v∧D.rt v H'
def PE (X:Cx)(e:Expr)(t:TE):Prop :=
  ∀a s (b:St) H Q,Jj0 b→t b H Q→JaY (Jf e) (EP X a b Q) s
def PT (X:Cx)(e:Expr)(t:TT):Prop :=
  ∀a s (b:St) H Q,Jj0 b→t b H Q→JaY (isTrue e X.env (Jf e)) (TP X a b Q) s
def PW (X:Cx)(e:Expr)(t:TT):Prop :=
  ∀b a s (c:St) H Q,Jj0 c→t c H Q→JaY (isTrue e X.env b) (TP X a c Q) s
def PW.pt (h:PW X e t):PT X e t:=h _
def PA (X:Cx)(es:List Expr)(t:TA):Prop :=
  ∀c a s (b:St) H Q,Jj0 b→t b H Q→JaY (spliced (XF c es)) (AP X a b Q) s
def PS (X:Cx)(st:Stmt)(t:TS):Prop :=
  ∀a s (b:St) H D,Jj0 b→t D b H→JaY (exec st X.env) (SP X a D) s
def PSs (X:Cx)(st:List Stmt)(t:TS):Prop :=
  ∀a s (b:St) H D,Jj0 b→t D b H→JaY (execs st X.env) (SP X a D) s
def thn (h:wpAny M A t Q E s)(b:∀a s,Q a s→Q' a s):wpAny M A t Q' E s:=wpAny_mono h b λ_ _ x=>x
section
variable {X:Cx}
inductive tVar (i:Nat):TE|m{σ H Q} v:σ[i]?=some (some v)→Q v H→tVar i σ H Q
def tC (v:V):TE:=λ_ H Q=>Q v H
def pe_var (w:X.N[i]?=some x)(o:JdC x)(g:Q9 (x == ("__debug__":Str)):=by decide)(j:Q9 (x == ("__classdict__":Str)):=by decide):QG (X1 pos) (tVar i):=by
  intro f s n H Q I h;obtain⟨v,e,h⟩:=h;obtain⟨m,p,t⟩:=I.loc;obtain⟨u,r,l⟩:=t i x v w e o;have d:EP X f n Q u s:=⟨v,H,I,r,h⟩;rcases l with ⟨b,q⟩ | ⟨b,c,k,a⟩
  · exact wpAny_Name (wpAny_loadName_local I.ok.kind b p q d) g
  · rcases b with b | b
    · exact wpAny_Name (wpAny_loadName_cell I.ok.kind b k a d) g
    · exact wpAny_Name (wpAny_loadName_free I.ok.kind b k a d j) g
def ae:QG (Jja (.int i) j) (tC (.int i)):=λ_ _ _ H _ I h=>wpAny_Constant_int (JiC i H _ _ h)
def dk:QG (Jja (.bool b) j) (tC (.bl b)):=λ_ _ _ H _ I h=>Constant_bool (Jbr b H I h)
def eL:QG (Jja .none j) (tC .non):=λ_ _ _ H _ I h=>Constant_none (Jr .non H I h)
def bZ:QG (Jja (.str x) j) (tC (.str x)):=λ_ _ _ H _ I h=>Calls.Constant_str (Ja1 (.str x) H _ (Xr _) h)
def Gl (X:Cx)(x:Str):Prop:=Jz x .globalImplicit
def mw (I:QE s)(b:Gl X x)(a:Xa (X.mg x) u)(h:Q u s)
    (c:Q9 (x == ("__debug__":Str)):=by decide):JaX (Jf (X1 pos)) Q E s :=
  Calls.Name_function_global I.ok.kind b (Calls.loadGlobal_global (by rw[I.ok.glob];exact I.mod.glob.keeps I.bk) a h) c
def ff (I:QE s)(d:Gl X x)(c:JaU x)(a:JjU x u)(h:Q u s)
    (b:x≠"__name__":=by decide)(e:Q9 (x == ("__debug__":Str)):=by decide):JaX (Jf (X1 pos)) Q E s:=by obtain⟨i,g,f⟩:=I.mod.blt;exact Calls.Name_function_global I.ok.kind d (Calls.loadGlobal_builtin (by rw[I.ok.glob];exact I.mod.glob.keeps I.bk) c (by rw[I.ok.blt];exact g.keeps I.bk) ((f x b).trans a) h) e
def gY (b:Gl X x)(a:Xa (X.mg x) u)(r:Jeb v)(c:Q9 (x == ("__debug__":Str)):=by decide):QG (X1 pos) (tC v) :=
  λ_ _ _ H _ I h=>mw I b a ⟨v,H,I,r,h⟩ c
variable {a b:Expr} {ta tb:TE} {pos:Pos}
def PC (X:Cx)(op:CmpOp)(a b:Expr)(t:TE):Prop :=
  ∀c s (f:St) H Q,JjZ c f→t f H Q →
    wpAny (Qq X.w) X.A (Jf a) (λv e=>JaY (Jf b) (λu d=>JaY (compareOp op v u) (EP X c f Q) d) e) X.xe s
inductive isB:V→Hp→(Bool→Hp→Prop)→Prop|m{x H Q} c:x=.bl c→Q c H→isB x H Q
def tB (t:TE):TT:=λc H Q=>t c H λx d=>isB x d Q
def eM (h:PC X op a b t)(f:Jee op b:=by first | exact nobehind _ (by decide) (by decide) | rfl):PT X (.Compare a [op] [b] pos) (tB t):=by intro e s g H Q I j;refine wpAny_isTrue_Compare1 (thn (h e s g H _ I j) λv r f=>thn f λu p k=>thn k λc o ⟨x,n,l,i,q1⟩=>?_) f;obtain⟨d,rfl,q⟩:=q1;cases i;exact JgO n l q
def gD (h:QG e t)(k:∀c,isTrue e X.env c=(do let v ←c;standAt e.pos;holding [v] (truthy v)):=by intro _;rfl):PT X e (tB t):=by intro f s g H Q I j;refine isTrue_plain (thn (h f s g H _ I j) λv o ⟨x,n,l,i,q1⟩=>?_) (k _);obtain⟨d,rfl,q⟩:=q1;cases i;exact JgO n l q
variable {tA tB':TT} {rest:List Expr}
def tAnd (t u:TT):TT:=λd H Q=>t d H λc e=>if Qu c then u d e Q else Q false e
def tOr (t u:TT):TT:=λd H Q=>t d H λc e=>if Qu c then Q true e else u d e Q
def tNot (t:TT):TT:=λd H Q=>t d H λc e=>Q (!c) e
def fx (g:PT X a tA):PW X (JbZ .And [a]) tA:=by
  intro i d s f H Q I h;refine isTrue_and (thn (g d s f H Q I h) λc j e=>?_);cases c with
  | true=>exact isTrue_and_nil e
  | false=>exact e
def iR (g:PT X a tA):PW X (JbZ .Or [a]) tA:=by
  intro i d s f H Q I h;refine isTrue_or (thn (g d s f H Q I h) λc j e=>?_);cases c with
  | false=>exact isTrue_or_nil e
  | true=>exact e
def fg (l:PT X a tA)(k:PW X (JbZ .And (b :: rest)) tB'):PW X (JbZ .And (a :: b :: rest)) (tAnd tA tB'):=by
  intro i d s e H Q I h;refine isTrue_and (thn (l d s e H _ I h) λc j ⟨g,f,q1⟩=>?_);cases c with
  | true=>exact k i d j e g Q f q1
  | false=>exact⟨g,f,q1⟩
def iS (l:PT X a tA)(k:PW X (JbZ .Or (b :: rest)) tB'):PW X (JbZ .Or (a :: b :: rest)) (tOr tA tB'):=by
  intro i d s e H Q I h;refine isTrue_or (thn (l d s e H _ I h) λc j ⟨g,f,q1⟩=>?_);cases c with
  | true=>exact⟨g,f,q1⟩
  | false=>exact k i d j e g Q f q1
def ju (f:PT X a tA):PT X (.UnaryOp .Not a pos) (tNot tA):=by intro d s e H Q I h;exact isTrue_not (f d s e H (λc g=>Q (!c) g) I h)
def tAndV (ta tb:TE):TE:=λd H Q=>ta d H λx e=>∃c,x=.bl c∧if Qu c then tb d e Q else XR false e
def sX (h:QG a t):QG (JbZ op [a]) t:=λc s d H Q I e=>BoolOp_one (h c s d H Q I e)
def pb (l:JjW a)(k:QG (JbZ .And (b :: rest)) tb):QG (JbZ .And (a :: b :: rest)) (tAndV ta tb):=by
  intro d s e H Q I h;refine BoolOp_and (thn (l d s e H _ I h) λv i ⟨x,g,f,j,q1⟩=>?_);obtain⟨c,rfl,q1⟩:=q1;cases j;refine wpAny_truthy_bool ?_;cases c with
  | true=>exact k d i e g Q f q1
  | false=>exact Jbr false g f q1
def tIf (t:TT)(ta tb:TE):TE:=λd H Q=>t d H λc e=>if Qu c then ta d e Q else tb d e Q
def iu (k:PT X c tA)(n:JjW a)(l:QG b tb):QG (.IfExp c a b pos) (tIf tA ta tb):=by
  intro e s f H Q I h;refine wpAny_IfExp (thn (k e s f H _ I h) λd g ⟨j,i,q1⟩=>?_);cases d with
  | true=>exact n e g f j Q i q1
  | false=>exact l e g f j Q i q1
end
def SqL (K:PySem.W.Frag)(H:Hp)(a:Addr)(xs:List V):Prop :=
  Rd H a (.lst xs) ∨
    ∃o b n,J8 a o∧o.cls=.type "list"∧Qn o.dict∧o.data=.seq b n∧Ju b.size∧aM xs b.toList
def SqT (K:PySem.W.Frag)(H:Hp)(a:Addr)(xs:List V):Prop :=
  Rd H a (.tup xs) ∨
    ∃o b n,J8 a o∧(o.cls,o.dict)=(Value.type "tuple",none)∧o.data=.seq b n∧Ju b.size∧aM xs b.toList
noncomputable def absV:Value→Option V
  | .none=>some .non
  | .bool b=>some (.bl b)
  | .int i _=>Jb i
  | .str x _=>Jg_ x
  | .bytes b _=>some (.byt b)
  | .float b _=>some (.flt b)
  | .ref a=>Ja a
  | .type n=>some (.ty n)
  | _=>none
def aS.abs (r:Jeb x):absV u=some x:=by
  cases x with
  | non=>cases r;rfl
  | bl _=>cases r;rfl
  | int _=>obtain⟨t,rfl⟩:=r;rfl
  | str _=>obtain⟨t,rfl⟩:=r;rfl
  | byt _=>obtain⟨t,rfl⟩:=r;rfl
  | flt _=>obtain⟨t,rfl⟩:=r;rfl
  | ref _=>cases r;rfl
  | ty _=>cases r;rfl
def aS.inj (r:Jeb x)(q:Jeb y):x=y:=Option.some.inj (r.abs.symm.trans q.abs)
def aM.inj:∀ {xs ys:List V} {us:List Value},JbM xs→JbM ys→xs=ys
  | _,_,_,.nil,.nil=>rfl
  | _,_,_,JeY t,.cons a t'=>by rw[r.inj a,aM.inj t t']
section
variable {X:Cx} {pins:List (Addr × Obj)} {σ:St} {H:Hp} {s:Shared} {a:Addr} {xs ys:List V}
def SqL.of {K:PySem.W.Frag}(h:Jc2 a):Ja6 a:=Jj7 h
def SqT.of {K:PySem.W.Frag}(h:JaK a xs):JfB a:=Jj7 h
def Inv.list (I:QE s)(h:JgP H a xs):∃b:List Value,aM xs b∧PlainL s.heap a b.toArray∧Ju xs.length:=by
  rcases h with h | ⟨o,b,n,c,f,d,hs,hz,r⟩
  · obtain⟨z,b,n,r,e⟩:=h.ok I.hok;exact⟨b,r,⟨_,n,e,rfl,rfl,rfl⟩,z⟩
  · refine Jkw b.toList r ⟨o,n,I.kIn a o c,f,d,by simpa using hs⟩;have e:=r.length;simp only[Array.length_toList]at e;lia
def Inv.tupD (I:QE s)(h:JjC H a xs):∃b:List Value,aM xs b∧fw s.heap a b.toArray∧Ju xs.length:=by
  rcases h with h | ⟨o,b,n,c,d,hs,hz,r⟩
  · obtain⟨z,b,r,p⟩:=h.ok I.hok;exact⟨b,r,p,z⟩
  · refine Jkw b.toList r ⟨o,I.kIn a o c,d,n,by simpa using hs⟩;have e:=r.length;simp only[Array.length_toList]at e;lia
def Inv.tuple (I:QE s)(h:JjC H a xs):∃b:List Value,aM xs b∧Jdi a b.toArray∧Ju xs.length:=by obtain⟨b,r,p,z⟩:=I.tupD h;exact⟨b,r,p.up,z⟩
def Inv.list_inj (I:QE s)(h:JgP H a xs)(h':JgP H a ys):xs=ys:=by
  obtain⟨b,r,⟨o,n,e,_,_,d⟩,_⟩:=I.list h;obtain⟨its',f,⟨i,j,c,_,_,d'⟩,_⟩:=I.list h';rw[e]at c;cases c;rw[d]at d';injection d' with g _;have:b=its':=by simpa using JcT g
  subst this;exact r.inj f
def Inv.tuple_inj (I:QE s)(h:JjC H a xs)(h':JjC H a ys):xs=ys:=by
  obtain⟨b,r,⟨o,e,_,n,d⟩,_⟩:=I.tuple h;obtain⟨its',f,⟨i,c,_,j,d'⟩,_⟩:=I.tuple h';rw[e]at c;cases c;rw[d]at d';injection d' with g _;have:b=its':=by simpa using JcT g
  subst this;exact r.inj f
end
abbrev Cx.wish (X:Cx)(E:Value→Shared→Prop):Cx:={ X with xe:=E }
abbrev Cx.nox (X:Cx):Cx:=X.wish λ_ _=>False
def Cx.Ok.wish {X:Cx}(a:X.Ok)(E):(X.wish E).Ok :=
  ⟨a.mod,a.kind,a.glob,a.blt,a.above,a.inj,a.has,a.cab,a.hd,a.frames,a.stk,a.exf,a.bs,a.bsz,a.noex,a.exfs,a.funs,a.frf⟩
def Cx.Ok.unwish {X:Cx}{E:Value→Shared→Prop}(a:(X.wish E).Ok):X.Ok :=
  ⟨a.mod,a.kind,a.glob,a.blt,a.above,a.inj,a.has,a.cab,a.hd,a.frames,a.stk,a.exf,a.bs,a.bsz,a.noex,a.exfs,a.funs,a.frf⟩
section
variable {X:Cx} {pins:List (Addr × Obj)} {σ:St} {H:Hp} {s:Shared} {E:Value→Shared→Prop}
def Inv.wish (I:QE s)(E):Qm (X.wish E) H s:=⟨I.ok.wish E,I.os,I.bare,I.base,I.loc,I.cell,I.free,I.freeC,I.pin,I.hok,I.len⟩
def Inv.unwish (I:Qm (X.wish E) H s):QE s:=⟨I.ok.unwish,I.os,I.bare,I.base,I.loc,I.cell,I.free,I.freeC,I.pin,I.hok,I.len⟩
def SP.unwish (h:SP (X.wish E) pins D f s'):SP X pins D f s':=by
  cases f with
  | next=>obtain⟨a,H',I,q⟩:=h;exact⟨a,H',I.unwish,q⟩
  | brk=>obtain⟨a,H',I,q⟩:=h;exact⟨a,H',I.unwish,q⟩
  | cont=>obtain⟨a,H',I,q⟩:=h;exact⟨a,H',I.unwish,q⟩
  | ret u=>obtain⟨v,a,H',I,r,q⟩:=h;exact⟨v,a,H',I.unwish,r,q⟩
def PE.nox (h:PE X.nox e t):QG e t:=λpins s σ H Q I a =>
  wpAny_mono (h pins s σ H Q (I.wish _) a) (λ_ _ ⟨v,H',b,r,q⟩=>⟨v,H',b.unwish,r,q⟩) λ_ _ z=>False.elim z
def PT.nox (h:PT X.nox e t):PT X e t:=λpins s σ H Q I a =>
  wpAny_mono (h pins s σ H Q (I.wish _) a) (λ_ _ ⟨H',b,q⟩=>⟨H',b.unwish,q⟩) λ_ _ z=>False.elim z
def PSs.nox {st:List Stmt}{t:TS}(h:Jlf X.nox st):Jlf X st:=λpins s σ H D I a =>
  wpAny_mono (h pins s σ H D (I.wish _) a) (λ_ _ q=>q.unwish) λ_ _ z=>False.elim z
end
section
variable {X:Cx} {st:Stmt} {rest:List Stmt} {t u:TS} {e:Expr} {te:TE} {pos:Pos}
def tNext:TS:=λ⟨n,_,_,_⟩ a H=>n a H
def tSeq (t u:TS):TS:=λ⟨n,r,b,c⟩ a H=>t ⟨u ⟨n,r,b,c⟩,r,b,c⟩ a H
def aZ:PSs X [] tNext:=λ_ _ a H _ I h=>wpAny_execs_nil ⟨a,H,I,h⟩
def ad (i:PS X st t)(g:PSs X rest u):PSs X (st :: rest) (tSeq t u):=by
  intro a s c H D I h;refine wpAny_execs_cons (thn (i a s c H { D with nx:=u D } I h) λf d q=>?_);cases f with
  | next =>
    obtain⟨b,H',j,q⟩:=q;exact g a d b H' D j q
  | ret v=>exact q
  | brk=>exact q
  | cont=>exact q
def ak (c:PS X st t):Jlf X [st]:=by
  intro a s b H D I h;refine wpAny_execs_cons (thn (c a s b H D I h) λf d q=>?_);cases f with
  | next=>exact wpAny_execs_nil q
  | ret v=>exact q
  | brk=>exact q
  | cont=>exact q
def Inv.quiet (I:QE s):Q9 (interactive X.env):=by simp [interactive,I.ok.kind]
def tDrop (te:TE):TS:=λ⟨n,_,_,_⟩ a H=>te a H λ_ b=>n a b
def aY (c:QG e te)(hs:JkX e none=pure false:=by rfl):PS X (.Expr e pos) (tDrop te):=by intro a s b H D I h;exact wpAny_Expr_any (thn (c a s b H _ I h) λv g ⟨x,f,d,i,q1⟩=>⟨b,f,d,q1⟩) I.quiet hs
def tRet (te:TE):TS:=λ⟨_,r,_,_⟩ a H=>te a H r
def aI (d:QG e te):PS X (.Return (some e) pos) (tRet te):=by intro a s b H D I h;exact wpAny_Return_some (thn (d a s b H _ I h) λv i ⟨x,g,f,c,q1⟩=>⟨x,b,g,f,c,q1⟩)
def tRetN:TS:=λD _ H=>D.rt .non H
def xM:PS X (.Return none pos) tRetN:=λ_ _ a H _ I h=>wpAny_Return_none ⟨.non,a,H,I,rfl,h⟩
def tIfS (c:TT)(t u:TS):TS:=λD a H=>c a H λb d=>if Qu b then t D a d else u D a d
def ah (l:PT X c tc)(o:Jlf X a)(n:PSs X b u):PS X (.If c a b pos) (tIfS tc t u):=by
  intro f s g H D I h;refine wpAny_If (thn (l f s g H _ I h) λd i ⟨k,j,q1⟩=>?_);cases d with
  | true=>exact o f i g k D j q1
  | false=>exact n f i g k D j q1
end
abbrev TG:=V→St→Hp→(St→Hp→Prop)→Prop
abbrev TGs:=List V→St→Hp→(St→Hp→Prop)→Prop
def PG (X:Cx)(a:Expr)(t:TG):Prop :=
  ∀b s (d:St) H v u Q,JjZ b d→Jeb v→t v d H Q →
    wpAny (Qq X.w) X.A (assign a X.env u) (λ_ s'=>∃c H',JkP b c∧Q c H') X.xe s
def PGs (X:Cx)(ts:List Expr)(t:TGs):Prop :=
  ∀a s (c:St) H vs us Q,Jj0 c→JbM vs→t vs c H Q →
    wpAny (Qq X.w) X.A (assignInOrder ((JbE ts).map (·.2)) us) (λ_ s'=>∃b H',JkP a b∧Q b H') X.xe s
abbrev TSet:=V→V→V→Hp→(Hp→Prop)→Prop
def PSet (X:Cx)(t:TSet):Prop :=
  ∀a s (b:St) H o i v c d u Q,Jj0 b→aS o c→aS i d→Jeb v→t o i v H Q →
    wpAny (Qq X.w) X.A (setItem c d u) (λ_ s'=>∃H',JkP a b∧Q H') X.xe s
abbrev TIp:=V→V→Hp→VK→Prop
def PIp (X:Cx)(op:Operator)(t:TIp):Prop :=
  ∀a s (b:St) H x y v u Q,Jj0 b→aS x v→Jeb y→t x y H Q →
    wpAny (Qq X.w) X.A (inplaceOp op v u) (EP X a b Q) X.xe s
section
variable {X:Cx} {pos:Pos}
def gZ (i:Nat):TG:=λv a H Q=>Q (a.set i (some v)) H
def bj (e:X.N.Nodup)(c:X.N[i]?=some x)(b:Ja7 x)(d:Jdz x∨X.env.scope.names.lookup x=some .local:=by first | exact .inl rfl | exact .inr rfl | assumption):PG X (X1 pos) (gZ i):=by intro a s g H v u Q I r h;exact wpAny_assign_Name (o_ I e c b r (λs' f=>⟨_,H,f,h⟩) d)
def gNil:TGs:=λvs a H Q=>vs=[]∧Q a H
inductive gCons (t:TG)(u:TGs):TGs|m{vs σ H Q} v r:vs=v :: r→(t v σ H λσ' H'=>u r σ' H' Q)→gCons t u vs σ H Q
def ki:PGs X [] gNil:=by intro a s b H vs us Q I r h;obtain⟨e,h⟩:=h;subst e;cases r;exact assignInOrder_nil ⟨b,H,I,h⟩
def gF (i:PG X e t)(g:PGs X es u)
    (hs:(JbE (e :: es)).map (·.2)=Jf4 e :: (JbE es).map (·.2):=by rfl):PGs X (e :: es) (gCons t u):=by
  intro a s c H vs us Q I r h;obtain⟨v,n,j,h⟩:=h;subst j;cases r with
  | cons r f =>
    rw[hs];refine assignInOrder_cons (thn (i a s c H _ _ _ I r h) λ_ d ⟨b,l,k,q1⟩=>?_);exact g a d b l _ _ Q k f q1
inductive gTup (K:PySem.W.Frag)(n)(t:TGs):TG|m{v σ H Q} a xs:Xy v a→JfB a→Q8 n→t xs σ H Q→gTup K n t v σ H Q
def kj (y:Qu X.calm)(h:PGs X es t)
    (w:(JbE es).length=n:=by rfl)(f:(JbE es).findIdx? (·.1)=none:=by rfl):PG X (.Tuple es k pos) (gTup X.K n t):=by intro c s g H v u Q I r d;obtain⟨a,xs,z,q,x,d⟩:=d;subst z;cases r;obtain⟨j,i,p,hz⟩:=I.tuple q;refine assign_Tuple_tuple (I.ok.hd y) p (by simp [w,←x,i.length]) f λh' l=>?_;have A:=I.kept (t':=s.toks) λb o e=>l b o (V_ e) e;exact h c _ g H xs _ Q A (by simpa using i) d
def gSub (b c:TE)(t:TSet):TG:=λv a H Q=>b a H λo f=>c a f λi e=>t o i v e λd=>Q a d
def pg_sub (n:QG o to)(p:QG i ti)(hs:PSet X t)
    (q:∀v,assign (JeP o i) X.env v=(do
      let b ←holding [v] (Jf o)
      let c ←holding [v,b] (Jf i)
      standAt pos
      holding [v,b,c] (setItem b c v)
      release [v,b,c] []):=by intro _;rfl):PG X (JeP o i) (gSub to ti t):=by intro a s d H v u Q I r h;rw[q];refine Vu (thn (n a s d H _ I h) λb f ⟨x,D,A,j,q1⟩=>?_);refine Vu (thn (p a f d D _ A q1) λc e ⟨y,C,z,g,l⟩=>?_);refine JT (Vu (thn (hs a e d C x y v b c u _ z j g r l) λ_ E ⟨B,w,k⟩=>?_));exact wpAny_release ⟨d,B,w,k⟩
def tAsg (b:TE)(g:TG):TS:=λ⟨n,_,_,_⟩ a H=>b a H λx c=>g x a c n
def ps_asg (j:QG e te)(i:PG X tg g)(hs:swapsWithSole [tg] e pos.line X.env=pure false:=by rfl)(f:swappedStores [tg] e X.env=pure none:=by rfl)
    (k:(JbE [tg]).map (·.2)=[Jf4 tg]:=by rfl):PS X (.Assign [tg] e pos) (tAsg te g):=by intro a s b H D I h;refine wpAny_Assign_stores (thn (j a s b H _ I h) λv c ⟨x,n,l,d,q1⟩=>?_) hs f;rw[k];exact thn (i a c b n x v _ l d q1) λ_ o q=>q
def az (k:X.N.Nodup)(f:X.N[i]?=some x)(d:Ja7 x)(j:QG e te)(hs:JkX e (some (X1 pos'))=pure false:=by rfl)(g:Jdz x∨X.env.scope.names.lookup x=some .local:=by first | exact .inl rfl | exact .inr rfl | assumption) :
    PS X (.Assign [X1 pos'] e pos) (tAsg te (gZ i)):=by intro a s b H D I h;refine wpAny_Assign_Name (thn (j a s b H _ I h) λv q ⟨y,o,n,c,q1⟩=>?_) hs;exact o_ n k f d c (λp l=>⟨_,o,l,q1⟩) g
inductive tAug (i)(te:TE)(ti:TIp):TS|m{D σ H} x:σ[i]?=some (some x)→(te σ H λy H1=>ti x y H1 λz H2=>D.nx (σ.set i (some z)) H2)→tAug i te ti D σ H
def ps_aug (P:X.N.Nodup)(p:X.N[i]?=some x)(n:Ja7 x)(M:QG e te)(F:PIp X op ti)(L:Jdz x∨X.env.scope.names.lookup x=some .local:=by first | exact .inl rfl | exact .inr rfl | assumption) :
    PS X (.AugAssign (X1 pos') op e pos) (tAug i te ti):=by
  intro a s o H D I h;obtain⟨v,Q,h⟩:=h;obtain⟨m,G,K⟩:=I.loc;have j:JdC x:=by rcases n with k | k;exact .inl k;exact Jj8 k
  obtain⟨u,r,l⟩:=K i x v p Q j;refine wpAny_AugAssign_Name ?_;have q:JaY (Jf e) (λw g=>JaY (inplaceOp op u w) (λr f=>JaY (storeName X.env x r) (λ_=>SP X a D .next) f) g) s:=by refine thn (M a s o H _ I h) λw t ⟨y,W,T,C,q1⟩=>?_;refine thn (F a t o W v y u w _ T r C q1) λz s2 ⟨Y,U,S,B,E⟩=>?_;exact o_ S P p n B (λZ R=>⟨_,U,R,E⟩) L
  rcases l with ⟨b,J⟩ | ⟨b,c,O,d⟩
  · exact wpAny_loadName_local I.ok.kind b G J q
  · rcases b with b | b
    · exact wpAny_loadName_cell I.ok.kind b O d q
    · rcases n with k | k
      · have:X.env.scope.names.lookup x=some .free:=b;rw[k]at this;cases this
      · have:X.env.scope.names.lookup x=some .free:=b;rw[k]at this;cases this
inductive ipI (f:Int→Int→Int):TIp|m{x y H Q} i j:Jhz x i→Jhz y j→VI (f i j) H→ipI f x y H Q
def ip_add:PIp X .Add (ipI λi j=>i+j):=by intro a s f H x y v u Q I c b h;obtain⟨i,j,e,d,q⟩:=h;subst e;subst d;obtain⟨t,rfl⟩:=c;obtain⟨t',rfl⟩:=b;exact iadd_int (JiC _ H _ _ q)
def tWhile (c:TT)(g:TS):TS:=λD a H=>∃W:Nat→St→Hp→Prop,(∃m,W m a H)∧∀m a H,W m a H →
  c a H λb f=>if Qu b then ∃N:St→Hp→Prop,(∀d H',N d H'→∃e,e < m∧W e d H')∧g { D with nx:=N,ct:=N,bk:=D.nx } a f else D.nx a f
def jv (u:PassesOwn (Qq X.w) X.A X.env X.xe)(L:PT X c tc)(M:PSs X body tb):PS X (.While c body [] pos) (tWhile tc tb):=by
  intro d s C H D I h;obtain⟨W,⟨K,F⟩,i⟩:=h;refine wpAny_While (codeAny_whileLoop (λn s'=>∃g H',JkP d g∧W n g H') ?_ K ⟨C,H,I,F⟩);rintro n J ⟨e,B,O,E⟩;refine wpAny_passesOwn u (thn (L d J e B _ O (i n e B E)) λb G ⟨z,y,l⟩=>?_);cases b with
  | true =>
    obtain⟨N,x,l⟩:=l;rw[if_pos rfl];refine wpAny_passesOwn u (thn (M d G e z _ y l) λf P k=>?_);cases f with
    | next =>
      obtain⟨a,j,t,p⟩:=k;obtain⟨q,r,o⟩:=x a j p;exact⟨q,r,a,j,t,o⟩
    | cont =>
      obtain⟨a,j,t,p⟩:=k;obtain⟨q,r,o⟩:=x a j p;exact⟨q,r,a,j,t,o⟩
    | brk=>exact k
    | ret v=>exact k
  | false =>
    rw[if_neg Bool.false_ne_true];exact wpAny_execs_nil ⟨e,z,y,l⟩
end
structure It where
  go:Nat→Hp→Prop
  yld:Nat→Hp→V→Hp→Prop
  stop:Nat→Hp→Prop
def de (X:Cx)(a:List (Addr × Obj))(H:Hp)(b:Addr):Prop :=
  H b=none∧Jak b∧b∉X.fs∧(b∈X.ex∨XU b)∧(∀x c,Jj x c→c≠b)∧∀p∈X.pn++a,p.1≠b
def Inv.fpOk (I:QE s)(a:Jch b)(f:JbK b):de X pins H' b:=by
  refine⟨f,Nat.ne_of_gt (Nat.lt_of_lt_of_le I.lt a),I.nofs a,.inr (Nat.le_trans I.sz a),λx c e z=>?_,λp d z=>?_⟩
  · obtain⟨v,q⟩:=Ji9 x e;exact absurd (Nat.lt_of_lt_of_le q.lt (by rw[z];exact a)) (Nat.lt_irrefl _)
  · exact QV (Xq (JiG d).1 (by rw[z];exact a)) _
structure g_ (P)(w)(K:PySem.W.Frag)(tg)(J:It)(fp:List Addr)(it)(tn:Nat→Heap→Prop):Prop where
  mem:it∈fp
  obj:∀i h,tn i h→∀b∈fp,∃o,h.get? b=some o∧∀v,o.data≠.cell v
  keep:∀i h h',tn i h→(∀b∈fp,∀o,h.get? b=some o→h'.get? b=some o)→tn i h'
  item:∀(X),X.prog=P→X.w=w→X.K=K→Qu X.calm→∀(i) (pins) (s) (σ:St) (H) (E),QE s→(∀b∈fp,de X pins H b)→tn i s.heap→J.go i H →
    wpAny (Jhy P) X.A (Jdj it) (λr s1=>∃u,Xa r u ∧
      Vb P w X.A (letOwnedTupleGo tg (.ref it) u) (λ_ s2=>∃x H',Vy H' s2∧Jeb x∧JgQ H x H'∧tn (i+1) s2.heap∧∀b∈fp,JbK b) E s1) E s
  done:∀(X),X.prog=P→X.w=w→X.K=K→Qu X.calm→∀(i) (pins) (s) (σ:St) (H) (E),QE s→(∀b∈fp,de X pins H b)→tn i s.heap→Jgq H →
    wpAny (Jhy P) X.A (Jdj it) (λr s1=>Qn r∧QE s1) E s
  self:∀(A) (i) (s) (Q) (E),tn i s.heap→Xg it s→Vb P w A (pyIter (.ref it)) Q E s
abbrev TI:=St→Hp→(It→Hp→Prop)→Prop
def PIE (X:Cx)(a:List (Addr × Obj))(g:St)(h:Expr)(R:It→Hp→Prop)(c:Value)(e:Shared):Prop :=
  ∃it f d J H',Xy c it∧JkO a g e∧g_ X.prog X.w X.K h J f it d∧d 0 e.heap∧(∀b∈f,de X a H' b)∧R J H'
def PI (X:Cx)(e b:Expr)(d:TI):Prop :=
  ∀a s (c:St) H R,Jj0 c→d c H R →
    wpAny (Qq X.w) X.A (Jf b) (λv f=>JaY (pyIter v) (PIE X a c e R) f) X.xe s
def iT (b:s.heap.get? it=some o)(e:o.cls=.type n)(d:o.data=.fields vs)
    (c:["enumerate","zip","dict_itemiterator","dict_reverseitemiterator","odict_iterator","itertools.zip_longest","itertools.pairwise"].contains n=false)(a:Q () s):wpAny M A (letOwnedTupleGo tg (.ref it) u) Q E s:=by
  cases tg <;> first
    | exact wpAny_pure a
    | (cases u <;> first
        | exact wpAny_pure a
        | (refine wpAny_bind (wpAny_load b ?_)
           rw[e,d];show wpAny M A (if(["enumerate","zip","dict_itemiterator","dict_reverseitemiterator","odict_iterator","itertools.zip_longest","itertools.pairwise"].contains n&&vs[0]? == some (rawInt _))=true then _ else _) Q E s
           rw[if_neg (by intro h;rw[c,Bool.false_and]at h;cases h)];exact wpAny_pure a))
def Itl (K:PySem.W.Frag)(a:Addr):It :=
  ⟨λi H=>∃xs x,Ja6 a∧xs[i]?=some x,λi H x H'=>H'=H∧∀xs,Ja6 a→xs[i]?=some x,λi H=>∃xs,Ja6 a∧Jha i⟩
def Itt (K:PySem.W.Frag)(a:Addr):It :=
  ⟨λi H=>∃xs x,JfB a∧xs[i]?=some x,λi H x H'=>H'=H∧∀xs,JfB a→xs[i]?=some x,λi H=>∃xs,JfB a∧Jha i⟩
def Itr (lo:Int)(n:Nat):It:=⟨λi _=>i < n,λi H x H'=>H'=H∧Jhz x (lo+i),λi _=>n≤i⟩
def sY {P:Program}{w:World}{K:PySem.W.Frag}{O:Expr}(a it):g_ P w K O (Itl K a) [it] it (λi h=>JhQ it a) where
  mem:=by simp
  obj:=λi h st b g=>by
    have e:b=it:=by simpa using g
    subst e;obtain⟨o,e,c,d⟩:=st;exact JjB (λv z=>by rw[d]at z;cases z)
  keep:=λi h h' st k=>st.at λo e=>Jao it o e
  item:=by intro X B y C N i f s M H E I n st A;subst B y C;obtain⟨xs,x,l,t⟩:=A;obtain⟨r,q,p,hz⟩:=I.list l;obtain⟨u,T,R⟩:=q.get t;obtain⟨L,J,U,G,F,D⟩:=n it (by simp);refine wpAny_pyNext_list_item st p.isList (by simpa using T) λh' j Q=>?_;have Z:=I.turned (t':=s.toks) (λb o g e=>(Q.2 b g).trans e) L J G F D;obtain⟨o,e,c,d⟩:=id j;exact Vg u (Jcx e c d ⟨x,H,Z,R,Jbe (λys S=>by rw[I.list_inj S l];exact t),j,λb g=>(n b g).1⟩)
  done:=by intro X B y C N i f s M H E I n st A;subst B y C;obtain⟨xs,l,t⟩:=A;obtain⟨r,q,p,hz⟩:=I.list l;obtain⟨L,J,U,G,F,D⟩:=n it (by simp);have hl:=q.length;exact wpAny_pyNext_list_end (I.ok.hd N) st p.isList (by simp;lia) λh' Y=>JbC (t':=s.toks) (λb o g e=>Y b o g e) L J G F D
  self:=λ_ _ _ _ _ st h=>wpAny_pyIter_listiter st h
def sZ {P:Program}{w:World}{K:PySem.W.Frag}{O:Expr}(a it):g_ P w K O (Itt K a) [it] it (λi h=>h.IsTupleIter it a i) where
  mem:=by simp
  obj:=λi h st b j=>by
    have e:b=it:=by simpa using j
    subst e;obtain⟨o,e,c,d⟩:=st;exact JjB (λv z=>by rw[d]at z;cases z)
  keep:=λi h h' st k=>st.at λo e=>Jao it o e
  item:=by intro X B y C N i f s M H E I q st A;subst B y C;obtain⟨xs,x,n,t⟩:=A;obtain⟨g,r,p,hz⟩:=I.tuple n;obtain⟨u,T,R⟩:=r.get t;obtain⟨L,J,U,G,F,D⟩:=q it (by simp);refine wpAny_pyNext_tuple_item st (show JjD g.toArray from p) (by simpa using T) λh' l Q=>?_;have Z:=I.turned (t':=s.toks) (λb o j e=>(Q.2 b j).trans e) L J G F D;obtain⟨o,e,c,d⟩:=id l;exact Vg u (Jcx e c d ⟨x,H,Z,R,Jbe (λys S=>by rw[I.tuple_inj S n];exact t),l,λb j=>(q b j).1⟩)
  done:=by intro X B y C N i f s M H E I q st A;subst B y C;obtain⟨xs,n,t⟩:=A;obtain⟨g,r,p,hz⟩:=I.tuple n;obtain⟨L,J,U,G,F,D⟩:=q it (by simp);have hl:=r.length;exact wpAny_pyNext_tuple_end (I.ok.hd N) st (show JjD g.toArray from p) (by simp;lia) λh' Y=>JbC (t':=s.toks) (λb o j e=>Y b o j e) L J G F D
  self:=λ_ _ _ _ _ st h=>wpAny_pyIter_tupleiter st h
def xN {P:Program}{w:World}{K:PySem.W.Frag}{D:Expr}(it)(lo)(n):g_ P w K D (Itr lo n) [it] it (λi h=>IsRangeIter h it (lo+(i:Nat) * 1) ((n:Int) - (i:Nat)) 1) where
  mem:=by simp
  obj:=λi h st b c=>by
    have e:b=it:=by simpa using c
    subst e;exact Jlc st (λv z=>by have C:=z;cases C)
  keep:=λi h h' st k=>Jao it _ st
  item:=by intro X p g q l i a s B H E I f st j;subst p g q;obtain⟨A,y,J,x,u,r⟩:=f it (by simp);have W:=Walks.range (prog:=X.prog) (w:=X.w) (I.ok.hd l) it lo 1 n;refine W.item i s _ _ j st λv h' tk G d F=>?_;obtain⟨t,rfl⟩:=G;have M:JjY a B { s with heap:=h',toks:=tk }:=I.turned (λb o c e=>F b o (by simpa using c) e) A y x u r;refine V2 (Jcx d rfl rfl ⟨.int (lo+i),H,M,XE t,Xr rfl,d,λb c=>(f b c).1⟩);rw[Int.mul_one]
  done:=by intro X p g q l i a s B H E I f st j;subst p g q;obtain⟨A,y,J,x,u,r⟩:=f it (by simp);exact wpAny_pyNext_range_end (I.ok.hd l) st (by have:n≤i:=j;lia) λh' L=>JbC (t':=s.toks) (λb o c e=>L b o c e) A y x u r
  self:=λ_ _ _ _ _ st h=>wpAny_pyIter_rangeiter st h
section
variable {X:Cx} {tg:Expr}
inductive rItl (K:PySem.W.Frag):V→Hp→(It→Hp→Prop)→Prop|m{x H R} a:Jed a→(∃xs,Ja6 a)→R (Itl K a) H→rItl K x H R
inductive rItt (K:PySem.W.Frag):V→Hp→(It→Hp→Prop)→Prop|m{x H R} a:Jed a→(∃xs,JfB a)→R (Itt K a) H→rItt K x H R
def iList (K:PySem.W.Frag)(b:TE):TI:=λa H R=>b a H λx c=>rItl K x c R
def iTup (K:PySem.W.Frag)(b:TE):TI:=λa H R=>b a H λx c=>rItt K x c R
def cC {l:Expr}{g:TE}(r:QG l g):PI X tg l (iList X.K g):=by
  intro c s i H R I h;refine thn (r c s i H _ I h) λv d ⟨x,u,f,j,q1⟩=>?_;obtain⟨a,e,⟨xs,n⟩,q⟩:=q1;subst e;cases j;obtain⟨k,w,p,hz⟩:=f.list n;refine Jax p.isList;refine⟨d.heap.objs.size,[d.heap.objs.size],_,_,u,rfl,f.kept (t':=d.toks) λb o e=>XX e,sY a _,Ji0 (Heap.get?_push_size _ rfl),λb t=>?_,q⟩;have e:b=d.heap.objs.size:=by simpa using t
  subst e;exact JhA (nRq _) (nRq _)
def gc {l:Expr}{i:TE}(r:QG l i):PI X tg l (iTup X.K i):=by
  intro d s j H R I h;refine thn (r d s j H _ I h) λv c ⟨x,u,f,k,q1⟩=>?_;obtain⟨a,e,⟨xs,n⟩,q⟩:=q1;subst e;cases k;obtain⟨g,w,p,hz⟩:=f.tuple n;refine Jf5 (show c.heap.IsTuple a g.toArray from p);refine⟨c.heap.objs.size,[c.heap.objs.size],_,_,u,rfl,f.kept (t':=c.toks) λb o e=>XX e,sZ a _,Ji0 (Heap.get?_push_size _ rfl),λb t=>?_,q⟩;have e:b=c.heap.objs.size:=by simpa using t
  subst e;exact JhA (nRq _) (nRq _)
def s_ {c:List (Addr × Obj)}{d:St}{H:Hp}{s:Shared}{R:It→Hp→Prop}{E:Value→Shared→Prop}{lo a:Int}{t u v:Tok}{tk:Nat}(I:JjZ c d)(k:-(2 ^ 62)≤lo)(j:lo < 2 ^ 62)(i:-(2 ^ 62)≤a)(h:a < 2 ^ 62)
    (q:R (Itr lo (a - lo).toNat) H):JaX (pyIter (.ref s.heap.objs.size)) (PIE X c d tg R) E { s with heap:=s.heap.push { cls:=.type "range",data:=.fields #[Jcv lo,Jkv a,.int 1 v] },toks:=tk }:=by
  refine wpAny_pyIter_range (IsRange.new ..) (small_one k j i h) ?_;have f:JjY c d { s with heap:=s.heap.push { cls:=.type "range",data:=.fields #[Jcv lo,Jkv a,.int 1 v] },toks:=tk }:=I.kept λb o e=>XX e;refine⟨(s.heap.push { cls:=.type "range",data:=.fields #[Jcv lo,Jkv a,.int 1 v] }).objs.size,[(s.heap.push { cls:=.type "range",data:=.fields #[Jcv lo,Jkv a,.int 1 v] }).objs.size],_,_,H,rfl,f.kept (t':=tk) λb o e=>XX e,xN _ lo (a - lo).toNat,?_,λb g=>?_,q⟩
  · have n:lo+((0:Nat):Int) * 1=lo:=by simp
    have l:(((a - lo).toNat:Nat):Int) - ((0:Nat):Int)=Builtin.Range.rangeSize lo a 1:=by rw[rangeSize_one];split <;> lia
    rw[n,l];exact Heap.get?_push_size _ rfl
  · have e:b=(s.heap.push { cls:=.type "range",data:=.fields #[Jcv lo,Jkv a,.int 1 v] }).objs.size:=by simpa using g
    subst e;exact JhA (nRq _) (nRq _)
def iRng1 (b:TA):TI:=λa H R=>b a H λvs c=>∃j:Int,vs=Jgr j∧-(2 ^ 62)≤j∧j < 2 ^ 62∧R (Itr 0 j.toNat) c
def iRng2 (b:TA):TI:=λa H R=>b a H λvs c=>∃i j:Int,vs=JO i j∧(-(2 ^ 62)≤i∧i < 2 ^ 62∧-(2 ^ 62)≤j∧j < 2 ^ 62)∧R (Itr i (j - i).toNat) c
def fh {a:Expr}{d:TA}{p b:Pos}(n:Gl X "range")(l:JaU "range")(o:PA X [a] d)(hs:Qd [a]=[(false,Jf a)]:=by rfl):PI X tg (Jjs "range" p [a] b) (iRng1 d):=by
  intro c s f H R I h;refine Jd9 I n l boot_range (thn (o b c s f H _ I h) λus v ⟨vs,w,u,i,q1⟩=>?_) hs rfl;obtain⟨j,e,q1,k,q⟩:=q1;subst e;cases i with
  | cons r g =>
    cases g;obtain⟨t,rfl⟩:=r;exact call_range_1 (s_ u (by lia) (by lia) q1 k (by simpa using q))
def tf (w:Gl X "range")(v:JaU "range")(x:PA X [a,b] ta)(hs:Qd [a,b]=[(false,Jf a),(false,Jf b)]:=by rfl)(d:Qd [b]=[(false,Jf b)]:=by rfl) :
    PI X tg (Jjs "range" p [a,b] pos) (iRng2 ta):=by
  intro c s g H R I h;refine Jd9 I w v boot_range (thn (x pos c s g H _ I h) λus z ⟨vs,A,y,k,q1⟩=>?_) (by rw[hs,d]) (by rw[d];rfl);obtain⟨i,j,e,⟨q1,u,o,n⟩,q⟩:=q1;subst e;cases k with
  | cons r f =>
    cases f with
    | cons l f =>
      cases f;obtain⟨t,rfl⟩:=r;obtain⟨t',rfl⟩:=l;exact call_range_2 (s_ y q1 u o n q)
def tFor (e:TI)(g:TG)(f:TS):TS:=λD a H=>e a H λJ j=>∃W:Nat→Nat→St→Hp→Prop,(∃m,W 0 m a j)∧∀i m a H,W i m a H →
  (Jgq H∧D.nx a H)∨(J.go i H∧∃N:St→Hp→Prop,(∀b H',N b H'→∃d,d < m∧W (i+1) d b H')∧∀x H',JgQ H x H'→g x a H' λc h=>f { D with nx:=N,ct:=N,bk:=D.nx } c h)
noncomputable def jw (a:List Addr)(h:Heap):List (Addr × Obj):=a.filterMap λb=>(h.get? b).map λo=>(b,o)
def iv (a:b∈fp)(e:h.get? b=some o):(b,o)∈jw fp h:=List.mem_filterMap.mpr ⟨b,a,by rw[e];rfl⟩
def xO (a:p∈jw fp h):p.1∈fp∧h.get? p.1=some p.2:=by
  obtain⟨b,c,e⟩:=List.mem_filterMap.mp a;cases q:h.get? b with
  | none=>rw[q]at e;cases e
  | some o =>
    rw[q]at e;have d:=Option.some.inj e;subst d;exact⟨c,q⟩
def Inv.pinned (I:QE s)(h:∀b∈fp,de X pins H b)(g:∀b∈fp,∃o,s.heap.get? b=some o∧∀v,o.data≠.cell v):JjZ (pins++jw fp s.heap) σ :=
  I.pins_of λp f=>(mPq f).elim (λz=>JiG (Xb z)) λz=>by obtain⟨a,e⟩:=xO z;obtain⟨k,j,i,_⟩:=h p.1 a;obtain⟨o,c,d⟩:=g p.1 a;rw[e]at c;cases c;exact⟨e,k,j,i,d⟩
def Inv.unpinned (I:JjZ (pins++pl) σ):QE s:=I.pins_of λp a=>JiG (Xb (Qc a))
def bJ (K:PassesOwn (Qq X.w) X.A X.env X.xe)(hc:Qu X.calm)(hi:PI X tg iter wi)(hg:PG X tg g)(p:PSs X body tb)
    (hs:∀x,Jkq x=pure x:=by intro _;rfl):PS X (.For tg iter body [] pos) (tFor wi g tb):=by
  intro c s Z H D I h;refine wpAny_For (thn (hi c s Z H _ I h) λv s1 h1=>thn h1 λitv s2 h2=>?_) hs;obtain⟨it,M,tn,J,H2,e,I2,T,Q,f2,W,⟨m0,w0⟩,C⟩:=h2;subst e;have l:∀ {H':Hp},(∀b∈M,JbK b)→∀b∈M,de X c H' b:=λhn b p=>⟨hn b p,(f2 b p).2⟩;refine codeAny_forLoop_any (λn s'=>∃i k H',JkP c k∧tn i s'.heap∧(∀b∈M,JbK b)∧W i n k H') ?_ m0 ⟨0,Z,H2,I2,Q,λb p=>(f2 b p).1,w0⟩;rintro n s3 ⟨i,j,O,I3,F,L,w3⟩;rcases C i n j O w3 with ⟨E,qn⟩ | ⟨go,N,hN,step⟩
  · refine JcE (thn (T.done X rfl rfl rfl hc i c s3 j O X.xe I3 (l L) F E) λr s4 ⟨S,I4⟩=>?_);subst S;exact wpAny_execs_nil ⟨j,O,I4,qn⟩
  · refine JcE (thn (T.item X rfl rfl rfl hc i c s3 j O X.xe I3 (l L) F go) λr s4 ⟨u,S,h4⟩=>?_);subst S;refine JcE (thn h4 λ_ s5 ⟨x,H5,I5,r5,y5,B,U⟩=>?_);have Y:=I5.pinned (l U) (T.obj _ _ B);refine JcE (thn (hg _ s5 j H5 x u _ Y r5 (step x H5 y5)) λ_ s6 ⟨P,H6,I6,q6⟩=>?_);refine JcE (thn (p _ s6 P H6 _ I6 q6) λf R z=>?_);have q:∀ {a:St} {y:Hp},JK (c++jw M s5.heap) a y R→N a y→∃m,m < n∧∃i k H',JkO c k R∧tn i R.heap∧(∀b∈M,JbK b)∧W i m k H':=λ{a y} t G=>by obtain⟨m',hm,w7⟩:=hN a y G;refine⟨m',hm,i+1,a,y,t.unpinned,T.keep _ _ _ B λb p o e=>(t.pin (b,o) (Jix p e)).1,λb p=>?_,w7⟩;obtain⟨o,e,d⟩:=T.obj _ _ B b p;exact(t.pin (b,o) (Jix p e)).2.1
    cases f with
    | next=>obtain⟨a,y,t,G⟩:=z;exact q t G
    | cont=>obtain⟨a,y,t,G⟩:=z;exact q t G
    | brk=>obtain⟨a,y,t,z⟩:=z;exact⟨a,y,t.unpinned,z⟩
    | ret v=>obtain⟨x7,a,y,t,r7,z⟩:=z;exact⟨x7,a,y,t.unpinned,r7,z⟩
end
def xP {K:PySem.W.Frag}{a:Addr}{xs:List V}{g:TG}{k:TS}{D:ir}{b:St}{H:Hp}(c:Nat→St→Hp→Prop)(h0:c 0 b H)(o:∀i b H,i≤xs.length→c i b H→Ja6 a)
    (hs:∀i x b H,xs[i]?=some x→c i b H→g x b H λd j=>k { D with nx:=c (i+1),ct:=c (i+1),bk:=D.nx } d j)(s:∀b H,c xs.length b H→D.nx b H) :
    ∃W:Nat→Nat→St→Hp→Prop,(∃m,W 0 m b H)∧∀i m b H,W i m b H →
      ((Itl K a).stop i H∧D.nx b H)∨((Itl K a).go i H∧∃N:St→Hp→Prop,(∀f H',N f H'→∃l,l < m∧W (i+1) l f H')∧∀x H',(Itl K a).yld i H x H'→g x b H' λd j=>k { D with nx:=N,ct:=N,bk:=D.nx } d j):=by
  refine Qk (λi m b H=>m=xs.length - i∧i≤xs.length∧c i b H) (JlK xs.length _ h0);rintro i m b H ⟨rfl,r,p⟩;have q:=o i b H r p;by_cases h:JdO i
  · refine JcK ⟨xs,xs[i],q,by simp [h]⟩ (c (i+1)) (λf H' n=>JC (xs.length - (i+1)) (by lia) h n) (λx H' y=>?_);obtain⟨e,y⟩:=y;subst e;exact hs i x b _ (y xs q) p
  · have e:Jlg i:=by lia
    subst e;exact Jo ⟨xs,q,nRq _⟩ (s b H p)
def fj {lo:Int}{n:Nat}{g:TG}{j:TS}{D:ir}{a:St}{H:Hp}(f:Nat→St→Hp→Prop)(h0:f 0 a H)
    (hs:∀i a H,i < n→f i a H→g (.int (lo+i)) a H λb h=>j { D with nx:=f (i+1),ct:=f (i+1),bk:=D.nx } b h)(o:∀a H,f n a H→D.nx a H) :
    ∃W:Nat→Nat→St→Hp→Prop,(∃m,W 0 m a H)∧∀i m a H,W i m a H →
      ((Itr lo n).stop i H∧D.nx a H)∨((Itr lo n).go i H∧∃N:St→Hp→Prop,(∀c H',N c H'→∃k,k < m∧W (i+1) k c H')∧∀x H',(Itr lo n).yld i H x H'→g x a H' λb h=>j { D with nx:=N,ct:=N,bk:=D.nx } b h):=by
  refine Qk (λi m a H=>m=n - i∧i≤n∧f i a H) (JlK n _ h0);rintro i m a H ⟨rfl,q,p⟩;by_cases d:i < n
  · refine JcK d (f (i+1)) (λc H' l=>JC (n - (i+1)) (by lia) d l) (λx H' y=>?_);obtain⟨e,y⟩:=y;subst e y;exact hs i a _ d p
  · have e:i=n:=by lia
    subst e;exact Jo (nRq _) (o a H p)
abbrev R2:=V→V→Hp→VK→Prop
def OpR (X:Cx)(f:Value→Value→Sem Value)(r:R2):Prop :=
  ∀a s (b:St) H x y v u Q,Jj0 b→aS x v→Jeb y→r x y H Q →
    wpAny (Qq X.w) X.A (f v u) (EP X a b Q) X.xe s
def UnR (X:Cx)(f:Value→Sem Value)(r:V→Hp→VK→Prop):Prop :=
  ∀a s (b:St) H x v Q,Jj0 b→aS x v→r x H Q →
    wpAny (Qq X.w) X.A (f v) (EP X a b Q) X.xe s
def dr (X:Cx)(f:Value)(r:List V→Hp→VK→Prop):Prop :=
  ∀a s (b:St) H xs us Q,Jj0 b→JbM xs→r xs H Q →
    wpAny (Qq X.w) X.A (call f us) (EP X a b Q) X.xe s
def tOp (r:R2)(c b:TE):TE:=λa H Q=>c a H λx e=>b a e λy d=>r x y d Q
def tUn (r:V→Hp→VK→Prop)(b:TE):TE:=λa H Q=>b a H λx c=>r x c Q
inductive rI (C:Int→Int→Prop)(g:Int→Int→V):R2|m{x y H Q} i j:Jhz x i→Jhz y j→C i j→Q (g i j) H→rI C g x y H Q
inductive rI0 (g:Int→Int→V):R2|m{x y H Q} i j:Jhz x i→Jhz y j→Q (g i j) H→rI0 g x y H Q
inductive rU (g:Int→V):V→Hp→VK→Prop|m{x H Q} i:Jhz x i→Q (g i) H→rU g x H Q
section
variable {X:Cx} {a b c:Expr} {ta tb tc:TE} {pos:Pos}
def binT (z:JjW a)(t:QG b tb){d:List (Addr × Obj)}{s:Shared}{e:St}{H:Hp}{R:V→V→Hp→Prop}(I:JjZ d e)
    (h:ta e H λx l=>tb e l λy g=>R x y g){Q:Value→Shared→Prop}{f:Value→Value→Sem Value}
    (r:∀v u k x y g,JK d e g k→aS x v→Jeb y→R x y g→JaY (f v u) Q k) :
    wpAny (Qq X.w) X.A (Jf a) (λv j=>JaY (Jf b) (λu i=>JaY (f v u) Q i) j) X.xe s:=by refine thn (z d s e H _ I h) λv n ⟨x,l,C,p,q1⟩=>?_;refine thn (t d n e l _ C q1) λu k ⟨y,g,B,o,q⟩=>?_;exact r v u k x y g B p o q
def aw (j:JaD X op r)(l:JjW a)(k:QG b tb):QG (.BinOp a op b pos) (tOp r ta tb):=by intro d s e H Q I h;exact wpAny_BinOp (binT l k I h λv u f x y o n i g q=>j d f e o x y v u Q n i g q)
def cc (i:UnR X (unaryOp op) r)(j:JjW a):QG (.UnaryOp op a pos) (tUn r ta):=by intro d s e H Q I h;exact UnaryOp_ (thn (j d s e H _ I h) λv f ⟨x,l,k,g,q1⟩=>i d f e l x v Q k g q1)
def opI {f:Value→Value→Sem Value}{C:Int→Int→Prop}{g:Int→Int→Int}
    (d:∀i j t u s Q E,C i j→Q (Jkx (g i j)) { s with toks:=s.toks+1 }→JaX (f (Jcv i) (Jkv j)) Q E s) :
    OpR X f (rI C λi j=>.int (g i j)):=by intro e s o H x y v u Q I l k h;obtain⟨i,j,rfl,rfl,n,q⟩:=h;obtain⟨t,rfl⟩:=l;obtain⟨t',rfl⟩:=k;exact d i j t t' s _ _ n (JiC (g i j) H _ _ q)
def opI0 {f:Value→Value→Sem Value}{g:Int→Int→Int}
    (d:∀i j t u s Q E,Q (Jkx (g i j)) { s with toks:=s.toks+1 }→JaX (f (Jcv i) (Jkv j)) Q E s) :
    OpR X f (rI0 λi j=>.int (g i j)):=by intro e s n H x y v u Q I l k h;obtain⟨i,j,rfl,rfl,q⟩:=h;obtain⟨t,rfl⟩:=l;obtain⟨t',rfl⟩:=k;exact d i j t t' s _ _ (JiC (g i j) H _ _ q)
def opB0 {f:Value→Value→Sem Value}{g:Int→Int→Bool}
    (d:∀i j t u s Q E,Q (.bool (g i j)) s→JaX (f (Jcv i) (Jkv j)) Q E s) :
    OpR X f (rI0 λi j=>.bl (g i j)):=by intro e s n H x y v u Q I l k h;obtain⟨i,j,rfl,rfl,q⟩:=h;obtain⟨t,rfl⟩:=l;obtain⟨t',rfl⟩:=k;exact d i j t t' s _ _ (Jbr (g i j) H I q)
def CDiv (i j:Int):Prop:=0 < j∧Jh7 j
def CMul (i j:Int):Prop:=(-(2 ^ 64) < i∧i < 2 ^ 64)∨(-(2 ^ 64) < j∧j < 2 ^ 64)
def CMul.ok (h:CMul i j):IntMulOk i j:=by
  rcases h with ⟨e,d⟩ | ⟨e,d⟩
  · exact .of_left (intBits_le_64 e d)
  · exact .of_right (intBits_le_64 e d)
def cD:JaD X .Add (rI0 λi j=>.int (i+j)):=opI0 λ_ _ _ _ _ _ _ q=>add_int q
def hC:JaD X .Sub (rI0 λi j=>.int (i - j)):=opI0 λ_ _ _ _ _ _ _ q=>sub_int q
def iU:JaD X .Mult (rI CMul λi j=>.int (i * j)):=opI λ_ _ _ _ _ _ _ d q=>mul_int q d.ok
def cF:JaD X .FloorDiv (rI CDiv λi j=>.int (i / j)):=opI λi j _ _ _ _ _ d q=>by have f:(0:Int) < j:=d.1;have e:Jh7 j:=d.2;exact floordiv_int (by lia) (by rw[Int.fdiv_eq_ediv_of_nonneg i (by lia)];exact q) (.inl (PyProof.noPylong_small (by lia)))
def bx:JaD X .Mod (rI (λ_ j=>0 < j) λi j=>.int (i % j)):=opI λi j _ _ _ _ _ d q=>by exact mod_int' (by lia) (by rw[Int.fmod_eq_emod_of_nonneg i (by lia)];exact q)
def unI {f:Value→Sem Value}{g:Int→Int}
    (d:∀i t s Q E,Q (Jkx (g i)) { s with toks:=s.toks+1 }→JaX (f (Jcv i)) Q E s) :
    UnR X f (rU λi=>.int (g i)):=by intro e s k H x v Q I j h;obtain⟨i,rfl,q⟩:=h;obtain⟨t,rfl⟩:=j;exact d i t s _ _ (JiC (g i) H _ _ q)
def cg:UnR X (unaryOp .USub) (rU λi=>.int (-i)):=unI λ_ _ _ _ _ q=>neg_int q
end
noncomputable def scal:V→V→Bool
  | .non,.non=>true | .non,.int _=>true | .int _,.non=>true | .non,.bl _=>true | .bl _,.non=>true | .non,.str _=>true | .str _,.non=>true
  | .int _,.int _=>true | .bl _,.bl _=>true | .str _,.str _=>true | .byt _,.byt _=>true
  | .int _,.str _=>true | .str _,.int _=>true | .bl _,.str _=>true | .str _,.bl _=>true
  | _,_=>false
def rEq:R2:=λx y H Q=>Qu (scal x y)∧XR (decide (x=y)) H
def rNe:R2:=λx y H Q=>Qu (scal x y)∧XR (!decide (x=y)) H
def tu:decide (JjG i j)=(i == j):=by rw[Bool.eq_iff_iff];simp
def tw:decide (V.bl i=V.bl j)=(i == j):=by rw[Bool.eq_iff_iff];simp
def tD:decide (V.str i=V.str j)=(i == j):=by rw[Bool.eq_iff_iff];simp
def tE:decide (V.byt i=V.byt j)=(i.toList == j.toList):=by rw[Bool.eq_iff_iff];cases i;cases j;simp
section
variable {X:Cx} {a b c:Expr} {ta tb tc:TE} {pos:Pos}
def bY (I:QE s)(q:XR k H)(e:k=k'):EP X pins σ Q (.bool k') s:=by subst e;exact Jbr k H I q
def ck:JA X .Eq rEq:=by
  intro f s g H x y v u Q I e d h;obtain⟨hs,q⟩:=h;cases x with
  | non =>
    cases e;cases y with
    | non=>cases d;exact PySem.EqNone.eq_none_none (Xz I q)
    | bl j=>cases d;exact PySem.EqNone.eq_none_bool (Xz I q)
    | int j=>obtain⟨t',rfl⟩:=d;exact PySem.EqNone.eq_none_int (Xz I q)
    | str j=>obtain⟨t',rfl⟩:=d;exact PySem.EqNone.eq_none_str (Xz I q)
    | _=>exact Qi (show Qu false from hs)
  | bl i =>
    cases e;cases y with
    | non=>cases d;exact PySem.EqNone.eq_bool_none (Xz I q)
    | bl j=>cases d;exact eq_bool (bY I q tw)
    | str j=>obtain⟨t',rfl⟩:=d;exact PySem.EqMixed.eq_bool_str (Xz I q)
    | _=>exact Qi (show Qu false from hs)
  | int i =>
    obtain⟨t,rfl⟩:=e;cases y with
    | non=>cases d;exact PySem.EqNone.eq_int_none (Xz I q)
    | int j=>obtain⟨t',rfl⟩:=d;exact eq_int (bY I q tu)
    | str j=>obtain⟨t',rfl⟩:=d;exact PySem.EqMixed.eq_int_str (Xz I q)
    | _=>exact Qi (show Qu false from hs)
  | str i =>
    obtain⟨t,rfl⟩:=e;cases y with
    | non=>cases d;exact PySem.EqNone.eq_str_none (Xz I q)
    | bl j=>cases d;exact PySem.EqMixed.eq_str_bool (Xz I q)
    | int j=>obtain⟨t',rfl⟩:=d;exact PySem.EqMixed.eq_str_int (Xz I q)
    | str j=>obtain⟨t',rfl⟩:=d;exact eq_str (bY I q tD)
    | _=>exact Qi (show Qu false from hs)
  | byt i =>
    obtain⟨t,rfl⟩:=e;cases y with
    | byt j=>obtain⟨t',rfl⟩:=d;exact PySem.W.eq_bytes (bY I q tE)
    | _=>exact Qi (show Qu false from hs)
  | _=>cases y <;> exact Qi (show Qu false from hs)
def gf:JA X .NotEq rNe:=by
  intro f s g H x y v u Q I e d h;obtain⟨hs,q⟩:=h;cases x with
  | non =>
    cases e;cases y with
    | non=>cases d;exact PySem.EqNone.ne_none_none (Xz I q)
    | bl j=>cases d;exact PySem.EqNone.ne_none_bool (Xz I q)
    | int j=>obtain⟨t',rfl⟩:=d;exact PySem.EqNone.ne_none_int (Xz I q)
    | str j=>obtain⟨t',rfl⟩:=d;exact PySem.EqNone.ne_none_str (Xz I q)
    | _=>exact Qi (show Qu false from hs)
  | bl i =>
    cases e;cases y with
    | non=>cases d;exact PySem.EqNone.ne_bool_none (Xz I q)
    | bl j=>cases d;exact ne_bool (bY I q (Jjb tw))
    | str j=>obtain⟨t',rfl⟩:=d;exact PySem.EqMixed.ne_bool_str (Xz I q)
    | _=>exact Qi (show Qu false from hs)
  | int i =>
    obtain⟨t,rfl⟩:=e;cases y with
    | non=>cases d;exact PySem.EqNone.ne_int_none (Xz I q)
    | int j=>obtain⟨t',rfl⟩:=d;exact ne_int (bY I q (Jjb tu))
    | str j=>obtain⟨t',rfl⟩:=d;exact PySem.EqMixed.ne_int_str (Xz I q)
    | _=>exact Qi (show Qu false from hs)
  | str i =>
    obtain⟨t,rfl⟩:=e;cases y with
    | non=>cases d;exact PySem.EqNone.ne_str_none (Xz I q)
    | bl j=>cases d;exact PySem.EqMixed.ne_str_bool (Xz I q)
    | int j=>obtain⟨t',rfl⟩:=d;exact PySem.EqMixed.ne_str_int (Xz I q)
    | str j=>obtain⟨t',rfl⟩:=d;exact ne_str (bY I q (Jjb tD))
    | _=>exact Qi (show Qu false from hs)
  | byt i =>
    obtain⟨t,rfl⟩:=e;cases y with
    | byt j=>obtain⟨t',rfl⟩:=d;exact PySem.W.ne_bytes (bY I q (Jjb tE))
    | _=>exact Qi (show Qu false from hs)
  | _=>cases y <;> exact Qi (show Qu false from hs)
def iV:JA X .Lt (rI0 λi j=>.bl (decide (i < j))):=opB0 λ_ _ _ _ _ _ _ q=>lt_int q
def op_le:JA X .LtE (rI0 λi j=>.bl (decide (i≤j))):=opB0 λ_ _ _ _ _ _ _ q=>le_int q
def eC:JA X .Gt (rI0 λi j=>.bl (decide (j < i))):=opB0 λ_ _ _ _ _ _ _ q=>gt_int q
def my:JA X .GtE (rI0 λi j=>.bl (decide (j≤i))):=opB0 λ_ _ _ _ _ _ _ q=>ge_int q
def xQ:JA X .In (λx y H Q=>∃i j,x=.str i∧y=.str j∧XR (!(Builtin.Str.occurrences j i 0 j.length 1).isEmpty) H):=by intro d s g H x y v u Q I f e h;obtain⟨i,j,rfl,rfl,q⟩:=h;obtain⟨t,rfl⟩:=f;obtain⟨t',rfl⟩:=e;exact in_str (bY I q rfl)
def pd:JA X .Is (λx y H Q=>y=.non∧XR (decide (x=.non)) H):=by
  intro e s g H x y v u Q I d f h;obtain⟨rfl,q⟩:=h;cases f;refine is_none_gen (bY I q ?_);cases x <;> first
    | (cases d;rfl)
    | (obtain⟨t,rfl⟩:=d;rfl)
def mz:JA X .IsNot (λx y H Q=>y=.non∧XR (!decide (x=.non)) H):=by
  intro e s g H x y v u Q I d f h;obtain⟨rfl,q⟩:=h;cases f;refine isnot_none_gen (bY I q ?_);cases x <;> first
    | (cases d;rfl)
    | (obtain⟨t,rfl⟩:=d;rfl)
def tH (b){op:CmpOp}(h:op≠.In:=by decide)(d:op≠.NotIn:=by decide):Jee op b:=by
  have f:Q9 (op == CmpOp.In):=by cases op <;> first | rfl | exact absurd rfl h
  have e:Q9 (op == CmpOp.NotIn):=by cases op <;> first | rfl | exact JbT d
  cases b <;> simp [behindInMarks,f,e]
def iw (j:JA X op r)(n:JjW a)(l:QG b tb)(k:Jee op b:=by exact tH _):QG (.Compare a [op] [b] pos) (tOp r ta tb):=by intro d s e H Q I h;exact wpAny_Compare1 (binT n l I h λv u f x y p o i g q=>j d f e p x y v u Q o i g q) k
def tTest (t:TE):TT:=λd H Q=>t d H λx H'=>isB x H' Q
def ax (q:JA X op r)(A:JjW a)(w:QG b tb)(t:Jee op b:=by exact tH _):PT X (.Compare a [op] [b] pos) (tTest (tOp r ta tb)):=by
  intro d s f H Q I h;refine wpAny_isTrue_Compare1 (thn (A d s f H _ I h) λv i ⟨x,G,D,n,q1⟩=>thn (w d i f G _ D q1) λu g ⟨y,F,C,l,p⟩ =>
    thn (q d g f F x y v u _ C n l p) λc J ⟨z,E,B,j,k,e,o⟩=>?_) t
  subst e;cases j;exact JgO E B o
def km:(sizeLine:Nat) < 2 ^ 63:=by rw[sizeLine_eq];decide
def fy (r:JbM [x]):∃u,us=[u]∧aS x u:=by
  cases r with
  | cons e d=>cases d;exact V2 e
def pe (r:JbM [x,y]):∃u d,us=[u,d]∧Jeb x∧aS y d:=by
  cases r with
  | cons h g =>
    cases g with
    | cons f e=>cases e;exact JC _ _ h f
def mD:Jay X "abs" (λxs H Q=>∃i,xs=Jgr i∧VI (if i < 0 then -i else i) H):=by intro d s e H xs us Q I r h;obtain⟨i,rfl,q⟩:=h;obtain⟨u,rfl,t,rfl⟩:=fy r;exact call_abs_int λu tk=>JiC (if i < 0 then -i else i) H _ _ q
def tI (f:Qu X.calm):Jay X "max" (λxs H Q=>∃i j,xs=JO i j∧VI (if j > i then j else i) H):=by
  intro e s g H xs us Q I r h;obtain⟨i,j,rfl,q⟩:=h;obtain⟨u,l,rfl,⟨t,rfl⟩,⟨t',rfl⟩⟩:=pe r;refine max_two_ints (I.ok.hd f) λh' tk k=>⟨_,H,I.kept k,?_,q⟩;by_cases d:j > i
  · rw[if_pos d,if_pos d];exact Xr _
  · rw[if_neg d,if_neg d];exact Xr _
def xR (f:Qu X.calm):Jay X "min" (λxs H Q=>∃i j,xs=JO i j∧VI (if j < i then j else i) H):=by
  intro e s g H xs us Q I r h;obtain⟨i,j,rfl,q⟩:=h;obtain⟨u,l,rfl,⟨t,rfl⟩,⟨t',rfl⟩⟩:=pe r;refine min_two_ints (I.ok.hd f) λh' tk k=>⟨_,H,I.kept k,?_,q⟩;by_cases d:j < i
  · rw[if_pos d,if_pos d];exact Xr _
  · rw[if_neg d,if_neg d];exact Xr _
end
structure iW (h:Heap)(x dx C)(mA):Prop where
  obj:h.get? x=some (JhN C)
  ns:h.Ns1 dx mA
  ne:dx≠x
def xS {h:Heap}{dx:Addr}{c:Str→Option Value}(n:h.Ns1 dx c):∃od,h.get? dx=some od∧∀name,JhB od=some (c name):=by
  obtain⟨o,es,ep,f,j,i,_,g⟩:=n;refine JjA f (λname=>?_);have e:=g name;unfold nsFind findBy at e;rw[←Array.find?_toList]at e;unfold PySem.W.lookIn;rw[j];dsimp only;split
  · rename_i y q;rw[q]at e;exact congrArg some e
  · rename_i q;rw[q]at e;have a:Q9 (es.toList.any (·.refKey)):=by rw[List.any_eq_false];intro y d;obtain⟨z,t,b⟩:=i y (Array.mem_toList_iff.mp d);simp [DictEntry.refKey,b]
    have k:¬Qu (es.toList.any (·.refKey)):=by rw[a];exact Bool.false_ne_true
    rw[if_neg k];exact JeZ e
def iW.look (I:iW h x dx C mA):∃od,PySem.W.InstAt h x (JhN C) C (some od)∧∀name,JhB od=some (mA name) :=
  let ⟨od,ho,hl⟩:=xS I.ns
  ⟨od,XA I.obj rfl ho,hl⟩
section
variable {prog:Program} {w:World} {A:Around} {E:Value→Shared→Prop} {s:Shared} {K:PySem.W.Frag} {x dx C f:Addr} {mA:Str→Option Value} {name:Str} {v:Value}
def xT (X:K.In s.heap)(I:iW s.heap x dx C mA)(e:Jdn K C name)(d:JfW K C)
    (g:Xa (JS K C name) none)(b:Xa (mA name) v)(a:Qu (PySem.W.handedIn v))(h:Q v { s with toks:=s.toks+1 }) :
    wpAny (Qo w) A (getAttr (.ref x) name expr) Q E s:=by obtain⟨od,J,c⟩:=I.look;exact PySem.W.get_value X J (PySem.W.plainGet_of e).1 (PySem.W.findObj_own d g rfl (by rw[c,b])) a h
def xU (X:K.In s.heap)(I:iW s.heap x dx C mA)(a:Jdn K C name)
    (e:Jg0 (JS K C name) f)(c:Qu (JhR K f))(b:Qn (mA name))(h:Q (.ref f,Vt x) s) :
    wpAny (Qo w) A (Jky (.ref x) name) Q E s:=by obtain⟨od,J,d⟩:=I.look;exact PySem.W.method_fn X J (PySem.W.plainGet_of a).1 (PySem.W.plainGet_of a).2 e (beq_iff_eq.mp c) (by show(JhB od).map (·.isSome)=some false;rw[d,b];rfl) h
def xV (X:K.In s.heap)(I:iW s.heap x dx C mA)
    (hs:Xa (JS K C "__setattr__") (Jdu "object.__setattr__"))(o:Qu (PySem.W.plainOver K C))(n:Xa (PySem.W.takerIn K C name) none)(p:JfW K C)
    (l:PySem.Within mA ns)(hsz:Ju ns.length)
    (h:∀h',iW h' x dx C (λy=>if y=name then some v else mA y)→XZ dx h'→Q () { s with heap:=h',toks:=s.toks+2 }) :
    wpAny (Qo w) A (setAttr (.ref x) name v) Q E s:=by obtain⟨od,J,B⟩:=I.look;refine PySem.W.set_plain X J hs (PySem.W.osa_open X J o n λb=>?_);obtain⟨D,q,i⟩:=PySem.W.any_some p;have k:=I.obj;refine Qy (QJ (wpAny_loadPart k (wpAny_bind (PySem.W.Looks.here (PySem.W.looks_clsIn X q) ?_))));rw[i];refine wpAny_pure (Qy (wpAny_bind ?_));refine wpAny_nsSet1 I.ns λh' d c=>?_;obtain⟨z,t,u,e,g,j⟩:=d.count (PySem.Within.cons name v l);refine wpAny_bind (wpAny_lookBehind e (by rw[g];exact pastItsLine_dict (Nat.le_trans j (by rw[List.length_cons];lia))) ?_);exact wpAny_pure (h _ ⟨(c.2 _ (Ne.symm I.ne)).trans I.obj,d,I.ne⟩ c)
def xW (X:K.In s.heap)(b:Qu (PySem.W.makesIn K C))
    (c:Jg0 (JS K C "__init__") f)(e:Xa (PySem.W.typeIn K (.ref f)) (.type "function"))
    (h:codeAny (Qo w) (JeI "type.__call__" (.ref C :: vs) kw) (Jeh f ⟨.ref (s.heap.objs.size+1) :: vs,kw⟩) (PySem.W.InitBack (s.heap.objs.size+1) R)
      { s with heap:=(s.heap.push PySem.W.emptyDict).push (V6 C) }) :
    codeAny (Qo w) A (Jeh C ⟨vs,kw⟩) R s:=by obtain⟨j,g,d,t,i⟩:=s;exact PySem.W.make_core (PySem.W.makes_of X b) (PySem.W.looks_findIn X c) (λa=>PySem.W.bind_fn X a e) (.inl rfl) h
end
noncomputable def cw (f:Str)(v:V):List (Str × V)→List (Str × V)
  | []=>[(f,v)]
  | (g,x) :: r=>if g=f then(g,v) :: r else(g,x) :: cw f v r
def ko (f g)(v):∀c:List (Str × V),(cw f v c).lookup g=if g=f then some v else c.lookup g
  | []=>by
    show List.lookup g [(f,v)]=_;by_cases h:g=f
    · have a:=beq_iff_eq.mpr h;simp only[List.lookup,a,if_pos h]
    · have a:=beq_eq_false_iff_ne.mpr h;simp only[List.lookup,a,if_neg h]
  | (k,x) :: r=>by
    have d:=ko f g v r;rw[show cw f v ((k,x) :: r)=(if k=f then(k,v) :: r else(k,x) :: cw f v r) from rfl]
    by_cases b:k=f
    · rw[if_pos b];by_cases h:g=k
      · have a:=beq_iff_eq.mpr h;simp only[List.lookup,a,if_pos (h.trans b)]
      · have a:=beq_eq_false_iff_ne.mpr h;simp only[List.lookup,a,if_neg (λe:g=f=>h (e.trans b.symm))]
    · rw[if_neg b];by_cases h:g=k
      · have a:=beq_iff_eq.mpr h;simp only[List.lookup,a,if_neg (λe:g=f=>b (h.symm.trans e))]
      · have a:=beq_eq_false_iff_ne.mpr h;simp only[List.lookup,a];exact d
def pf (f)(v):∀b:List (Str × V),f∈(cw f v b).map (·.1)∧∀g,g∈b.map (·.1)→g∈(cw f v b).map (·.1)
  | []=>⟨by simp [cw],λg h=>by simp at h⟩
  | (k,x) :: r=>by
    obtain⟨d,c⟩:=pf f v r;rw[show cw f v ((k,x) :: r)=(if k=f then(k,v) :: r else(k,x) :: cw f v r) from rfl]
    by_cases a:k=f
    · rw[if_pos a];subst a;exact⟨by simp,λg h=>by simpa using h⟩
    · rw[if_neg a];refine⟨?_,λg h=>?_⟩
      · rw[List.map_cons];exact List.mem_cons_of_mem _ d
      · rw[List.map_cons]at h ⊢;rcases List.mem_cons.mp h with e | e
        · exact List.mem_cons.mpr (.inl e)
        · exact Xd (c g e)
def tJ (f)(v):∀b:List (Str × V),(cw f v b).length≤b.length+1
  | []=>by simp [cw]
  | (k,x) :: r=>by
    have c:=tJ f v r;rw[show cw f v ((k,x) :: r)=(if k=f then(k,v) :: r else(k,x) :: cw f v r) from rfl]
    by_cases a:k=f
    · rw[if_pos a,List.length_cons,List.length_cons];lia
    · rw[if_neg a,List.length_cons,List.length_cons];lia
def dc.some_of (r:dc (some v) o):∃u,Xa o u∧aS v u:=by
  cases o with
  | none=>exact(show False from r).elim
  | some u=>exact Vg u r
def dc.none_of (r:dc none o):Qn o:=by
  cases o with
  | none=>rfl
  | some u=>exact(show False from r).elim
def xX (r:Jeb v):Qu (PySem.W.handedIn u):=by
  cases v with
  | non=>cases (show Jbh u from r);rfl
  | bl b=>cases (show Q4 u b from r);rfl
  | int i=>obtain⟨t,e⟩:=(show ∃t,u=JcC i from r);cases e;rfl
  | str x=>obtain⟨t,e⟩:=(show ∃t,u=Jhw t from r);cases e;rfl
  | byt b=>obtain⟨t,e⟩:=(show ∃t,u=Value.bytes b t from r);cases e;rfl
  | flt b=>obtain⟨t,e⟩:=(show ∃t,u=Value.float b t from r);cases e;rfl
  | ref a=>cases (show Vp u a from r);rfl
  | ty n=>cases (show u=Value.type n from r);rfl
section
variable {P:Program} {w:World} {H H':Hp} {h h':Heap} {a C dx:Addr} {fs fs':List (Str × V)}
def ph (c:Jis h)(e:Jcr a fs):∃b,iW h a dx C b∧(∀f,dc (fs.lookup f) (b f))∧PySem.Within b (fs.map (·.1))∧fs.length≤1000∧H dx=some (.own a):=by obtain⟨d,z,i,g,b,n,r,q⟩:=(show bE P w H h a (JH fs) from c a _ e);exact⟨b,⟨g,n,i⟩,r,q,z,d⟩
end
structure Cls (K:PySem.W.Frag)(C):Prop where
  pg:Jdn K C Str.empty
  hd:JfW K C
  po:Qu (PySem.W.plainOver K C)
  sa:Xa (JS K C "__setattr__") (Jdu "object.__setattr__")
def Cls.get {K:PySem.W.Frag}{C:Addr}(c:Cls K C)(f):Jdn K C f:=c.pg
def cK (K:PySem.W.Frag)(C:Addr)(f:Str):Prop:=Xa (JS K C f) none
def cK.taker {K:PySem.W.Frag}{C:Addr}{f:Str}(n:cK K C f):PySem.W.takerIn K C f=some none:=by unfold PySem.W.takerIn;rw[show Xa (JS K C f) none from n];rfl
structure br (K:PySem.W.Frag)(C)(m)(f):Prop where
  at_:Jg0 (JS K C m) f
  fn:Qu (JhR K f)
  kp:Qu (Jbi K f)
section
variable {X:Cx} {pins:List (Addr × Obj)} {σ:St} {H:Hp} {s:Shared} {a C dx:Addr} {fs:List (Str × V)} {f:Str} {v:V} {A:Around} {E:Value→Shared→Prop}
def tK (I:QE s)(e:Jcr a fs)(c:Cls X.K C)(n:cK X.K C f)(l:Xa (fs.lookup f) v)
    (h:∀u s',QE s'→Jeb v→Q u s'):JaW A (getAttr (.ref a) f b) Q E s:=by obtain⟨g,O,r,_,_,_⟩:=ph I.hok e;obtain⟨u,i,d⟩:=dc.some_of (by rw[←l];exact r f);exact xT I.kIn O (c.get f) c.hd n i (xX d) (h u _ (I.tok _) d)
def tL (I:QE s)(e:Jcr a fs)(c:Cls X.K C)(k:JgR X.K m g)(l:Qn (fs.lookup m))
    (h:Q (.ref g,Vt a) s):JaW A (Jky (.ref a) m) Q E s:=by obtain⟨b,O,r,_,_,_⟩:=ph I.hok e;have d:=dc.none_of (by rw[←l];exact r m);exact xU I.kIn O (c.get m) k.at_ k.fn d h
def tM (I:QE s)(e:Jcr a fs)(c:Cls X.K C)(n:cK X.K C f)(F:Jfi fs.length)(p:Jeb y)
    (h:∀s',Vy (Xw a (JH (cw f y fs))) s'→Q () s'):JaW A (setAttr (.ref a) f u) Q E s:=by
  obtain⟨j,O,r,i,_,k⟩:=ph I.hok e;have hz:(fs.map (·.1)).length≤sizeLine:=by rw[lM,sizeLine_eq];lia
  refine xV I.kIn O c.sa c.po n.taker c.hd i hz λh' d l=>h _ ?_;have B:∃o,h'.get? dx=some o:=let ⟨o,_,_,e',_⟩:=d.ns;⟨o,e'⟩;refine I.write (by rw[e];exact True.intro) (.inr k) (λb q D z=>(l.2 b D).trans z) B ?_;refine⟨by rw[ai O.ne];exact k,?_,O.ne,d.obj,_,d.ns,λg=>?_,λg t=>?_⟩
  · have:=tJ f y fs;lia
  · show dc ((cw f y fs).lookup g) (if g=f then some u else j g)
    rw[ko];by_cases q:g=f
    · rw[if_pos q,if_pos q];exact p
    · rw[if_neg q,if_neg q];exact r g
  · by_cases q:g=f
    · rw[q];exact(pf f y fs).1
    · refine(pf f y fs).2 g (i g λz=>t ?_);lia
def Inv.made (I:QE s):Inv X pins σ (upd (QT s.heap.objs.size (s.heap.objs.size+1)) (s.heap.objs.size+1) (Xo s.heap.objs.size []))
    { s with heap:=(s.heap.push PySem.W.emptyDict).push (V6 C) }:=by
  have d:(s.heap.push PySem.W.emptyDict).get? s.heap.objs.size=some PySem.W.emptyDict:=Heap.get?_push_size s.heap rfl;have j:((s.heap.push PySem.W.emptyDict).push (V6 C)).get? (s.heap.objs.size+1)=some (V6 C):=by have:=Heap.get?_push_size (s.heap.push PySem.W.emptyDict) (o:=V6 C) rfl;rwa [Heap.size_push]at this
  have i:(s.heap.push PySem.W.emptyDict).Ns s.heap.objs.size (λ_=>none):=⟨PySem.W.emptyDict,#[],_,d,rfl,(λe h=>Jv h),λ_=>rfl⟩;have k:=I.laid (o:=.own (s.heap.objs.size+1)) (h':=s.heap.push PySem.W.emptyDict) (t':=s.toks) (λb u q=>XX q) (nRq _) (Jgo d);refine k.laid (t':=s.toks) (λb u q=>XX q) (Nat.le_of_eq (Heap.size_push _ _)) ?_;have c:s.heap.objs.size≠s.heap.objs.size+1:=Nat.ne_of_lt (Nat.lt_succ_self _);refine⟨by rw[ai c,af],Nat.zero_le _,c,j,λ_=>none,(Heap.Ns1.of_empty i).at λo q=>XX q,λ_=>True.intro,λy g=>JbT g⟩
def xY (c:attributeBase e f env (Jd4 e)=Jd4 e)
    (h:Jlx (Jd4 e) (λo b=>Jly (getAttr o f true) b) s):Jlz (Jd4 (Jev e pos)) :=
  Attribute_any_ h (by rw[arm_eval_Attribute,c])
end
inductive rFld (K:PySem.W.Frag)(f):V→Hp→VK→Prop|m{x H Q} a C dx fs v:Jed a→Jcr a fs→Cls K C→cK K C f→Xa (fs.lookup f) v→Q v H→rFld K f x H Q
def tFld (K:PySem.W.Frag)(b:TE)(f:Str):TE:=λa H Q=>b a H λx c=>rFld K f x c Q
def sFld (K:PySem.W.Frag)(g e:TE)(f:Str):TS:=λD b H=>e b H λy h=>g b h λx d=>∃a C dx c,Jed a∧Xa (d a) (JH c)∧Cls K C∧cK K C f∧Jfi c.length ∧
  D.nx b (XQ d a (cw f y c))
def InOp (X:Cx)(op:Operator)(c:V→V→Hp→VK→Prop):Prop :=
  ∀a s (b:St) H x y u v Q,Jj0 b→Jeb x→aS y v→c x y H Q→JaY (inplaceOp op u v) (EP X a b Q) s
def xZ (K:PySem.W.Frag)(j i:TE)(k:V→V→Hp→VK→Prop)(f:Str):TS:=λD d H=>j d H λx h=>∃a C dx e v,Jed a∧Xa (h a) (JH e)∧Cls K C∧cK K C f∧Xa (e.lookup f) v ∧
  i d h λy l=>k v y l λz g=>∃c b,Xa (g a) (Xo c b)∧Jfi b.length∧D.nx d (Jld g (Xo c (cw f z b)))
section
variable {X:Cx} {o e value:Expr} {f:Str} {pos pos' tpos:Pos} {ta tv:TE}
def aB (j:JjW e)(k:Jii e f e=Jf e):QG (Jev e pos) (tFld X.K ta f):=by intro b s d H Q I h;refine xY k (thn (j b s d H _ I h) λu B ⟨x,y,w,g,a,C,dx,D,v,p,r,c,n,l,q⟩=>?_);subst p;obtain rfl:u=Value.ref a:=g;exact tK w r c n l λz A t i=>⟨v,y,t,i,q⟩
def cX (t:JjW o)(r:QG value tv)(hs:JjH (JkX value (some (Jev o pos'))) false):PS X (.Assign [Jev o pos'] value pos) (sFld X.K ta tv f):=by intro b s d H D I h;refine plainObj_wpAny_Assign_Attribute (thn (r b s d H _ I h) λu g ⟨y,E,B,i,q⟩=>thn (t b g d E _ B q) λp G ⟨x,L,A,j,a,C,dx,J,v,w,c,n,l,k⟩=>?_) hs;subst v;obtain rfl:p=Value.ref a:=j;exact tM A w c n l i λF z=>⟨d,_,z,k⟩
def x_ (L:JjW o)(J:QG value tv)(g:InOp X op rd):PS X (.AugAssign (Jev o tpos) op value pos) (xZ X.K ta tv rd f):=by intro b s d H D I h;refine wpAny_AugAssign_AttributeAny (thn (L b s d H _ I h) λF s1 ⟨x,Y,U,w,a,C,dx,fs,v,N,O,c,n,l,q⟩=>?_);subst N;obtain rfl:F=Value.ref a:=w;refine tK U O c n l λu p T A=>thn (J b p d Y _ T q) λj k ⟨y,W,S,t,E⟩=>thn (g b k d W v y u j _ S A t E) λZ s4 ⟨z,H3,R,r,P,M,i,G,B⟩=>?_;exact tM R i c n G r λs5 Q=>⟨d,_,Q,B⟩
inductive rAdd:V→V→Hp→VK→Prop|m{x y H Q} i j:Jhz x i→Jhz y j→VI (i+j) H→rAdd x y H Q
def in_add:InOp X .Add rAdd:=by rintro a s d H x y u v Q I c b ⟨i,j,rfl,rfl,q⟩;obtain⟨t,rfl⟩:=(show ∃t,u=JcC i from c);obtain⟨t',rfl⟩:=(show ∃t',v=Value.int j t' from b);exact PyProof.Rows.iadd_int (JiC (i+j) H _ _ q)
end
structure aX (k)(A:Around):Prop where
  hd:Qn A.handled
  dp:A.depth+3 * k+5 < recursionLimit
  un:A.units+16 * k+200 < cLine
  gd:Xa A.guards []
def aX.mono (r:aX k A)(h:j≤k):aX j A:=⟨r.hd,by have:=r.dp;lia,by have:=r.un;lia,r.gd⟩
def aX.deeper (r:aX (k+1) A)(env):Jag k env :=
  ⟨r.hd,by have:=r.dp;show A.depth+1+3 * k+5 < _;lia,by have:=r.un;show A.units+3+16 * k+200 < _;lia,r.gd⟩
def ya {A:Around}{C:Addr}{us:List Value}{a:List (Str × Value)}:(JeI "type.__call__" (.ref C :: us) a).depth=A.depth+1:=by
  rfl
def yb {A:Around}{C:Addr}{us:List Value}{a:List (Str × Value)}:(JeI "type.__call__" (.ref C :: us) a).units=A.units+1:=by
  rfl
def yc {A:Around}{C:Addr}{us:List Value}{a:List (Str × Value)}(h:Xa A.guards []):(JeI "type.__call__" (.ref C :: us) a).guards=some []:=by
  first | exact h | simp [Around.under,Code.guards,Code.isGuard,guardIds,pushGuards,h]
def aX.make {k:Nat}{A:Around}(r:aX (k+1) A)(C)(us)(a):aX k (JeI "type.__call__" (.ref C :: us) a) :=
  ⟨r.hd,by have:=r.dp;rw[ya];lia,by have:=r.un;rw[yb];lia,yc r.gd⟩
def aX.depth (r:aX k A):A.depth < recursionLimit:=by have:=r.dp;lia
def aX.units (r:aX k A):A.units+64 < cLine:=by have:=r.un;lia
def iX:TA:=λ_ H Q=>Q [] H
def tCons (c:TE)(b:TA):TA:=λa H Q=>c a H λx e=>b a e λxs d=>Q (x :: xs) d
section
variable {X:Cx} {e:Expr} {es:List Expr} {te:TE} {t:TA} {pos:Pos}
def ac:PA X [] iX:=λ_ _ _ _ H Q I h=>Calls.spliced_nil ⟨[],H,I,.nil,h⟩
def aa (j:QG e te)(i:PA X es t)(hs:Qd (e :: es)=(false,Jf e) :: starEach es X.env:=by rfl):PA X (e :: es) (tCons te t):=by intro pos a s b H Q I h;rw[hs];refine Calls.spliced_cons (thn (j a s b H _ I h) λu c ⟨x,o,l,f,q1⟩=>?_);exact thn (i pos a c b o _ l q1) λus p ⟨xs,n,k,d,g⟩=>⟨x :: xs,n,k,.cons f d,g⟩
def tTup (t:TA):TE:=λb H Q=>t b H λxs a=>Ju xs.length∧∀p,Qn (a p)→Xg p (Vh a p xs)
def tLst (t:TA):TE:=λb H Q=>t b H λxs a=>Ju xs.length∧∀p,Qn (a p)→Xg p (Qa a p xs)
def cu (h:PA X es t):QG (.Tuple es x1 pos) (tTup t):=by intro a s g H Q I i;refine wpAny_Tuple_spliced (thn (h pos a s g H _ I i) λus c ⟨xs,f,d,r,z,q⟩=>XE (by rw[←r.length];exact z));have j:=Jei _;refine VM c.heap.objs.size (Vh f c.heap.objs.size xs) (d.laid (t':=c.toks) (λb u e=>XX e) (nRq _) ?_) (q _ j);exact⟨z,us,r,JC _ (Heap.get?_push_size _ rfl) _ rfl⟩
def ba (h:PA X es t):QG (.List es pos) (tLst t):=by intro a s g H Q I i;refine wpAny_List_spliced (thn (h pos a s g H _ I i) λus c ⟨xs,f,d,r,z,q⟩=>XE (by rw[←r.length];exact z));have j:=Jei _;refine VM c.heap.objs.size (Qa f c.heap.objs.size xs) (d.laid (t':=c.toks) (λb u e=>XX e) (nRq _) ?_) (q _ j);exact⟨z,us,0,r,Heap.get?_push_size _ rfl⟩
end
abbrev Sp:=List V→Hp→VK→XK→Prop
abbrev CXT:=List Env→Hp→Shared→XK→Value→Shared→Prop
structure iY (P)(w)(K:PySem.W.Frag)(mg)(base)(A:Around)(outer)(s:Shared)(H:Hp):Prop where
  frames:Xa A.frames outer
  mod:Mod K mg base
  bs:∀b o,base.get? b=some o→s.heap.get? b=some o∧Vn b
  bsz:base.objs.size≤s.heap.objs.size
  funs:s.heap.FunFrames base outer
  frf:∀b∈frs outer,Vn b
  hok:Jis s.heap
  bare:AllBare s.gens
def CE (outer:List Env)(P:Program)(w:World)(H:Hp)(s:Shared)(Q:VK)(u:Value)(s':Shared):Prop :=
  ∃v H',s'.os=s.os∧AllBare s'.gens∧JhK outer [] H H' s'.heap∧JhP H' s'.heap∧Jeb v∧Q v H'
def CR (CX:CXT)(outer:List Env)(P:Program)(w:World)(H:Hp)(s:Shared)(Q:VK)(E:XK)(r:Result)(s':Shared):Prop :=
  match r with
  | .ok (.ret u)=>CE outer P w H s Q u s'
  | .ok _=>False
  | .error e=>CX outer H s E e s'
structure aD (P)(w)(K:PySem.W.Frag)(mg)(base)(CX:CXT)(k)(f)(fd)(ps:List Str)(sp:Sp):Prop where
  len:∀vs H Q E,sp vs H Q E→Jej vs.length
  run:∀(A) (outer) (s) (H) args (us) (vs) (Q) (E),aX k A→iY P w K mg base A outer s H→BindsTo s fd args (ps.zip us)→JbM vs→sp vs H Q E →
    codeAny (Jhy P) A (Jeh f args) (CR CX outer P w H s Q E) s
def iY.make {P:Program}{w:World}{K:PySem.W.Frag}{mg:Str→Option Value}{base:Heap}{A:Around}{outer:List Env}{s:Shared}{H:Hp}(e:iY P w K mg base A outer s H)(C)(us)(a) :
    iY P w K mg base (JeI "type.__call__" (.ref C :: us) a) outer s H:=⟨by first | exact e.frames | (simpa [Around.under,Code.envs,Code.isFrame,pushEnvs] using e.frames),e.mod,e.bs,e.bsz,e.funs,e.frf,e.hok,e.bare⟩
section
variable {X:Cx} {pins:List (Addr × Obj)} {σ:St} {H:Hp} {s s':Shared}
def Inv.env0 (I:QE s):iY X.prog X.w X.K X.mg X.base X.A X.stack s H :=
  ⟨I.ok.frames,I.ok.mod,I.bs,JcS I.sz,I.stack,I.stkFree,I.hok,I.bare⟩
def Inv.after (I:QE s)(h:CE X.stack X.prog X.w H s Q u s'):EP X pins σ Q u s':=by obtain⟨v,H',i,a,f,e,r,q⟩:=h;obtain⟨j,g,d,t,c⟩:=s';obtain rfl:c=s.os:=i;exact⟨v,H',I.call (h':=j) (g':=g) (d':=d) (t':=t) f e a (λb z=>Jv z),r,q⟩
end
def tCall (sp:Sp)(a:List V)(E:XK)(t:TA):TE:=λb H Q=>t b H λvs c=>sp (vs++a) c Q E
inductive isO (C)(m):V→Hp→Prop→Prop|m{x H R} a dx fs:Jed a→Jcr a fs→Qn (fs.lookup m)→R→isO C m x H R
def pj (C:Addr)(m:Str)(sp:Sp)(a:List V)(E:XK)(d:TE)(t:TA):TE:=λb H Q=>d b H λx c=>isO C m x c <| t b c λvs e=>sp (x :: (vs++a)) e Q E
def tMake (C:Addr)(sp:Sp)(a:List V)(E:XK)(t:TA):TE:=λc H Q=>t c H λvs b=>∀x dx,Qn (b x)→Qn (b dx)→dx≠x →
  sp (.ref x :: (vs++a)) (XQ (upd b dx (.own x)) x []) (λv d=>v=.non∧Xg x d) E
def au (K:PySem.W.Frag)(b:FuncData)(ps:List Str)(a:List Value):Prop :=
  ∀s us,K.In s.heap→(us++a).length=ps.length→BindsTo s b (Jew us) (ps.zip (us++a))
def au.all {K:PySem.W.Frag}{b:FuncData}{ps:List Str}(h:∀us:List Value,Jej us.length→JjH (JhM b us) (ps.zip us)):JiA b ps:=λs us _ a=>by rw[List.append_nil]at a ⊢;exact .of_eq (h us a)
def iz (CX:CXT)(X:Cx)(E:XK):Prop:=∀a (b:St) H s e s',Jj0 b→CX X.stack H s E e s'→X.xe e s'
section
variable {X:Cx} {CX:CXT} {k:Nat} {f C:Addr} {fd:FuncData} {ps:List Str} {sp:Sp} {dvs:List V} {ds:List Value} {E:XK} {x m:Str} {p pos apos:Pos} {e o:Expr} {es:List Expr} {ta:TE} {t:TA}
def pz (F:aD X.prog X.w X.K X.mg X.base CX k f fd ps sp)(d:aX k X.A)(j:au X.K fd ps ds)(i:aM dvs ds)(c:iz CX X E)
    (I:QE s)(r:JbM vs)(h:sp (vs++dvs) H Q E):JaY (call (.ref f) us) (EP X pins σ Q) s:=by
  have b:=r.append i;have g:(us++ds).length=ps.length:=by rw[←b.length];exact F.len _ _ _ _ h
  refine wpAny_call (codeAny_mono (F.run X.A X.stack s H (Jew us) (us++ds) (vs++dvs) Q E d I.env0 (j s us I.kIn g) b h) λr s' a=>?_);cases r with
  | error e=>exact c pins σ H s e s' I a
  | ok l =>
    cases l with
    | ret u=>exact I.after a
    | next=>exact False.elim a
    | brk=>exact False.elim a
    | cont=>exact False.elim a
def aW (F:aD X.prog X.w X.K X.mg X.base CX k f fd ps sp)(j:aX k X.A)(u:Gl X x)(l:X.mg x=Ja f)(n:Qu (Jbi X.K f))(z:au X.K fd ps ds)(y:aM dvs ds)(i:iz CX X E)
    (B:PA X (e :: es) t)(c:Q9 (x == ("__debug__":Str)):=by decide)(v:Qd (e :: es)=(false,Jf e) :: starEach es X.env:=by rfl)(b:(XF pos es).any (·.1)=false:=by rfl) :
    PE X (Jjs x p (e :: es) pos) (tCall sp dvs E t):=by intro a s g H Q I h;refine Jhb I u l ?_ c;refine PySem.W.callWith_K I.ok.mod.kin n (thn (B pos a s g H _ I h) λus D ⟨vs,G,d,r,q⟩=>XE d.kIn) v b;exact pz F j z y i d r q
def bp (M:JjW o)(c:Cls X.K C)(n:JgR X.K m f)(F:aD X.prog X.w X.K X.mg X.base CX k f fd ps sp)(L:aX k X.A)(O:au X.K fd ps ds)(N:aM dvs ds)(G:iz CX X E)(P:PA X (e :: es) t)
    (d:Qd (e :: es)=(false,Jf e) :: starEach es X.env:=by rfl)(g:(XF pos es).any (·.1)=false:=by rfl)
    (J:Jf (JkR o m (e :: es) [] pos)=(do
      let j ←eval o X.env
      standAt apos.atName
      let (f,first) ←holding [j] (Jky j m)
      callWith pos f first (XF pos (e :: es)) (Jdd pos [])):=by rfl) :
    PE X (JkR o m (e :: es) [] pos) (pj C m sp dvs E ta t):=by
  intro b s i H Q I h;refine PySem.W.methodCall_KW (thn (M b s i H _ I h) λu z ⟨x,T,y,B,a,dx,Y,R,S,l,q⟩=>?_) J;subst R;obtain rfl:u=Value.ref a:=B;refine tL y S c n l ?_;refine PySem.W.callWith_K (first:=Vt a) I.ok.mod.kin n.kp (thn (P pos b z i T _ y q) λus U ⟨vs,Z,v,r,D⟩=>XE v.kIn) d g
  exact pz (vs:=.ref a :: vs) F L O N G v (.cons rfl r) D
def kq (z:JjW o)(c:Cls X.K C)(i:JgR X.K m f)(F:aD X.prog X.w X.K X.mg X.base CX k f fd ps sp)(y:aX k X.A)(D:au X.K fd ps ds)(B:aM dvs ds)(r:iz CX X E)
    (v:Jf (JkR o m [] [] pos)=(do
      let g ←eval o X.env
      standAt apos.atName
      let (f,first) ←holding [g] (Jky g m)
      callWith pos f first (XF pos []) (Jdd pos [])):=by rfl) :
    PE X (JkR o m [] [] pos) (pj C m sp dvs E ta iX):=by intro b s j H Q I h;refine PySem.W.methodCall_KW (thn (z b s j H _ I h) λu L ⟨x,N,d,n,a,dx,M,G,J,l,q⟩=>?_) v;subst G;obtain rfl:u=Value.ref a:=n;refine tL d J c i l ?_;exact PySem.W.callWith_K0 (first:=Vt a) d.kIn i.kp (pz (vs:=Vt a) F y D B r d (Qv rfl) q)
structure Mk (K:PySem.W.Frag)(C f):Prop where
  makes:Qu (PySem.W.makesIn K C)
  init:Jg0 (JS K C "__init__") f
  fn:Qu (JhR K f)
  kp:Qu (Jbi K C)
def tP (M:Mk X.K C f)(F:aD X.prog X.w X.K X.mg X.base CX k f fd ps sp)(l:aX (k+1) X.A)(y:au X.K fd ps ds)(q:aM dvs ds)
    (j:iz CX X E)(I:QE s)(r:JbM vs)
    (h:∀x dx,Vn x→Vn dx→dx≠x→sp (.ref x :: (vs++dvs)) (JkZ x) (λv G=>v=.non∧Xg x G) E) :
    wpAny (Qq X.w) X.A (call (.ref C) us) (EP X pins σ Q) X.xe s:=by
  have d:=h (s.heap.objs.size+1) s.heap.objs.size (I.hok.fresh (Nat.le_succ _)) (VG _) (Nat.ne_of_lt (Nat.lt_succ_self _));have b:=Inv.made (C:=C) I;have c:aM (V.ref (s.heap.objs.size+1) :: (vs++dvs)) (Value.ref (s.heap.objs.size+1) :: (us++ds)):=.cons rfl (r.append q);have n:(Value.ref (s.heap.objs.size+1) :: us++ds).length=ps.length:=by have e:=c.length;rw[F.len _ _ _ _ d]at e;exact e.symm
  refine wpAny_call (xW I.kIn M.makes M.init (beq_iff_eq.mp M.fn) (codeAny_mono (F.run _ X.stack _ _ (Jew (Value.ref (s.heap.objs.size+1) :: us)) (Value.ref (s.heap.objs.size+1) :: (us++ds)) _ _ E (l.make C us []) (b.env0.make C us []) (y _ (Value.ref (s.heap.objs.size+1) :: us) b.kIn n) c d) λr s' a=>?_))
  cases r with
  | error e=>exact j pins σ _ _ e s' b a
  | ok z =>
    cases z with
    | ret u =>
      obtain⟨v,H',D,g,B,i⟩:=b.after a;subst B;exact⟨g,Jr (V.ref (s.heap.objs.size+1)) H' D i⟩
    | next=>exact False.elim a
    | brk=>exact False.elim a
    | cont=>exact False.elim a
def yd (M:Mk X.K C f)(F:aD X.prog X.w X.K X.mg X.base CX k f fd ps sp)(j:aX (k+1) X.A)(n:Gl X x)(l:X.mg x=Ja C)(y:au X.K fd ps ds)(v:aM dvs ds)(i:iz CX X E)
    (z:PA X (e :: es) t)(c:Q9 (x == ("__debug__":Str)):=by decide)(u:Qd (e :: es)=(false,Jf e) :: starEach es X.env:=by rfl)(b:(XF pos es).any (·.1)=false:=by rfl) :
    PE X (Jjs x p (e :: es) pos) (tMake C sp dvs E t):=by intro a s g H Q I h;refine Jhb I n l ?_ c;refine PySem.W.callWith_K I.ok.mod.kin M.kp (thn (z pos a s g H _ I h) λus B ⟨vs,D,d,r,q⟩=>XE d.kIn) u b;exact tP M F j y v i d r q
def mE (M:Mk X.K C f)(F:aD X.prog X.w X.K X.mg X.base CX k f fd ps sp)(d:aX (k+1) X.A)(i:Gl X x)(g:X.mg x=Ja C)(l:au X.K fd ps ds)(j:aM dvs ds)(c:iz CX X E)
    (a:Q9 (x == ("__debug__":Str)):=by decide):QG (Jjs x p [] pos) (tMake C sp dvs E iX):=by intro b s n H Q I h;refine Jhb I i g ?_ a;exact PySem.W.callWith_K0 I.kIn M.kp (tP M F d l j c I .nil h)
end
def PK (X:Cx)(d:List Keyword)(t:TA):Prop :=
  ∀c a s (b:St) H Q,Jj0 b→t b H Q→JaY (evalAll ((Jdd c d).map (·.2))) (AP X a b Q) s
section
variable {X:Cx} {CX:CXT} {k:Nat} {f C:Addr} {fd:FuncData} {ps ks:List Str} {sp:Sp} {E:XK} {x m:Str} {p pos apos kpos:Pos} {e o:Expr} {es:List Expr} {kws:List Keyword} {te ta:TE} {t tk:TA} {nm:Option Str}
def pk_nil:PK X [] iX:=λ_ _ _ _ H Q I h=>wpAny_evalAll_nil ⟨[],H,I,.nil,h⟩
def ye (l:QG e te)(j:PK X kws t):PK X (⟨nm,e,kpos⟩ :: kws) (tCons te t):=by
  intro pos a s b H Q I h;show VV _ (evalAll ((do let v ←Jf e;standAt pos;pure v) :: (Jdd pos kws).map (·.2))) _ _ s
  refine wpAny_evalAll_cons (wpAny_bind (thn (l a s b H _ I h) λu c ⟨x,w,q,g,q1⟩=>JT (wpAny_pure ?_)));exact thn (j pos a c b w _ q q1) λus y ⟨xs,r,n,d,i⟩=>⟨x :: xs,r,n,.cons g d,i⟩
variable {g:List Value→List Value→List Value} {gV:List V→List V→List V}
end
structure aF (N P:List Str)(sc:Scope):Prop where
  kind:Jek sc.kind
  co:Q9 sc.isCoroutine
  gen:Q9 sc.isGenerator
  nd:N.Nodup
  pre:N.take P.length=P
  par:∀x∈P,QH x .local∨QH x .cell
  nofree:∀y∈sc.names,y.2≠.free
def fsc (a:Jek sc.kind:=by exact rfl)(b:Q9 sc.isCoroutine:=by exact rfl)(c:Q9 sc.isGenerator:=by exact rfl)(d:N.Nodup:=by decide +kernel)(e:N.take P.length=P:=by exact rfl)(f:∀x∈P,QH x .local∨sc.names.lookup x=some .cell:=by decide +kernel)(g:∀y∈sc.names,y.2≠.free:=by decide +kernel):aF N P sc:=⟨a,b,c,d,e,f,g⟩
def tQ {b:Str→Option NameKind}{x:Str}:∀ {a:List (Str × Value)} {m:Str→Option Value},(∀v,(x,v)∉a)→bindL b a m x=m x
  | [],_,_=>rfl
  | (n,v) :: r,m,h=>by
    unfold bindL;rw[tQ λw c=>h w (Xd c)];split
    · have:x≠n:=by rintro rfl;exact Jaz v
      simp [this]
    · rfl
def tR {b:Str→Option NameKind}{x:Str}:∀ {a:List (Str × Value)} {m:Str→Option Value},(∀v,(x,v)∉a)→bindC b a m x=m x
  | [],_,_=>rfl
  | (n,v) :: r,m,h=>by
    unfold bindC;rw[tR λw c=>h w (Xd c)];split
    · rfl
    · have:x≠n:=by rintro rfl;exact Jaz v
      simp [this]
def tS {a:Str→Option NameKind}{x:Str}{v:Value}:∀ {P:List Str} {vs:List Value} {i:Nat} {m:Str→Option Value},P.Nodup→P[i]?=some x→vs[i]?=some v→Xa (a x) .local →
    bindL a (P.zip vs) m x=some v
  | [],_,_,_,_,h,_,_=>by simp at h
  | _ :: _,[],_,_,_,_,h,_=>by simp at h
  | p :: P,w :: vs,0,m,d,c,b,e=>by simp at c b;subst c;subst b;show bindL a ((p,w) :: P.zip vs) m p=_;unfold bindL;rw[tQ λv f=>(List.nodup_cons.mp d).1 (List.of_mem_zip f).1,if_pos e];simp
  | p :: P,w :: vs,i+1,m,d,c,b,e=>by unfold bindL;exact tS (List.nodup_cons.mp d).2 (by simpa using c) (by simpa using b) e
def tT {a:Str→Option NameKind}{x:Str}{v:Value}:∀ {P:List Str} {vs:List Value} {i:Nat} {m:Str→Option Value},P.Nodup→P[i]?=some x→vs[i]?=some v→a x≠some .local →
    bindC a (P.zip vs) m x=some v
  | [],_,_,_,_,h,_,_=>by simp at h
  | _ :: _,[],_,_,_,_,h,_=>by simp at h
  | p :: P,w :: vs,0,m,d,c,b,e=>by simp at c b;subst c;subst b;show bindC a ((p,w) :: P.zip vs) m p=_;unfold bindC;rw[tR λv f=>(List.nodup_cons.mp d).1 (List.of_mem_zip f).1,if_neg e];simp
  | p :: P,w :: vs,i+1,m,d,c,b,e=>by unfold bindC;exact tT (List.nodup_cons.mp d).2 (by simpa using c) (by simpa using b) e
noncomputable def hE (N:List Str)(vs:List V):St:=vs.map some++List.replicate (N.length - vs.length) none
noncomputable def ag (CX:CXT)(P:Program)(w:World)(K:PySem.W.Frag)(mg:Str→Option Value)(base:Heap)(N:List Str)(b:Str)(a:Scope)(f:Addr)(d:Value)(A:Around)(outer:List Env)(s:Shared)(H:Hp)(E:XK):Cx where
  prog:=P
  w:=w
  K:=K
  mg:=mg
  base:=base
  A:=A.deeper (QN b a f d)
  N:=N
  s₀:=s
  H₀:=H
  env:=QN b a f d
  outer:=outer
  stack:=QN b a f d :: outer
  ex:=[]
  calm:=true
  fn:=λ_=>true
  pn:=[]
  xe:=λe s'=>Vb P w (A.deeper (QN b a f d)) (leaving (QN b a f d) e) (λ_ c=>CX outer H s E e c) (λg c=>CX outer H s E g c) s'
def tU {sc:Scope}{n:Nat}{x:Str}(h:QH x .cell):∃c,(cellsFrom n sc.names []).lookup x=some c:=by have q:=PySem.W.cellsFrom_some sc.names n [] (.inl h);exact Option.isSome_iff_exists.mp q
def yf {CX:CXT}{P:Program}{w:World}{K:PySem.W.Frag}{mg:Str→Option Value}{base:Heap}{N ps:List Str}{g:Str}{d:Scope}{f:Addr}{G:Value}{A:Around}{outer:List Env}{s I:Shared}{H:Hp}{E:XK}{us:List Value}{vs:List V}
    (S:aF N ps d)(Q:Qn A.handled)(l:iY P w K mg base A outer s H)(T:Jej vs.length)(r:JbM vs)
    (x:InCallC s s.heap.objs.size (bindL (QN g d f G).kindOf (ps.zip us) λ_=>none) (cellsFrom (s.heap.objs.size+1) d.names []) (bindC (QN g d f G).kindOf (ps.zip us) λ_=>none) I) :
    Inv (Jfk CX P w K mg N g d f G A s H E) [] (hE N vs) H I:=by
  have O:Jbp N.length:=by have:=Jad S.pre;rw[List.length_take]at this;lia
  obtain⟨F,tk,rfl,L⟩:=x.done;have o:∀b:Addr,b∉(Jfk CX P w K mg N g d f G A s H E).ex:=λb z=>Jv (show b∈([]:List Addr) from z);refine Jcb ⟨l.mod,S.kind,rfl,rfl,nRq _,λy z c F j=>?_,λy t=>?_,λy c _ h=>?_,λ_=>Q,Around.frames_deeper l.frames,Jkj rfl,λb z=>Jd5 (o b),l.bs,l.bsz,λb _ _=>o b,λb z=>Jd5 (o b),l.funs,l.frf⟩ l.bare (Un.kept L) (Jlc x.toInCall.ns (λi y v F j U=>?_)) (λy c h=>Jgo (x.cell y c h)) (l.hok.fresh (nRq _)) (λy c h=>?_) (λp C=>Jv (show p∈([]:List (Addr × Obj)) from C)) (l.hok.kept L) ?_
  · exact name_of_addr x.apart (PySem.mem_of_lookup F) (PySem.mem_of_lookup j)
  · have t:=t;rcases t with t | t
    · exact tU t
    · exact absurd rfl (S.nofree _ (PySem.mem_of_lookup t))
  · exact Nat.le_of_lt (x.above y c (PySem.mem_of_lookup h))
  · have D:i < vs.length:=by
      unfold hE at j;by_cases D:i < vs.length
      · exact D
      · rw[List.getElem?_append_right (by simpa using D)]at j;rw[List.getElem?_replicate]at j;split at j <;> cases j
    have R:vs[i]?=some v:=by
      unfold hE at j;rw[List.getElem?_append_left (by simpa using D),List.getElem?_map]at j;cases e:vs[i]? with
      | none=>rw[e]at j;cases j
      | some a=>rw[e]at j;cases j;rfl
    obtain⟨u,J,M⟩:=r.get R;have C:ps[i]?=some y:=by rw[←S.pre,List.getElem?_take_of_lt (by lia)];exact F
    have B:ps.Nodup:=by rw[←S.pre];exact S.nd.sublist (List.take_sublist _ _)
    refine Qk u M;rcases S.par y (mO C) with k | k
    · exact .inl ⟨k,tS B C J k⟩
    · obtain⟨c,e⟩:=tU k;refine JcK (.inl k) c e ?_;have q:=x.cell y c e;rw[tT B C J (by show d.names.lookup y≠_;rw[k];decide)]at q;exact q
  · exact l.hok.fresh (Nat.le_of_lt (x.above y c (PySem.mem_of_lookup h)))
  · unfold hE;show _=N.length;rw[lAq,lM,List.length_replicate];lia
def fn_of {CX:CXT}{P:Program}{w:World}{K:PySem.W.Frag}{mg:Str→Option Value}{base:Heap}{k:Nat}{f:Addr}{name c:Str}{d:Arguments}{g:List Stmt}{a:Scope}{T kV C R cdv U oc:Value}{Y od:Option Addr}
    {F:Array (Option Value)}{N ps:List Str}{sp:Sp}(lk:J8 f (JhS oc od (Jgs name c d g a T kV C R Y U) F))(M:Jiz K cdv c)(S:aF N ps a)
    (l:∀vs H Q E,sp vs H Q E→Jej vs.length)
    (j:∀A outer s H vs Q E,Jag k (QN c a f cdv)→sp vs H Q E →
      ∃t,Jlf (Jfk CX P w K mg N c a f cdv A s H E) g∧t { nx:=λ_ H'=>Q .non H',rt:=Q } (hE N vs) H) :
    aD P w K mg base CX (k+1) f (Jgs name c d g a T kV C R Y U) ps sp:=by
  refine⟨l,λA outer s H X us vs Q E L B hb r p=>?_⟩;have hl:=l _ _ _ _ p;have Z:=B.mod.kin.keeps λb o e=>(B.bs b o e).1;have G:=B.mod.nolimit.keeps λb o e=>(B.bs b o e).1;have i:∀y∈ps.zip us,Xa (a.names.lookup y.1) .local∨(Xa (a.names.lookup y.1) .cell∧((cellsFrom (s.heap.objs.size+1) a.names []).lookup y.1).isSome=true):=λ⟨n,v⟩ hy=>by
    rcases S.par n (List.of_mem_zip hy).1 with q | q
    · exact .inl q
    · exact Jx q (PySem.W.cellsFrom_some _ _ _ (.inl q))
  refine codeAny_call_function L.depth (Z _ _ lk) rfl S.co S.gen rfl (PySem.W.codeRec_of Z M) (hb _ _ _ _ ?_);refine wpAny_newFunctionEnv_cells S.kind i λenv he O x=>?_;subst he;refine⟨G.keeps x.toInCall.keep,codeAny_func ?_⟩;obtain⟨t,ht,hq⟩:=j A outer s H vs Q E (L.deeper _) p;have I:Inv (Jfk CX P w K mg N c a f cdv A s H E) [] (hE N vs) H O:=yf S L.hd B hl r x;refine wpAny_mono (ht [] O (hE N vs) H _ I hq) (λfl s' hs=>?_) λe s' hs=>hs;have z:∀ {h:St} {H':Hp} {v:V} {u:Value},Inv (Jfk CX P w K mg N c a f cdv A s H E) [] h H' s'→Jeb v→Q v H'→CE outer P w H s Q u s' :=
    λ{h H' v u} J D q=>⟨v,H',J.os,J.bare,J.base,J.hok,D,q⟩
  cases fl with
  | ret u =>
    obtain⟨v,h,H',J,D,q⟩:=hs;exact z J D q
  | next =>
    obtain⟨h,H',J,q⟩:=hs;exact z (v:=V.non) J rfl q
  | brk =>
    obtain⟨_,_,_,q⟩:=hs;exact False.elim q
  | cont =>
    obtain⟨_,_,_,q⟩:=hs;exact False.elim q
section
variable {X:Cx} {x:Str} {p pos:Pos} {e:Expr} {es:List Expr} {t:TA} {id T:String} {r:List V→Hp→VK→Prop}
def tCB (r:List V→Hp→VK→Prop)(t:TA):TE:=λa H Q=>t a H λvs b=>r vs b Q
def aE (o:Jay X id r)(l:Gl X x)(k:JaU x)(i:JjU x (.builtin id))(q:PA X (e :: es) t)(j:x≠"__name__":=by decide)(c:Q9 (x == ("__debug__":Str)):=by decide)
    (n:Qd (e :: es)=(false,Jf e) :: starEach es X.env:=by rfl)(b:(XF pos es).any (·.1)=false:=by rfl):QG (Jjs x p (e :: es) pos) (tCB r t):=by intro a s d H Q I h;refine wpAny_Call_Name_kw (ff I l k i ?_ j c);exact PyProof.Rows.callWith_builtin1 (thn (q pos a s d H _ I h) λus f ⟨vs,v,u,g,q1⟩=>o a f d v vs us Q u g q1) n b
def eQ (o:JfF X T r)(l:Gl X x)(k:JaU x)(i:JjU x (.type T))(q:PA X (e :: es) t)(j:x≠"__name__":=by decide)(c:Q9 (x == ("__debug__":Str)):=by decide)
    (n:Qd (e :: es)=(false,Jf e) :: starEach es X.env:=by rfl)(b:(XF pos es).any (·.1)=false:=by rfl):QG (Jjs x p (e :: es) pos) (tCB r t):=by intro a s d H Q I h;refine wpAny_Call_Name_kw (ff I l k i ?_ j c);exact PyProof.Rows.callWith_type1 (thn (q pos a s d H _ I h) λus f ⟨vs,v,u,g,q1⟩=>o a f d v vs us Q u g q1) n b
end
end L2
namespace HT
open PySem PyProof.Rows
section
variable {prog:Program} {w:World} {A:Around} {E:Value→Shared→Prop} {s:Shared}
def cat_tup (v:Jdi t vs.toArray)(x:Jdi b ws.toArray)(o:vs≠[])
    (z:ws=[]→Xg t s)(y:ws≠[]→JaQ { s with heap:=s.heap.push { cls:=.type "tuple",data:=.seq (vs++ws).toArray } })
    (hsz:vs.length+ws.length≤sizeLine):Jlz (binaryOp .Add (.ref t) (.ref b)):=by
  obtain⟨⟨cls,r,data,k⟩,i,q,n,p⟩:=id v;obtain⟨⟨u,g,j,c⟩,a,f,l,d⟩:=id x;simp only at q p f d;subst q p f d;have e:vs.toArray++ws.toArray=(vs++ws).toArray:=by simp
  by_cases h:ws=[]
  · exact concat_meets (JeK i) (JeK a) noFill_tuple_add seq_tuple_add PySem.F.slot_tuple_add PySem.F.entry_tuple_add (JdS _)
      (tuple_addW1 t b vs.toArray ws.toArray n l r g k c (by simpa using o) (by simp [h])) ⟨i,a,z h⟩
  · refine concat_meets (JeK i) (JeK a) noFill_tuple_add seq_tuple_add PySem.F.slot_tuple_add PySem.F.entry_tuple_add (JdS _)
      (tuple_addW2 t b vs.toArray ws.toArray n l r g k c (by simpa using o) (by simpa using h) (by rw[sAq,sAq];exact hsz)) (Qk i a)
    rw[e];exact y h
noncomputable def sIx (n d:Nat):Option Int→Nat
  | none=>d
  | some v=>if v < 0 then(v+(n:Int)).toNat else min v.toNat n
def sIx_none (n d):sIx n d none=d:=rfl
def sIx_nat (n d k:Nat):sIx n d (some (k:Int))=min k n:=by
  rfl
def sIx_le (n d)(b:d≤n)(o):sIx n d o≤n:=by
  cases o with
  | none=>exact b
  | some v =>
    show(if v < 0 then(v+(n:Int)).toNat else min v.toNat n)≤n
    lia
def tV (v)(n d:Nat):(if v < 0 then max (v+(n:Int)) 0 else min v (n:Int))=((sIx n d (some v):Nat):Int):=by
  show(if v < 0 then max (v+(n:Int)) 0 else min v (n:Int))=(((if v < 0 then(v+(n:Int)).toNat else min v.toNat n):Nat):Int)
  lia
def yg (lo a)(n:Nat):Builtin.Slice.sliceAdjust lo a 1 (n:Int)=((sIx n 0 lo:Int),(sIx n n a:Int)):=by
  have b:¬(1 < 0):=by lia
  unfold Builtin.Slice.sliceAdjust;simp only[b,if_false];refine Prod.ext ?_ ?_
  · cases lo with
    | none=>rfl
    | some v=>exact tV v n 0
  · cases a with
    | none=>rfl
    | some v=>exact tV v n n
def yi (i j:Nat):Jd6 (i:Int) (j:Int)=j - i:=by
  unfold Builtin.Slice.slicePlaces;lia
def tW (p:IsPart v o)(h:Q o s):Jlz (Builtin.Slice.slicePartIndex v):=by
  cases p with
  | none=>exact slicePart_none h
  | int i t=>exact slicePart_int h
def tX {f:Addr}{e d:Value}{lo b:Option Int}{n:Nat}{Q:Int × Int × Nat→Shared→Prop}(hs:Jdk f e d)(pl:IsPart e lo)(g:IsPart d b)
    (h:Q ((sIx n 0 lo:Int),1,sIx n n b - sIx n 0 lo) s):Jlz (Builtin.Slice.sliceApplied (.ref f) (pure (n:Int))):=by
  obtain⟨j,a,i,c⟩:=id hs;refine wpAny_bind (Jdm a c (Jdm a c (Jdm a c (wpAny_pure ?_))));refine wpAny_bind (slicePart_none ?_);show VV _ (if Qu (1 == 0) then _ else _) _ _ s
  rw[if_neg (by decide)];refine wpAny_bind (tW pl (wpAny_bind (tW g (Qy ?_))));show VV _ (match Builtin.Slice.sliceAdjust lo b 1 (n:Int) with | (lo,b)=>pure (lo,(1:Int),Jd6 lo b)) _ _ s
  rw[yg lo b n];show VV _ (pure ((sIx n 0 lo:Int),1,Jd6 (sIx n 0 lo:Int) (sIx n n b:Int))) _ _ s;rw[yi];exact wpAny_pure h
def yj (xs:Array Value)(i k:Nat):((List.range k).filterMap λ(m:Nat)=>xs[((i:Int)+(m:Int) * 1).toNat]?).toArray=((xs.toList.drop i).take k).toArray:=by
  have e:(λ(m:Nat)=>xs[((i:Int)+(m:Int) * 1).toNat]?)=λm=>xs[i+m]?:=by
    funext m;have:((i:Int)+(m:Int) * 1).toNat=i+m:=by lia
    rw[this]
  rw[e];have:=pick_run xs i k;rw[List.filterMap_map]at this;have a:((λx=>xs[x]?) ∘ λx=>i+x)=λm=>xs[i+m]?:=rfl;rw[a]at this;rw[this]
def getItem_tuple_cut {t d:Addr}{items:Array Value}{k j:Value}{lo b:Option Int}{Q:Value→Shared→Prop}(c:Jdi t items)(hs:Jdk d k j)(pl:IsPart k lo)(l:IsPart j b)
    (o:¬(JP 0 lo=0∧JP items.size b=items.size))
    (h:JaQ { s with heap:=s.heap.push { cls:=.type "tuple",data:=.seq ((JfY 0 lo).take (sIx items.size items.size b - JP 0 lo)).toArray } })
    (hsz:Ju items.size):Jlz (getItem (.ref t) (.ref d)):=by
  have a:sizeOk (.seq ((JfY 0 lo).take (sIx items.size items.size b - JP 0 lo)).toArray):=by show((JfY 0 lo).take (sIx items.size items.size b - JP 0 lo)).toArray.size≤sizeLine;rw[sAq,List.length_take,List.length_drop,Array.length_toList];lia
  obtain⟨n,e,g,p⟩:=id hs;have i:Jal d "slice":=⟨n,e,g⟩;unfold getItem
  try with_reducible refine wpAny_holding ?_
  first | refine Qy ?_ | skip
  refine wpAny_bind (wpAny_sequenceKey c.typeIs (by decide) ?_);refine wpAny_bind (wpAny_callSpecial?_slot (name:=Str.ofString "__getitem__") c.typeIs PyProof.Rows.slot_tuple_getitem (JcL PyProof.Rows.slot_tuple_getitem c.typeIs entry_tuple_getitem (args_tuple_getitem _ _)))
  show VV _ (Jb0 t >>= _) _ _ s;refine wpAny_bind (tupleItemsOf_ c ?_);refine XW i ?_;rw[if_pos (by decide)];refine wpAny_bind (tX hs pl l ?_);have f:¬(Qu ((sIx items.size 0 lo:Int) == 0&&(1:Int) == 1&&(sIx items.size items.size b - JP 0 lo) == items.size)):=by lia
  show VV _ (if Qu ((sIx items.size 0 lo:Int) == 0&&(1:Int) == 1&&(sIx items.size items.size b - JP 0 lo) == items.size) then _ else _) _ _ s
  rw[if_neg f,yj]
  first
    | exact JaO (Jjv h) a
    | exact JaO (wpAny_bind (Xl (V2 (wpAny_pure h)))) a
    | exact QJ (wpAny_newObj_type (Xl (V2 (wpAny_pure h))) a)
    | exact QJ (wpAny_newObj_type (Jjv h) a)
end
end HT
namespace L2
open PySem PySem.Spec PyProof.Rows
abbrev TO:=St→Hp→(Option Int→Hp→Prop)→Prop
def PO (X:Cx)(e:Option Expr)(t:TO):Prop :=
  ∀a s (b:St) H Q,Jj0 b→t b H Q →
    wpAny (Qq X.w) X.A (evalPart e X.env) (λu s'=>∃o H',JkP a b∧IsPart u o∧Q o H') X.xe s
def yk:TO:=λ_ H Q=>Q none H
def tPart (t:TE):TO:=λa H Q=>t a H λx b=>∃i,Jhz x i∧Q (some i) b
def pA:∀ {us:List Value},JbM (ns.map V.int)→IntsAre us ns:=by
  induction ns with
  | nil=>intro us r;rw[List.map_nil]at r;cases r;exact .nil
  | cons n ns c =>
    intro us r;rw[List.map_cons]at r;cases r with
    | cons b a =>
      obtain⟨t,e⟩:=b;subst e;exact .cons n t (c a)
section
variable {X:Cx} {e:Expr} {te:TE} {lo hi:Option Expr} {tl th:TO} {pos p2:Pos}
def ku:PO X none yk:=by intro a s b H Q I h;rw[evalPart_none];exact wpAny_pure ⟨none,H,I,.none,h⟩
def kx (h:QG e te):PO X (some e) (tPart te):=by intro a s b H Q I d;rw[evalPart_some];refine thn (h a s b H _ I d) λu j ⟨x,g,f,c,q1⟩=>?_;obtain⟨i,rfl,q⟩:=q1;obtain⟨t,rfl⟩:=c;exact⟨some i,g,f,Jcv i,q⟩
def SlR (X:Cx)(r:V→Option Int→Option Int→Hp→VK→Prop):Prop :=
  ∀a s (b:St) H x v d c lo hi f Q,Jj0 b→aS x v→Jdk f d c→IsPart d lo→IsPart c hi→r x lo hi H Q →
    ∃T id,JjH (Jab T "__getitem__") (Jdu id)∧s.TypeIs v T∧JaY (getItem v (.ref f)) (EP X a b Q) s
def SlR.or (h:SlR X r)(h':SlR X r'):SlR X (λx lo hi H Q=>r x lo hi H Q∨r' x lo hi H Q):=by
  intro a s b H x v d c lo hi f Q I g hs pl i q;rcases q with q | q
  · exact h a s b H x v d c lo hi f Q I g hs pl i q
  · exact h' a s b H x v d c lo hi f Q I g hs pl i q
def tSl (r:V→Option Int→Option Int→Hp→VK→Prop)(te:TE)(tl th:TO):TE:=λa H Q=>te a H λx d=>tl a d λl c=>th a c λu b=>r x l u b Q
def ky (B:SlR X r)(E:QG e te)(C:PO X lo tl)(y:PO X hi th):QG (JeP e (.Slice lo hi none p2)) (tSl r te tl th):=by intro a s d H Q I h;refine Subscript_ (thn (E a s d H _ I h) λv k ⟨x,N,L,n,q1⟩=>?_);refine wpAny_Slice (thn (C a k d N _ L q1) λg j ⟨l,M,K,pl,p⟩=>thn (y a j d M _ K p) λf c ⟨u,i,J,t,o⟩=>?_);rw[evalPart_none];refine wpAny_pure ?_;have G:JK a d i { c with heap:=c.heap.push { cls:=.type "slice",data:=.fields #[g,f,.none] } }:=J.kept (t':=c.toks) λb O q=>XX q;obtain⟨T,id,F,z,D⟩:=B a { c with heap:=c.heap.push { cls:=.type "slice",data:=.fields #[g,f,.none] } } d i x v g f l u c.heap.objs.size Q G n (Heap.IsSliceOf.new ..) pl t o;exact tail_any (ops:=JbO c.heap.objs.size v) z F D (by rfl)
noncomputable def gH (xs:List V)(lo hi:Option Int):List V:=(xs.drop (V3 0 lo)).take (HT.sIx xs.length xs.length hi - V3 0 lo)
def tY (xs)(lo hi):(gH xs lo hi).length≤xs.length:=by unfold gH;rw[List.length_take,List.length_drop];lia
inductive rSlT (K:PySem.W.Frag):V→Option Int→Option Int→Hp→VK→Prop|m{x lo hi H Q} a xs:Jed a→JfB a→¬(V3 0 lo=0∧Jlg (V3 xs.length hi))→(∀p,Vn p→Xg p (Vh H p (gH xs lo hi)))→rSlT K x lo hi H Q
def tZ:SlR X (rSlT X.K):=by
  intro f s n H x v t p lo hi u Q I i hs pl j h;obtain⟨a,xs,rfl,k,l,q⟩:=h;cases i;obtain⟨d,r,g,hz⟩:=I.tuple k;have c:Jlg d.toArray.size:=by rw[sAq];exact r.length.symm
  refine⟨"tuple",_,PyProof.Rows.slot_tuple_getitem.lookup,g.typeIs,?_⟩;refine HT.getItem_tuple_cut g hs pl j (by rw[c];exact l) ?_ (by rw[c];exact hz);rw[c];refine JkV _ (t':=s.toks) (λb w q=>XX q) _ ?_ (q _ (VG _));exact⟨Jkz (tY xs lo hi),_,(r.drop (V3 0 lo)).take (HT.sIx xs.length xs.length hi - V3 0 lo),fw.new _ _⟩
inductive rCatT (K:PySem.W.Frag):R2|m{x y H Q} a b xs ys:Jed a→Xy y b→JfB a→X9 b ys→xs≠[]→xs.length+ys.length≤sizeLine→(ys=[]→Xg a H)→(ys≠[]→∀p,Vn p→Xg p (Vh H p (xs++ys)))→rCatT K x y H Q
def aM.nil_iff (r:JbM xs):us=[]↔xs=[]:=by
  cases r with
  | nil=>simp
  | cons _ _=>simp
def ym:JaD X .Add (rCatT X.K):=by intro f s A H x y v u Q I j i h;obtain⟨a,b,xs,ys,rfl,rfl,t,r,p,hz,q1,k⟩:=h;cases j;cases i;obtain⟨n,d,l,_⟩:=I.tuple t;obtain⟨g,c,p2,_⟩:=I.tuple r;refine HT.cat_tup l p2 (λz=>p (d.nil_iff.mp z)) (λz=>VM a H I (q1 (c.nil_iff.mp z))) (λz=>?_) (by rw[←d.length,←c.length];exact hz);refine JkV _ (t':=s.toks) (λb B q=>XX q) _ ?_ (k (λw=>z (c.nil_iff.mpr w)) _ (VG _));exact⟨by rw[lAq];exact hz,_,d.append c,fw.new _ _⟩
end
noncomputable def ixN (n:Nat)(i:Int):Option Nat:=if 0≤i then(if i < n then some i.toNat else none) else if -(n:Int)≤i then some (i+n).toNat else none
noncomputable def atI {a:Type}(xs:List a)(i:Int):Option a:=(JhT i).bind λj=>xs[j]?
def t_ (h:Xa (ixN n i) j):seqIndex? i n=some j∧j < n∧-(n:Int)≤i∧i < n:=by
  unfold ixN at h;by_cases h0:0≤i
  · rw[if_pos h0]at h;by_cases a:i < n
    · rw[if_pos a]at h;have e:=Option.some.inj h;exact⟨by rw[seqIndex_of h0 a,e],by lia,by lia,a⟩
    · rw[if_neg a]at h;cases h
  · rw[if_neg h0]at h;by_cases a:-(n:Int)≤i
    · rw[if_pos a]at h;have e:=Option.some.inj h;exact⟨by rw[Jf6 a,e],by lia,a,by lia⟩
    · rw[if_neg a]at h;cases h
def uc (h:Jdl xs i v):∃j,seqIndex? i xs.length=some j∧xs[j]?=some v∧JdO j∧-(xs.length:Int)≤i∧JdO i:=by
  unfold atI at h;cases e:JhT i with
  | none=>rw[e]at h;cases h
  | some j =>
    rw[e]at h;obtain⟨d,c,b,a⟩:=t_ e;exact⟨j,d,h,c,b,a⟩
def aJ {a:Type}{xs:List a}{j:Nat}{v:a}(h:xs[j]?=some v):atI xs (j:Int)=some v:=by
  have b:JdO j:=(gEq h).1;have e:JhT (j:Int)=some j:=by unfold ixN;rw[if_pos (by lia),if_pos (by lia)];simp
  unfold atI;rw[e];exact h
def yo (xs)(v:α):atI (xs++[v]) (-1)=some v:=by
  have a:(xs++[v]).length=xs.length+1:=by simp
  have e:ixN (xs++[v]).length (-1)=some xs.length:=by unfold ixN;rw[a,if_neg (by decide),if_pos (by lia)];congr 1;lia
  unfold atI;rw[e];show(xs++[v])[xs.length]?=some v;simp
def yp (b:Expr):Prop:=∀o i,subscripted b false o i=JkA [o,i] o i
def IxR (X:Cx)(r:R2):Prop :=
  ∀c a b s (d:St) H x y v u Q,JjZ b d→aS x v→Jeb y→r x y H Q →
    subscripted a false v u=JkA [v,u] v u→JaY (subscriptTail c a v u) (EP X b d Q) s
def MtR (X:Cx)(id:String)(r:V→List V→Hp→VK→Prop):Prop :=
  ∀a s (b:St) H x xs v us Q,Jj0 b→aS x v→JbM xs→r x xs H Q →
    wpAny (Qq X.w) X.A (Jbj id (v :: us)) (EP X a b Q) X.xe s
section
variable {X:Cx} {a b:Expr} {ta tb:TE} {pos:Pos}
def ar (i:IxR X r)(k:JjW a)(j:QG b tb)(hs:yp b:=by exact λ_ _=>rfl):QG (JeP a b) (tOp r ta tb):=by intro c s d H Q I h;exact Subscript_ (binT k j I h λv u e x y n l g f q=>i a b c e d n x y v u Q l g f q (hs _ _))
inductive gJ (K:PySem.W.Frag):R2|m{x y H Q} p xs i v:Jed p→Jhz y i→Ja6 p→Jdl xs i v→Q v H→gJ K x y H Q
inductive du (K:PySem.W.Frag):R2|m{x y H Q} p xs i v:Jed p→Jhz y i→JfB p→Jdl xs i v→Q v H→du K x y H Q
def a_:IxR X (gJ X.K):=by
  intro f g c s o H x y v u Q I C B h hs;obtain⟨p,xs,i,z,rfl,rfl,D,F,q⟩:=h;cases C;obtain⟨t,rfl⟩:=B;obtain⟨l,r,pl,hz⟩:=I.list D;obtain⟨j,e,L,N,J,G⟩:=uc F;obtain⟨w,A,k⟩:=r.get L;have E:=r.length;have M:=km;have d:EP X c o Q w s:=⟨z,H,I,k,q⟩;by_cases h0:0≤i
  · have n:i.toNat=j:=by rw[seqIndex_of h0 G]at e;exact Option.some.inj e
    exact item_listR pl.isList h0 (by lia) (by rw[n];simpa using A) d hs
  · have n:(i+(l.toArray.size:Int)).toNat=j:=by rw[Jf6 J]at e;rw[sAq,←E];exact Option.some.inj e
    exact subscriptTail_builtinR pl.isList.typeIs slot_list_getitem.lookup
      (wpAny_getItem_list_neg pl.isList (by lia) (by rw[sAq] <;> lia) (by lia) (by rw[n];simpa using A) (Jbe d)) hs
def aA:IxR X (du X.K):=by
  intro d e c s k H x y v u Q I n l h hs;obtain⟨p,xs,i,z,rfl,rfl,A,C,q⟩:=h;cases n;obtain⟨t,rfl⟩:=l;obtain⟨o,r,pl,hz⟩:=I.tuple A;obtain⟨j,E,D,M,L,J⟩:=uc C;obtain⟨w,F,f⟩:=r.get D;have B:=r.length;have G:=km;have g:EP X c k Q w s:=⟨z,H,I,f,q⟩;exact subscriptTail_builtinR pl.typeIs slot_tuple_getitem.lookup
    (getItem_tuple pl (by lia) (by lia) (by rw[sAq,←B];exact E) (by simpa using F) (Jbe g)) hs
def yq (c:List Value)(n j)(u):Obj.mapSeq (·.setIfInBounds j u) { cls:=.type "list",data:=.seq c.toArray n }={ cls:=.type "list",data:=.seq (c.set j u).toArray n }:=by simp [Obj.mapSeq]
def Inv.lst (I:QE s)(h:Jc2 p) :
    ∃c n,aM xs c∧s.heap.get? p=some { cls:=.type "list",data:=.seq c.toArray n }∧Ju xs.length:=by obtain⟨z,c,n,r,e⟩:=Jdv p h;exact⟨c,n,r,e,z⟩
def Inv.lstUpd {c:List (Addr × Obj)}{i:St}{H:Hp}{s:Shared}{p:Addr}{xs ys:List V}{d its':List Value}{n g:Nat}{f:Obj→Obj}(I:JjZ c i)(h:Jc2 p)
    (k:s.heap.get? p=some { cls:=.type "list",data:=.seq d.toArray n })(j:f { cls:=.type "list",data:=.seq d.toArray n }={ cls:=.type "list",data:=.seq its'.toArray g })(r:aM ys its')(hz:Ju ys.length)(t) :
    Inv X c i (JkL p ys) { s with heap:=s.heap.update p f,toks:=t }:=by
  have e:(s.heap.update p f).get? p=some { cls:=.type "list",data:=.seq its'.toArray g }:=by rw[Heap.get?_update_self f k (by rw[j] <;> rfl),j]
  refine I.write (by rw[h];trivial) (.inl rfl) (λb u l q=>(Heap.get?_update_other _ _ (Ne.symm l)).trans q) (Jgo e) ?_;exact⟨hz,its',g,r,e⟩
inductive rSetL:V→V→V→Hp→(Hp→Prop)→Prop|m{o i v H Q} p xs k j:Xy o p→Jhz i k→Jc2 p→Xa (JhT k) j→Q (JkL p (xs.set j v))→rSetL o i v H Q
def yt:PSet X rSetL:=by
  intro c s A H o i v F G u Q I C D B h;obtain⟨p,xs,k,j,rfl,rfl,w,E,q⟩:=h;cases C;obtain⟨t,rfl⟩:=D;obtain⟨d,n,r,f,hz⟩:=I.lst w;obtain⟨e,K,y,x⟩:=t_ E;have g:=r.length;have J:=km;have z:=
    I.lstUpd w f (yq d n j u) (r.set B j) (by rw[List.length_set];exact hz) s.toks
  by_cases h0:0≤k
  · have l:k.toNat=j:=by rw[seqIndex_of h0 x]at e;exact Option.some.inj e
    exact PySem.W.ki_setAt f h0 (by lia) (by rw[sAq,←g];exact x) (by rw[l];exact Jlc z q)
  · have l:(k+(d.toArray.size:Int)).toNat=j:=by rw[Jf6 y]at e;rw[sAq,←g];exact Option.some.inj e
    exact PySem.W.ki_setBack f (by lia) (by rw[sAq,←g];exact y) (by lia) (by rw[l];exact Jlc z q)
def yu (lo c)(n):(sliceBounds lo c none n).1=(HT.sIx n 0 lo:Int)∧(sliceBounds lo c none n).2.1=(HT.sIx n n c:Int)∧(sliceBounds lo c none n).2.2=1:=by
  refine Ja4 ?_ ?_
  · cases lo with
    | none=>rfl
    | some i =>
      simp only[sliceBounds,HT.sIx,Option.getD_none,show(1:Int) > 0 by decide,if_true];lia
  · cases c with
    | none=>rfl
    | some i =>
      simp only[sliceBounds,HT.sIx,Option.getD_none,show(1:Int) > 0 by decide,if_true];lia
def yw (c:List Value)(lo d):slicePick c.toArray lo d none=((c.drop (HT.sIx c.length 0 lo)).take (HT.sIx c.length c.length d - HT.sIx c.length 0 lo)).toArray:=by obtain⟨g,f,e⟩:=yu lo d c.toArray.size;unfold slicePick;rw[g,f,e];simp only[sliceRange_one,pick_run,sAq] <;> rfl
inductive rSlL (K:PySem.W.Frag):V→Option Int→Option Int→Hp→VK→Prop|m{x lo hi H Q} a xs:Jed a→Ja6 a→(∀p,Vn p→JkM p p (gH xs lo hi))→rSlL K x lo hi H Q
def ud:SlR X (rSlL X.K):=by intro e s l H x v p n lo d t Q I g hs pl i h;obtain⟨a,xs,rfl,k,q⟩:=h;cases g;obtain⟨j,r,f,hz⟩:=I.list k;have c:=r.length;refine⟨"list",_,slot_list_getitem.lookup,f.isList.typeIs,?_⟩;refine wpAny_getItem_list_slice f.isList hs pl i .none (by simp) ?_ (by rw[sAq] <;> lia);rw[yw,←c];refine JkV _ (t':=s.toks) (λb u q=>XX q) _ ?_ (q _ (VG _));exact⟨Jkz (tY xs lo d),_,0,(r.drop (V3 0 lo)).take (HT.sIx xs.length xs.length d - V3 0 lo),Heap.get?_push_size _ rfl⟩
noncomputable def gh:V→Bool
  | .non=>true
  | .bl _=>true
  | .int _=>true
  | .str _=>true
  | _=>false
noncomputable def eqV:V→V→Bool
  | .non,.non=>true
  | .bl a,.bl b=>a == b
  | .bl a,.int b=>(if a then 1 else 0) == b
  | .int a,.bl b=>a == (if b then 1 else 0)
  | .int a,.int b=>a == b
  | .str a,.str b=>a == b
  | _,_=>false
def kz (d:Jeb y)(c:aS x v)(f:Qu (gh y))(e:Qu (gh x)):Jf7 A u v (eqV y x):=by
  cases y with
  | non =>
    cases d;cases x with
    | non=>cases c;exact SeqAt.EqAt.same _
    | bl b=>cases c;exact SeqAt.EqAt.none_bool b
    | int b=>obtain⟨t,rfl⟩:=c;exact SeqAt.EqAt.none_int b t
    | str b=>obtain⟨t,rfl⟩:=c;exact SeqAt.EqAt.none_str b t
    | _=>exact Qi (show Qu false from e)
  | bl a =>
    cases d;cases x with
    | non=>cases c;exact SeqAt.EqAt.bool_none a
    | bl b=>cases c;exact SeqAt.EqAt.bool_bool a b
    | int b=>obtain⟨t,rfl⟩:=c;exact SeqAt.EqAt.bool_int a b t
    | str b=>obtain⟨t,rfl⟩:=c;exact SeqAt.EqAt.bool_str a b t
    | _=>exact Qi (show Qu false from e)
  | int a =>
    obtain⟨t',rfl⟩:=d;cases x with
    | non=>cases c;exact SeqAt.EqAt.int_none a t'
    | bl b=>cases c;exact SeqAt.EqAt.int_bool a t' b
    | int b=>obtain⟨t,rfl⟩:=c;exact SeqAt.EqAt.int_int a t' b t
    | str b=>obtain⟨t,rfl⟩:=c;exact SeqAt.EqAt.int_str a t' b t
    | _=>exact Qi (show Qu false from e)
  | str a =>
    obtain⟨t',rfl⟩:=d;cases x with
    | non=>cases c;exact SeqAt.EqAt.str_none a t'
    | bl b=>cases c;exact SeqAt.EqAt.str_bool a t' b
    | int b=>obtain⟨t,rfl⟩:=c;exact SeqAt.EqAt.str_int a t' b t
    | str b=>obtain⟨t,rfl⟩:=c;exact SeqAt.EqAt.str_str a t' b t
    | _=>exact Qi (show Qu false from e)
  | _=>exact Qi (show Qu false from f)
noncomputable def eqU (x:V)(u:Value):Bool:=match u with
  | .none=>eqV .non x
  | .bool b=>eqV (.bl b) x
  | .int i _=>eqV (.int i) x
  | .str z _=>eqV (.str z) x
  | _=>false
def ue (r:Jeb y)(f:Qu (gh y)):eqU x u=eqV y x:=by
  cases y with
  | non=>cases r;rfl
  | bl b=>cases r;rfl
  | int i=>obtain⟨t,rfl⟩:=r;rfl
  | str z=>obtain⟨t,rfl⟩:=r;rfl
  | _=>exact Qi (show Qu false from f)
def kA:∀ {xs:List V} {us:List Value},JbM xs→Qu (xs.all gh)→us.any (eqU x)=xs.any λy=>eqV y x
  | _,_,.nil,_=>rfl
  | y :: xs,u :: us,JeY t,f=>by rw[List.all_cons,Bool.and_eq_true]at f;rw[List.any_cons,List.any_cons,ue r f.1,kA t f.2]
def kB (d:aS x v)(e:Qu (gh x)):∀ {xs:List V} {us:List Value},JbM xs→Qu (xs.all gh)→∀u∈us,Jf7 A u v (eqU x u)
  | _,_,.nil,_=>λu c=>by cases c
  | y :: xs,u :: us,JeY t,f=>λg c=>by
    rw[List.all_cons,Bool.and_eq_true]at f;rcases List.mem_cons.mp c with rfl | c
    · rw[ue r f.1];exact kz r d f.1 e
    · exact kB d e t f.2 g c
noncomputable def inV (x:V)(xs:List V):Bool:=xs.any λy=>eqV y x
inductive rIn (K:PySem.W.Frag)(neg:Bool):R2|m{x y H Q} p xs:Xy y p→(Ja6 p∨JfB p)→Qu (gh x)→Qu (xs.all gh)→XR (if neg then !inV x xs else inV x xs) H→rIn K neg x y H Q
def uf:JA X .In (rIn X.K false):=by
  intro i s l H x y v u Q I g k h;obtain⟨p,xs,rfl,d,j,e,q⟩:=h;cases k;rcases d with d | d
  · obtain⟨c,r,pl,hz⟩:=I.list d;refine SeqAt.in_listAt (eqU x) pl.isList (λw f=>kB g j r e w (by simpa using f)) (Jbr _ H I ?_);rw[show Jdw x=c.any (eqU x) by simp,kA r e];exact q
  · obtain⟨c,r,pl,hz⟩:=I.tuple d;refine SeqAt.in_tupleAt (eqU x) pl (λw f=>kB g j r e w (by simpa using f)) (Jbr _ H I ?_);rw[show Jdw x=c.any (eqU x) by simp,kA r e];exact q
def ug:JA X .NotIn (rIn X.K true):=by
  intro i s l H x y v u Q I g k h;obtain⟨p,xs,rfl,d,j,e,q⟩:=h;cases k;rcases d with d | d
  · obtain⟨c,r,pl,hz⟩:=I.list d;refine SeqAt.notIn_listAt (eqU x) pl.isList (λw f=>kB g j r e w (by simpa using f)) (Jbr _ H I ?_);rw[show Jdw x=c.any (eqU x) by simp,kA r e];exact q
  · obtain⟨c,r,pl,hz⟩:=I.tuple d;refine SeqAt.notIn_tupleAt (eqU x) pl (λw f=>kB g j r e w (by simpa using f)) (Jbr _ H I ?_);rw[show Jdw x=c.any (eqU x) by simp,kA r e];exact q
inductive rLenS (K:PySem.W.Frag):List V→Hp→VK→Prop|m{xs H Q} p ys:xs=Vt p→(JX p ys∨X9 p ys)→VI ys.length H→rLenS K xs H Q
def bf:Jay X "len" (rLenS X.K):=by
  intro g s j H xs us Q I r h;obtain⟨p,ys,rfl,d,q⟩:=h;obtain⟨u,rfl,i⟩:=fy r;cases i;have k:=km;rcases d with d | d
  · obtain⟨f,e,pl,hz⟩:=I.list d;have c:=e.length;exact Calls.call_len_list pl.isList (by simp only[sAq] <;> lia) (Jcg ys.length H _ ⟨s.toks+1,by rw[sAq,c]⟩ q)
  · obtain⟨f,e,pl,hz⟩:=I.tuple d;have c:=e.length;exact len_tuple pl (by simp only[sAq] <;> lia) (Jcg ys.length H _ ⟨s.toks+1,by rw[sAq,c]⟩ q)
def uh:Jay X "len" (λxs H Q=>∃z,xs=[.str z]∧Ju z.length∧VI z.length H):=by intro c s d H xs us Q I r h;obtain⟨z,rfl,hz,q⟩:=h;obtain⟨u,rfl,t,rfl⟩:=fy r;have e:=km;exact len_str (by lia) (JiC z.length H _ _ q)
inductive rLsO (K:PySem.W.Frag):List V→Hp→VK→Prop|m{xs H Q} p ys:xs=Vt p→(JX p ys∨X9 p ys)→(∀l,Vn l→JkM l l ys)→rLsO K xs H Q
def yx:JfF X "list" (rLsO X.K):=by
  intro g s z H xs us Q I r h;obtain⟨p,ys,rfl,j,q⟩:=h;obtain⟨u,rfl,A⟩:=fy r;cases A;have l:∀c,aM ys c→Ju ys.length→∀h' f,(∀b y,s.heap.get? b=some y→h'.get? b=some y) →
      h'.get? s.heap.objs.size=some { cls:=.type "list",dict:=none,data:=.seq c.toArray f,slots:=#[] }→EP X g z Q (.ref s.heap.objs.size) { s with heap:=h' }:=λc d hz h' f i e =>
    JkV _ (t':=s.toks) i _ (show JcP _ h' _ (.lst ys) from⟨hz,c,f,d,e⟩) (q _ (VG _))
  rcases j with j | j
  · obtain⟨c,d,pl,hz⟩:=I.list j;have k:=d.length;obtain⟨o,t,x,n,v⟩:=pl.isList;exact call_list_seq p (.inl rfl) t x v (λh' f i e=>l c d hz h' f i e) (by simp only[sAq] <;> lia)
  · obtain⟨c,d,pl,hz⟩:=I.tuple j;have k:=d.length;obtain⟨o,t,x,n,v⟩:=pl;exact call_list_seq p (.inr rfl) t x v (λh' f i e=>l c d hz h' f i e) (by simp only[sAq] <;> lia)
inductive rTpO (K:PySem.W.Frag):List V→Hp→VK→Prop|m{xs H Q} p ys:xs=Vt p→((JX p ys∧∀l,Vn l→Xg l (Vh H l ys))∨(X9 p ys∧Xg p H))→rTpO K xs H Q
def iZ:JfF X "tuple" (rTpO X.K):=by
  intro c s i H xs us Q I r h;obtain⟨p,ys,rfl,h⟩:=h;obtain⟨u,rfl,l⟩:=fy r;cases l;rcases h with ⟨g,q⟩ | ⟨g,q⟩
  · obtain⟨d,f,pl,hz⟩:=I.list g;have j:=f.length;refine call_tuple_list pl.isList (λh' n=>?_) (by simp only[sAq] <;> lia);have k:=I.kept (t':=s.toks) n;have t:=
      k.laid (t':=s.toks) (λb o e=>XX e) (nRq _) (show JcP _ _ _ (.tup ys) from⟨hz,d,f,fw.new _ _⟩)
    exact VM h'.objs.size _ t (q _ (k.hok.fresh (nRq _)))
  · obtain⟨d,f,pl,hz⟩:=I.tuple g;exact call_tuple_same pl (VM p H I q)
def tyV (K:PySem.W.Frag)(T:String)(x:V)(H:Hp):Prop:=match x with
  | .str _=>T="str"
  | .int _=>T="int"
  | .ref p=>(T="list"∧∃xs,Ja6 p)∨(T="tuple"∧∃o,J8 p o∧o.cls=.type "tuple"∧Qn o.dict) ∨
      (T="dict"∧((∃kvs,Jdp p)∨∃kvs,Jg p (.dT kvs)))∨(T="set"∧∃S n,Jg p (.set S n))∨(T="tuple"∧∃xs,JfB p)
  | _=>False
def ui (I:QE s)(r:aS x v)(ty:tyV X.K T x H) :
    s.TypeIs v T∧∀a,Xy v a→∃k,s.heap.get? a=some k∧Qn k.dict:=by
  cases x with
  | str z =>
    obtain⟨t,rfl⟩:=r;cases (show T="str" from ty);exact⟨typeIs_str s z t,λ_ e=>nomatch e⟩
  | int i =>
    obtain⟨t,rfl⟩:=r;cases (show T="int" from ty);exact⟨typeIs_int s i t,λ_ e=>nomatch e⟩
  | ref p =>
    cases r;rcases ty with ⟨rfl,xs,l⟩ | ⟨rfl,o,d,q,j⟩ | ⟨rfl,d⟩ | ⟨rfl,S,n,d⟩ | ⟨rfl,xs,d⟩
    · obtain⟨h,_,pl,_⟩:=I.list l;refine⟨pl.isList.typeIs,λa e=>?_⟩;cases e;obtain⟨o,n,e,c,j,_⟩:=pl;exact JjB j
    · refine⟨JjA (I.kIn p o d) q,λa e=>?_⟩;cases e;exact JjA (I.kIn _ o d) j
    · have z:∃o,s.heap.get? p=some o∧o.ExactDict:=by
        rcases d with ⟨kvs,d⟩ | ⟨kvs,d⟩
        · obtain⟨_,_,_,_,o,_,_,e,f,_⟩:=Jdv p d;exact JjB f
        · obtain⟨_,_,_,_,o,_,_,e,f,_⟩:=Jdv p d;exact JjB f
      obtain⟨o,e,f⟩:=z;refine⟨JjB f.1,λa g=>?_⟩;cases g;exact JjB f.2.1
    · obtain⟨o,_,_,_,e,f,_⟩:=Jdv p d;refine⟨JjB f.1,λa g=>?_⟩;cases g;exact JjB f.2.1
    · obtain⟨h,_,⟨o,e,c,_⟩,_⟩:=I.tupD d;refine⟨JjB ((Prod.mk.inj c).1),λa g=>?_⟩;cases g;exact JjB ((Prod.mk.inj c).2)
  | _=>exact False.elim ty
def tBM0 (K:PySem.W.Frag)(T:String)(r:V→List V→Hp→VK→Prop)(e:TE):TE:=λd H Q=>e d H λx c=>tyV K T x c∧r x [] c Q
def tBM (K:PySem.W.Frag)(T:String)(r:V→List V→Hp→VK→Prop)(e:TE)(t:TA):TE:=λc H Q=>e c H λx d=>tyV K T x d∧t c d λxs f=>r x xs f Q
variable {o e:Expr} {es:List Expr} {to:TE} {t:TA} {name:Str} {apos cpos:Pos} {T id:String} {r:V→List V→Hp→VK→Prop}
def pB (p:PlainAttrs T)(g:Slot T name id)(i:JjH (typeOf (.builtin id)) (.type "method_descriptor"))(u:MtR X id r)(q:QG o to)
    (f:Jii o name o=eval o X.env:=by rfl)(d:Qu (apos.endLine == cpos.line):=by rfl):QG (JkR o name [] [] cpos) (tBM0 X.K T r to):=by intro c s j H Q I h;refine wpAny_Call_method0_late f d (thn (q c s j H _ I h) λv n ⟨x,z,l,k,ty,q1⟩=>?_);obtain⟨y,w⟩:=ui l k ty;exact⟨T,id,p,g,i,y,w,Calls.callWith_builtin rfl (PySem.evalArgs_none (u c n j z x [] v [] Q l k .nil q1))⟩
def cB (A:PlainAttrs T)(i:Slot T name id)(l:JjH (typeOf (.builtin id)) (.type "method_descriptor"))(C:MtR X id r)(B:QG o to)(D:PA X (e :: es) t)
    (g:Jii o name o=eval o X.env:=by rfl)
    (j:Qu ((JdG (e :: es)).all (λx=>!x.1)&&(Jdd cpos []).all (λx=>x.1.isSome)
      && decide ((e :: es).length+([]:List Keyword).length+(if([]:List Keyword).isEmpty then 0 else 1) < 30)):=by rfl)
    (f:Qu (apos.endLine == cpos.line):=by rfl)(hs:Qd (e :: es)=(false,Jf e) :: starEach es X.env:=by rfl)(d:(JdG es).any (·.1)=false:=by rfl) :
    PE X (JkR o name (e :: es) [] cpos) (tBM X.K T r to t):=by intro c s k H Q I h;refine JfG g j f (thn (B c s k H _ I h) λv w ⟨x,L,q,n,ty,q1⟩=>?_);obtain⟨F,E⟩:=ui q n ty;refine⟨T,id,A,i,l,F,E,?_⟩;have p:=D cpos c w k L _ q q1;rw[hs]at p ⊢;refine XJ (by show Q9 (false||(JdG es).any (·.1));rw[d] <;> rfl) ?_;exact thn p λus u ⟨vs,J,G,y,z⟩=>C c u k J x vs v us Q G n y z
end
def MtM (X:Cx)(id:String)(r:V→List V→Hp→VK→Prop):Prop :=
  ∀a s (b:St) H x xs v us Q,Jj0 b→aS x v→JbM xs→r x xs H Q →
    wpAny (Qq X.w) X.A (Jbj id (v :: us)) (EP X a b Q) X.xe s
def aM.one (h:JbM [x]):∃u,us=[u]∧aS x u:=by
  cases h with
  | cons r h=>cases h;exact V2 r
def aM.two (h:JbM [x,y]):∃u v,us=[u,v]∧Jeb x∧aS y v:=by
  cases h with
  | cons r h=>cases h with
    | cons q h=>cases h;exact JC _ _ r q
def aM.zero:∀ {us:List Value},JbM []→us=[]
  | _,.nil=>rfl
def aM.dropLast (h:JbM xs):aM xs.dropLast us.dropLast:=by
  induction h with
  | nil=>exact .nil
  | cons r t a =>
    cases t with
    | nil=>exact .nil
    | cons q t'=>exact JeY a
def aM.reverse (h:JbM xs):aM xs.reverse us.reverse:=by
  induction h with
  | nil=>exact .nil
  | cons r t a=>rw[List.reverse_cons,List.reverse_cons];exact aM.append a (Qv r)
def yz (l:List α):l.eraseIdx (l.length - 1)=l.dropLast:=by
  induction l with
  | nil=>rfl
  | cons a r c =>
    cases r with
    | nil=>rfl
    | cons b r =>
      have e:(a :: b :: r).length - 1=((b :: r).length - 1)+1:=by rfl
      rw[e,List.eraseIdx_cons_succ,c]
      rfl
section
variable {X:Cx} {pins:List (Addr × Obj)} {σ:St} {H:Hp} {s:Shared} {l b:Addr} {xs ys zs:List V}
def Inv.lset {a its':List Value}{n:Nat}{f:Array Value→Array Value}{t':Nat}(I:QE s)(i:Jc2 l)
    (e:s.heap.get? l=some { cls:=.type "list",data:=.seq a.toArray n })(g:f a.toArray=its'.toArray)(c:aM ys its')(hz:Ju ys.length) :
    Inv X pins σ (JkL l ys) { s with heap:=s.heap.update l (Obj.mapSeq f),toks:=t' }:=by have q:=PySem.IsL.update e f;rw[g]at q;refine I.write (by rw[i];exact trivial) (.inl rfl) (λj u h d=>(Heap.get?_update_other s.heap (Obj.mapSeq f) (Ne.symm h)).trans d) (Jgo q) ?_;exact⟨hz,its',_,c,q⟩
def Inv.lnew (I:QE s)(a:aM ys its)(hz:Ju ys.length) :
    Inv X pins σ (JkL s.heap.objs.size ys) { s with heap:=s.heap.push { cls:=.type "list",data:=.seq its.toArray },toks:=t' } :=
  I.laid (λ_ _ q=>XX q) (nRq _) ⟨hz,its,0,a,Heap.get?_push_size _ rfl⟩
def Inv.fresh (I:QE s):Vn s.heap.objs.size:=VG _
def Inv.lstM (I:QE s)(c:Jc2 l):Ju xs.length∧∃a n,aM xs a∧Q8 a.length∧s.heap.get? l=some { cls:=.type "list",data:=.seq a.toArray n }:=by obtain⟨z,a,n,r,e⟩:=Jdv l c;exact⟨z,a,n,r,r.length,e⟩
def yA (h:Ju n):Q9 (Builtin.List.listTooLong n):=by exact dFq (by lia)
end
section
variable {X:Cx}
inductive uj:V→List V→Hp→VK→Prop|m{x vs H Q} l xs y:Jed l→vs=[y]→Jc2 l→JaH xs.length→Jb7 (JkL l (xs++[y]))→uj x vs H Q
def cL:MtM X "list.append" uj:=by intro b s i H x vs v us Q I d f h;obtain⟨l,xs,y,rfl,rfl,c,hz,q⟩:=h;cases d;obtain⟨u,rfl,g⟩:=f.one;obtain⟨z,a,n,r,j,e⟩:=I.lstM c;refine call_meets F.slot_list_append (JeK e) F.entry_list_append (F.args_list_append_2 _ _) (PySem.list_append l a.toArray n u (by rw[sAq];lia)) (XE e);refine Jr .non _ (I.lset (its':=a++[u]) c e (by simp) (r.append (Qv g)) ?_) q;rw[lAq,lS];lia
inductive uk:V→List V→Hp→VK→Prop|m{x vs H Q} l b xs zs:Jed l→vs=Vt b→Jc2 l→VH b zs→xs.length+zs.length≤sizeLine→Jb7 (JkL l (xs++zs))→uk x vs H Q
def uo:MtM X "list.extend" uk:=by
  intro f s A H x vs v us Q I i j h;obtain⟨l,b,xs,zs,rfl,rfl,g,w,hz,q⟩:=h;cases i;obtain⟨u,rfl,k⟩:=j.one;cases k;obtain⟨z,c,n,r,C,e⟩:=I.lstM g;obtain⟨B,a,p,o,t,y⟩:=I.lstM w;have hsz:c.toArray.size+a.toArray.size≤sizeLine:=by rw[sAq,sAq];lia
  have d:¬Qu (!c.toArray.isEmpty&&Builtin.List.listTooLong (c.toArray.size+a.toArray.size)):=by rw[yA hsz,Bool.and_false];exact Bool.false_ne_true
  refine call_meets F.slot_list_extend (JeK e) F.entry_list_extend (F.args_list_extend_2 _ _)
    (AutoSeq1.list_extend_list_list_0 l c.toArray n b a.toArray p d (by rw[sAq];lia) (by lia)) (Qk e y)
  refine Jr .non _ (I.lset (its':=c++a) g e (by simp) (r.append o) ?_) q;rw[lAq];lia
inductive rPop:V→List V→Hp→VK→Prop|m{x vs H Q} l xs y:Jed l→vs=[]→Jc2 l→xs[xs.length - 1]?=some y→Q y (JkL l xs.dropLast)→rPop x vs H Q
def pC:MtM X "list.pop" rPop:=by
  intro d s t H x vs v us Q I g i h;obtain⟨l,xs,y,rfl,rfl,f,k,q⟩:=h;cases g;have c:=i.zero;subst c;obtain⟨z,a,n,r,p,e⟩:=I.lstM f;obtain⟨u,o,j⟩:=r.get k;have b:a.toArray[a.toArray.size - 1]?=some u:=by show a.toArray[a.length - 1]?=some u;rw[←Array.getElem?_toList,←p];exact o
  refine call_meets F.slot_list_pop (JeK e) F.entry_list_pop (F.args_list_pop_1 _) (MeetsSeq.list_pop_last l a.toArray n u b (by rw[sAq];lia)) (XE e);refine⟨y,_,I.lset (its':=a.dropLast) f e ?_ r.dropLast ?_,j,q⟩
  · show a.toArray.eraseIdxIfInBounds (a.toArray.size - 1)=a.dropLast.toArray;rw[sAq,List.eraseIdxIfInBounds_toArray,yz]
  · rw[List.length_dropLast];lia
inductive rCat:R2|m{x y H Q} l b xs zs:Jed l→Xy y b→Jc2 l→VH b zs→xs.length+zs.length≤sizeLine→(∀p,Vn p→JkM p p (xs++zs))→rCat x y H Q
def jx:JaD X .Add rCat:=by
  intro d s w H x y v u Q I g f h;obtain⟨l,b,xs,zs,rfl,rfl,k,o,hz,q⟩:=h;cases g;cases f;obtain⟨z,c,n,r,C,e⟩:=I.lstM k;obtain⟨A,a,B,i,j,t⟩:=I.lstM o;refine PySem.P.add_list e t ?_ (by rw[sAq,sAq];lia);have p:c.toArray++a.toArray=(c++a).toArray:=by simp
  rw[p];exact VM _ _ (I.lnew (t':=s.toks) (r.append i) (by rw[lAq];lia)) (q _ I.fresh)
end
end L2
namespace Att
open PySem PySem.W PySem.Calls PyProof.Rows
def yB:∀ns vs,WellAll P h vs (ns.map WData.int)→IntsAre vs ns:=by
  intro ns
  induction ns with
  | nil =>
    intro vs w;rw[List.map_nil]at w;cases w;exact .nil
  | cons n ns c =>
    intro vs w;rw[List.map_cons]at w;cases w with
    | cons a b =>
      cases a;exact .cons _ _ (c _ b)
def yC {l:OpenLaw}{n:Nat}(u:Xa l.most n){P:Params}{h:Heap}{args:List WData}{vals:List Value}
    (b:Qu (l.row.toRowW.claim.pre args))(i:WellAll P h vals args) :
    ∃a vs ns,vals=[Value.ref a]∧args=[WData.list (ns.map WData.int)]∧h.get? a=some { cls:=.type "list",data:=.seq vs.toArray }∧Jex vs∧Jfh n:=by
  have j:=(pre_splitW b).1;have k:Qu (l.pre.holds [] { args:=args }):=(pre_splitW b).2;obtain⟨d,r,rfl,x,w⟩:=hasAllW_cons j;obtain rfl:=hasAllW_nil w;obtain⟨xs,rfl,v⟩:=hasW_list x;obtain⟨ns,rfl⟩:=items_int v;have c:Jfh n:=by
    have g:(WTm.not (.lt (.lit (.int (n:Int))) (.len (.arg 0)))).holds [] { args:=[.list (ns.map .int)] }=true:=by have g:=(holds_andW k).1;rw[u]at g;exact g
    have f:=condW_of g (w_not (w_lt w_lit (w_len_list (w_arg rfl))));rw[lM]at f;lia
  cases i with
  | cons p o =>
    cases o;cases p with
    | list t e=>exact JeX _ _ ns t (yB ns _ e) c
def yD (l:OpenLaw)(args):Qu (l.row.toRowW.claim.post args (.bool true) args) :=
  postW_of
    (show Qu (WShape.has [] (.bool true) .bool) by rfl)
    (show(WTm.eq .res (.lit (.bool true))).value [] { args:=args,res:=some (.bool true),after:=args }=some (.bool (true == true)) from w_eq_bool (w_res rfl) w_lit) rfl
def attach_call {l:OpenLaw}{n:Nat}{q:Program}{e:List Str}{F:(Str→Option Value)→Heap→Prop}{E:World→Heap→Prop}{d:DefRec}
    (K:Xa l.most n)(z:d.params.defaults=[])
    (s:∀w c b mg v p o u t h a vs ns,
      Ground q e [] F w c mg v b.heap→E w b.heap →
      b.heap.get? p=some o→o.data=.func (docDef d.name d.params d.body d.scope u t h)→b.heap.CodeRec t d.name→mg d.name=Ja p →
      b.heap.get? a=some { cls:=.type "list",data:=.seq vs.toArray }→Jex vs→Jfh n→b.gens=#[] →
      codeAny (Jhy l.prog) callerA (Jeh p (Jgm a)) (λr s'=>r=JaV (.bool true)∧OldK b.heap s'.heap∧s'.os=b.os∧AllBare s'.gens) b) :
    WalkO q e F E l.row.toRowW d [] (λf vs=>PySem.call f vs):=by intro w c b mg v G Y p o u t h S kV J O A C y N D vals T i B H x M;obtain rfl:S=.none:=Dflts.none C z;obtain rfl:kV=.none:=Dflts.noKw C;obtain⟨a,vs,ns,rfl,rfl,j,g,k⟩:=yC K i x;refine enter_call (codeAny_mono (s w c b mg v p o u t h a vs ns G Y J (fd_plain O) A y j g k N) λr s' I=>?_);obtain⟨rfl,R,Q,P⟩:=I;exact⟨.inl (Jdr (.bool true) (.bool true) [] (λ_=>rfl) (.bool true) (yD l _) (λ_=>⟨List.Pairwise.nil,λ_ L=>(nomatch L)⟩)),R,Q,P⟩
section
variable {prog:Program} {w:World} {A:Around} {E:Value→Shared→Prop} {s:Shared} {K:Frag}
noncomputable def ledger (h:Heap)(L d:Addr):List (Addr × Obj):=(List.range h.objs.size).filterMap λa=>if a=L∨a=d then none else(h.get? a).map λo=>(a,o)
end
end Att
namespace L2
open PySem PySem.Spec PyProof.Rows
def mJ:∀ {vs:List Value} {ns:List Int},Jex vs→aM (ns.map V.int) vs
  | _,_,.nil=>.nil
  | _,_,.cons n t h=>.cons (Xr t) (mJ h)
def Only (H:Hp):Prop:=∀b,Vn b∨∃o xs,Jlr (.frz o (.lst xs))
def yE {P:Program}{w:World}{K:PySem.W.Frag}{mg J:Str→Option Value}{CX:CXT}{k:Nat}{O a:Addr}{Z:FuncData}{x:Str}{sp:Sp}{c:Shared}{vs:List Value}{ns:List Int}
    (KX:K.In c.heap)(B:c.heap.Ns mainGlobals mg)(g:c.heap.Ns builtinsNs J)(M:∀x:Str,x≠"__name__"→J x=bootBuiltins x)(C:c.heap.NoLimit)(hg:c.gens=#[])
    (G:c.heap.get? a=some { cls:=.type "list",data:=.seq vs.toArray })(U:Jex vs)(T:Ju ns.length)(hr:aX k callerA)
    (F:∀base:Heap,K.In base→Jhx mg→Je P w K mg CX k O Z [x] sp)(l:∀s u,BindsTo s Z (Jew [u]) [(x,u)])
    (L:∀H:Hp,Only H→Jir a→sp (Vt a) H (λv _=>v=.bl true) λ_ _ _=>False)
    (N:∀H e s',CX [] H c (λ_ _ _=>False) e s'→False) :
    codeAny (Jhy P) callerA (Jeh O (Jgm a)) (λr s'=>r=JaV (.bool true)∧OldK c.heap s'.heap∧s'.os=c.os∧AllBare s'.gens) c:=by
  have S:=mJ U;have t:=U.length;have j:∀H:Hp,Only H→Jir a→Jis c.heap→(∀b,H b≠none→b=a)→(H a≠none→Qn (K.lookup a)) →
      codeAny (Jhy P) callerA (Jeh O (Jgm a)) (λr s'=>r=JaV (.bool true)∧OldK c.heap s'.heap∧s'.os=c.os∧AllBare s'.gens) c:=by
    intro H X hS A Y hK;have f:∀ {b:Addr} {o:Obj},c.heap.get? b=some o→Vn b→(JkB H).get? b=some o:=λe n=>xI e n;have I:∀ {b:Addr} {o:Obj} {es:Array DictEntry} {ep:Nat},c.heap.get? b=some o→o.data=Jj4 ep→Vn b:=λ{b o es ep} e d=>by
      cases q:H b with
      | none=>rfl
      | some u =>
        have Q:=Y b (by rw[q];simp);subst Q;rw[G]at e;cases e;have d':=d;cases d'
    have i:∀ {b:Addr} {m:Str→Option Value},c.heap.Ns b m→(JkB H).Ns b m:=λ{b m} ⟨o,es,ep,e,d,r⟩=>⟨o,es,ep,f e (I e d),d,r⟩;have D:K.In (JkB H):=λb o e=>f (KX b o e) (by
      cases q:H b with
      | none=>rfl
      | some u =>
        have Q:=Y b (by rw[q];simp);subst Q;rw[hK (by rw[q];simp)]at e;cases e)
    have hM:Mod K mg (JkB H):=⟨D,i B,⟨J,i g,M⟩,let ⟨mc,h1,h2⟩:=C;⟨mc,i h1,h2⟩⟩;have e0:iY P w K mg (JkB H) callerA [] c H:=⟨rfl,hM,λb o e=>xJ e,Nat.le_of_eq (xH _ _),trivial,λb g=>Jv (show b∈([]:List Addr) from g),A,.of_eq hg⟩;refine codeAny_mono ((F _ D (i B)).run callerA [] c H (Jgm a) (Vt a) (Vt a) _ _ hr e0 (l c (.ref a)) (Qv rfl) (L H X hS)) λr s' h=>?_;cases r with
    | error e=>exact(N H e s' h).elim
    | ok fl =>
      cases fl with
      | next=>exact False.elim h
      | brk=>exact False.elim h
      | cont=>exact False.elim h
      | ret u =>
        obtain⟨v,H',os,E,R,y,r',q⟩:=h;have q':=q;subst q';obtain rfl:u=Value.bool true:=r';refine⟨rfl,OldK.of_keep λb o e=>?_,os,E⟩;cases q:H b with
        | none=>exact R.keep b o e q (by intro z;exact Jv (show b∈([]:List Addr) from z)) (by simp)
        | some u =>
          rcases X b with z | ⟨ob,xs,z⟩
          · rw[q]at z;cases z
          · have z2:=R.frzs b ob _ z;obtain⟨e1,_⟩:=A b _ z;obtain⟨e2,_⟩:=y b _ z2;rw[e]at e1;cases e1;exact e2
  cases hk:K.lookup a with
  | some o =>
    have e:=KX a o hk;rw[G]at e;cases e;refine j (λ_=>none) (λ_=>.inl rfl) (.inr (JjJ _ vs.toArray _ hk rfl rfl (by rw[sAq,t];exact T) (by simpa using S))) (λb u z=>by have p:=z;cases p) (λb z=>JbT z) λz=>JbT z
  | none =>
    refine j (λb=>if b=a then some (.frz { cls:=.type "list",data:=.seq vs.toArray } (.lst (ns.map V.int))) else none) (λb=>?_) (.inl (Jx { cls:=.type "list",data:=.seq vs.toArray } (if_pos rfl))) (λb u z=>?_) (λb z=>?_) λ_=>hk
    · by_cases g:b=a
      · exact .inr (Jlc _ (if_pos g))
      · exact .inl (if_neg g)
    · by_cases g:b=a
      · have p:=(if_pos g).symm.trans z;cases p;subst g;exact⟨G,by rw[lM];exact T,vs,_,S,G⟩
      · have p:=(if_neg g).symm.trans z;cases p
    lia
abbrev KOf {K:PySem.W.Frag}{h:Heap}(_:K.In h):PySem.W.Frag:=K
def walk_of {l:PySem.W.OpenLaw}{n k:Nat}{q:Program}{i:List Str}{Z:(Str→Option Value)→Heap→Prop}{I:World→Heap→Prop}{d:DefRec}{K:Params→PySem.W.Frag}{CX:World→CXT}{sp:World→Sp}{x:Str}
    (M:Xa l.most n)(z:Ju n)(B:d.params.defaults=[])(L:aX k callerA)
    (Q:∀w h,I w h→(K w.params).In h)
    (F:∀w mg t h,(K w.params).In h→h.Ns mainGlobals mg→mg d.name=Ja t →
      ∃D:FuncData,(∀s u,BindsTo s D (Jew [u]) [(x,u)]) ∧
        ∀base:Heap,(K w.params).In base→Jhx mg→Je l.prog w (K w.params) mg (CX w) k t D [x] (sp w))
    (y:∀w H a (ns:List Int),Jfh n→Only H→SqL (K w.params) H a (ns.map V.int)→sp w (Vt a) H (λv _=>v=.bl true) λ_ _ _=>False)
    (C:∀w H s e s',CX w [] H s (λ_ _ _=>False) e s'→False) :
    PySem.W.WalkO q i Z I l.row.toRowW d [] (λf vs=>PySem.call f vs):=by refine Att.attach_call M B λw E p mg mb t o pm cd X a vs ns G Y ho hd O A r j c N=>?_;have J:=Q w _ Y;obtain⟨D,P,U⟩:=F w mg t _ J G.T.g A;exact yE J G.T.g G.T.b G.T.builtins G.T.nolimit N r j (Nat.le_trans c z) L U P (λH S R=>y w H a ns c S R) λH e s'=>C w H p e s'
noncomputable def cQ (s:Stmt)(j:Nat):Stmt:=match s with
  | .ClassDef _ _ _ a _ _ _ _ _ _ _=>a.getD j (Je0 0 0 0 0)
  | _=>Je0 0 0 0 0
noncomputable def fk (s:Stmt):Arguments:=match s with
  | .FunctionDef _ a _ _ _ _ _ _ _ _=>a
  | _=>{ posonlyargs:=[],args:=[],vararg:=none,kwonlyargs:=[],kw_defaults:=[],kwarg:=none,defaults:=[] }
noncomputable def cG (s:Stmt):List Stmt:=match s with
  | .FunctionDef _ _ b _ _ _ _ _ _ _=>b
  | _=>[]
noncomputable def ap (s:Stmt):Scope:=match s with
  | .FunctionDef _ _ _ _ _ _ sc _ _ _=>sc
  | _=>{ kind:=.function,names:=[],isGenerator:=false,isCoroutine:=false }
abbrev CX0:CXT:=λ_ _ _ _ _ _=>False
abbrev E0:XK:=λ_ _ _=>False
def ay:iz CX0 X E0:=λ_ _ _ _ _ _ _ h=>h.elim
structure Fun (K:PySem.W.Frag)(x qual)(st)(f)(fd):Prop where
  ex:∃(oc:Value) (od:Option Addr) (kV doc pm:Value) (an:Option Addr) (cdv ct:Value) (osl:Jli Value),
    fd=Jgs x qual (fk st) (cG st) (ap st) .none kV doc pm an ct∧J8 f (JhS oc od fd osl)∧Jiz K cdv qual
  kp:Qu (Jbi K f)
section
variable {P:Program} {w:World} {K:PySem.W.Frag} {mg:Str→Option Value} {base:Heap}
def Fun.ok {x a:Str}{st:Stmt}{f:Addr}{g:FuncData}{N ps:List Str}{k:Nat}{sp:Sp}(F:Fun K x a st f g)(S:Xn N ps st)(c:∀vs H Q E,sp vs H Q E→Jej vs.length)
    (b:∀cdv A outer s H vs Q E,Jag k (QN a (ap st) f cdv)→sp vs H Q E →
      ∃t,Jlf (Jfk CX0 P w K mg N a (ap st) f cdv A s H E).nox (cG st)∧t { nx:=λ_ H'=>Q .non H',rt:=Q } (hE N vs) H):JE (k+1) f g ps sp:=by obtain⟨p,od,kV,n,o,u,cdv,r,i,rfl,j,e⟩:=F.ex;refine fn_of j e S c λA outer s H vs Q E l d=>?_;obtain⟨t,h,q⟩:=b cdv A outer s H vs Q E l d;exact⟨t,h.nox,q⟩
def Fun.binds {x a:Str}{st:Stmt}{f:Addr}{g:FuncData}{ps:List Str}(F:Fun K x a st f g)
    (h:∀kV b c e cdv d us,Jej us.length→JjH (JhM (Jgs x a (fk st) (cG st) (ap st) .none kV b c e d) us) (ps.zip us)):JiA g ps:=by obtain⟨k,od,kV,b,c,e,cdv,d,i,rfl,l,j⟩:=F.ex;exact .all (h kV b c e cdv d)
def uq {x a:Str}{st:Stmt}{f:Addr}{i:Value}{od h:Option Addr}{d:Array (Option Value)}{kV b e cdv g:Value}(l:J8 f (JhS i od (Jgs x a (fk st) (cG st) (ap st) .none kV b e h g) d))
    (c:Jiz K cdv a)(k:Qu (Jbi K f)):Fun K x a st f (Jgs x a (fk st) (cG st) (ap st) .none kV b e h g):=⟨⟨i,od,kV,b,e,h,cdv,g,d,rfl,l,c⟩,k⟩
end
def dv (a:aX k A):A.units+1 < cLine:=Nat.lt_of_le_of_lt (Nat.add_le_add_left (by decide:1≤64) _) a.units
def cY (h:n≤1000):JaH n:=Nat.lt_of_le_of_lt h (by decide)
section
variable {X:Cx}
def pv (i){x:Str}{a:Pos}(e:X.N[i]?=some x:=by rfl)(c:JdC x:=by first | exact Or.inl rfl | exact Or.inr (Or.inl rfl) | exact Or.inr (Or.inr rfl))(d:Q9 (x == ("__debug__":Str)):=by decide)
    (b:Q9 (x == ("__classdict__":Str)):=by decide):QG (X1 a) (tVar i):=pe_var e c d b
end
def bK {A B:Prop}(h:B):if Qu false then A else B:=by rw[if_neg Bool.false_ne_true];exact h
def b_ {A B:Prop}(h:A):if Qu true then A else B:=by rw[if_pos rfl];exact h
def aQ {c A B:Prop}[Decidable c](b:c→A)(a:¬c→B):if c then A else B:=by
  lia
def ao (H H':Hp):Prop:=∀b o,Jlr o→Vw b o
def ao.refl (H):JhU H:=λ_ _ h=>h
def ao.trans (a:JhU H1)(b:ao H1 H2):JhU H2:=λc o h=>b c o (a c o h)
def ao.free (e:Xj H){l:Addr}(h:Jhc (H' l)):Jhc (H l):=by
  cases q:H l with
  | none=>rfl
  | some o =>
    rw[e l o q]at h;cases h
def ao.seq {K:PySem.W.Frag}{H H':Hp}{a:Addr}{xs:List V}(e:Xj H)(h:Ja6 a):Xt H' a xs:=by
  rcases h with (h | ⟨o,h⟩) | h
  · exact .inl (.inl (e _ _ h))
  · exact .inl (Jx o (e _ _ h))
  · exact .inr h
end L2
def lS0:Jfw 0:=by decide
def lS1:Jfw 1:=by decide
def lS2:Jfw 2:=by decide
def lS3:Jfw 3:=by decide
def lS4:Jfw 4:=by decide
namespace L2
open PySem PySem.Spec PyProof.Rows
section
variable {X:Cx} {e l:Expr} {te tl:TE} {pos:Pos} {tg:Expr}
def Its (z:Str):It:=⟨λi _=>i < z.length,λi H x H'=>H'=H∧∃c,z.cps[i]?=some c∧x=.str ⟨#[c]⟩,λi _=>JjI i⟩
def ur {P:Program}{w:World}{K:W.Frag}{ty:String}(n:ty="str_ascii_iterator"∨ty="str_iterator")(it)(z)(t):g_ P w K tg (Its z) [it] it (λi h=>h.IsStrIter it ty z t i) where
 mem:=by simp
 obj:=λi h st b a=>by
  have e:b=it:=by simpa using a
  subst e;obtain⟨o,e,c,d⟩:=st;exact JjB (λv z=>by rw[d]at z;cases z)
 keep:=λi h h' st k=>by obtain⟨o,e,r⟩:=st;exact JjA (Jao it o e) r
 item:=by
  intro X L D M J i g s B H E I p st G;subst L D M;have F:i < z.cps.size:=G;have j:z.cps[i]?=some z.cps[i]:=by simp [F]
  obtain⟨A,y,Q,x,u,q⟩:=p it (by simp);rcases n with rfl | rfl
  ·refine wpAny_pyNext_ascii_item st j λh' f C=>?_;have O:=I.turned (t':=s.toks+1) (λb o a e=>(C.2 b a).trans e) A y x u q;obtain⟨o,e,c,d⟩:=id f;exact V2 (Jcx e c d ⟨.str ⟨#[z.cps[i]]⟩,H,O,Xr _,⟨rfl,_,j,rfl⟩,f,λb a=>(p b a).1⟩)
  ·refine wpAny_pyNext_wide_item st j λh' f C=>?_;have O:=I.turned (t':=s.toks+1) (λb o a e=>(C.2 b a).trans e) A y x u q;obtain⟨o,e,c,d⟩:=id f;exact V2 (Jcx e c d ⟨.str ⟨#[z.cps[i]]⟩,H,O,Xr _,⟨rfl,_,j,rfl⟩,f,λb a=>(p b a).1⟩)
 done:=by
  intro X L D M J i g s B H E I p st G;subst L D M;have F:z.cps.size≤i:=G;have j:z.cps[i]?=none:=by simp [F]
  obtain⟨A,y,Q,x,u,q⟩:=p it (by simp);rcases n with rfl | rfl
  ·exact wpAny_pyNext_ascii_end (I.ok.hd J) st j λh' N=>JbC (t':=s.toks) (λb o a e=>N b o a e) A y x u q
  ·exact wpAny_pyNext_wide_end (I.ok.hd J) st j λh' N=>JbC (t':=s.toks) (λb o a e=>N b o a e) A y x u q
 self:=λ_ _ _ _ _ st h=>by
  rcases n with rfl | rfl
  ·exact wpAny_pyIter_striter_ascii st h
  ·exact wpAny_pyIter_striter_wide st h
def iStr (tl:TE):TI:=λa H R=>tl a H λx b=>∃z,x=.str z∧R (Its z) b
def pi_str (k:QG l tl):PI X tg l (iStr tl):=by
 intro c s i H R I h;refine thn (k c s i H _ I h) λv a ⟨x,f,d,j,q1⟩=>?_;obtain⟨z,e,q⟩:=q1;subst e;obtain⟨t,rfl⟩:=j;have g:∀b∈[a.heap.objs.size],de X c f b:=λb n=>by
  have e:b=a.heap.objs.size:=by simpa using n
  subst e;exact d.fpOk (nRq _) (Jei _)
 cases ha:z.cps.all (· < 128) with
 | true =>
  refine wpAny_pyIter_ascii ha ?_;exact⟨a.heap.objs.size,[a.heap.objs.size],_,_,f,rfl,d.kept (t':=a.toks) λb o e=>XX e,ur (.inl rfl) _ z t,Ji0 (Heap.get?_push_size _ rfl),g,q⟩
 | false =>
  refine wpAny_pyIter_wide ha ?_;exact⟨a.heap.objs.size,[a.heap.objs.size],_,_,f,rfl,d.kept (t':=a.toks) λb o e=>XX e,ur (.inr rfl) _ z t,Ji0 (Heap.get?_push_size _ rfl),g,q⟩
def yF (L:Qu X.calm):Jay X "all" (λxs H Q=>∃(p:Addr) (c:List Bool),xs=Vt p∧JgP H p (c.map V.bl)∧XR (c.all id) H):=by
 intro n s P H xs us Q I r h;obtain⟨p,c,rfl,C,q⟩:=h;obtain⟨u,rfl,y⟩:=fy r;cases y;obtain⟨a,k,pl,hz⟩:=I.list C;have G:=k.length;rw[lM]at G;have D:Xh p:=by obtain⟨o,E,_⟩:=pl.isList;exact hLq E
 have j:=Nat.ne_of_lt D;refine call_all_walk (Jax pl.isList);refine⟨s.heap.objs.size,[s.heap.objs.size,p],[s.heap.objs.size],a.toArray.size,_,_,λi=>c.getD i true,rfl,Walks.list (show Qn X.A.in1.handled from I.ok.hd L) _ p j a.toArray,JjK (Ji0 (Heap.get?_push_size _ rfl)) _,?_,λh' tk J=>?_⟩
 ·intro i v s' S T B N;have d:a[i]?=some v:=by simpa using B
  have g:=(gEq d).1;have M:c[i]?=some (c.getD i true):=by rw[List.getD_eq_getElem?_getD,gG (by lia)];rfl
  obtain⟨R,w,O⟩:=k.get (by rw[List.getElem?_map,M];rfl);rw[d]at w;cases w;cases (show Q4 v _ from O);exact wpAny_truthy_bool N
 ·have e:(List.range a.toArray.size).all (λi=>c.getD i true)=c.all id:=by
   rw[Bool.eq_iff_iff,List.all_eq_true,List.all_eq_true];constructor
   ·intro h x z;obtain⟨i,g,rfl⟩:=List.mem_iff_getElem.mp z;have:=h i (List.mem_range.mpr (by simp only[sAq];lia));rw[List.getD_eq_getElem?_getD,gG g]at this;exact this
   ·intro h i g;have f:i < c.length:=by have:=List.mem_range.mp g;simp only[sAq]at this;lia
    rw[List.getD_eq_getElem?_getD,gG f];exact h _ (List.getElem_mem f)
  refine⟨.bl (c.all id),H,I.kept (t':=tk) λb o t=>J b o ?_ (XX t),congrArg Value.bool e,q⟩;intro F;have:JgZ b:=by simpa using F
  exact Jj9 t (by rw[this];exact Nat.lt_irrefl _)
end
structure Clo (X:Cx)(scope)(cl):Prop where
 eq:JjH (closureFor scope X.env) cl
 sub:∀y c,Xa (cl.lookup y) c→Jj y c
 has:∀y,((QK X.env).names.lookup y=some .cell∨(QK X.env).names.lookup y=some .free)→∃c,Xa (cl.lookup y) c
def iA (a:∀x∈scope.names,x.2≠.free)(b:∀x∈scope.names,x.2≠.cell):Je9 X []:=by
 refine⟨closureFor_none a,λy c h=>by simp at h,λy h=>?_⟩;have e:(QK X.env).names=scope.names:=by
  refine map_eq_self (λx d=>?_);obtain⟨n,k⟩:=x;have:Q9 (k == NameKind.free):=by simpa using a _ d
  simp [this]
 rw[e]at h;rcases h with h | h
 ·exact absurd rfl (b _ (PySem.mem_of_lookup h))
 ·exact JbT (a _ (PySem.mem_of_lookup h))
noncomputable def bM (X:Cx)(N':List Str)(b:Scope)(e:List (Str × Addr))(d:List Addr)(a:Shared)(c:Hp):Cx where
 prog:=X.prog
 w:=X.w
 K:=X.K
 mg:=X.mg
 base:=X.base
 A:=X.A
 N:=N'
 s₀:=a
 H₀:=c
 env:=Jjc b e a.heap.objs.size
 outer:=X.stack
 stack:=X.stack
 ex:=d
 calm:=X.calm
 fn:=λ_=>false
 pn:=[]
 xe:=λ_ _=>False
noncomputable def fvs (a:St)(ix:List Nat):St:=ix.map λi=>(a[i]?).join
def tLC (f:TI)(ix:List Nat)(g:TE):TE:=λb H Q=>f b H λJ e=>∀D,Qn (e D) →
 ∃W:Nat→Nat→List V→Hp→Prop,(∃m,W 0 m [] (X_ e D)) ∧
  ∀i m ys H',W i m ys H'→Vx D ys ∧
   ((Jgq H'∧Jbq D)∨(J.go i H'∧∀x a,JgQ H' x a→g (some x :: JcV b) a λy d =>
    d D=Jj6 ys∧JaH ys.length∧∃c,c < m∧W (i+1) c (ys++[y]) (Qa d D (ys++[y]))))
def yG (I:Nat→Shared→Prop)
  (j:∀n s,I n s→Jlw (pyNext it) (λr b=>match r with
   | none=>R (.ok .next) b
   | some v=>Jlw (letOwnedTupleGo target it v) (λ_ a=>Jlw (assign target env v) (λ_ f=>Jlw (Jd4 elt) (λx d =>
     Jlw (Jbj "list.append" [acc,x]) (λ_ c=>∃m,m < n∧I m c) (notedBy (Qo w) A env λe s'=>Jil e) d) (notedBy (Qo w) A env λe s'=>Jil e) f) (notedBy (Qo w) A env λe s'=>Jil e) a) (notedBy (Qo w) A env λe s'=>Jil e) b) (notedBy (Qo w) A env λe s'=>Jil e) s)
  (n)(h:I n s) :
  codeAny (Qo w) A (Jgd [Jey target [] 0] 0 it acc env) R s:=by
 refine codeAny_loop rfl I (λn s p=>?_) n h;show VV _ ((compTurn (Jgc [Jey target [] 0]) 0 it acc env).onRaise (λx=>do noteFrame x env;theTreesLotGoes x)) _ _ s
 refine wpAny_noted ?_;rw[compTurn_list1];refine JfZ (wpAny_mono (j n s p) (λr b g=>?_) λ_ _ h'=>h');cases r with
 | none=>exact wpAny_pure g
 | some v =>
  refine wpAny_bind (wpAny_mono g (λ_ a i=>?_) λ_ _ h'=>h');exact wpAny_bind (wpAny_mono i (λ_ f o=>QJ (wpAny_mono o (λx d l=>wpAny_bind (wpAny_mono l (λ_ c k=>Xl (Jbe k)) λ_ _ h'=>h')) λ_ _ h'=>h')) λ_ _ h'=>h')
section
variable {X:Cx} {N':List Str} {scope:Scope} {cl:List (Str × Addr)} {fp:List Addr} {pins:List (Addr × Obj)} {σ:St} {H:Hp} {s:Shared}
def i_ (I:QE s)(C:Je9 X cl)(a:Jek scope.kind)(e:∀b∈fp,de X pins H b)(f:∀b∈fp,Xh b):(Jcq cl fp s H).Ok where
 mod:=I.ok.mod
 kind:=a
 glob:=I.ok.glob
 blt:=I.ok.blt
 above:=nRq _
 inj:=λx y c i g=>I.ok.inj x y c (C.sub x c i) (C.sub y c g)
 has:=λx h=>C.has x h
 cab:=λx c h=>by cases (show Qu false from h)
 hd:=I.ok.hd
 frames:=I.ok.frames
 stk:=.inl rfl
 exf:=λb d=>⟨Nat.ne_of_lt (f b d),λx c h=>(e b d).2.2.2.2.1 x c (C.sub x c h)⟩
 bs:=λb o h=>I.bs b o h
 bsz:=JcS I.sz
 noex:=λb o h d=>by
  rcases(e b d).2.2.2.1 with z | z
  ·exact I.ok.noex b o h z
  ·exact QV (Xq h (JcS z)) _
 exfs:=λb d hs=>by
  rcases List.mem_cons.mp (I.stkSub b hs) with z | z
  ·exact(e b d).2.1 z
  ·exact(e b d).2.2.1 z
 funs:=I.stack
 frf:=I.stkFree
def pD (I:QE s)(C:Je9 X cl)(d:Jek scope.kind)(T:∀b∈fp,de X pins H b)(D:∀b∈fp,Xh b)
  (g:N'.length=ix.length+1)(F:∀j i,ix[j]?=some i→∃y,X.N[i]?=some y∧N'[j+1]?=some y∧(Jh9 y∨Jh_ y)∧((QK X.env).names.lookup y=some .cell∨(QK X.env).names.lookup y=some .free))
  (S:h₁.Ns s.heap.objs.size m)(t:∀b o,s.heap.get? b=some o→h₁.get? b=some o):JcQ cl fp s H [] (none :: JcV σ) H { s with heap:=h₁,toks:=t' }:=by
 have f:∀x c,Xa (cl.lookup x) c→∃v,h₁.IsCell c v:=λx c h=>by obtain⟨v,o,B,G⟩:=Ji9 x (C.sub x c h);exact⟨v,o,t c o B,G⟩
 refine Jcb (i_ I C d T D) I.bare (Un.kept t) ⟨m,S,λi y v Y L h3=>?_⟩ f (VG _) (λx c h=>Jg9 c (C.sub x c h)) (λp Q=>Jv (show p∈([]:List (Addr × Obj)) from Q)) (I.hok.kept t) ?_
 ·cases i with
  | zero=>cases (show Xa (some (none:Option V)) (some v) from L)
  | succ j =>
   have a:(JcV σ)[j]?=some (some v):=L;unfold fvs at a;rw[List.getElem?_map]at a;cases e:ix[j]? with
   | none=>rw[e]at a;cases a
   | some i =>
    rw[e]at a;have w:(σ[i]?).join=some v:=Option.some.inj a;have W:σ[i]?=some (some v):=by
     cases e':σ[i]? with
     | none=>rw[e']at w;cases w
     | some q =>
      rw[e']at w;have U:q=some v:=w;rw[U]
    obtain⟨r,P,O,K,k2⟩:=F j i e;have Z:=Option.some.inj (O.symm.trans Y);subst Z;obtain⟨m0,R,E⟩:=I.loc;have A:JdC r:=K.elim (λz=>Jj8 z) λz=>JbF z;obtain⟨u,M,l⟩:=E i r v P W A;refine⟨u,M,Jx k2 ?_⟩;rcases l with ⟨k,_⟩ | ⟨_,c,ec,o,B,G⟩
    ·lia
    ·obtain⟨J,n⟩:=C.has r k2;have:J=c:=Option.some.inj ((C.sub _ _ n).symm.trans ec);subst this;exact⟨J,n,o,t J o B,G⟩
 ·show(none :: JcV σ:St).length=N'.length;rw[g];simp [fvs]
def mK (I:QE s)(J:JcQ cl fp s H [] σ' H' s')(g:∀b∈fp,de X pins H b)(hs:Heap.SameBut s.heap.objs.size s'.heap h'):Vy H' { s' with heap:=h' }:=by
 have i:∀b o,s.heap.get? b=some o→JdU b:=λb o e=>V_ e;have h:∀b,JdU b→h'.get? b=s'.heap.get? b:=λb f=>hs.2 b f;have B:=J.base;have u:JhL fp H H' h' :=
  ⟨λb o e n d k=>(h b (i b o e)).trans (B.keep b o e n d k),λb o e n d k=>by
   obtain⟨l,q⟩:=B.slot b o e n d k;exact⟨l,(h b (i b o e)).trans q⟩,λb o e n d=>B.free b o e n d,λb o e d=>by obtain⟨r,q⟩:=B.there b o e d;exact⟨r,(h b (i b o e)).trans q⟩,B.tups,B.frzs,B.tbls⟩
 have a:JbK s.heap.objs.size:=J.free;have j:Jf3 H' h':=λb p e=>by
  refine(J.hok b p e).stay (λc v t q=>(h c ?_).trans q) (λ_ q=>q) λ_ _ q=>q;lia
 exact I.call' (s':={ s' with heap:=h' }) J.os u j J.bare λb f=>⟨(g b f).2.2.2.1,(g b f).2.1,(g b f).2.2.2.2.1,(g b f).2.2.2.2.2⟩
end
section
variable {X:Cx} {N':List Str} {scope:Scope} {elt iter:Expr} {x:Str} {px pos:Pos} {wi:TI} {te:TE} {ix:List Nat}
def uu (hc:Qu X.calm)(k:Jek scope.kind)(hcell:∀y∈scope.names,y.2≠.cell)(P:∀y∈scope.names,y.2=.local→Jc1 y.1)(hx:Jc1 x)
  (hclo:X.Ok→∃F,Je9 X F)(hN:N'.Nodup)(hN0:N'[0]?=some x)(hlen:N'.length=ix.length+1)
  (hix:∀j i,ix[j]?=some i→∃y,X.N[i]?=some y∧N'[j+1]?=some y∧(Jh9 y∨Jh_ y)∧((QK X.env).names.lookup y=some .cell∨(QK X.env).names.lookup y=some .free))
  (hi:PI X (X1 px) iter wi)(he:∀F l s₃ H₃,PE (Jcq F l s₃ H₃) elt te)(hs:∀v,JjH (Jkq v) v){use:Option (Value→Sem Unit)}{Qf:Value→Shared→Prop}{t:List (Addr × Obj)}{s:Shared}{S:St}{H:Hp}{Q:VK}{cp:Pos}(I:JjZ t S)(h:tLC wi ix te S H Q)
  (fin:∀F l g s6 K H5 (σ6:St) D,JK t S K g→JcQ F l g K [] σ6 H5 s6→(∀b∈l,de X t K b)→Xg D H5→compPost (Qq X.w) X.A X.xe use Qf (.ref D) g.heap.objs.size (.ok .next) s6) :
  wpAny (Qq X.w) X.A (comprehension (Jgc [Jk1 [] 0]) scope X.env cp (newList []) false (Jf iter) use) Qf X.xe s:=by
 obtain⟨F,C⟩:=hclo I.ok;refine wpAny_comprehension_free rfl hs C.eq k P (thn (hi t s S H _ I h) λv s1 h1=>thn h1 λitv E h2=>?_);obtain⟨it,l,tn,J,H2,e,I2,T,st2,f2,q2⟩:=h2;subst e;have hD:=I2.fresh;obtain⟨W,⟨m0,w0⟩,turn⟩:=q2 E.heap.objs.size hD;refine Jbk hcell (by intro y hy;simp at hy) (λL B z=>?_) k;have I3:JK t S (X_ H2 E.heap.objs.size) { E with heap:=E.heap.push { cls:=.type "list",data:=.seq ([]:List Value).toArray },toks:=E.toks }:=JgT .nil _;generalize hs3:({ E with heap:=E.heap.push { cls:=.type "list",data:=.seq ([]:List Value).toArray },toks:=E.toks }:Shared)=g at I3;have e3:g.heap=E.heap.push { cls:=.type "list",data:=.seq ([]:List Value).toArray }:=by rw[←hs3]
 generalize R:E.heap.objs.size=D at *;generalize hH3:X_ H2 D=K at *;have lt2:∀b∈l,b < E.heap.objs.size:=λb a=>by obtain⟨o,ho,_⟩:=T.obj 0 _ st2 b a;exact hLq ho
 have neD:∀b∈l,b≠D:=λb a=>by rw[←R];exact Nat.ne_of_lt (lt2 b a)
 have f3:∀b∈l,de X t K b:=λb a=>⟨by rw[←hH3,ai (neD b a)];exact(f2 b a).1,(f2 b a).2⟩;have sz3:g.heap.objs.size=D+1:=by rw[e3,Heap.size_push,R]
 have O:∀b∈l,b < g.heap.objs.size:=λb a=>by have q:=lt2 b a;rw[sz3];rw[R]at q;exact Nat.lt_succ_of_lt q
 have old:∀b o,g.heap.get? b=some o→L.get? b=some o:=λb o Y=>by
  have a:b < D+1:=by rw[←sz3];exact hLq Y
  refine z.extBut b o ?_ (XX (by rw[←e3];exact Y));rw[Heap.size_push,R];exact Nat.ne_of_lt a
 have szC:(E.heap.push { cls:=.type "list",data:=.seq ([]:List Value).toArray }).objs.size=g.heap.objs.size:=by rw[e3]
 rw[szC]at B z;have I4:JcQ F l g K [] (none :: JcV S) K { g with heap:=L,toks:=E.toks+([]:List (Str × Value)).length }:=pD I3 C k f3 O hlen hix B old;have st4:=T.keep 0 _ _ st2 λb a o Y=>old b o (by rw[e3];exact XX Y);have M:∀ {H':Hp},(∀b∈l,JbK b)→∀b∈l,de (Jcq F l g K) [] H' b:=λhn b a =>
  ⟨hn b a,Nat.ne_of_lt (O b a),λhs'=>(i_ (N':=N') I3 C k f3 O).exfs b a hs',.inl a,λy c hy=>((i_ (N':=N') I3 C k f3 O).exf b a).2 y c hy,λp hp=>Jv (show p∈([]:List (Addr × Obj)) from hp)⟩
 have U:∀s4:Shared,s4={ g with heap:=L,toks:=E.toks+([]:List (Str × Value)).length } →
   codeAny (Qq X.w) X.A (Jgd [Jk1 [] 0] 0 (.ref it) (.ref D) (Jjc scope F g.heap.objs.size))
    (compPost (Qq X.w) X.A X.xe use Qf (.ref D) g.heap.objs.size) s4:=by
  rintro s4 rfl;refine yG (λn s'=>∃i σ0 H' ys,JcQ F l g K [] (σ0 :: JcV S) H' s'∧tn i s'.heap∧(∀b∈l,JbK b)∧W i n ys H') ?_ m0 ⟨0,none,K,[],I4,st4,λb a=>(f3 b a).1,w0⟩;rintro n s5 ⟨i,σ0,H5,ys,I5,st5,fr5,w5⟩;obtain⟨hD5,alt⟩:=turn i n ys H5 w5;rcases alt with ⟨stop,q⟩ | ⟨go,step⟩
  ·refine thn (T.done (Jcq F l g K) rfl rfl rfl hc i [] s5 _ H5 _ I5 (M fr5) st5 stop) λr s6 ⟨hr,I6⟩=>?_;subst hr;exact fin F l g s6 K H5 _ D I3 I6 f3 q
  ·refine thn (T.item (Jcq F l g K) rfl rfl rfl hc i [] s5 _ H5 _ I5 (M fr5) st5 go) λr s6 ⟨u,hr,h6⟩=>?_;subst hr;refine thn h6 λ_ s7 ⟨y7,H7,I7,r7,yl7,Z,fr7⟩=>?_;have I7':=I7.pinned (M fr7) (T.obj _ _ Z);have G:PG (Jcq F l g K) (X1 px) (gZ 0):=bj hN hN0 (Jdx hx) (Jdy hx);refine wpAny_mono (G _ s7 _ H7 y7 u (λσ' H'=>σ'=some y7 :: JcV S∧H'=H7) I7' r7 (Xr rfl)) (λ_ s8 h8=>?_) λ_ _ f=>False.elim f;obtain⟨σ8,H8,I8,rfl,rfl⟩:=h8;refine wpAny_mono (he F l g K _ s8 _ H8 _ I8 (step y7 H8 yl7)) (λyv s9 h9=>?_) λ_ _ f=>False.elim f;obtain⟨y9,H9,I9,r9,hD9,hl9,m',hm',w9⟩:=h9;refine wpAny_mono (cL (X:=Jcq F l g K) _ s9 _ H9 (.ref D) [y9] (.ref D) [yv] (λ_ H'=>H'=Qa H9 D (ys++[y9])) I9 rfl (Qv r9) (JeX D ys y9 hD9 hl9 rfl)) (λ_ s10 h10=>?_) λ_ _ f=>False.elim f;obtain⟨_,H10,I10,_,rfl⟩:=h10;refine⟨m',hm',i+1,some y7,_,ys++[y9],I10.unpinned,T.keep _ _ _ Z λb a o Y=>(I10.pin (b,o) (Jix a Y)).1,λb a=>?_,w9⟩;obtain⟨o,Y,d⟩:=T.obj _ _ Z b a;exact(I10.pin (b,o) (Jix a Y)).2.1
 subst hs3;have fin':=Jez (U _ rfl) X.A 0 _ _ _ st4 (U _ rfl);exact fin'
def dZ (C:Qu X.calm)(b:Jek scope.kind)(c:∀y∈scope.names,y.2≠.cell)(a:∀y∈scope.names,y.2=.local→Jc1 y.1)(w:Jc1 x)
  (f:X.Ok→∃k,Je9 X k)(E:N'.Nodup)(o:N'[0]?=some x)(e:N'.length=ix.length+1)
  (n:∀j i,ix[j]?=some i→∃y,X.N[i]?=some y∧N'[j+1]?=some y∧(Jh9 y∨Jh_ y)∧((QK X.env).names.lookup y=some .cell∨(QK X.env).names.lookup y=some .free))
  (A:PI X (X1 px) iter wi)(B:∀k r d g,PE (Jcq k r d g) elt te)(hs:∀v,Jkq v=pure v:=by intro _;rfl) :
  PE X (Jgc [Jk1 [] 0]) (tLC wi ix te):=by intro p s K H Q I h;rw[eval_ListComp];refine uu C b c a w f E o e n A B hs I h λk r M L O J u D G t F q=>?_;obtain⟨m,z,_⟩:=t.loc;exact⟨m,z,λh' l=>VM D J (mK G t F l) q⟩
end
def pE:∀(l:List (Str × NameKind)) acc,(∀y∈l,y.2=.free→∃c,Jdc y.1 c) →
  ∃b,JjH (forIn l acc (λ y p=>if Qu (y.2 == NameKind.free) then do let c ←cellOf env y.1;pure (ForInStep.yield ((y.1,c) :: p)) else pure (ForInStep.yield p)):Sem (List (Str × Addr))) b ∧
   (∀y c,Xa (b.lookup y) c→Xa (acc.lookup y) c∨Jdc y c)∧∀y,((y,NameKind.free)∈l∨∃c,Xa (acc.lookup y) c)→∃c,Xa (b.lookup y) c
 | [],acc,_=>Q1 acc (λ_ _ h=>.inl h) (λy h=>h.elim (λz=>by cases z) λz=>z)
 | (n,k) :: r,acc,f=>by
  by_cases e:k=.free
  ·subst e;obtain⟨c,o⟩:=f (n,.free) List.mem_cons_self rfl;obtain⟨b,j,i,g⟩:=pE r ((n,c) :: acc) λy a=>f y (Xd a);refine⟨b,?_,λy d h=>?_,λy h=>?_⟩
   ·rw[List.forIn_cons];have s:cellOf env n=pure c:=by unfold cellOf;rw[show Jdc n c from o]
    have t:Qu (NameKind.free == NameKind.free):=rfl;simp only[t,if_true,s,pure_bind];exact j
   ·rcases i y d h with z | z
    ·by_cases a:y=n
     ·subst a;rw[List.lookup_cons,beq_self_eq_true]at z;cases z;exact .inr o
     ·rw[List.lookup_cons,beq_eq_false_iff_ne.mpr a]at z;exact .inl z
    ·exact .inr z
   ·refine g y ?_;by_cases a:y=n
    ·subst a;exact .inr ⟨c,by rw[List.lookup_cons,beq_self_eq_true]⟩
    ·rcases h with z | ⟨d,z⟩
     ·rcases List.mem_cons.mp z with z | z
      ·exact absurd (JiH z) a
      ·exact .inl z
     ·exact .inr ⟨d,by rw[List.lookup_cons,beq_eq_false_iff_ne.mpr a];exact z⟩
  ·obtain⟨b,j,i,g⟩:=pE r acc λy a=>f y (Xd a);refine⟨b,?_,i,λy h=>g y ?_⟩
   ·rw[List.forIn_cons];have q:Q9 (k == NameKind.free):=by simpa using e
    simp only[q,Bool.false_eq_true,if_false,pure_bind];exact j
   ·rcases h with z | z
    ·rcases List.mem_cons.mp z with z | z
     ·exact absurd (JiI z).symm e
     ·exact .inl z
    ·exact .inr z
def cZ (p:X.Ok)(j:X.env.scope=sc)(a:∀x∈scope.names,x.2≠.cell)
  (s:∀y∈scope.names,y.2=.free→QH y.1 .cell∨QH y.1 .free):∃e,Clo X scope e:=by
 obtain⟨e,A,w,v⟩:=pE (env:=X.env) scope.names [] λy q h=>p.has y.1 (by show X.env.scope.names.lookup y.1=_∨X.env.scope.names.lookup y.1=_;rw[j];exact s y q h)
 refine⟨e,?_,λy c h=>(w y c h).elim (λz=>by cases z) λz=>z,λy h=>v y (.inl ?_)⟩
 ·have B:=A
  show JjH (forIn scope.names ([]:List (Str × Addr)) _ >>= λz=>pure z) e;rw[bind_pure];exact B
 ·have m:∃k,(k=.cell∨k=.free)∧(y,k)∈(QK X.env).names:=by
   rcases h with h | h
   ·exact Jlc (.inl rfl) (PySem.mem_of_lookup h)
   ·exact Jlc (.inr rfl) (PySem.mem_of_lookup h)
  obtain⟨k,r,n⟩:=m;obtain⟨⟨g,i⟩,h0,b⟩:=List.mem_map.mp n;by_cases f:Qu (i == NameKind.free&&X.env.scope.kind == .function&&X.env.kindOf g == some .cell)
  ·lia
  ·dsimp only at b;rw[if_neg f]at b;have l:g=y:=JiH b;have t:i=k:=JiI b;rw[l,t]at h0;rcases r with z | z
   ·exact absurd z (a _ h0)
   ·rw[z]at h0;exact h0
def tLCI (h:TI)(ix:List Nat)(k:TT)(j:TE):TE:=λd H Q=>h d H λJ g=>∀D,Qn (g D) →
 ∃W:Nat→Nat→List V→Hp→Prop,(∃m,W 0 m [] (X_ g D)) ∧
  ∀i m ys H',W i m ys H'→Vx D ys ∧
   ((Jgq H'∧Jbq D)∨(J.go i H'∧∀x c,JgQ H' x c→k (some x :: JcV d) c λb f =>
    if Qu b then j (some x :: JcV d) f λy e=>Qb (e D) ys∧JaH ys.length∧∃a,a < m∧W (i+1) a (ys++[y]) (Qa e D (ys++[y]))
    else ∃a,a < m∧W (i+1) a ys f))
def uv (J:Nat→Shared→Prop)
  (step:∀n s,J n s→Jlw (pyNext it) (λr d=>match r with
   | none=>R (.ok .next) d
   | some v=>Jlw (letOwnedTupleGo target it v) (λ_ i=>Jlw (assign target env v) (λ_ h=>Jlw (isTrue c env (Jd4 c)) (λb a=>if Qu b then Jlw (Jd4 elt) (λx g =>
     Jlw (Jbj "list.append" [acc,x]) (λ_ f=>∃m,m < n∧J m f) (notedBy (Qo w) A env λe s'=>Jil e) g) (notedBy (Qo w) A env λe s'=>Jil e) a
     else ∃m,m < n∧J m a) (notedBy (Qo w) A env λe s'=>Jil e) h) (notedBy (Qo w) A env λe s'=>Jil e) i) (notedBy (Qo w) A env λe s'=>Jil e) d) (notedBy (Qo w) A env λe s'=>Jil e) s)
  (n)(h0:J n s):codeAny (Qo w) A (Jgd [Jey target [c] 0] 0 it acc env) R s:=by
 refine codeAny_loop rfl J (λn s l=>?_) n h0;show VV A ((compTurn (Jgc [Jey target [c] 0]) 0 it acc env).onRaise (λx=>do noteFrame x env;theTreesLotGoes x)) _ _ s
 refine wpAny_noted ?_;rw[compTurn_list];refine JfZ (wpAny_mono (step n s l) (λr d k=>?_) λ_ _ z=>z);cases r with
 | none=>exact wpAny_pure k
 | some v =>
  refine wpAny_bind (wpAny_mono k (λ_ i t=>?_) λ_ _ z=>z);refine wpAny_bind (wpAny_mono t (λ_ h q=>?_) λ_ _ z=>z);refine wpAny_bind ?_;rw[List.forIn_cons];refine wpAny_bind ?_;rw[if_pos rfl];refine wpAny_bind (wpAny_mono q (λb a j=>wpAny_pure ?_) λ_ _ z=>z);show VV A (forIn ([]:List Expr) b _) _ _ a;rw[List.forIn_nil];refine wpAny_pure ?_;cases b with
  | false=>exact QX rfl j
  | true=>exact QJ (wpAny_mono j (λx g p=>wpAny_bind (wpAny_mono p (λ_ f o=>Xl (Jbe o)) λ_ _ z=>z)) λ_ _ z=>z)
section
variable {X:Cx} {N':List Str} {scope:Scope} {elt iter c:Expr} {x:Str} {px pos:Pos} {wi:TI} {tc:TT} {te:TE} {ix:List Nat}
def hF (hc:Qu X.calm)(k:Jek scope.kind)(hcell:∀y∈scope.names,y.2≠.cell)(Y:∀y∈scope.names,y.2=.local→Jc1 y.1)(hx:Jc1 x)
  (hclo:X.Ok→∃B,Je9 X B)(hN:N'.Nodup)(hN0:N'[0]?=some x)(hlen:N'.length=ix.length+1)
  (hix:∀j i,ix[j]?=some i→∃y,X.N[i]?=some y∧N'[j+1]?=some y∧(Jh9 y∨Jh_ y)∧((QK X.env).names.lookup y=some .cell∨(QK X.env).names.lookup y=some .free))
  (hi:PI X (X1 px) iter wi)(ht:∀B g M R,PT (Jcq B g M R) c tc)(he:∀B g M R,PE (Jcq B g M R) elt te)(hs:∀v,Jkq v=pure v:=by intro _;rfl) :
  PE X (Jgc [Jk1 [c] 0]) (tLCI wi ix tc te):=by
 intro F s σ H Q I h;obtain⟨B,C⟩:=hclo I.ok;rw[eval_ListComp];refine wpAny_comprehension_free (use:=none) rfl hs C.eq k Y (thn (hi F s σ H _ I h) λv s1 h1=>thn h1 λitv E h2=>?_);obtain⟨it,g,tn,J,H2,e,I2,T,st2,f2,q2⟩:=h2;subst e;have hD:=I2.fresh;obtain⟨W,⟨m0,w0⟩,turn⟩:=q2 E.heap.objs.size hD;refine Jbk hcell (by intro y hy;simp at hy) (λK z t=>?_) k;have I3:JK F σ (X_ H2 E.heap.objs.size) { E with heap:=E.heap.push { cls:=.type "list",data:=.seq ([]:List Value).toArray },toks:=E.toks }:=JgT .nil _;generalize hs3:({ E with heap:=E.heap.push { cls:=.type "list",data:=.seq ([]:List Value).toArray },toks:=E.toks }:Shared)=l at I3;have e3:l.heap=E.heap.push { cls:=.type "list",data:=.seq ([]:List Value).toArray }:=by rw[←hs3]
 generalize Z:E.heap.objs.size=D at *;generalize hH3:X_ H2 D=L at *;have lt2:∀b∈g,b < E.heap.objs.size:=λb a=>by obtain⟨o,ho,_⟩:=T.obj 0 _ st2 b a;exact hLq ho
 have neD:∀b∈g,b≠D:=λb a=>by rw[←Z];exact Nat.ne_of_lt (lt2 b a)
 have f3:∀b∈g,de X F L b:=λb a=>⟨by rw[←hH3,ai (neD b a)];exact(f2 b a).1,(f2 b a).2⟩;have sz3:l.heap.objs.size=D+1:=by rw[e3,Heap.size_push,Z]
 have U:∀b∈g,b < l.heap.objs.size:=λb a=>by have q:=lt2 b a;rw[sz3];rw[Z]at q;exact Nat.lt_succ_of_lt q
 have old:∀b o,l.heap.get? b=some o→K.get? b=some o:=λb o eb=>by
  have a:b < D+1:=by rw[←sz3];exact hLq eb
  refine t.extBut b o ?_ (XX (by rw[←e3];exact eb));rw[Heap.size_push,Z];exact Nat.ne_of_lt a
 have szC:(E.heap.push { cls:=.type "list",data:=.seq ([]:List Value).toArray }).objs.size=l.heap.objs.size:=by rw[e3]
 rw[szC]at z t;have I4:JcQ B g l L [] (none :: JcV σ) L { l with heap:=K,toks:=E.toks+([]:List (Str × Value)).length }:=pD I3 C k f3 U hlen hix z old;have st4:=T.keep 0 _ _ st2 λb a o eb=>old b o (by rw[e3];exact XX eb);have O:∀ {H':Hp},(∀b∈g,JbK b)→∀b∈g,de (Jcq B g l L) [] H' b:=λhn b a =>
  ⟨hn b a,Nat.ne_of_lt (U b a),λhs'=>(i_ (N':=N') I3 C k f3 U).exfs b a hs',.inl a,λy c hy=>((i_ (N':=N') I3 C k f3 U).exf b a).2 y c hy,λp hp=>Jv (show p∈([]:List (Addr × Obj)) from hp)⟩
 have loop:∀s4:Shared,s4={ l with heap:=K,toks:=E.toks+([]:List (Str × Value)).length } →
   codeAny (Qq X.w) X.A (Jgd [Jk1 [c] 0] 0 (.ref it) (.ref D) (Jjc scope B l.heap.objs.size))
    (compPost (Qq X.w) X.A X.xe none (EP X F σ Q) (.ref D) l.heap.objs.size) s4:=by
  rintro s4 rfl;refine uv (λn s'=>∃i S H' ys,JcQ B g l L [] (S :: JcV σ) H' s'∧tn i s'.heap∧(∀b∈g,JbK b)∧W i n ys H') ?_ m0 ⟨0,none,L,[],I4,st4,λb a=>(f3 b a).1,w0⟩;rintro n s5 ⟨i,S,H5,ys,I5,st5,fr5,w5⟩;obtain⟨hD5,alt⟩:=turn i n ys H5 w5;rcases alt with ⟨stop,q⟩ | ⟨go,step⟩
  ·refine thn (T.done (Jcq B g l L) rfl rfl rfl hc i [] s5 _ H5 _ I5 (O fr5) st5 stop) λr s6 ⟨hr,I6⟩=>?_;subst hr;obtain⟨m,hn,_⟩:=I6.loc;exact⟨m,hn,λh' hsb=>VM D H5 (mK I3 I6 f3 hsb) q⟩
  ·refine thn (T.item (Jcq B g l L) rfl rfl rfl hc i [] s5 _ H5 _ I5 (O fr5) st5 go) λr s6 ⟨u,hr,h6⟩=>?_;subst hr;refine thn h6 λ_ s7 ⟨y7,H7,I7,r7,yl7,st7,fr7⟩=>?_;have I7':=I7.pinned (O fr7) (T.obj _ _ st7);have G:PG (Jcq B g l L) (X1 px) (gZ 0):=bj hN hN0 (Jdx hx) (Jdy hx);refine wpAny_mono (G _ s7 _ H7 y7 u (λσ' H'=>σ'=some y7 :: JcV σ∧H'=H7) I7' r7 (Xr rfl)) (λ_ s8 h8=>?_) λ_ _ f=>False.elim f;obtain⟨σ8,H8,I8,rfl,rfl⟩:=h8;have fin:∀ {σ9:Option V} {H9:Hp} {s9:Shared} {zs:List V} {m':Nat},JcQ B g l L ([]++jw g s7.heap) (σ9 :: JcV σ) H9 s9→m' < n→W (i+1) m' zs H9→∃m,m < n∧∃i S H' ys,JcQ B g l L [] (S :: JcV σ) H' s9∧tn i s9.heap∧(∀b∈g,JbK b)∧W i m ys H':=λ{σ9 H9 s9 zs m'} I9 P w9=>by refine⟨m',P,i+1,σ9,H9,zs,I9.unpinned,T.keep _ _ _ st7 λb a o eb=>(JlJ (b,o) a eb).1,λb a=>?_,w9⟩;obtain⟨o,eb,d⟩:=T.obj _ _ st7 b a;exact(JlJ (b,o) a eb).2.1
   refine wpAny_mono (ht B g l L _ s8 _ H8 _ I8 (step y7 H8 yl7)) (λb s9 h9=>?_) λ_ _ f=>False.elim f;obtain⟨H9,I9,q9⟩:=h9;cases b with
   | false =>
    obtain⟨m',P,w9⟩:=q9;exact fin I9 P w9
   | true =>
    refine wpAny_mono (he B g l L _ s9 _ H9 _ I9 q9) (λyv s10 h10=>?_) λ_ _ f=>False.elim f;obtain⟨y10,H10,I10,r10,hD10,hl10,m',P,w10⟩:=h10;refine wpAny_mono (cL (X:=Jcq B g l L) _ s10 _ H10 (.ref D) [y10] (.ref D) [yv] (λ_ H'=>H'=Qa H10 D (ys++[y10])) I10 rfl (Qv r10) (JeX D ys y10 hD10 hl10 rfl)) (λ_ s11 h11=>?_) λ_ _ f=>False.elim f;obtain⟨_,H11,I11,_,rfl⟩:=h11;exact fin I11 P w10
 subst hs3;have fin:=Jez (loop _ rfl) X.A 0 _ _ _ st4 (loop _ rfl);exact fin
end
def Inv.skip (I:QE s)(hs:XZ C h')(y:XU C)(v:Jak C)(g:∀x c,Jj x c→c≠C)(t:∀p∈X.pn++pins,p.1≠C)(k:Vn C) :
  Inv X pins σ H { s with heap:=h' }:=by
 have a:∀b,b≠C→h'.get? b=s.heap.get? b:=λb i=>hs.2 b i;have d:∀ {b:Addr},b∉[C]→b≠C:=λh z=>h (by rw[z];exact List.mem_cons_self);have u:JhL [C] H H h':=⟨λb o e _ _ j=>(a b (d j)).trans e,λb o e _ _ j=>⟨o.slots,(a b (d j)).trans e⟩,λb o e n _=>n,λb o e A=>⟨o,(a b (d A)).trans e⟩,λ_ _ q=>q,λ_ _ _ q=>q,λ_ ps q=>⟨#[],by rw[q];simp⟩⟩;have f:Jf3 H h':=λb l e=>by
  refine(Jj5 b l).stay (λc B r q=>(a c ?_).trans q) (λ_ q=>q) λ_ _ q=>q;lia
 refine I.call' (s':={ s with heap:=h' }) rfl u f I.bare λb i=>?_;have e:=mSq i;subst e;exact⟨.inr y,v,g,t⟩
section
variable {X:Cx} {N':List Str} {scope:Scope} {elt iter:Expr} {x:Str} {px pos:Pos} {wi:TI} {te:TE} {ix:List Nat}
def yH (F:X.N.Nodup)(C:X.N[i]?=some y0)(W:Ja7 y0)(hc:Qu X.calm)(f:Jek scope.kind)(g:∀y∈scope.names,y.2≠.cell)(b:∀y∈scope.names,y.2=.local→Jc1 y.1)(Y:Jc1 x)
  (t:X.Ok→∃w,Je9 X w)(hN:N'.Nodup)(G:N'[0]?=some x)(r:N'.length=ix.length+1)
  (E:∀j i,ix[j]?=some i→∃y,X.N[i]?=some y∧N'[j+1]?=some y∧(Jh9 y∨Jh_ y)∧((QK X.env).names.lookup y=some .cell∨(QK X.env).names.lookup y=some .free))
  (hi:PI X (X1 px) iter wi)(he:∀w P n u,PE (Jcq w P n u) elt te)(A:JcU (Jgc [Jk1 [] 0]) (some (JhV py)) spos.line=pure true:=by rfl)
  (hf:Jdz y0∨X.env.scope.names.lookup y0=some .local:=by first | exact .inl rfl | exact .inr rfl | assumption)(hs:∀v,Jkq v=pure v:=by intro _;rfl) :
  PS X (.Assign [JhV py] (Jgc [Jk1 [] 0]) spos) (tAsg (tLC wi ix te) (gZ i)):=by
 intro d s L H S I h;rw[exec_Assign_Name_used _ _ _ _ A];refine JfZ ?_;rw[arm_evalThenUse_ListComp];refine wpAny_bind (wpAny_mono (uu (use:=some (Jf4 (JhV py))) (Q:=λx H1=>gZ i x L H1 S.nx) hc f g b Y t hN G r E hi he hs I h λw P O M H3 R T D k K f3 q=>?_) (λ_ s' h'=>Xl h') λ_ _ z=>z);obtain⟨m,hn,_⟩:=K.loc;have Io:=mK (h':=M.heap) k K f3 (Jbe (λ_ _=>rfl));refine wpAny_assign_Name (oZ (v:=.ref D) Io F C W rfl (λs7 I7 ⟨a,U,ha⟩=>?_) hf);have o:∀x c,Jj x c→c < O.heap.objs.size:=λx c e=>by obtain⟨v,Z⟩:=k.cell x c e;exact Z.lt
 have J:O.heap.objs.size≠a:=by
  rintro rfl;rcases ha with z | z
  ·exact absurd k.lt (by rw[←z];exact Nat.lt_irrefl _)
  ·exact QV (o _ _ z) _
 refine⟨m,hn.sameBut U J,λh' B=>⟨_,R,?_,q⟩⟩;exact I7.skip B k.sz (Nat.ne_of_gt k.lt) (λx c e=>Nat.ne_of_lt (o x c e)) (λp hp=>V_ (k.pin p hp).1) K.free
end
section
variable {X:Cx} {N':List Str} {scope:Scope} {elt iter c:Expr} {x:Str} {px pos:Pos} {wi:TI} {tc:TT} {te:TE} {ix:List Nat}
def uw (hNy:X.N.Nodup)(hiy:X.N[i]?=some y0)(hy:Ja7 y0)(hc:Qu X.calm)(l:Jek scope.kind)(hcell:∀y∈scope.names,y.2≠.cell)(hnames:∀y∈scope.names,y.2=.local→Jc1 y.1)(hx:Jc1 x)
  (hclo:X.Ok→∃K,Je9 X K)(hN:N'.Nodup)(hN0:N'[0]?=some x)(hlen:N'.length=ix.length+1)
  (hix:∀j i,ix[j]?=some i→∃y,X.N[i]?=some y∧N'[j+1]?=some y∧(Jh9 y∨Jh_ y)∧((QK X.env).names.lookup y=some .cell∨(QK X.env).names.lookup y=some .free))
  (hi:PI X (X1 px) iter wi)(ht:∀K k R Y,PT (Jcq K k R Y) c tc)(he:∀K k R Y,PE (Jcq K k R Y) elt te)(hsw:JcU (Jgc [Jk1 [c] 0]) (some (JhV py)) spos.line=pure true:=by rfl)
  (hf:Jdz y0∨X.env.scope.names.lookup y0=some .local:=by first | exact .inl rfl | exact .inr rfl | assumption)(hs:∀v,Jkq v=pure v:=by intro _;rfl) :
  PS X (.Assign [JhV py] (Jgc [Jk1 [c] 0]) spos) (tAsg (tLCI wi ix tc te) (gZ i)):=by
 intro B s σ H Dn I h;obtain⟨K,C⟩:=hclo I.ok;rw[exec_Assign_Name_used _ _ _ _ hsw];refine JfZ ?_;rw[arm_evalThenUse_ListComp];refine wpAny_bind (wpAny_mono (wpAny_comprehension_free (use:=some (Jf4 (JhV py))) rfl hs C.eq l hnames (thn (hi B s σ H _ I h) λv s1 h1=>thn h1 λitv M h2=>?_)) (λ_ s' h'=>Xl h') λ_ _ z=>z);obtain⟨it,k,tn,J,H2,e,I2,T,st2,f2,q2⟩:=h2;subst e;have hD:=I2.fresh;obtain⟨W,⟨m0,w0⟩,turn⟩:=q2 M.heap.objs.size hD;refine Jbk hcell (by intro y hy;simp at hy) (λO F E=>?_) l;have Z:JK B σ (X_ H2 M.heap.objs.size) { M with heap:=M.heap.push { cls:=.type "list",data:=.seq ([]:List Value).toArray },toks:=M.toks }:=JgT .nil _;generalize hs3:({ M with heap:=M.heap.push { cls:=.type "list",data:=.seq ([]:List Value).toArray },toks:=M.toks }:Shared)=t at Z;have e3:t.heap=M.heap.push { cls:=.type "list",data:=.seq ([]:List Value).toArray }:=by rw[←hs3]
 generalize hDD:M.heap.objs.size=D at *;generalize hH3:X_ H2 D=P at *;have lt2:∀b∈k,b < M.heap.objs.size:=λb g=>by obtain⟨o,ho,_⟩:=T.obj 0 _ st2 b g;exact hLq ho
 have neD:∀b∈k,b≠D:=λb g=>by rw[←hDD];exact Nat.ne_of_lt (lt2 b g)
 have f3:∀b∈k,de X B P b:=λb g=>⟨by rw[←hH3,ai (neD b g)];exact(f2 b g).1,(f2 b g).2⟩;have sz3:t.heap.objs.size=D+1:=by rw[e3,Heap.size_push,hDD]
 have lt3:∀b∈k,b < t.heap.objs.size:=λb g=>by have q:=lt2 b g;rw[sz3];rw[hDD]at q;exact Nat.lt_succ_of_lt q
 have old:∀b o,t.heap.get? b=some o→O.get? b=some o:=λb o eb=>by
  have g:b < D+1:=by rw[←sz3];exact hLq eb
  refine E.extBut b o ?_ (XX (by rw[←e3];exact eb));rw[Heap.size_push,hDD];exact Nat.ne_of_lt g
 have szC:(M.heap.push { cls:=.type "list",data:=.seq ([]:List Value).toArray }).objs.size=t.heap.objs.size:=by rw[e3]
 rw[szC]at F E;have I4:JcQ K k t P [] (none :: JcV σ) P { t with heap:=O,toks:=M.toks+([]:List (Str × Value)).length }:=pD Z C l f3 lt3 hlen hix F old;have st4:=T.keep 0 _ _ st2 λb g o eb=>old b o (by rw[e3];exact XX eb);have S:∀ {H':Hp},(∀b∈k,JbK b)→∀b∈k,de (Jcq K k t P) [] H' b:=λhn b g =>
  ⟨hn b g,Nat.ne_of_lt (lt3 b g),λhs'=>(i_ (N':=N') Z C l f3 lt3).exfs b g hs',.inl g,λy c hy=>((i_ (N':=N') Z C l f3 lt3).exf b g).2 y c hy,λp hp=>Jv (show p∈([]:List (Addr × Obj)) from hp)⟩
 have loop:∀s4:Shared,s4={ t with heap:=O,toks:=M.toks+([]:List (Str × Value)).length } →
   codeAny (Qq X.w) X.A (Jgd [Jk1 [c] 0] 0 (.ref it) (.ref D) (Jjc scope K t.heap.objs.size))
    (compPost (Qq X.w) X.A X.xe (some (Jf4 (JhV py))) (λ_ s'=>∃L H',JkP B L∧Dn.nx L H') (.ref D) t.heap.objs.size) s4:=by
  rintro s4 rfl;refine uv (λn s'=>∃i σ0 H' ys,JcQ K k t P [] (σ0 :: JcV σ) H' s'∧tn i s'.heap∧(∀b∈k,JbK b)∧W i n ys H') ?_ m0 ⟨0,none,P,[],I4,st4,λb g=>(f3 b g).1,w0⟩;rintro n s5 ⟨i,σ0,H5,ys,I5,st5,fr5,w5⟩;obtain⟨hD5,alt⟩:=turn i n ys H5 w5;rcases alt with ⟨stop,q⟩ | ⟨go,step⟩
  ·refine thn (T.done (Jcq K k t P) rfl rfl rfl hc i [] s5 _ H5 _ I5 (S fr5) st5 stop) λr s6 ⟨hr,I6⟩=>?_;subst hr;obtain⟨m,hn,_⟩:=I6.loc;have Io:=mK (h':=s6.heap) Z I6 f3 (Jbe (λ_ _=>rfl));refine wpAny_assign_Name (oZ (v:=.ref D) Io hNy hiy hy rfl (λs7 I7 ⟨a,sb,ha⟩=>?_) hf);have ltC:∀x c,Jj x c→c < t.heap.objs.size:=λx c e=>by obtain⟨v,hv⟩:=Z.cell x c e;exact hv.lt
   have hCa:t.heap.objs.size≠a:=by
    rintro rfl;rcases ha with z | z
    ·exact absurd Z.lt (by rw[←z];exact Nat.lt_irrefl _)
    ·exact QV (ltC _ _ z) _
   refine⟨m,hn.sameBut sb hCa,λh' hsb=>⟨_,H5,?_,q⟩⟩;exact I7.skip hsb Z.sz (Nat.ne_of_gt Z.lt) (λx c e=>Nat.ne_of_lt (ltC x c e)) (λp hp=>V_ (Z.pin p hp).1) I6.free
  ·refine thn (T.item (Jcq K k t P) rfl rfl rfl hc i [] s5 _ H5 _ I5 (S fr5) st5 go) λr s6 ⟨u,hr,h6⟩=>?_;subst hr;refine thn h6 λ_ s7 ⟨y7,H7,I7,r7,yl7,st7,fr7⟩=>?_;have I7':=I7.pinned (S fr7) (T.obj _ _ st7);have G:PG (Jcq K k t P) (X1 px) (gZ 0):=bj hN hN0 (Jdx hx) (Jdy hx);refine wpAny_mono (G _ s7 _ H7 y7 u (λL H'=>L=some y7 :: JcV σ∧H'=H7) I7' r7 (Xr rfl)) (λ_ s8 h8=>?_) λ_ _ f=>False.elim f;obtain⟨σ8,H8,I8,rfl,rfl⟩:=h8;have fin:∀ {σ9:Option V} {H9:Hp} {s9:Shared} {zs:List V} {m':Nat},JcQ K k t P ([]++jw k s7.heap) (σ9 :: JcV σ) H9 s9→m' < n→W (i+1) m' zs H9→∃m,m < n∧∃i σ0 H' ys,JcQ K k t P [] (σ0 :: JcV σ) H' s9∧tn i s9.heap∧(∀b∈k,JbK b)∧W i m ys H':=λ{σ9 H9 s9 zs m'} I9 U w9=>by refine⟨m',U,i+1,σ9,H9,zs,I9.unpinned,T.keep _ _ _ st7 λb g o eb=>(JlJ (b,o) g eb).1,λb g=>?_,w9⟩;obtain⟨o,eb,d⟩:=T.obj _ _ st7 b g;exact(JlJ (b,o) g eb).2.1
   refine wpAny_mono (ht K k t P _ s8 _ H8 _ I8 (step y7 H8 yl7)) (λb s9 h9=>?_) λ_ _ f=>False.elim f;obtain⟨H9,I9,q9⟩:=h9;cases b with
   | false =>
    obtain⟨m',U,w9⟩:=q9;exact fin I9 U w9
   | true =>
    refine wpAny_mono (he K k t P _ s9 _ H9 _ I9 q9) (λyv s10 h10=>?_) λ_ _ f=>False.elim f;obtain⟨y10,H10,I10,r10,hD10,hl10,m',U,w10⟩:=h10;refine wpAny_mono (cL (X:=Jcq K k t P) _ s10 _ H10 (.ref D) [y10] (.ref D) [yv] (λ_ H'=>H'=Qa H10 D (ys++[y10])) I10 rfl (Qv r10) (JeX D ys y10 hD10 hl10 rfl)) (λ_ s11 h11=>?_) λ_ _ f=>False.elim f;obtain⟨_,H11,I11,_,rfl⟩:=h11;exact fin I11 U w10
 subst hs3;have fin:=Jez (loop _ rfl) X.A 0 _ _ _ st4 (loop _ rfl);exact fin
end
inductive Dt where
 | non | bl (b:Bool) | int (i:Int) | str (x:Str) | tup (xs:List Dt) | lst (xs:List Dt)
mutual
noncomputable def peq:Dt→Dt→Bool
 | .non,.non=>true
 | .bl a,.bl b=>a == b
 | .bl a,.int b=>(if a then 1 else 0) == b
 | .int a,.bl b=>a == (if b then 1 else 0)
 | .int a,.int b=>a == b
 | .str a,.str b=>a == b
 | .tup xs,.tup ys=>c_ xs ys
 | .lst xs,.lst ys=>c_ xs ys
 | _,_=>false
noncomputable def c_:List Dt→List Dt→Bool
 | [],[]=>true
 | x :: xs,y :: ys=>peq x y&&c_ xs ys
 | _,_=>false
end
mutual
noncomputable def dep:Dt→Nat
 | .tup xs=>cx xs+1
 | .lst xs=>cx xs+1
 | _=>0
noncomputable def cx:List Dt→Nat
 | []=>0
 | x :: xs=>max (dep x) (cx xs)
end
mutual
noncomputable def nob:Dt→Bool
 | .bl _=>false
 | .tup xs=>hI xs
 | .lst xs=>hI xs
 | _=>true
noncomputable def hI:List Dt→Bool
 | []=>true
 | x :: xs=>nob x&&hI xs
end
mutual
def kC:∀d:Dt,Jiy d d
 | .non=>rfl
 | .bl _=>by simp [peq]
 | .int _=>by simp [peq]
 | .str _=>by simp [peq]
 | .tup xs=>by simp only[peq];exact mM xs
 | .lst xs=>by simp only[peq];exact mM xs
def mM:∀d:List Dt,Qu (c_ d d)
 | []=>by simp [c_]
 | x :: xs=>by simp only[c_,kC x,mM xs,Bool.and_self]
end
mutual
def ux:∀d e:Dt,Qu (nob d)→Qu (nob e)→Jiy d e→d=e
 | .non,e,_,_,h=>by cases e <;> first | rfl | (simp [peq]at h)
 | .bl _,e,h,_,_=>by simp [nob]at h
 | .int _,e,_,a,h=>by cases e <;> first | (simp [nob]at a;done) | (simp [peq]at h;done) | (simp [peq]at h;rw[h])
 | .str _,e,_,a,h=>by cases e <;> first | (simp [peq]at h;done) | (simp [peq]at h;rw[h])
 | .tup xs,e,b,a,h=>by
  cases e with
  | tup ys=>simp only[peq]at h;simp only[nob]at b a;rw[mU xs ys b a h]
  | _=>simp [peq]at h
 | .lst xs,e,b,a,h=>by
  cases e with
  | lst ys=>simp only[peq]at h;simp only[nob]at b a;rw[mU xs ys b a h]
  | _=>simp [peq]at h
def mU:∀d e:List Dt,Qu (hI d)→Qu (hI e)→Qu (c_ d e)→d=e
 | [],e,_,_,h=>by cases e <;> first | rfl | (simp [c_]at h)
 | x :: xs,e,b,a,h=>by
  cases e with
  | nil=>simp [c_]at h
  | cons y ys =>
   simp only[c_,Bool.and_eq_true]at h;simp only[hI,Bool.and_eq_true]at b a;rw[ux x y b.1 a.1 h.1,mU xs ys b.2 a.2 h.2]
end
mutual
def Has (K:W.Frag)(H:Hp):Dt→V→Prop
 | .non,v=>v=.non
 | .bl b,v=>v=.bl b
 | .int i,v=>Jhz v i
 | .str x,v=>v=.str x
 | .tup c,v=>∃a xs,Xy v a∧JfB a∧Jdf c
 | .lst c,v=>∃a xs,Xy v a∧Ja6 a∧Jdf c
def aj (K:W.Frag)(H:Hp):List Dt→List V→Prop
 | [],vs=>vs=[]
 | d :: a,vs=>∃v r,vs=v :: r∧J9 K d v∧JQ a r
end
def aj.length {K:W.Frag}{H:Hp}:∀ {a:List Dt} {vs:List V},JQ a vs→a.length=vs.length
 | [],vs,h=>by simp only[aj]at h;rw[h];rfl
 | d :: a,vs,h=>by simp only[aj]at h;obtain⟨v,r,rfl,_,b⟩:=h;rw[List.length_cons,List.length_cons,aj.length b]
def aj.get {K:W.Frag}{H:Hp}:∀ {a:List Dt} {vs:List V} {i:Nat} {v:V},JQ a vs→vs[i]?=some v→∃d,a[i]?=some d∧J9 K d v
 | [],vs,i,v,h,e=>by simp only[aj]at h;rw[h]at e;simp at e
 | d :: a,vs,i,v,h,e=>by
  simp only[aj]at h;obtain⟨j,r,rfl,c,b⟩:=h;cases i with
  | zero=>simp at e;subst e;exact Vg d c
  | succ i =>
   obtain⟨d',g,f⟩:=aj.get b (by simpa using e);exact⟨d',by simpa using g,f⟩
def aj.getD {K:W.Frag}{H:Hp}:∀ {a:List Dt} {vs:List V} {i:Nat} {d:Dt},JQ a vs→a[i]?=some d→∃v,vs[i]?=some v∧J9 K d v
 | [],vs,i,d,h,e=>by simp at e
 | k :: a,vs,i,d,h,e=>by
  simp only[aj]at h;obtain⟨b,r,rfl,f,c⟩:=h;cases i with
  | zero=>simp at e;subst e;exact Vg b f
  | succ i =>
   obtain⟨v,j,g⟩:=aj.getD c (by simpa using e);exact⟨v,by simpa using j,g⟩
def aj.append {K:W.Frag}{H:Hp}:∀ {b es:List Dt} {vs a:List V},JQ b vs→JQ es a→JQ (b++es) (vs++a)
 | [],es,vs,a,h,h'=>by simp only[aj]at h;rw[h];exact h'
 | d :: b,es,vs,a,h,h'=>by simp only[aj]at h;obtain⟨v,r,rfl,e,c⟩:=h;show JQ (d :: (b++es)) (v :: (r++a));simp only[aj];exact JC v (r++a) e (aj.append c h')
def aj.one {K:W.Frag}{H:Hp}{d:Dt}{v:V}(h:J9 K d v):JQ [d] [v]:=by simp only[aj];exact JC v [] h rfl
def aj.ints {K:W.Frag}{H:Hp}:∀ns:List Int,JQ (ns.map Dt.int) (ns.map V.int)
 | []=>by rfl
 | n :: ns=>by simp only[List.map_cons,aj];exact JC _ _ (by rfl) (aj.ints ns)
mutual
noncomputable def nol:Dt→Bool
 | .lst _=>false
 | .tup xs=>bz xs
 | _=>true
noncomputable def bz:List Dt→Bool
 | []=>true
 | x :: xs=>nol x&&bz xs
end
def aL (H H':Hp):Prop:=∀b xs,Rd H b (.tup xs)→Rd H' b (.tup xs)
def aL.sq {K:W.Frag}{H H':Hp}{a:Addr}{xs:List V}(k:aL H H')(h:JfB a):Vv H' a xs:=h.elim (λz=>.inl (k a xs z)) .inr
def aL.trans (a:aL H H1)(b:aL H1 H2):aL H H2:=λc xs h=>b c xs (a c xs h)
def aL.of_same (e:Xj H):aL H H':=λb xs h=>by
 rcases h with h | ⟨o,h⟩
 ·exact .inl (e _ _ h)
 ·exact Jx o (e _ _ h)
def aL.lst (h:Jc2 l):JdY H H l ys:=λb zs q=>by
 rcases q with q | ⟨o,q⟩
 ·exact .inl (by rw[ai (cq q h (λz=>by cases z))];exact q)
 ·exact Jx o (by rw[ai (cq q h (λz=>by cases z))];exact q)
def aL.new (h:Vn l):aL H (JiW l):=aL.of_same λb u q=>by rw[Jj1 h];exact q
mutual
def Has.keep {K:W.Frag}{H H':Hp}(k:aL H H'):∀ {d:Dt} {v:V},JeT d→J9 K d v→Has K H' d v
 | .non,v,_,h=>by simp only[Has]at h ⊢;exact h
 | .bl _,v,_,h=>by simp only[Has]at h ⊢;exact h
 | .int _,v,_,h=>by simp only[Has]at h ⊢;exact h
 | .str _,v,_,h=>by simp only[Has]at h ⊢;exact h
 | .tup f,v,n,h=>by simp only[Has]at h ⊢;simp only[nol]at n;obtain⟨a,xs,e,c,b⟩:=h;exact⟨a,xs,e,k.sq c,aj.keep k n b⟩
 | .lst _,v,n,h=>by simp [nol]at n
def aj.keep {K:W.Frag}{H H':Hp}(k:aL H H'):∀ {a:List Dt} {vs:List V},Jc9 a→JQ a vs→Jgw a vs
 | [],vs,_,h=>by simp only[aj]at h ⊢;exact h
 | d :: a,vs,n,h=>by simp only[aj]at h ⊢;simp only[bz,Bool.and_eq_true]at n;obtain⟨v,r,e,c,b⟩:=h;exact⟨v,r,e,Has.keep k n.1 c,aj.keep k n.2 b⟩
end
section
variable {X:Cx} {pins:List (Addr × Obj)} {σ:St} {H:Hp} {s:Shared}
def uy (I:QE s){a:Addr}{xs ys:List V}(h:JgP H a xs)(h':JjC H a ys):False:=by obtain⟨g,_,p,_⟩:=I.list h;obtain⟨f,_,q,_⟩:=I.tuple h';obtain⟨o,e,c,_⟩:=p.isList;obtain⟨i,b,d,_⟩:=q;lia
mutual
def Has.inj (I:QE s):∀(d e:Dt) (v:V),J9 X.K d v→J9 X.K e v→d=e
 | .non,e,v,h,h'=>by simp only[Has]at h;subst h;cases e <;> simp only[Has]at h' <;> first | rfl | (cases h';done) | (obtain⟨_,_,z,_⟩:=h';cases z)
 | .bl b,e,v,h,h'=>by simp only[Has]at h;subst h;cases e <;> simp only[Has]at h' <;> first | (cases h';done) | (cases h';rfl) | (obtain⟨_,_,z,_⟩:=h';cases z)
 | .int b,e,v,h,h'=>by simp only[Has]at h;subst h;cases e <;> simp only[Has]at h' <;> first | (cases h';done) | (cases h';rfl) | (obtain⟨_,_,z,_⟩:=h';cases z)
 | .str b,e,v,h,h'=>by simp only[Has]at h;subst h;cases e <;> simp only[Has]at h' <;> first | (cases h';done) | (cases h';rfl) | (obtain⟨_,_,z,_⟩:=h';cases z)
 | .tup j,e,v,h,h'=>by
  simp only[Has]at h;obtain⟨a,xs,rfl,g,i⟩:=h;cases e with
  | tup es =>
   simp only[Has]at h';obtain⟨k,ys,z,f,c⟩:=h';cases z;rw[I.tuple_inj f g]at c;rw[aj.inj I j es xs i c]
  | lst es =>
   simp only[Has]at h';obtain⟨k,ys,z,f,c⟩:=h';cases z;exact(uy I f g).elim
  | _=>simp only[Has]at h';cases h'
 | .lst j,e,v,h,h'=>by
  simp only[Has]at h;obtain⟨a,xs,rfl,g,i⟩:=h;cases e with
  | lst es =>
   simp only[Has]at h';obtain⟨k,ys,z,f,c⟩:=h';cases z;rw[I.list_inj f g]at c;rw[aj.inj I j es xs i c]
  | tup es =>
   simp only[Has]at h';obtain⟨k,ys,z,f,c⟩:=h';cases z;exact(uy I g f).elim
  | _=>simp only[Has]at h';cases h'
def aj.inj (I:QE s):∀(a es:List Dt) (vs:List V),Jjd H a vs→Jjd H es vs→a=es
 | [],es,vs,h,h'=>by
  simp only[aj]at h;subst h;cases es with
  | nil=>rfl
  | cons e es=>simp only[aj]at h';obtain⟨_,_,z,_⟩:=h';cases z
 | d :: a,es,vs,h,h'=>by
  simp only[aj]at h;obtain⟨v,r,rfl,g,f⟩:=h;cases es with
  | nil=>simp only[aj]at h';cases h'
  | cons e es =>
   simp only[aj]at h';obtain⟨i,j,z,c,b⟩:=h';cases z;rw[Has.inj I d e v g c,aj.inj I a es r f b]
end
noncomputable def hJ (a es:List Dt)(j:Nat):Bool:=match a[j]?,es[j]? with
 | some d,some e=>peq d e
 | _,_=>true
def yI (d e)(a es):hJ (d :: a) (e :: es) 0=peq d e:=rfl
def mV:∀a es,((List.range (min a.length es.length)).all (hJ a es)&&a.length == es.length)=c_ a es
 | [],[]=>by rfl
 | [],e :: es=>by rfl
 | d :: a,[]=>by rfl
 | d :: a,e :: es=>by
  have b:=mV a es;have f:min (d :: a).length (e :: es).length=min a.length es.length+1:=by simp only[List.length_cons];lia
  rw[f,List.range_succ_eq_map,List.all_cons,yI,List.all_map];have c:(hJ (d :: a) (e :: es) ∘ Nat.succ)=hJ a es:=by rfl
  rw[c,List.length_cons,List.length_cons];simp only[c_];rw[←b,Bool.and_assoc];congr 2;simp
def yJ (h:ds.length=es.length):(List.range ds.length).all (hJ ds es)=c_ ds es:=by rw[←mV,←h,Nat.min_self];simp
def yK (h:ds.length≠es.length):Q9 (c_ ds es):=by
 rw[←mV];lia
def eR (I:QE s){a:Addr}{xs:List V}{c:List Dt}(h:JjC H a xs)(g:Jjd H c xs):∃b:List Value,aM xs b∧JjD b.toArray∧b.toArray.size=c.length:=by obtain⟨b,r,p,_⟩:=I.tuple h;exact⟨b,r,p,by rw[sAq,←r.length,←g.length]⟩
def eS (I:QE s){a:Addr}{xs:List V}{c:List Dt}(h:JgP H a xs)(g:Jjd H c xs):∃b:List Value,aM xs b∧s.heap.IsList a b.toArray∧b.toArray.size=c.length:=by obtain⟨b,r,p,_⟩:=I.list h;exact⟨b,r,p.isList,by rw[sAq,←r.length,←g.length]⟩
def uz (s:Shared)(A:Around)(a es:List Dt)(xs ys:List V):Prop :=
 ∀us zs,JbM xs→aM ys zs→∀j u z,us[j]?=some u→zs[j]?=some z→Jf7 A.in1 u z (hJ a es j)
def rcTT (I:QE s){A:Around}{a b:Addr}{xs ys:List V}{f es:List Dt}(w:JjC H a xs)(y:Jjd H f xs)(v:JjC H b ys)(x:Jjd H es ys)(n:A.units < cLine)
  (u:uz s A f es xs ys):SeqAt.RcAt A s (.ref a) (.ref b) (c_ f es)∧SeqAt.RcNeAt A s (.ref a) (.ref b) (!c_ f es):=by obtain⟨d,t,k,p⟩:=eR I w y;obtain⟨c,r,i,o⟩:=eR I v x;have q:∀j l (k2:j < c.toArray.size),SeqAt.EqAt A.in1 s d.toArray[j] c.toArray[j] (hJ f es j):=λj l k2=>u d c t r j _ _ (by simp at l ⊢) (by simp at k2 ⊢);have h:=SeqAt.RcAt.tuples k i n q;have g:=SeqAt.RcNeAt.tuples k i n q;rw[p,o,mV]at h g;exact⟨h,g⟩
def rcLL (I:QE s){A:Around}{a b:Addr}{xs ys:List V}{f es:List Dt}(y:JgP H a xs)(B:Jjd H f xs)(x:JgP H b ys)(z:Jjd H es ys)(n:A.units < cLine)
  (w:uz s A f es xs ys):SeqAt.RcAt A s (.ref a) (.ref b) (c_ f es)∧SeqAt.RcNeAt A s (.ref a) (.ref b) (!c_ f es):=by
 obtain⟨d,v,l,i⟩:=eS I y B;obtain⟨c,u,k,o⟩:=eS I x z;by_cases h:f.length=es.length
 ·have q:∀j t (k2:j < c.toArray.size),SeqAt.EqAt A.in1 s d.toArray[j] c.toArray[j] (hJ f es j):=λj t k2=>w d c v u j _ _ (by simp at t ⊢) (by simp at k2 ⊢);have r:=SeqAt.RcAt.lists l k (by rw[i,o,h]) n q;have p:=SeqAt.RcNeAt.lists l k (by rw[i,o,h]) n q;rw[i,yJ h]at r p;exact⟨r,p⟩
 ·have g:Qu (d.toArray.size != c.toArray.size):=by rw[i,o];simpa using h
  rw[yK h];exact⟨SeqAt.RcAt.lists_lengths l k g n,SeqAt.RcNeAt.lists_lengths l k g n⟩
def ja {A:Around}{d:Dt}(h:A.units+dep d < cLine):A.units < cLine:=Nat.lt_of_le_of_lt (Nat.le_add_right _ _) h
mutual
def uA (I:QE s):∀(d e:Dt) (v w:V) (u z:Value) (A:Around),J9 X.K d v→J9 X.K e w→Jeb v→aS w z→A.units+dep d < cLine→Jf7 A u z (peq d e)
 | .non,e,v,w,u,z,A,h,h',r,f,l=>by
  have c:=ja l;simp only[Has]at h;subst h;cases e with
  | tup es =>
   simp only[Has]at h';obtain⟨b,ys,rfl,i,g⟩:=h';obtain⟨_,_,p,_⟩:=eR I i g;cases (show JiV z from f);cases (show Jbh u from r);exact SeqAt.EqAt.none_tuple p c
  | lst es =>
   simp only[Has]at h';obtain⟨b,ys,rfl,i,g⟩:=h';obtain⟨_,_,p,_⟩:=eS I i g;cases (show JiV z from f);cases (show Jbh u from r);exact SeqAt.EqAt.none_list p c
  | _=>simp only[Has]at h';subst h';exact kz r f rfl rfl
 | .bl k,e,v,w,u,z,A,h,h',r,f,l=>by
  have c:=ja l;simp only[Has]at h;subst h;cases e with
  | tup es =>
   simp only[Has]at h';obtain⟨b,ys,rfl,i,g⟩:=h';obtain⟨_,_,p,_⟩:=eR I i g;cases (show JiV z from f);cases (show Q4 u k from r);exact SeqAt.EqAt.bool_tuple k p c
  | lst es =>
   simp only[Has]at h';obtain⟨b,ys,rfl,i,g⟩:=h';obtain⟨_,_,p,_⟩:=eS I i g;cases (show JiV z from f);cases (show Q4 u k from r);exact SeqAt.EqAt.bool_list k p c
  | _=>simp only[Has]at h';subst h';exact kz r f rfl rfl
 | .int k,e,v,w,u,z,A,h,h',r,f,l=>by
  have c:=ja l;simp only[Has]at h;subst h;cases e with
  | tup es =>
   simp only[Has]at h';obtain⟨b,ys,rfl,i,g⟩:=h';obtain⟨_,_,p,_⟩:=eR I i g;cases (show JiV z from f);obtain⟨t,rfl⟩:=r;exact SeqAt.EqAt.int_tuple k t p c
  | lst es =>
   simp only[Has]at h';obtain⟨b,ys,rfl,i,g⟩:=h';obtain⟨_,_,p,_⟩:=eS I i g;cases (show JiV z from f);obtain⟨t,rfl⟩:=r;exact SeqAt.EqAt.int_list k t p c
  | _=>simp only[Has]at h';subst h';exact kz r f rfl rfl
 | .str k,e,v,w,u,z,A,h,h',r,f,l=>by
  have c:=ja l;simp only[Has]at h;subst h;cases e with
  | tup es =>
   simp only[Has]at h';obtain⟨b,ys,rfl,i,g⟩:=h';obtain⟨_,_,p,_⟩:=eR I i g;cases (show JiV z from f);obtain⟨t,rfl⟩:=r;exact SeqAt.EqAt.str_tuple k t p c
  | lst es =>
   simp only[Has]at h';obtain⟨b,ys,rfl,i,g⟩:=h';obtain⟨_,_,p,_⟩:=eS I i g;cases (show JiV z from f);obtain⟨t,rfl⟩:=r;exact SeqAt.EqAt.str_list k t p c
  | _=>simp only[Has]at h';subst h';exact kz r f rfl rfl
 | .tup y,e,v,w,u,z,A,h,h',r,f,l=>by
  have c:=ja l;have G:=h;simp only[Has]at h;obtain⟨a,xs,rfl,x,o⟩:=h;cases (show Vp u a from r);obtain⟨_,_,p,_⟩:=eR I x o;have E:A.in1.units+cx y < cLine:=by simp only[dep]at l;rw[Around.in1_units];lia
  cases e with
  | tup es =>
   have F:=h';simp only[Has]at h';obtain⟨b,ys,rfl,i,g⟩:=h';cases (show JiV z from f);by_cases n:a=b
   ·subst n;rw[Has.inj I _ _ _ G F,kC];exact SeqAt.EqAt.same _
   ·have q:=(rcTT I x o i g c λus zs C B j u z L J=>kD I y es xs ys us zs A.in1 o g C B E j u z L J).1;simp only[peq];exact SeqAt.EqAt.of_refs n q
  | lst es =>
   simp only[Has]at h';obtain⟨b,ys,rfl,i,g⟩:=h';cases (show JiV z from f);obtain⟨_,_,D,_⟩:=eS I i g;exact SeqAt.EqAt.tuple_list p D c
  | non=>simp only[Has]at h';subst h';cases (show Jbh z from f);exact SeqAt.EqAt.tuple_none p c
  | bl k=>simp only[Has]at h';subst h';cases (show Q4 z k from f);exact SeqAt.EqAt.tuple_bool k p c
  | int k=>simp only[Has]at h';subst h';obtain⟨t,rfl⟩:=f;exact SeqAt.EqAt.tuple_int k t p c
  | str k=>simp only[Has]at h';subst h';obtain⟨t,rfl⟩:=f;exact SeqAt.EqAt.tuple_str k t p c
 | .lst y,e,v,w,u,z,A,h,h',r,f,l=>by
  have c:=ja l;have G:=h;simp only[Has]at h;obtain⟨a,xs,rfl,x,o⟩:=h;cases (show Vp u a from r);obtain⟨_,_,p,_⟩:=eS I x o;have E:A.in1.units+cx y < cLine:=by simp only[dep]at l;rw[Around.in1_units];lia
  cases e with
  | lst es =>
   have F:=h';simp only[Has]at h';obtain⟨b,ys,rfl,i,g⟩:=h';cases (show JiV z from f);by_cases n:a=b
   ·subst n;rw[Has.inj I _ _ _ G F,kC];exact SeqAt.EqAt.same _
   ·have q:=(rcLL I x o i g c λus zs C B j u z L J=>kD I y es xs ys us zs A.in1 o g C B E j u z L J).1;simp only[peq];exact SeqAt.EqAt.of_refs n q
  | tup es =>
   simp only[Has]at h';obtain⟨b,ys,rfl,i,g⟩:=h';cases (show JiV z from f);obtain⟨_,_,D,_⟩:=eR I i g;exact SeqAt.EqAt.list_tuple p D c
  | non=>simp only[Has]at h';subst h';cases (show Jbh z from f);exact SeqAt.EqAt.list_none p c
  | bl k=>simp only[Has]at h';subst h';cases (show Q4 z k from f);exact SeqAt.EqAt.list_bool k p c
  | int k=>simp only[Has]at h';subst h';obtain⟨t,rfl⟩:=f;exact SeqAt.EqAt.list_int k t p c
  | str k=>simp only[Has]at h';subst h';obtain⟨t,rfl⟩:=f;exact SeqAt.EqAt.list_str k t p c
def kD (I:QE s):∀(c es:List Dt) (vs f:List V) (us zs:List Value) (A:Around),Jjd H c vs→Jjd H es f→JbM vs→aM f zs→A.units+cx c < cLine →
  ∀(j:Nat) (u z:Value),us[j]?=some u→zs[j]?=some z→Jf7 A u z (hJ c es j)
 | [],es,vs,f,us,zs,A,h,h',r,g,i,j,u,z,b,a=>by simp only[aj]at h;subst h;cases r;simp at b
 | d :: c,es,vs,f,us,zs,A,h,h',r,g,i,j,u,z,b,a=>by
  simp only[aj]at h;obtain⟨v,rs,rfl,y,x⟩:=h;cases r with
  | cons p o =>
   cases es with
   | nil =>
    simp only[aj]at h';subst h';cases g;simp at a
   | cons e es =>
    simp only[aj]at h';obtain⟨w,k,rfl,t,q⟩:=h';simp only[cx]at i;cases g with
    | cons n l =>
     cases j with
     | zero =>
      simp at b a;subst b a;exact uA I d e v w _ _ A y t p n (by lia)
     | succ j=>exact kD I c es rs k _ _ A x q o l (by lia) j u z (by simpa using b) (by simpa using a)
end
def rc_D (I:QE s)(A)(d e)(v w)(u z)(h:J9 X.K d v)(h':J9 X.K e w)(r:Jeb v)(g:aS w z)(C:A.units+dep d < cLine) :
  SeqAt.RcAt A s u z (peq d e)∧SeqAt.RcNeAt A s u z (!peq d e):=by
 have c:=ja C;cases d with
 | non =>
  simp only[Has]at h;subst h;cases (show Jbh u from r);cases e with
  | non =>
   simp only[Has]at h';subst h';cases (show Jbh z from g);exact⟨SeqAt.RcAt.none_none,SeqAt.RcNeAt.none_none⟩
  | bl k2 =>
   simp only[Has]at h';subst h';cases (show Q4 z k2 from g);exact⟨SeqAt.RcAt.none_bool k2,SeqAt.RcNeAt.none_bool k2⟩
  | int k2 =>
   simp only[Has]at h';subst h';obtain⟨i,rfl⟩:=g;exact⟨SeqAt.RcAt.none_int k2 i,SeqAt.RcNeAt.none_int k2 i⟩
  | str k2 =>
   simp only[Has]at h';subst h';obtain⟨i,rfl⟩:=g;exact⟨SeqAt.RcAt.none_str k2 i,SeqAt.RcNeAt.none_str k2 i⟩
  | tup es =>
   simp only[Has]at h';obtain⟨b,ys,rfl,n,l⟩:=h';obtain⟨_,_,p,_⟩:=eR I n l;cases (show JiV z from g);exact⟨SeqAt.RcAt.none_tuple p c,SeqAt.RcNeAt.none_tuple p c⟩
  | lst es =>
   simp only[Has]at h';obtain⟨b,ys,rfl,n,l⟩:=h';obtain⟨_,_,p,_⟩:=eS I n l;cases (show JiV z from g);exact⟨SeqAt.RcAt.none_list p c,SeqAt.RcNeAt.none_list p c⟩
 | bl f =>
  simp only[Has]at h;subst h;cases (show Q4 u f from r);cases e with
  | non =>
   simp only[Has]at h';subst h';cases (show Jbh z from g);exact⟨SeqAt.RcAt.bool_none f,SeqAt.RcNeAt.bool_none f⟩
  | bl k2 =>
   simp only[Has]at h';subst h';cases (show Q4 z k2 from g);exact⟨SeqAt.RcAt.bool_bool f k2,SeqAt.RcNeAt.bool_bool f k2⟩
  | int k2 =>
   simp only[Has]at h';subst h';obtain⟨i,rfl⟩:=g;exact⟨SeqAt.RcAt.bool_int f k2 i,SeqAt.RcNeAt.bool_int f k2 i⟩
  | str k2 =>
   simp only[Has]at h';subst h';obtain⟨i,rfl⟩:=g;exact⟨SeqAt.RcAt.bool_str f k2 i,SeqAt.RcNeAt.bool_str f k2 i⟩
  | tup es =>
   simp only[Has]at h';obtain⟨b,ys,rfl,n,l⟩:=h';obtain⟨_,_,p,_⟩:=eR I n l;cases (show JiV z from g);exact⟨SeqAt.RcAt.bool_tuple f p c,SeqAt.RcNeAt.bool_tuple f p c⟩
  | lst es =>
   simp only[Has]at h';obtain⟨b,ys,rfl,n,l⟩:=h';obtain⟨_,_,p,_⟩:=eS I n l;cases (show JiV z from g);exact⟨SeqAt.RcAt.bool_list f p c,SeqAt.RcNeAt.bool_list f p c⟩
 | int f =>
  simp only[Has]at h;subst h;obtain⟨k,rfl⟩:=r;cases e with
  | non =>
   simp only[Has]at h';subst h';cases (show Jbh z from g);exact⟨SeqAt.RcAt.int_none f k,SeqAt.RcNeAt.int_none f k⟩
  | bl k2 =>
   simp only[Has]at h';subst h';cases (show Q4 z k2 from g);exact⟨SeqAt.RcAt.int_bool f k k2,SeqAt.RcNeAt.int_bool f k k2⟩
  | int k2 =>
   simp only[Has]at h';subst h';obtain⟨i,rfl⟩:=g;exact⟨SeqAt.RcAt.int_int f k k2 i,SeqAt.RcNeAt.int_int f k k2 i⟩
  | str k2 =>
   simp only[Has]at h';subst h';obtain⟨i,rfl⟩:=g;exact⟨SeqAt.RcAt.int_str f k k2 i,SeqAt.RcNeAt.int_str f k k2 i⟩
  | tup es =>
   simp only[Has]at h';obtain⟨b,ys,rfl,n,l⟩:=h';obtain⟨_,_,p,_⟩:=eR I n l;cases (show JiV z from g);exact⟨SeqAt.RcAt.int_tuple f k p c,SeqAt.RcNeAt.int_tuple f k p c⟩
  | lst es =>
   simp only[Has]at h';obtain⟨b,ys,rfl,n,l⟩:=h';obtain⟨_,_,p,_⟩:=eS I n l;cases (show JiV z from g);exact⟨SeqAt.RcAt.int_list f k p c,SeqAt.RcNeAt.int_list f k p c⟩
 | str f =>
  simp only[Has]at h;subst h;obtain⟨k,rfl⟩:=r;cases e with
  | non =>
   simp only[Has]at h';subst h';cases (show Jbh z from g);exact⟨SeqAt.RcAt.str_none f k,SeqAt.RcNeAt.str_none f k⟩
  | bl k2 =>
   simp only[Has]at h';subst h';cases (show Q4 z k2 from g);exact⟨SeqAt.RcAt.str_bool f k k2,SeqAt.RcNeAt.str_bool f k k2⟩
  | int k2 =>
   simp only[Has]at h';subst h';obtain⟨i,rfl⟩:=g;exact⟨SeqAt.RcAt.str_int f k k2 i,SeqAt.RcNeAt.str_int f k k2 i⟩
  | str k2 =>
   simp only[Has]at h';subst h';obtain⟨i,rfl⟩:=g;exact⟨SeqAt.RcAt.str_str f k k2 i,SeqAt.RcNeAt.str_str f k k2 i⟩
  | tup es =>
   simp only[Has]at h';obtain⟨b,ys,rfl,n,l⟩:=h';obtain⟨_,_,p,_⟩:=eR I n l;cases (show JiV z from g);exact⟨SeqAt.RcAt.str_tuple f k p c,SeqAt.RcNeAt.str_tuple f k p c⟩
  | lst es =>
   simp only[Has]at h';obtain⟨b,ys,rfl,n,l⟩:=h';obtain⟨_,_,p,_⟩:=eS I n l;cases (show JiV z from g);exact⟨SeqAt.RcAt.str_list f k p c,SeqAt.RcNeAt.str_list f k p c⟩
 | tup x =>
  simp only[Has]at h;obtain⟨a,xs,rfl,t,o⟩:=h;cases (show Vp u a from r);obtain⟨_,_,p,_⟩:=eR I t o;have D:A.in1.units+cx x < cLine:=by simp only[dep]at C;rw[Around.in1_units];lia
  cases e with
  | non =>
   simp only[Has]at h';subst h';cases (show Jbh z from g);exact⟨SeqAt.RcAt.tuple_none p c,SeqAt.RcNeAt.tuple_none p c⟩
  | bl k2 =>
   simp only[Has]at h';subst h';cases (show Q4 z k2 from g);exact⟨SeqAt.RcAt.tuple_bool k2 p c,SeqAt.RcNeAt.tuple_bool k2 p c⟩
  | int k2 =>
   simp only[Has]at h';subst h';obtain⟨i,rfl⟩:=g;exact⟨SeqAt.RcAt.tuple_int k2 i p c,SeqAt.RcNeAt.tuple_int k2 i p c⟩
  | str k2 =>
   simp only[Has]at h';subst h';obtain⟨i,rfl⟩:=g;exact⟨SeqAt.RcAt.tuple_str k2 i p c,SeqAt.RcNeAt.tuple_str k2 i p c⟩
  | tup es =>
   simp only[Has]at h';obtain⟨b,ys,rfl,n,l⟩:=h';cases (show JiV z from g);simp only[peq];exact rcTT I t o n l c λus zs B y j u z F E=>kD I x es xs ys us zs A.in1 o l B y D j u z F E
  | lst es =>
   simp only[Has]at h';obtain⟨b,ys,rfl,n,l⟩:=h';cases (show JiV z from g);obtain⟨_,_,q,_⟩:=eS I n l;exact⟨SeqAt.RcAt.tuple_list p q c,SeqAt.RcNeAt.tuple_list p q c⟩
 | lst x =>
  simp only[Has]at h;obtain⟨a,xs,rfl,t,o⟩:=h;cases (show Vp u a from r);obtain⟨_,_,p,_⟩:=eS I t o;have D:A.in1.units+cx x < cLine:=by simp only[dep]at C;rw[Around.in1_units];lia
  cases e with
  | non =>
   simp only[Has]at h';subst h';cases (show Jbh z from g);exact⟨SeqAt.RcAt.list_none p c,SeqAt.RcNeAt.list_none p c⟩
  | bl k2 =>
   simp only[Has]at h';subst h';cases (show Q4 z k2 from g);exact⟨SeqAt.RcAt.list_bool k2 p c,SeqAt.RcNeAt.list_bool k2 p c⟩
  | int k2 =>
   simp only[Has]at h';subst h';obtain⟨i,rfl⟩:=g;exact⟨SeqAt.RcAt.list_int k2 i p c,SeqAt.RcNeAt.list_int k2 i p c⟩
  | str k2 =>
   simp only[Has]at h';subst h';obtain⟨i,rfl⟩:=g;exact⟨SeqAt.RcAt.list_str k2 i p c,SeqAt.RcNeAt.list_str k2 i p c⟩
  | tup es =>
   simp only[Has]at h';obtain⟨b,ys,rfl,n,l⟩:=h';cases (show JiV z from g);obtain⟨_,_,q,_⟩:=eR I n l;exact⟨SeqAt.RcAt.list_tuple p q c,SeqAt.RcNeAt.list_tuple p q c⟩
  | lst es =>
   simp only[Has]at h';obtain⟨b,ys,rfl,n,l⟩:=h';cases (show JiV z from g);simp only[peq];exact rcLL I t o n l c λus zs B y j u z F E=>kD I x es xs ys us zs A.in1 o l B y D j u z F E
inductive rEqD (K):R2|m{x y H Q} d e:J9 K d x→J9 K e y→dep d≤60→XR (peq d e) H→rEqD K x y H Q
inductive rNeD (K):R2|m{x y H Q} d e:J9 K d x→J9 K e y→dep d≤60→XR (!peq d e) H→rNeD K x y H Q
def pF (g:X.A.units+64 < cLine):JA X .Eq (rEqD X.K):=by intro pins s σ H x y v u Q I b a h;obtain⟨d,e,f,c,i,q⟩:=h;exact(rc_D I X.A d e x y v u f c b a (by lia)).1 _ _ _ _ (Jbr _ H I q)
def op_neD (g:X.A.units+64 < cLine):JA X .NotEq (rNeD X.K):=by intro pins s σ H x y v u Q I b a h;obtain⟨d,e,f,c,i,q⟩:=h;exact(rc_D I X.A d e x y v u f c b a (by lia)).2 _ _ _ _ (Jbr _ H I q)
open Classical in
noncomputable def hitD (K:W.Frag) (H:Hp) (d:Dt) (u:Value):Bool:=decide (∃(v:V) (d':Dt),Jeb v∧J9 K d' v∧Jiy d' d)
open Classical in
def pG (I:QE s){d d':Dt}{v:V}{u:Value}(r:Jeb v)(h:J9 X.K d' v):hitD X.K H d u=peq d' d:=by
 unfold hitD;cases e:peq d' d with
 | true=>exact dTq ⟨v,d',r,h,e⟩
 | false =>
  refine dFq λ⟨c,f,b,h',a⟩=>?_;rw[b.inj r]at h';rw[Has.inj I _ _ _ h' h,e]at a;cases a
def kE (I:QE s){d:Dt}:∀ {a:List Dt} {vs:List V} {us:List Value},Jjd H a vs→JbM vs→us.any (JbV H d)=a.any λd'=>peq d' d
 | [],vs,us,h,r=>by simp only[aj]at h;subst h;cases r;rfl
 | d' :: a,vs,us,h,r=>by
  simp only[aj]at h;obtain⟨v,rs,rfl,f,e⟩:=h;cases r with
  | cons c b=>rw[List.any_cons,List.any_cons,pG I c f,kE I e b]
def jy (I:QE s){A:Around}{d:Dt}{x:V}{c:Value}(g:J9 X.K d x)(e:aS x c):∀ {b:List Dt} {vs:List V} {us:List Value},Jjd H b vs→JbM vs→A.units+cx b < cLine→∀u∈us,Jf7 A u c (hitD X.K H d u)
 | [],vs,us,h,r,i,u,a=>by simp only[aj]at h;subst h;cases r;cases a
 | d' :: b,vs,us,h,r,i,u,a=>by
  simp only[aj]at h;obtain⟨v,rs,rfl,j,l⟩:=h;simp only[cx]at i;cases r with
  | cons f k =>
   rcases List.mem_cons.mp a with rfl | a
   ·rw[pG I f j];exact uA I d' d v x _ _ A j g f e (by lia)
   ·exact jy I g e l k (by lia) u a
inductive rInD (K)(neg:Bool):R2|m{x y H Q} p xs ds d:Xy y p→(Ja6 p∨JfB p)→Jdf ds→J9 K d x→cx ds≤60→XR (if neg then !(ds.any λd'=>peq d' d) else ds.any λd'=>peq d' d) H→rInD K neg x y H Q
def uB (k:X.A.units+64 < cLine):JA X .In (rInD X.K false):=by
 intro pins s σ H x y v u Q I f i h;obtain⟨p,xs,j,d,rfl,b,hs,g,l,q⟩:=h;cases i;have c:X.A.in1.units+cx j < cLine:=by rw[Around.in1_units];lia
 rcases b with b | b
 ·obtain⟨a,r,pl,hz⟩:=I.list b;refine SeqAt.in_listAt (JbV H d) pl.isList (λw e=>jy I g f hs r c w (by simpa using e)) (Jbr _ H I ?_);rw[show JdQ H d=a.any (JbV H d) by simp,kE I hs r];exact q
 ·obtain⟨a,r,pl,hz⟩:=I.tuple b;refine SeqAt.in_tupleAt (JbV H d) pl (λw e=>jy I g f hs r c w (by simpa using e)) (Jbr _ H I ?_);rw[show JdQ H d=a.any (JbV H d) by simp,kE I hs r];exact q
def yL (k:X.A.units+64 < cLine):JA X .NotIn (rInD X.K true):=by
 intro pins s σ H x y v u Q I f i h;obtain⟨p,xs,j,d,rfl,b,hs,g,l,q⟩:=h;cases i;have c:X.A.in1.units+cx j < cLine:=by rw[Around.in1_units];lia
 rcases b with b | b
 ·obtain⟨a,r,pl,hz⟩:=I.list b;refine SeqAt.notIn_listAt (JbV H d) pl.isList (λw e=>jy I g f hs r c w (by simpa using e)) (Jbr _ H I ?_);rw[show JdQ H d=a.any (JbV H d) by simp,kE I hs r];exact q
 ·obtain⟨a,r,pl,hz⟩:=I.tuple b;refine SeqAt.notIn_tupleAt (JbV H d) pl (λw e=>jy I g f hs r c w (by simpa using e)) (Jbr _ H I ?_);rw[show JdQ H d=a.any (JbV H d) by simp,kE I hs r];exact q
inductive uC (K):V→List V→Hp→VK→Prop|m{x vs H Q} l xs ds y d j:Jed l→vs=[y]→Jc2 l→Jdf ds→J9 K d y→cx ds≤60→(∃dj,ds[j]?=some dj∧Jiy dj d)→(∀m dm,m < j→ds[m]?=some dm→Q9 (peq dm d))→VI (j:Nat) H→uC K x vs H Q
def uD (Y:X.A.units+64 < cLine):MtM X "list.index" (uC X.K):=by
 intro pins s σ H x vs v us Q I J L h;obtain⟨l,xs,p,y,d,j,rfl,rfl,S,hs,N,hd,⟨dj,G,R⟩,B,q⟩:=h;cases J;obtain⟨u,rfl,M⟩:=L.one;obtain⟨z,a,n,r,Z,e⟩:=I.lstM S;have E:=hs.length;have P:j < p.length:=(gEq G).1;have D:X.A.in1.units+cx p < cLine:=by rw[Around.in1_units];lia
 have o:∀m (b:m < a.toArray.size),∃k,p[m]?=some k∧hitD X.K H d a.toArray[m]=peq k d:=λm b=>by
  have f:m < p.length:=by rw[sAq]at b;lia
  obtain⟨w,c,i⟩:=hs.getD (gG f);obtain⟨wv,W,U⟩:=r.get c;have T:a.toArray[m]=wv:=by have:a[m]?=some wv:=W;simp only[List.getElem_toArray];rw[gG (by rw[sAq]at b;exact b)]at this;exact Option.some.inj this
  exact Jlc (gG f) (by rw[T];exact pG I U i)
 have g:j < a.toArray.size:=by rw[sAq];lia
 have t:(j:Int) < 2 ^ 63 - 1:=by have:=sizeLine_eq;lia
 refine call_meets F.slot_list_index (JeK e) F.entry_list_index (F.args_list_index_2 _ _) (SeqAt.list_indexAt l a.toArray n none #[] u (JbV H d) j g t ?_ ?_) (Qk e ?_)
 ·obtain⟨k,c,i⟩:=o j g;rw[G]at c;cases c;rw[i,R]
 ·intro m b C;obtain⟨k,c,i⟩:=o m b;rw[i,B m k C c]
 ·intro w O;exact jy I N M hs r D w (by simpa using O)
 ·exact JiC (j:Nat) H _ _ q
end
structure FB (P)(w)(K)(mg)(base)(CX:CXT)(k)(x)(f)(fd)(ps)(sp):Prop where
 ok:Je P w K mg CX k f fd ps sp
 b:JiA fd ps
 kp:JgL K f
 m:mg x=Ja f
def bsz (n)(h:n≤1000):Ju n:=VX h
def yM (a:aX k A):A.units+64 < cLine:=a.units
def uG {ns:List Int}{i:Nat}{n:Int}(h:ns[i]?=some n):atI (ns.map V.int) (i:Int)=some (.int n):=aJ (by rw[List.getElem?_map,h];rfl)
def bb {a:Type}{xs:List a}{i:Nat}{x:a}(h:xs[i]?=some x):xs.take (i+1)=xs.take i++[x]:=by rw[List.take_add_one,h];rfl
def aq (h:Vn p)(o):JhU (JiW p):=λb u q=>by rw[Jj1 h];exact q
def ao.upd (s:ao H0 H)(h:JfV l):ao H0 (JiW l):=λb u q=>by rw[Jj1 h];exact s b u q
def ao.kt (s:Xj H):aL H H':=aL.of_same s
def ao.tup {K:W.Frag}{H H':Hp}{a:Addr}{xs:List V}(s:Xj H)(h:JfB a):Vv H' a xs:=s.kt.sq h
structure Wk (J:It)(n)(Ok:Hp→Prop):Prop where
 stop:∀i H,Ok H→n≤i→Jgq H
 go:∀i H,Ok H→i < n→J.go i H
def uH {lo:Int}{n:Nat}:Wk (Itr lo n) n (λ_=>True):=⟨λ_ _ _ h=>h,λ_ _ _ h=>h⟩
def cH {K:W.Frag}{a:Addr}{xs:List V}:Jhd (Itl K a) (λH=>Ja6 a):=⟨λ_ _ h b=>⟨xs,h,b⟩,λi _ h b=>⟨xs,xs[i],h,by simp [b]⟩⟩
def fz {K:W.Frag}{a:Addr}{xs:List V}:Jhd (Itt K a) (λH=>JfB a):=⟨λ_ _ h b=>⟨xs,h,b⟩,λi _ h b=>⟨xs,xs[i],h,by simp [b]⟩⟩
def LcW (n:Nat)(D:Addr)(a:Nat→List V→Hp→Prop)(i m:Nat)(ys:List V)(H:Hp):Prop:=m=n - i∧i≤n∧Jlh i∧VH D ys∧a i ys H
def kF (n:Nat)(D:Addr)(c:Nat→List V→Hp→Prop)(i:Nat)(ys:List V):VK:=λy b=>Qb (b D) ys∧JaH ys.length∧∃a,a < n - i∧LcW n D c (i+1) a (ys++[y]) (Qa b D (ys++[y]))
def uI (n:Nat)(D:Addr)(b:Nat→List V→Hp→Prop)(i:Nat)(ys:List V)(c:Hp):Prop:=∃a,a < n - i∧LcW n D b (i+1) a ys c
def cz (c:Ju n)(a:i < n)(d:Jlh i)(b:Qb (H3 D) ys)(p:Pv (i+1) (ys++[y]) (Qa H3 D (ys++[y]))):kF n D Pv i ys y H3 :=
 ⟨b,by lia,n - (i+1),by lia,rfl,a,by rw[lAq,lS];lia,af,p⟩
def fV (a:i < n)(c:Jlh i)(b:Qb (H3 D) ys)(p:Pv (i+1) ys H3):uI n D Pv i ys H3 :=
 Jc5 (n - (i+1)) (by lia) rfl a b p
def d_ {J:It}{n:Nat}{k:Hp→Prop}{g:TE}{j:St}{o:Hp}{D:Addr}{R:Hp→Prop}(W:Wk J n k)(b)(c:∀i ys H,b i ys H→k H)(h0:b 0 [] (X_ o D))
  (hs:∀i ys H' x a,i < n→Jlh i→Vx D ys→b i ys H'→JgQ H' x a→g (some x :: j) a (kF n D b i ys))(r:∀ys H',Vx D ys→b n ys H'→R H') :
  ∃W:Nat→Nat→List V→Hp→Prop,(∃m,W 0 m [] (X_ o D))∧∀i m ys H',W i m ys H'→Vx D ys ∧
   ((Jgq H'∧R H')∨(J.go i H'∧∀x a,JgQ H' x a→g (some x :: j) a λy l=>Qb (l D) ys∧JaH ys.length∧∃h,h < m∧W (i+1) h (ys++[y]) (Qa l D (ys++[y])))):=by
 refine Qk (LcW n D b) (XO n (Nat.zero_le _) (Nat.zero_le _) af h0);rintro i m ys H' ⟨rfl,s,q,f,p⟩;refine XE f;by_cases d:i < n
 ·exact .inr ⟨W.go i H' (c _ _ _ p) d,λx a y=>hs i ys H' x a d q f p y⟩
 ·have e:i=n:=by lia
  subst e;exact Jo (W.stop i H' (c _ _ _ p) (nRq _)) (r ys H' f p)
def gi {J:It}{n:Nat}{q:Hp→Prop}{o:TT}{l:TE}{j:St}{s:Hp}{D:Addr}{R:Hp→Prop}(W:Wk J n q)(c)(f:∀i ys H,c i ys H→q H)(h0:c 0 [] (X_ s D))
  (hs:∀i ys H' x a,i < n→Jlh i→Vx D ys→c i ys H'→JgQ H' x a→o (some x :: j) a λb h=>if Qu b then l (some x :: j) h (kF n D c i ys) else uI n D c i ys h)
  (u:∀ys H',Vx D ys→c n ys H'→R H') :
  ∃W:Nat→Nat→List V→Hp→Prop,(∃m,W 0 m [] (X_ s D))∧∀i m ys H',W i m ys H'→Vx D ys ∧
   ((Jgq H'∧R H')∨(J.go i H'∧∀x a,JgQ H' x a→o (some x :: j) a λb h =>
    if Qu b then l (some x :: j) h λy r=>Qb (r D) ys∧JaH ys.length∧∃d,d < m∧W (i+1) d (ys++[y]) (Qa r D (ys++[y]))
    else ∃d,d < m∧W (i+1) d ys h)):=by
 refine Qk (LcW n D c) (XO n (Nat.zero_le _) (Nat.zero_le _) af h0);rintro i m ys H' ⟨rfl,v,t,k,p⟩;refine XE k;by_cases g:i < n
 ·exact .inr ⟨W.go i H' (f _ _ _ p) g,λx a y=>hs i ys H' x a g t k p y⟩
 ·have e:i=n:=by lia
  subst e;exact Jo (W.stop i H' (f _ _ _ p) (nRq _)) (u ys H' k p)
def cT {J:It}{n:Nat}{o:Hp→Prop}{g:TG}{k:TS}{D:ir}{a:St}{H:Hp}(W:Wk J n o)(b:Nat→St→Hp→Prop)(h:∀i a H,b i a H→o H)(h0:b 0 a H)
  (hs:∀i a H x H',i < n→b i a H→JgQ H x H'→g x a H' λc j=>k { D with nx:=b (i+1),ct:=b (i+1),bk:=D.nx } c j)(r:∀a H,b n a H→D.nx a H) :
  ∃W:Nat→Nat→St→Hp→Prop,(∃m,W 0 m a H)∧∀i m a H,W i m a H →
   (Jgq H∧D.nx a H)∨(J.go i H∧∃N:St→Hp→Prop,(∀d H',N d H'→∃l,l < m∧W (i+1) l d H')∧∀x H',JgQ H x H'→g x a H' λc j=>k { D with nx:=N,ct:=N,bk:=D.nx } c j):=by
 refine Qk (λi m a H=>m=n - i∧i≤n∧b i a H) (JlK n _ h0);rintro i m a H ⟨rfl,s,p⟩;by_cases f:i < n
 ·exact .inr ⟨W.go i H (h _ _ _ p) f,b (i+1),λd H' q=>JC (n - (i+1)) (by lia) f q,λx H' y=>hs i a H x H' f p y⟩
 ·have e:i=n:=by lia
  subst e;exact Jo (W.stop i H (h _ _ _ p) (nRq _)) (r a H p)
def Has.int {K:W.Frag}{H:Hp}{i:Int}:J9 K (.int i) (.int i):=by rfl
def aj.nil {K:W.Frag}{H:Hp}:JQ [] []:=by rfl
def aj.cons {K:W.Frag}{H:Hp}{d:Dt}{a:List Dt}{v:V}{vs:List V}(h:J9 K d v)(r:JQ a vs):JQ (d :: a) (v :: vs):=by simp only[aj];exact JC v vs h r
def Has.tup' {K:W.Frag}{H:Hp}{b:List Dt}{a:Addr}{xs:List V}(h:JfB a)(r:Jdf b):JcO K (.tup b) a:=by simp only[Has];exact JC a xs h r
def Has.lst' {K:W.Frag}{H:Hp}{b:List Dt}{a:Addr}{xs:List V}(h:Ja6 a)(r:Jdf b):JcO K (.lst b) a:=by simp only[Has];exact JC a xs h r
def jb {K:W.Frag}{H:Hp}:∀ {ns:List Int} {vs:List V},JQ (ns.map Dt.int) vs→vs=ns.map V.int
 | [],vs,h=>by simp only[List.map_nil,aj]at h;rw[h];rfl
 | n :: ns,vs,h=>by simp only[List.map_cons,aj]at h;obtain⟨v,r,rfl,a,b⟩:=h;simp only[Has]at a;rw[a,jb b];rfl
noncomputable def dP (t:Int × Int):Dt:=Jgx t.1 t.2
def has_dP {K:W.Frag}{H:Hp}{t:Int × Int}{v:V}(h:J9 K (dP t) v):∃p,Xy v p∧SqT K H p (JO t.1 t.2):=by unfold dP at h;simp only[Has]at h;obtain⟨a,xs,rfl,hs,b⟩:=h;have e:=jb (ns:=[t.1,t.2]) b;rw[e]at hs;exact Vg a hs
def of_dP {K:W.Frag}{H:Hp}{t:Int × Int}{p:Addr}(h:X9 p (JO t.1 t.2)):JcO K (dP t) p:=QQ h .int (Qv .int)
def cm:∀ts:List (Int × Int),Jc9 (ts.map dP)
 | []=>by rfl
 | t :: ts=>by simp only[List.map_cons,bz,dP,nol,Bool.true_and];exact cm ts
def gK {K:W.Frag}{H:Hp}{ts:List (Int × Int)}{xs:List V}{i:Nat}{x:V}(h:J_ dP xs)(e:xs[i]?=some x):∃t p,ts[i]?=some t∧Jed p∧SqT K H p (JO t.1 t.2):=by
 obtain⟨d,a,c⟩:=h.get e;rw[List.getElem?_map]at a;cases q:ts[i]? with
 | none=>rw[q]at a;cases a
 | some t =>
  rw[q]at a;cases a;obtain⟨p,rfl,b⟩:=has_dP c;exact Jr t p rfl b
end L2
namespace PySem
open Sem (wp)
namespace F
def entry_dict_update_loop:entryFor table "dict.update.loop"=some Builtin.«dict.update.loop»:=entryFor_of_tree (by rfl)
def plain_dict_update_loop:Qu (plainId "dict.update.loop"):=by decide +kernel
def miss_list_keys:Jab "list" "keys"=pure none:=by rfl
end F
theorem yN
  (hx:s.heap.get? a=some o)(hc:o.cls=.type "list")(hdat:o.data=.seq xs k)(hd:Qn o.dict)(hmiss:JjH (Jab "list" name) none)(hname:(["__module__","__name__","__qualname__","__doc__","__annotations__"]:List Str).contains name=false)(hA:Qn A.handled)
  (h:∀h' tk e,Heap.NewExcOf s.heap h' e "AttributeError"→Q none { s with heap:=h',toks:=tk })(hsz:name.length+100≤sizeLine:=by size_fits) :
  wpAny (Qo w) A (getAttr? (.ref a) name) Q E s:=by
 obtain⟨c,dct,dat,sl⟩:=o;simp only at hc hdat hd;subst hc hdat hd;obtain⟨hp,g,d,tk,os⟩:=s;have hT:∀tk',(⟨hp,g,d,tk',os⟩:Shared).TypeIs (.ref a) "list":=λ_=>JeK hx;have f1:=sub_AttributeError;have f3:=F.slot_list_getattribute.lookup;have f4:=F.slot_list_getattribute.bind (.ref a);have f5:=am_list_getattr_none;unfold getAttr? getAttrBy? getAttrBy
 repeat (any_goals (first | assumption | exact hT _ | ((with_reducible show wpAny _ _ (call (Value.builtin "list.__getattribute__") _ _) _ _ _);refine call_meets F.slot_list_getattribute (hT _) am_entry_list_getattribute (F.args_list_getattribute_2 _ _) (meets_getattribute_miss_list a xs k sl name _ hmiss hname hsz) ⟨hx,hA,λh' tk' e hx'=>?_⟩) | wp_step))
 obtain⟨t',u',he⟩:=hx'.there;unfold getattributeRaised
 repeat (any_goals (first | assumption | wp_step))
 exact h _ _ _ hx'.of
section
variable {prog:Program} {w:World} {K:Type} [DecidableEq K] {knd:KeyKind prog w K} {A:Around}
noncomputable def hO (ks:Nat→K)(vals:Nat→Value)(n:Nat):List (K × Value):=(List.range n).foldl (λacc j=>stored acc (ks j) (vals j)) []
def pH (ks:Nat→K)(vals)(n):Jj_ ks (n+1)=stored (Jj_ ks n) (ks n) (vals n):=by unfold hO;rw[List.range_succ,List.foldl_append];rfl
def yO (kvs)(k:K)(v):(stored kvs k v).length≤kvs.length+1:=by
 unfold stored;split
 ·rw[lM];lia
 ·rw[lAq];simp
def pI (ks:Nat→K)(vals):∀n,(Jj_ ks n).length≤n
 | 0=>nRq _
 | n+1=>by rw[pH];have:=yO (Jj_ ks n) (ks n) (vals n);have:=pI ks vals n;lia
def yQ {R:Result→Shared→Prop}{h0:Heap}{l it d:Addr}{items:Array Value}{Ts:Nat→Addr}{keys vals:Nat→Value}{ks:Nat→K}{q:Value}(T:Qn A.handled)(Q:h0.IsList l items)(C:l≠it)(D:l≠d)(g:d≠it)(hsz:Ju items.size)
  (S:∀i,i < items.size→items[i]?=Ja (Ts i)∧h0.IsTuple (Ts i) #[keys i,vals i]∧Qu (knd.is (ks i) (keys i))∧Ts i≠it∧Ts i≠d) :
  ∀k i s,items.size - i=k→i≤items.size→s.heap.IsListIter it l i→(∀b o,b≠it→b≠d→h0.get? b=some o→s.heap.get? b=some o)→s.heap.DictOf knd d (Jj_ ks i) →
   (∀h' tk,(∀b o,b≠it→b≠d→h0.get? b=some o→h'.get? b=some o)→h'.DictOf knd d (Jj_ ks items.size)→Jik q { s with heap:=h',toks:=tk }) →
   codeAny (Qo w) A (JR "dict.update.loop" [.ref d,.ref it,rawInt i,q] []) R s:=by
 have lst:∀h:Heap,(∀b o,b≠it→b≠d→h0.get? b=some o→h.get? b=some o)→h.IsList l items:=λh E=>by obtain⟨o,z,r⟩:=Q;exact JjA (E _ _ C D z) r
 intro k
 induction k with
 | zero =>
  intro i s E G f a L H;have e:i=items.size:=by lia
  subst e;refine XD F.entry_dict_update_loop;rw[Xx F.plain_dict_update_loop];refine wpAny_bind (wpAny_pyNext_list_end (by simpa using T) f (lst _ a) (by simp) λh' N=>?_);refine wpAny_bind (Xl ?_);exact H h' s.toks (λb o p n j=>N b o p (a b o p n j)) (L.extBut N g)
 | succ k O =>
  intro i s E G f a L H;have B:i < items.size:=by lia
  obtain⟨e1,e2,e3,e4,Z⟩:=S i B;refine XD F.entry_dict_update_loop;rw[Xx F.plain_dict_update_loop];refine wpAny_bind (wpAny_pyNext_list_item f (lst _ a) e1 λh' v hs'=>?_);have c:∀b o,b≠it→b≠d→h0.get? b=some o→h'.get? b=some o:=λb o p n j=>(hs'.2 b p).trans (a b o p n j);have J:=L.sameBut hs' g;obtain⟨ot,P,y,nt,x⟩:=id e2;have t:=c _ _ e4 Z P;have U:({ s with heap:=h' }:Shared).TypeIs (.ref (Ts i)) "tuple":=Jlc t y;refine Vu (Q2 ?_);refine XW U ?_;rw[if_pos (by decide)];refine Jh t x (wpAny_pure ?_);have M:=pI ks vals i;refine wpAny_holding (wpAny_dictSet_pairs e3 J (λn I u=>?_) (by lia));refine wpAny_pure (XE (JU F.plain_dict_update_loop));have Y:rawInt ((i:Int)+1)=rawInt (i+1:Int):=by rfl
  rw[Y];refine O (i+1) _ (by lia) (by lia) ?_ ?_ ?_ ?_
  ·obtain⟨o,z,r⟩:=v;exact JjA ((u.2 it g.symm).trans z) r
  ·exact λb o p n j=>(u.2 b n).trans (c b o p n j)
  ·rw[pH];exact I
  ·exact λj tk X W=>H j tk X W
def yR {E:Value→Shared→Prop}{s:Shared}{l:Addr}{o:Obj}{items:Array Value}{n:Nat}{Ts:Nat→Addr}{keys vals:Nat→Value}{ks:Nat→K}{Q:Value→Shared→Prop}(G:Qn A.handled)
  (y:s.heap.get? l=some o)(z:o.cls=.type "list")(O:Qn o.dict)(j:o.data=.seq items n)(hsz:Ju items.size)
  (N:∀i,i < items.size→items[i]?=Ja (Ts i)∧s.heap.IsTuple (Ts i) #[keys i,vals i]∧Qu (knd.is (ks i) (keys i)))
  (h:∀h' tk,(∀b o,s.heap.get? b=some o→h'.get? b=some o)→h'.DictOf knd s.heap.objs.size (Jj_ ks items.size)→JaQ { s with heap:=h',toks:=tk }) :
  wpAny (Qo w) A (Jka "dict" (Vt l)) Q E s:=by
 refine callType_codes (Q₁:=λu k=>Xy u s.heap.objs.size∧k={ s with heap:=s.heap.push { cls:=.type "dict",data:=.dict #[] } }) F.kt_called_dict (F.kt_typeCall_dict_1 _) F.entry_dict_init (kt_code_dict_new _ (Xr rfl)) ?_;rintro u k ⟨rfl,rfl⟩;have g:(s.heap.push { cls:=.type "dict",data:=.dict #[] }).DictOf knd s.heap.objs.size []:=Heap.DictOf.new s.heap;have q:(s.heap.push { cls:=.type "dict",data:=.dict #[] }).get? l=some o:=XX y;have P:({ s with heap:=s.heap.push { cls:=.type "dict",data:=.dict #[] } }:Shared).TypeIs (.ref l) "list":=Jlc q z;refine Qk g.typeIs (F.args_dict_init_2 _ _);refine wpAny_bind ?_;refine wpAny_bind (wpAny_notOrdered_dict g.typeIs ?_);refine wpAny_pure ?_;refine XW P ?_;rw[if_pos (by decide)];refine wpAny_bind (yN q z j O F.miss_list_keys (by rfl) (by simpa using G) λp H e L=>?_);rw[if_pos (show(none:Option Value).isNone=true from rfl)];have x:=L.keeps;refine VJ ?_;have C:p.IsList l items:=⟨o,x _ _ q,z,n,j⟩;refine wpAny_bind (Jax C);refine wpAny_pure (XE (JU F.plain_dict_update_loop));have t:=hLq (x _ _ (Heap.get?_push_size _ rfl));have D:p.DictOf knd s.heap.objs.size []:=by obtain⟨J,es,ep,v,r⟩:=g;exact⟨J,es,ep,x _ _ v,r⟩
 have f:∀b c,s.heap.get? b=some c→(p.push { cls:=.type "list_iterator",data:=.fields #[.ref l,.int 0 0] }).get? b=some c:=λb c e=>XX (x _ _ (XX e));have a:∀b c,s.heap.get? b=some c→b≠p.objs.size∧JdU b:=λb c e=>by have:=hLq e;lia
 refine yQ (knd:=knd) (items:=items) (Ts:=Ts) (keys:=keys) (vals:=vals) (ks:=ks) (by simpa using G) ?_ (a _ _ y).1 (a _ _ y).2 (Nat.ne_of_lt t) hsz ?_ items.size 0 _ (by lia) (Nat.zero_le _) ?_ (λ_ _ _ _ e=>e) (D.push _) ?_
 ·exact⟨o,f _ _ y,z,n,j⟩
 ·intro i B;obtain⟨T,⟨I,v,r⟩,S⟩:=N i B;exact⟨T,⟨I,f _ _ v,r⟩,S,(a _ _ v).1,(a _ _ v).2⟩
 ·exact Ji0 (Heap.get?_push_size _ rfl)
 ·intro h' tk M R;exact Jbe (h h' tk (λb c e=>M b c (a _ _ e).1 (a _ _ e).2 (f _ _ e)) R)
end
end PySem
namespace L2
open PySem PySem.Spec PyProof.Rows
section
variable {κ:Type} [DecidableEq κ]
noncomputable def aU (kvs:List (κ × V))(k:κ):Option V:=(kvs.find? λa=>decide (a.1=k)).map (·.2)
noncomputable def aV (kvs:List (κ × V))(k:κ)(v:V):List (κ × V) :=
 if Qu (kvs.any λa=>decide (a.1=k)) then kvs.map (λa=>if a.1=k then(a.1,v) else a) else kvs++[(k,v)]
noncomputable def dw (kvs:List (κ × V))(k:κ):List (κ × V):=kvs.filter λa=>decide (a.1≠k)
def Dh:Qn (aU ([]:List (κ × V)) k):=rfl
def eD {p:κ × V}{r:List (κ × V)}{k:κ}(e:p.1=k):aU (p :: r) k=some p.2:=by simp [aU,List.find?_cons,e]
def ee {p:κ × V}{r:List (κ × V)}{k:κ}(e:¬p.1=k):aU (p :: r) k=aU r k:=by simp [aU,List.find?_cons,e]
def gL (k:κ):∀kvs:List (κ × V),(kvs.any λa=>decide (a.1=k))=(JeA k).isSome
 | []=>rfl
 | p :: r=>by
  rw[List.any_cons];by_cases e:p.1=k
  ·simp only[eD e,dTq e,Bool.true_or,Option.isSome_some]
  ·rw[ee e,dFq e,Bool.false_or];exact gL k r
def uJ (k j:κ)(y):∀kvs:List (κ × V),aU (kvs.map λa=>if a.1=k then(a.1,y) else a) j=(JeA j).map λx=>if j=k then y else x
 | []=>rfl
 | p :: r=>by
  have b:=uJ k j y r;rw[List.map_cons];by_cases h:p.1=k
  ·rw[if_pos h];by_cases e:p.1=j
   ·rw[eD (p:=(p.1,y)) e,eD e,Option.map_some,if_pos (e.symm.trans h)]
   ·rw[ee (p:=(p.1,y)) e,ee e,b]
  ·rw[if_neg h];by_cases e:p.1=j
   ·rw[eD e,eD e,Option.map_some,if_neg (λz=>h (e.trans z))]
   ·rw[ee e,ee e,b]
def uK (k j:κ)(y):∀kvs:List (κ × V),Qn (JeA k)→aU (kvs++[(k,y)]) j=if j=k then some y else JeA j
 | [],_=>by
  by_cases e:k=j
  ·rw[if_pos e.symm];exact eD e
  ·rw[if_neg (λz=>e z.symm)];exact ee e
 | p :: r,a=>by
  rw[List.cons_append];have b:¬p.1=k:=λz=>by rw[eD z]at a;cases a
  rw[ee b]at a;have c:=uK k j y r a;by_cases e:p.1=j
  ·rw[eD e,eD e,if_neg (λz=>b (e.trans z))]
  ·rw[ee e,ee e,c]
def gM (kvs)(k j:κ)(y):aU (Jio y) j=if j=k then some y else aU kvs j:=by
 unfold aV;by_cases a:Qu (kvs.any λb=>decide (b.1=k))
 ·rw[if_pos a,uJ];rw[gL]at a;by_cases e:j=k
  ·obtain⟨x,c⟩:=Option.isSome_iff_exists.mp a;rw[if_pos e,e,c,Option.map_some,if_pos rfl]
  ·rw[if_neg e];cases aU kvs j with
   | none=>rfl
   | some x=>rw[Option.map_some,if_neg e]
 ·rw[if_neg a];refine uK k j y kvs ?_;rw[gL]at a;cases q:JeA k with
  | none=>rfl
  | some x=>rw[q]at a;exact(a rfl).elim
def kG (kvs)(k:κ)(v):(Jio v).length≤kvs.length+1:=by
 unfold aV;split
 ·rw[lM];lia
 ·rw[lAq,List.length_cons,List.length_nil];lia
def dc.isSome_eq (r:dc o u):o.isSome=u.isSome:=by
 cases o with
 | none=>cases u with
  | none=>rfl
  | some _=>exact(show False from r).elim
 | some _=>cases u with
  | none=>exact(show False from r).elim
  | some _=>rfl
def dc.getD (r:dc o u)(a:aS d d'):aS (o.getD d) (u.getD d'):=by
 cases o with
 | none=>cases u with
  | none=>exact a
  | some _=>exact(show False from r).elim
 | some _=>cases u with
  | none=>exact(show False from r).elim
  | some _=>exact r
def KV.val {kvs:List (κ × V)}{vs:List (κ × Value)}(r:Jg7 vs)(k:κ):dc (JeA k) (valueAt vs k):=by
 induction r with
 | nil=>exact True.intro
 | @cons p q ps a h t f =>
  obtain⟨d,g⟩:=h;by_cases e:p.1=k
  ·have c:=d.symm.trans e;have b:valueAt (q :: a) k=some q.2:=by simp [valueAt,List.find?_cons,c]
   rw[eD e,b];exact g
  ·have c:¬q.1=k:=λz=>e (d.trans z);have b:valueAt (q :: a) k=valueAt a k:=by simp [valueAt,List.find?_cons,c]
   rw[ee e,b];exact f
def KV.any (r:Jg7 vs)(k:κ):(kvs.any λa=>decide (a.1=k))=vs.any λa=>decide (a.1=k):=by
 induction r with
 | nil=>rfl
 | cons h t b=>rw[List.any_cons,List.any_cons,b,h.1]
def KV.repl (r:Jg7 vs)(k:κ){y:V}{u:Value}(c:Jeb y) :
  KV (kvs.map λa=>if a.1=k then(a.1,y) else a) (vs.map λa=>if a.1=k then(a.1,u) else a):=by
 induction r with
 | nil=>exact .nil
 | @cons p q ps g h t d =>
  rw[List.map_cons,List.map_cons];refine .cons ?_ d;lia
def KV.put (r:Jg7 vs)(k:κ){y:V}{u:Value}(a:Jeb y):KV (Jio y) (stored vs k u):=by
 unfold aV stored;rw[r.any k];by_cases e:Qu (vs.any λb=>decide (b.1=k))
 ·rw[if_pos e,if_pos e];exact r.repl k a
 ·rw[if_neg e,if_neg e];exact Paired.snoc r (Jbe a)
def KV.drop (r:Jg7 vs)(k:κ):KV (dw kvs k) (without vs k):=by
 unfold dw without
 induction r with
 | nil=>exact .nil
 | @cons p q ps i h t d =>
  obtain⟨c,f⟩:=h;rw[List.filter_cons,List.filter_cons];by_cases e:p.1=k
  ·lia
  ·have g:¬q.1=k:=λz=>e (c.trans z);have a:decide (p.1≠k)=true:=by simp [e]
   have b:decide (q.1≠k)=true:=by simp [g]
   rw[if_pos a,if_pos b];exact .cons ⟨c,f⟩ d
def KV.keys {kvs:List (κ × V)}{vs:List (κ × Value)}(r:Jg7 vs):kvs.map (·.1)=vs.map (·.1):=by
 induction r with
 | nil=>rfl
 | cons h t a=>rw[List.map_cons,List.map_cons,a,h.1]
def KV.length (r:Jg7 vs):kvs.length=vs.length:=Paired.length r
def yS (kvs)(k:κ):(dw kvs k).length≤kvs.length:=Jaf _
end
def gN (r:Jeb (kV k)):(bV P w).is k u=true:=by
 cases k with
 | inl i=>obtain⟨t,e⟩:=(show ∃t,u=JcC i from r);subst e;exact xG P w i t
 | inr x=>obtain⟨t,e⟩:=(show ∃t,u=Jhw t from r);subst e;exact mv P w x t
def pJ:∀ {ks:List Key} {us:List Value},JbM (ks.map kV)→ItemsAre (bV P w) ks us
 | [],_,r=>by rw[List.map_nil]at r;cases r;exact .nil
 | k :: ks,_,r=>by
  rw[List.map_cons]at r;cases r with
  | cons h t=>exact .cons (gN h) (pJ t)
abbrev KT (H:Hp):List (List Key × V)→List (List Key × Addr × Value)→Prop:=Paired λp q=>p.1=q.1∧JaK q.2.1 (p.1.map kV)∧aS p.2 q.2.2
def KT.val {H:Hp}{kvs:List (List Key × V)}{xs:List (List Key × Addr × Value)}(r:KT H kvs xs)(k):dc (JeA k) ((Jec xs).map (·.2)):=by
 induction r with
 | nil=>exact True.intro
 | @cons p q ps a h t f =>
  obtain⟨d,_,g⟩:=h;by_cases e:p.1=k
  ·have c:=d.symm.trans e;have b:Jec (q :: a)=some q.2:=by simp [atKey,List.find?_cons,c]
   rw[eD e,b];exact g
  ·have c:¬q.1=k:=λz=>e (d.trans z);have b:Jec (q :: a)=atKey a k:=by simp [atKey,List.find?_cons,c]
   rw[ee e,b];exact f
def KT.repl (r:KT H kvs xs)(k){y:V}{u:Value}(d:Jeb y) :
  KT H (kvs.map λb=>if b.1=k then(b.1,y) else b) (xs.map (putAt k u)):=by
 induction r with
 | nil=>exact .nil
 | @cons p q ps i h t f =>
  rw[List.map_cons,List.map_cons];refine .cons ?_ f;obtain⟨a,c,g⟩:=h;unfold putAt;lia
def KT.put (r:KT H kvs xs)(k){b:Addr}{y:V}{u:Value}(d:Jij b kV)(a:Jeb y) :
  KT H (Jio y) (storedH xs k b u):=by
 have e:(kvs.any λc=>decide (c.1=k))=(Jec xs).isSome:=by rw[gL,(r.val k).isSome_eq,Option.isSome_map]
 unfold aV storedH;rw[e];by_cases q:(Jec xs).isSome=true
 ·rw[if_pos q,if_pos q];exact r.repl k a
 ·rw[if_neg q,if_neg q];exact Paired.snoc r ⟨rfl,d,a⟩
def KT.keeps (r:KT H kvs xs)(a:∀b ys,JaK b ys→J1 b ys):KT H' kvs xs :=
 Paired.mapP r λ_ _ z=>⟨z.1,a _ _ z.2.1,z.2.2⟩
section
variable {P:Program} {w:World} {H:Hp} {h:Heap} {a:Addr}
def rd_of (b:Jis h)(e:Rd H a u):bE P w H h a u:=e.ok b
def jc (b:Jis h)(e:Rd H a (.dK kvs)):Ju kvs.length∧Q9 (a == sysModules)∧∃vs,Jg7 vs∧h.DictOf (bV P w) a vs :=
 show bE P w H h a (.dK kvs) from rd_of b e
def hU (b:Jis h)(e:Jdp a):Ju kvs.length∧Q9 (a == sysModules)∧∃vs,Jg7 vs∧h.DictOf (bV P w) a vs:=jc b (.inl e)
def jz (d:Jis h)(e:JaK a (ks.map kV)):(JcR P w).is h ks a:=by obtain⟨_,b,r,o,g,c,n,f⟩:=(show bE P w H h a (.tup (ks.map kV)) from d a _ e);replace c:=(Prod.mk.inj c).1;exact⟨o,b.toArray,n,g,c,f,by simpa using pJ r⟩
def jd (d:Jis h)(e:Rd H a (.dT kvs)):Ju kvs.length∧Q9 (a == sysModules) ∧
  ∃xs,KT H kvs xs∧h.DictOfH (JcR P w) a xs:=by
 obtain⟨z,y,xs,r,o,es,ep,s,n,k,j,i⟩:=(show bE P w H h a (.dT kvs) from rd_of d e);refine⟨z,y,xs,r,o,es,ep,s,n,k,j,λx b=>?_,i⟩;have c:∀ {l:List (List Key × V)} {m:List (List Key × Addr × Value)},KT H l m→∀x∈m,(JcR P w).is h x.1 x.2.1:=by
  intro l m q
  induction q with
  | nil=>intro x b;exact nomatch b
  | @cons p q ps u f t g =>
   intro x b;rcases List.mem_cons.mp b with e | b
   ·subst e;exact jz d (by rw[←f.1];exact f.2.1)
   ·exact g x b
 exact c r x b
def dt_of (b:Jis h)(e:Jg a (.dT kvs)):Ju kvs.length∧Q9 (a == sysModules) ∧
  ∃xs,KT H kvs xs∧h.DictOfH (JcR P w) a xs:=jd b (.inl e)
end
def bU (H:Hp)(a:Addr)(y:V)(r:Option V):Prop :=
 (∃kvs k,Rd H a (.dK kvs)∧y=kV k∧r=JeA k)∨∃kvs k b,Rd H a (.dT kvs)∧Xy y b∧Jij b kV∧r=JeA k
def eT (H:Hp)(a:Addr)(y v:V)(H':Hp):Prop :=
 (∃kvs k,Jdp a∧y=kV k∧JaH kvs.length∧H'=Xe H a (Jio v)) ∨
 ∃kvs k b,Jg a (.dT kvs)∧Xy y b∧Jij b kV∧JaH kvs.length∧H'=Xw a (.dT (Jio v))
def bU.k {H:Hp}{a:Addr}{kvs:List (Key × V)}{k:Key}(e:Jdp a):bU H a (kV k) (JeA k):=.inl (Jr kvs k (.inl e) rfl)
def bU.t {H:Hp}{a b:Addr}{kvs:List (List Key × V)}{k:List Key}(e:Jg a (.dT kvs))(c:Jij b kV):bU H a (.ref b) (JeA k):=.inr ⟨kvs,k,b,.inl e,rfl,c,rfl⟩
def eT.k {H:Hp}{a:Addr}{kvs:List (Key × V)}{k:Key}{v:V}(e:Jdp a)(b:JaH kvs.length):eT H a (kV k) v (Xe H a (Jio v)):=.inl ⟨kvs,k,e,rfl,b,rfl⟩
def eT.t {H:Hp}{a b:Addr}{kvs:List (List Key × V)}{k:List Key}{v:V}(e:Jg a (.dT kvs))(d:Jij b kV)(c:JaH kvs.length) :
  eT H a (.ref b) v (Xw a (.dT (Jio v))):=.inr ⟨kvs,k,b,e,rfl,d,c,rfl⟩
section
variable {X:Cx} {pins:List (Addr × Obj)} {σ:St} {H:Hp} {s:Shared} {a:Addr} {y v:V} {u r:Value} {o:Option V} {A:Around} {E:Value→Shared→Prop}
def Inv.big (I:QE s):Xh sysModules:=by have h:=(I.mod.glob.keeps I.bk).lt;exact Nat.lt_trans (by decide) h
def yT (x:A.units+1 < cLine)(I:QE s)(g:bU H a y (some v))(t:Jeb y)(h:∀f s',QE s'→aS v f→Q f s') :
  wpAny (Qq X.w) A (getItem (.ref a) u) Q E s:=by
 rcases g with ⟨kvs,k,e,n,l⟩ | ⟨kvs,k,b,e,n,D,l⟩
 ·subst n;obtain⟨z,C,vs,d,q⟩:=Jkb e;obtain⟨f,i,c⟩:=dc.some_of (by rw[l];exact d.val k);exact wpAny_getItem_of (gN t) q.mapOf i (h f _ (I.tok _) c)
 ·subst n;cases (show JiV u from t);obtain⟨z,C,xs,d,q⟩:=Jkc e;obtain⟨f,i,c⟩:=dc.some_of (by rw[l];exact d.val k);obtain⟨p,B,j⟩:=Option.map_eq_some_iff.mp i;refine wpAny_getItem_heap (tupleKind_room_in1 x) (jz I.hok D) q B ?_;rw[j];exact h f _ (I.tok _) c
def d_in (n:A.units+1 < cLine)(I:QE s)(g:bU H a y o)(j:Jeb y)(h:∀s',QE s'→Q (.bool o.isSome) s') :
  wpAny (Qq X.w) A (compareOp .In u (.ref a)) Q E s:=by
 rcases g with ⟨kvs,k,e,f,l⟩ | ⟨kvs,k,b,e,f,p,l⟩
 ·subst f;obtain⟨z,d,vs,c,i⟩:=Jkb e;refine wpAny_in_of (gN j) d i.mapOf ?_;rw[←(c.val k).isSome_eq,←l];exact h _ (I.tok _)
 ·subst f;cases (show JiV u from j);obtain⟨z,d,xs,c,i⟩:=Jkc e;refine wpAny_in_heap (tupleKind_room_in1 n) (jz I.hok p) d i ?_;have q:=(c.val k).isSome_eq;rw[Option.isSome_map]at q;rw[←q,←l];exact h _ (I.tok _)
def yU (n:A.units+1 < cLine)(I:QE s)(g:bU H a y o)(j:Jeb y)(h:∀s',QE s'→Q (.bool (!o.isSome)) s') :
  wpAny (Qq X.w) A (compareOp .NotIn u (.ref a)) Q E s:=by
 rcases g with ⟨kvs,k,e,f,l⟩ | ⟨kvs,k,b,e,f,p,l⟩
 ·subst f;obtain⟨z,d,vs,c,i⟩:=Jkb e;refine wpAny_notIn_of (gN j) d i.mapOf ?_;rw[←(c.val k).isSome_eq,←l];exact h _ (I.tok _)
 ·subst f;cases (show JiV u from j);obtain⟨z,d,xs,c,i⟩:=Jkc e;refine wpAny_notIn_heap (tupleKind_room_in1 n) (jz I.hok p) d i ?_;have q:=(c.val k).isSome_eq;rw[Option.isSome_map]at q;rw[←q,←l];exact h _ (I.tok _)
def je (I:QE s)(d:Mut (H a))(hs:XZ a h')(f:∃q,h'.get? a=some q)(c:JcP (Xw a ob) h' a ob) :
  Inv X pins σ (Xw a ob) { s with heap:=h',toks:=t' } :=
 I.write d (.inl rfl) (λb q g z=>(hs.2 b g).trans z) f c
def jA (z:Ju kvs.length)(c:Q9 (a == sysModules))(b:Jg7 vs)(d:h'.DictOf (bV P w) a vs) :
  bE P w H' h' a (.dK kvs):=⟨z,c,vs,b,d⟩
def yV (G:A.units+1 < cLine)(I:QE s)(g:eT H a y v H')(B:Jeb y)(C:aS v r)(h:∀s',Vy H' s'→Q () s') :
  wpAny (Qq X.w) A (setItem (.ref a) u r) Q E s:=by
 rcases g with ⟨kvs,k,e,p,l,t⟩ | ⟨kvs,k,b,e,p,F,l,t⟩
 ·subst p t;obtain⟨z,n,vs,d,x⟩:=JhW e;have hz:Ju vs.length:=by rw[←d.length];exact z
  have j:(Jio v).length≤sizeLine:=by have:=kG kvs k v;lia
  refine wpAny_setItem_pairs (hsz:=hz) (gN B) x λh' f hs=>h _ ?_;have J:∃q,h'.get? a=some q:=let ⟨q,_,_,i,_⟩:=f;⟨q,i⟩;exact je I (by rw[e];exact True.intro) hs J (jA j n (d.put k C) f)
 ·subst p t;cases (show JiV u from B);obtain⟨z,n,xs,d,x⟩:=dt_of I.hok e;have hz:Ju xs.length:=by rw[←Paired.length d];exact z
  have j:(Jio v).length≤sizeLine:=by have:=kG kvs k v;lia
  refine wpAny_setItem_heap (hsz:=hz) (tupleKind_room_in1 G) (jz I.hok F) x λh' f hs=>h _ ?_;obtain⟨q,es,ep,i,N,M,L,_,K⟩:=f;refine je I (by rw[e];exact True.intro) hs ⟨q,i⟩ ⟨j,n,_,(d.put k F C).keeps λc ys D=>?_,q,es,ep,i,N,M,L,K⟩;rw[ai (cq D e (λz=>nomatch z))];exact D
end
section
variable {X:Cx} {pins:List (Addr × Obj)} {σ:St} {H:Hp} {s:Shared} {a:Addr} {kvs:List (Key × V)} {k:Key} {u:Value} {A:Around} {E:Value→Shared→Prop}
def d_pop (I:QE s)(e:Jdp a)(f:Jeb (kV k))(l:Xa (JeA k) v)(j:more=[]∨∃x,more=[x])
  (h:∀c s',Vy (Xe H a (dw kvs k)) s'→aS v c→Q c s'):JaW A (Jbj "dict.pop" (.ref a :: u :: more)) Q E s:=by
 obtain⟨z,B,vs,b,n⟩:=JhW e;obtain⟨c,p,g⟩:=dc.some_of (by rw[←l];exact b.val k);have r:(keyPart u).isSome=true:=by
  cases k with
  | inl i=>obtain⟨t,q⟩:=(show ∃t,u=JcC i from f);subst q;rfl
  | inr x=>obtain⟨t,q⟩:=(show ∃t,u=Jhw t from f);subst q;rfl
 have C:argsOk "dict.pop" (Jew (.ref a :: u :: more)):=by
  rcases j with q | ⟨x,q⟩
  ·subst q;rfl
  ·subst q;rfl
 refine call_meetsIn PySem.F.slot_dict_pop n.typeIs PySem.F.entry_dict_pop C (meets_dict_pop_there (Jf8 X.w) a (gN f) more j r)
  ⟨vs,c,n,by rw[←b.length];exact z,p,λh' d hs=>h c _ ?_ g⟩
 have y:∃q,h'.get? a=some q:=let ⟨q,_,_,hq,_⟩:=d;⟨q,hq⟩;exact je I (by rw[e];exact True.intro) hs y (jA (Nat.le_trans (yS kvs k) z) B (b.drop k) d)
end
def NoSl (i:Expr):Prop:=∀a b,subscripted i false a b=JkA [a,b] a b
def yW {prog:Program}{w:World}{A:Around}{E:Value→Shared→Prop}{s:Shared}{env:Env}{b a:Expr}{l:Pos}{T id:String}{Q:Value→Shared→Prop}
  (p:JjH (Jab T "__getitem__") (Jdu id))(hs:NoSl a)
  (h:Jlx (Jd4 b) (λo f=>Jlx (Jd4 a) (λi c=>c.TypeIs o T∧Jly (getItem o i) c) f) s) :
  wpAny (Qo w) A (Jd4 (.Subscript b a l)) Q E s:=by
 refine Subscript_ (wpAny_mono h (λo f k=>wpAny_mono k (λi c d=>?_) λ_ _ x=>x) λ_ _ x=>x);obtain⟨n,d⟩:=d;refine wpAny_bind ?_;rw[getitemInPython_of_ne n.not_modules];refine XP n p ?_;have g:Jlx (subscripted a false o i) (λr e=>Jly (letTemporaryGo b o r >>= λ_=>pure r) e) c:=by rw[hs o i];exact wpAny_operating (wpAny_mono d (λr e j=>wpAny_bind (wpAny_letTemporaryGo (wpAny_pure j))) λ_ _ x=>x)
 first
  | exact wpAny_pure (wpAny_bind g)
  | exact Qy (wpAny_bind g)
  | exact wpAny_bind g
def yX (I:QE s)(g:bU H a y o):Jal a "dict":=by
 rcases g with ⟨kvs,k,e,_,_⟩ | ⟨kvs,k,b,e,_,_,_⟩
 ·obtain⟨_,_,vs,_,c⟩:=Jkb e;exact c.typeIs
 ·obtain⟨_,_,xs,_,c⟩:=Jkc e;exact c.typeIs
def tDGet (d ty:TE):TE:=λb H Q=>d b H λx e=>ty b e λy c=>∃a v,Jed a∧bU c a y (some v)∧Q v c
def tDIn (ty d:TE):TE:=λb H Q=>ty b H λy e=>d b e λx c=>∃a o,Jed a∧bU c a y o∧XR o.isSome c
def yY (ty d:TE):TE:=λb H Q=>ty b H λy e=>d b e λx c=>∃a o,Jed a∧bU c a y o∧XR (!o.isSome) c
def sDPut (e ty d:TE):TS:=λD b H=>d b H λv h=>e b h λx g=>ty b g λy f=>∃a c,Jed a∧eT f a y v c∧D.nx b c
section
variable {X:Cx} {o i e value:Expr} {pos pos' tpos:Pos} {td ty tv:TE}
def iC (p:X.A.units+1 < cLine)(q:QG o td)(r:QG i ty)(hs:NoSl i):QG (JeP o i) (tDGet td ty):=by intro b s d H Q I h;refine yW PySem.F.slot_dict_getitem.lookup hs (thn (q b s d H _ I h) λu j ⟨x,C,z,l,q1⟩=>thn (r b j d C _ z q1) λJ G ⟨y,B,f,k,a,v,t,g,n⟩=>?_);subst t;obtain rfl:u=Value.ref a:=l;exact⟨yX f g,yT p f g k λD E w c=>⟨v,B,w,c,n⟩⟩
def kH (n:X.A.units+1 < cLine)(q:QG i ty)(p:QG o td):PC X .In i o (tDIn ty td):=by intro b s c H Q I h;refine thn (q b s c H _ I h) λE d ⟨y,B,w,f,q1⟩=>thn (p b d c B _ w q1) λu D ⟨x,z,v,j,a,l,r,g,k⟩=>?_;subst r;obtain rfl:u=Value.ref a:=j;exact d_in n v g f λC t=>Jbr l.isSome z t k
def hV (n:X.A.units+1 < cLine)(q:QG i ty)(p:QG o td):PC X .NotIn i o (yY ty td):=by intro b s c H Q I h;refine thn (q b s c H _ I h) λE d ⟨y,B,w,f,q1⟩=>thn (p b d c B _ w q1) λu D ⟨x,z,v,j,a,l,r,g,k⟩=>?_;subst r;obtain rfl:u=Value.ref a:=j;exact yU n v g f λC t=>Jbr (!l.isSome) z t k
def gO (t:X.A.units+1 < cLine)(w:QG o td)(z:QG i ty)(q:QG value tv)(hs:JjH (JkX value (some (.Subscript o i pos'))) false) :
  PS X (.Assign [.Subscript o i pos'] value pos) (sDPut td ty tv):=by intro b s c H D I h;refine wpAny_Assign_Subscript (thn (q b s c H _ I h) λr f ⟨v,L,G,l,q1⟩=>thn (w b f c L _ G q1) λu d ⟨x,K,F,k,p⟩=>thn (z b d c K _ F p) λO N ⟨y,P,E,j,a,J,B,g,n⟩=>?_) hs;subst B;obtain rfl:u=Value.ref a:=k;exact yV t E g j l λM C=>⟨c,J,C,n⟩
end
def uL (h:Heap)(a:JgU sysModules):bE P w H (h.push { cls:=.type "dict",data:=.dict #[] }) h.objs.size (.dK []) :=
 ⟨Nat.zero_le _,beq_eq_false_iff_ne.mpr (Ne.symm (Nat.ne_of_lt a)),[],.nil,Heap.DictOf.new h⟩
def tDNewK:TE:=λ_ H Q=>∀p,Vn p→Xg p (Xe H p [])
section
variable {X:Cx} {pos:Pos}
def gP:QG (.Dict [] [] pos) tDNewK:=λb s c H Q I h =>
 wpAny_Dict_empty (JkV _ (t':=s.toks) (λ_ _ q=>XX q) _ (uL s.heap I.big) (h _ (VG _)))
end
noncomputable def bc (kvs a:List (Key × V)):List (Key × V):=a.foldl (λacc b=>aV acc b.1 b.2) kvs
def KV.merge:∀ {a:List (Key × V)} {rs:List (Key × Value)} {kvs:List (Key × V)} {vs:List (Key × Value)},KV a rs→Jg7 vs→KV (Jje a) (merged vs rs):=by
 intro a rs kvs vs r;unfold KV at r
 induction r generalizing kvs vs with
 | nil=>intro q;exact q
 | @cons p q ps d h t c =>
  intro b;have e:KV (Jb8 p.1 p.2) (stored vs q.1 q.2):=by have:=b.put p.1 h.2;rw[←h.1];exact this
  exact c e
def uM:∀a kvs,(Jje a).length≤kvs.length+a.length
 | [],kvs=>by show kvs.length≤kvs.length+0;lia
 | p :: r,kvs=>by have c:=uM r (Jb8 p.1 p.2);have b:=kG kvs p.1 p.2;show(bc (Jb8 p.1 p.2) r).length≤_;rw[List.length_cons];lia
structure M1 (X:Cx)(o)(m)(apos:Pos)(e)(cpos):Prop where
 base:Jii o m o=Jf o
 few:Qu ((JdG [e]).all (λx=>!x.1)&&(Jdd cpos []).all (λx=>x.1.isSome)
  && decide (([e]:List Expr).length+([]:List Keyword).length+(if([]:List Keyword).isEmpty then 0 else 1) < 30))
 line:Qu (apos.endLine == cpos.line)
 trees:JdG [e]=[(false,Jf e)]
structure M2 (X:Cx)(o)(m)(apos:Pos)(e f)(cpos):Prop where
 base:Jii o m o=Jf o
 few:Qu ((JdG [e,f]).all (λx=>!x.1)&&(Jdd cpos []).all (λx=>x.1.isSome)
  && decide (([e,f]:List Expr).length+([]:List Keyword).length+(if([]:List Keyword).isEmpty then 0 else 1) < 30))
 line:Qu (apos.endLine == cpos.line)
 trees:JdG [e,f]=[(false,Jf e),(false,Jf f)]
def IsD (H:Hp)(a:Addr):Prop:=(∃kvs,Rd H a (.dK kvs))∨∃kvs,Rd H a (.dT kvs)
def pK (I:QE s)(d:IsD H a) :
  s.TypeIs (.ref a) "dict"∧(∀b,Xy (Value.ref a) b→∃c,s.heap.get? b=some c∧Qn c.dict)∧Q9 (a == sysModules):=by
 rcases d with ⟨kvs,e⟩ | ⟨kvs,e⟩
 ·obtain⟨_,g,vs,_,f⟩:=Jkb e;refine⟨f.typeIs,λb q=>?_,g⟩;cases q;obtain⟨c,_,_,i,h,_⟩:=f;exact⟨c,i,h.2.1⟩
 ·obtain⟨_,g,xs,_,f⟩:=Jkc e;refine⟨f.typeIs,λb q=>?_,g⟩;cases q;obtain⟨c,_,_,i,h,_⟩:=f;exact⟨c,i,h.2.1⟩
section
variable {X:Cx} {pins:List (Addr × Obj)} {σ:St} {H:Hp} {s:Shared} {a:Addr} {y d:V} {u r:Value} {o:Option V} {A:Around} {E:Value→Shared→Prop}
def d_get2 (t:A.units+1 < cLine)(I:QE s)(g:bU H a y o)(p:Jeb y)(q:aS d r)(h:∀n s',QE s'→aS (o.getD d) n→Q n s') :
  wpAny (Qq X.w) A (Jbj "dict.get" [.ref a,u,r]) Q E s:=by
 rcases g with ⟨kvs,k,e,j,l⟩ | ⟨kvs,k,b,e,j,v,l⟩
 ·subst j;obtain⟨z,i,vs,c,f⟩:=Jkb e;refine JkC PySem.F.slot_dict_get PySem.F.entry_dict_get (PySem.F.args_dict_get_3 _ _ _) (meets_dict_get_default (Jf8 X.w) a (gN p) i r) (Jlc f.mapOf (h _ _ (I.tok _) ?_));rw[l];exact(c.val k).getD q
 ·subst j;cases (show JiV u from p);obtain⟨z,i,xs,c,f⟩:=Jkc e;refine JkC PySem.F.slot_dict_get PySem.F.entry_dict_get (PySem.F.args_dict_get_3 _ _ _) (meetsH_dict_get_default (JcR X.prog X.w) a b i r) ⟨tupleKind_room_in1 t,k,xs,jz I.hok v,f,h _ _ (I.tok _) ?_⟩;rw[l];exact(c.val k).getD q
end
def tDGet2 (f ty e:TE):TE:=λb H Q=>f b H λx d=>∃a,Jed a∧IsD d a∧ty b d λy g=>e b g λz c=>∃o,bU c a y o∧Q (o.getD z) c
def tDPop1 (e ty:TE):TE:=λb H Q=>e b H λx d=>∃a,Jed a∧IsD d a∧ty b d λy c=>∃kvs k v,Xa (c a) (.dK kvs)∧y=kV k∧Xa (JeA k) v∧Q v (Xe c a (dw kvs k))
section
variable {X:Cx} {o e f:Expr} {apos cpos:Pos} {td ty tx:TE}
def jB (B:X.A.units+1 < cLine)(C:QG o td)(E:QG e ty)(D:QG f tx)(m:M2 X o "get" apos e f cpos):QG (JkR o "get" [e,f] [] cpos) (tDGet2 td ty tx):=by
 intro b s c H Q I h;refine wpAny_Call_method m.base m.few m.line PySem.F.plainAttrs_dict PySem.F.slot_dict_get PySem.F.type_dict_get (thn (C b s c H _ I h) λu p ⟨x,O,j,t,a,G,d,q1⟩=>?_);subst G;obtain rfl:u=Value.ref a:=t;obtain⟨l,k,_⟩:=pK j d;refine Qk l k;rw[m.trees];refine XJ rfl (Calls.spliced_cons (thn (E b p c O _ j q1) λU n ⟨y,N,L,r,w⟩ =>
  Calls.spliced_cons (thn (D b n c N _ L w) λW S ⟨z,M,K,q,T,g,v⟩=>Calls.spliced_nil ?_)))
 exact d_get2 B K g r q λP R J i=>⟨_,M,J,i,v⟩
def uO (w:QG o td)(z:QG e ty)(m:M1 X o "pop" apos e cpos):QG (JkR o "pop" [e] [] cpos) (tDPop1 td ty):=by intro b s g H Q I h;refine wpAny_Call_method m.base m.few m.line PySem.F.plainAttrs_dict PySem.F.slot_dict_pop PySem.F.type_dict_pop (thn (w b s g H _ I h) λu p ⟨x,G,i,r,a,B,d,q1⟩=>?_);subst B;obtain rfl:u=Value.ref a:=r;obtain⟨n,j,_⟩:=pK i d;refine Qk n j;rw[m.trees];refine XJ rfl (Calls.spliced_cons (thn (z b p g G _ i q1) λM L ⟨y,N,E,q,kvs,k,v,C,A,l,t⟩=>Calls.spliced_nil ?_));subst A;exact d_pop E C q l (.inl rfl) λJ K D c=>⟨v,_,D,c,t⟩
end
def yZ (kvs a)(b):Jje (a++[b])=aV (Jje a) b.1 b.2:=by unfold bc;rw[List.foldl_append];rfl
def uP {kvs:List (Key × V)}{ks:Nat→Key}{vals:Nat→Value}:∀n,n≤kvs.length→(∀i a,i < n→kvs[i]?=some a→a.1=ks i∧aS a.2 (vals i))→KV (bc [] (kvs.take n)) (Jj_ ks n)
 | 0,_,_=>.nil
 | n+1,c,h=>by have b:=gG c;obtain⟨e,d⟩:=h n _ (Nat.lt_succ_self n) b;rw[pH,bb b,yZ,←e];exact KV.put (uP n (by lia) λi a f=>h i a (by lia)) _ d
section
variable {X:Cx}
def uQ (hc:Qu X.calm):JfF X "dict" (λxs H Q=>∃p ys kvs,xs=Vt p∧JgP H p ys∧Jfl kvs.length∧(∀(i:Nat) y c,ys[i]?=some y→kvs[i]?=some c→∃a,Xy y a∧JjC H a [kV c.1,c.2]) ∧
  ∀d,Vn d→Xg d (Xe H d (bc [] kvs))):=by
 intro G s σ H xs us Q I r h;obtain⟨p,ys,kvs,rfl,Z,k,hT,q⟩:=h;obtain⟨u,rfl,R⟩:=fy r;cases (show Vp u p from R);obtain⟨b,v,⟨o,n,ho,F,E,l⟩,hz⟩:=I.list Z;have hl:b.length=kvs.length:=by rw[←k,v.length]
 have ex:∀i:Nat,∃t:Addr × Key × Value × Value,i < b.length→b[i]?=Ja t.1∧s.heap.IsTuple t.1 #[t.2.2.1,t.2.2.2]∧(Jf8 X.w).is t.2.1 t.2.2.1=true∧∀c,kvs[i]?=some c→c.1=t.2.1∧aS c.2 t.2.2.2:=λi=>by
  by_cases x:i < b.length
  ·have C:ys[i]?=some ys[i]:=gG (by have:=v.length;lia);have J:kvs[i]?=some kvs[i]:=gG (by lia);obtain⟨a,ea,ha⟩:=hT i _ _ C J;rw[ea]at C;obtain⟨N,B,A⟩:=v.get C;cases (show Vp N a from A);obtain⟨Y,S,W,_⟩:=I.tuple ha;obtain⟨P,O,rfl,U,T⟩:=pe S;exact⟨(a,kvs[i].1,P,O),λ_=>⟨B,W,gN U,λc e=>by rw[J]at e;cases e;exact Jbe T⟩⟩
  ·exact⟨(0,.inl 0,.none,.none),λz=>Jd5 x⟩
 obtain⟨f,L⟩:=Classical.axiomOfChoice ex;refine yR (knd:=Jf8 X.w) (Ts:=λi=>(f i).1) (keys:=λi=>(f i).2.2.1) (vals:=λi=>(f i).2.2.2) (ks:=λi=>(f i).2.1) (I.ok.hd hc) ho F E l ?_ (λi x=>?_) λh' tk j M=>?_
 ·have:=v.length;simp only[sAq];lia
 ·have D:i < b.length:=by simpa using x
  obtain⟨B,A,e3,_⟩:=L i D;exact⟨by simpa using B,A,e3⟩
 ·have g:=uP (kvs:=kvs) (vals:=λi=>(f i).2.2.2) kvs.length (nRq _) λi c x e=>(L i (by lia)).2.2.2 c e;rw[Jbu _]at g;have es:b.toArray.size=kvs.length:=by simp only[sAq];exact hl
  rw[es]at M;have z:(bc [] kvs).length≤sizeLine:=by have B:=g.length;have A:=pI (λi=>(f i).2.1) (λi=>(f i).2.2.2) kvs.length;lia
  exact JkV (Xe H s.heap.objs.size (bc [] kvs)) (t':=tk) j _ (jA z (beq_eq_false_iff_ne.mpr (Ne.symm (Nat.ne_of_lt I.big))) g M) (q _ (VG _))
def y_ (L:Qu X.calm):Jay X "any" (λxs H Q=>∃(p:Addr) (a:List Bool),xs=Vt p∧JgP H p (a.map V.bl)∧XR (a.any id) H):=by
 intro n s O H xs us Q I r h;obtain⟨p,a,rfl,C,q⟩:=h;obtain⟨u,rfl,y⟩:=fy r;cases (show Vp u p from y);obtain⟨c,l,pl,hz⟩:=I.list C;have G:=l.length;rw[lM]at G;have D:Xh p:=by obtain⟨o,E,_⟩:=pl.isList;exact hLq E
 have k:=Nat.ne_of_lt D;refine call_any_walk (Jax pl.isList);refine⟨s.heap.objs.size,[s.heap.objs.size,p],[s.heap.objs.size],c.toArray.size,_,_,λi=>a.getD i true,rfl,Walks.list (show Qn X.A.in1.handled from I.ok.hd L) _ p k c.toArray,JjK (Ji0 (Heap.get?_push_size _ rfl)) _,?_,λh' tk J=>?_⟩
 ·intro i v s' R S B M;have f:c[i]?=some v:=by simpa using B
  have j:=(gEq f).1;have d:a[i]?=some (a.getD i true):=by rw[List.getD_eq_getElem?_getD,gG (by lia)];rfl
  obtain⟨P,w,N⟩:=l.get (by rw[List.getElem?_map,d];rfl);rw[f]at w;cases w;cases (show Q4 v _ from N);exact wpAny_truthy_bool M
 ·have e:(List.range c.toArray.size).any (λi=>a.getD i true)=a.any id:=by
   rw[Bool.eq_iff_iff,List.any_eq_true,List.any_eq_true];constructor
   ·rintro ⟨i,j,d⟩;have g:i < a.length:=by have:=List.mem_range.mp j;simp only[sAq]at this;lia
    rw[List.getD_eq_getElem?_getD,gG g]at d;exact⟨a[i],List.getElem_mem g,d⟩
   ·rintro ⟨x,z,d⟩;obtain⟨i,j,rfl⟩:=List.mem_iff_getElem.mp z;refine Jfy i (by simp only[sAq];lia);rw[List.getD_eq_getElem?_getD,gG j];exact d
  refine⟨.bl (a.any id),H,I.kept (t':=tk) λb o t=>J b o ?_ (XX t),congrArg Value.bool e,q⟩;intro F;have:JgZ b:=by simpa using F
  exact Jj9 t (by rw[this];exact Nat.lt_irrefl _)
end
noncomputable def eE (r:List Int):Dt:=.tup (r.map Dt.int)
def jC:∀ns:List Int,Jc9 (ns.map Dt.int)
 | []=>by rfl
 | n :: ns=>by simp only[List.map_cons,bz,nol,Bool.true_and];exact jC ns
def za (r):JeT (eE r):=by simp only[eE,nol,jC]
def dy:∀Rs:JB Int,Jc9 (Rs.map eE)
 | []=>by rfl
 | t :: T=>by simp only[List.map_cons,bz,za,Bool.true_and];exact dy T
def uR {K:W.Frag}{H:Hp}{r:List Int}{x:V}(h:J9 K (eE r) x):∃q,Jed q∧SqT K H q (r.map V.int):=by unfold eE at h;simp only[Has]at h;obtain⟨a,xs,rfl,hs,b⟩:=h;rw[jb b]at hs;exact Vg a hs
def mX {K:W.Frag}{H:Hp}{r:List Int}{q:Addr}(h:X9 q (r.map V.int)):JcO K (eE r) q:=JiJ h r
def zb {K:W.Frag}{H:Hp}{Rs:List (List Int)}{xs:List V}{i:Nat}{x:V}(h:Jdg eE)(e:xs[i]?=some x):∃r q,Rs[i]?=some r∧Jed q∧SqT K H q (r.map V.int):=by
 obtain⟨d,a,c⟩:=h.get e;rw[List.getElem?_map]at a;cases q:Rs[i]? with
 | none=>rw[q]at a;cases a
 | some t =>
  rw[q]at a;cases a;obtain⟨p,rfl,b⟩:=uR c;exact Jr t p rfl b
def zc {K:W.Frag}{H:Hp}{Rs:List (List Int)}{xs:List V}{i:Nat}{r:List Int}(h:Jdg eE)(e:Rs[i]?=some r):∃q,xs[i]?=Ja q∧SqT K H q (r.map V.int):=by obtain⟨v,c,b⟩:=h.getD (by rw[List.getElem?_map,e];rfl);obtain⟨p,rfl,a⟩:=uR b;exact⟨p,c,a⟩
def mY (K:W.Frag)(H:Hp)(q:Addr)(ps:List Int):Prop:=JdK q∨JdL q
def mY.same {K:W.Frag}{H H':Hp}{q:Addr}{ps:List Int}(h:mY K H q ps)(s:Xj H):mY K H' q ps:=h.elim (λz=>.inl (s.seq z)) λz=>.inr (s.tup z)
def cM {ps:List Int}{i:Nat}{x:V}(h:(ps.map V.int)[i]?=some x):∃k,ps[i]?=some k∧x=.int k:=by
 rw[List.getElem?_map]at h;cases e:ps[i]? with
 | none=>rw[e]at h;cases h
 | some k =>
  rw[e]at h;exact Vg k ((Option.some.inj h).symm)
def iD (n):∀ps:List Int,inV (.int n) (ps.map V.int)=decide (n∈ps)
 | []=>by rfl
 | p :: ps=>by
  have a:=iD n ps;unfold inV at a ⊢;rw[List.map_cons,List.any_cons,a];show(p == n||decide (n∈ps))=decide (n∈p :: ps);by_cases e:p=n
  ·subst e;simp
  ·have b:¬n=p:=λz=>e z.symm;simp [e,b]
def uS (ps:List Int):(ps.map V.int).all gh=true:=by rw[List.all_eq_true];intro x a;obtain⟨n,_,rfl⟩:=List.mem_map.mp a;rfl
noncomputable def cv:List Int→List Int→List Int
 | acc,[]=>acc
 | acc,p :: ps=>cv (if p∈acc then acc else acc++[p]) ps
structure iE (H:Hp)(d)(hs:List Int):Prop where
 ex:∃kvs:List (Key × V),Jdp d∧(∀n:Int,(JdE n).isSome=decide (n∈hs))∧JdT hs.length
def kJ (kvs)(k:Key)(v):(Jio v).length≤kvs.length+1:=by
 unfold aV;split
 ·rw[lM];lia
 ·rw[lAq];simp
def zd (kvs:List (Key × V))(n m)(v):(Vm (Jam kvs n v) m).isSome=(decide (m=n)||(JdE m).isSome):=by
 rw[gM];by_cases e:m=n
 ·rw[if_pos (by rw[e]),dTq e];rfl
 ·rw[if_neg (λz=>e (by injection z)),dFq e,Bool.false_or]
noncomputable def tkv (ps:List Int):List (Key × V):=ps.map λp=>(Sum.inl p,V.bl true)
def jD:∀ps:List Int,(∀n:Int,(Vm (Jgi ps) n).isSome=decide (n∈ps))∧(Jgi ps).length≤ps.length:=by
 intro ps
 suffices h:∀kvs hs,(∀n:Int,(JdE n).isSome=decide (n∈hs))→JdT hs.length→(∀n:Int,(Vm (X3 kvs ps) n).isSome=decide (n∈hs++ps))∧(X3 kvs ps).length≤(hs++ps).length by have:=h [] [] (λn=>by rfl) (nRq _);simpa using this
 induction ps with
 | nil=>intro kvs hs a b;simpa [tkv,bc] using ⟨a,b⟩
 | cons p ps c =>
  intro kvs hs a b;have e:X3 kvs (p :: ps)=bc (Jam kvs p (.bl true)) (tkv ps):=rfl;rw[e,show hs++p :: ps=(hs++[p])++ps by simp];refine c _ _ (λn=>?_) ?_
  ·rw[zd,a];by_cases e:n=p
   ·subst e;simp
   ·simp [e]
  ·have:=kJ kvs (Sum.inl p) (.bl true);rw[lAq];simp only[lS];lia
def iE.of:iE (JgM H d ps) d ps:=⟨_,af,(jD ps).1,(jD ps).2⟩
def iE.same (h:iE H d hs)(s:Xj H):iE H' d hs:=by obtain⟨kvs,c,b,a⟩:=h.ex;exact⟨kvs,s _ _ c,b,a⟩
noncomputable def nf (b a:List Int):List Int:=cv [] (b.filter λp=>decide (-p∉a))
noncomputable def aO (Rs:JB Int)(h:Int):List Int:=Rs.getD h.toNat []
def ze (a:Nat→Int):∀k,JhX (λi j=>decide (a i < a j))≤k∧∀i,i≤k→a (JhX (λi j=>decide (a i < a j)))≤a i
 | 0=>⟨nRq _,λi c=>by
   have e:i=0:=by lia
   subst e;exact Int.le_refl _⟩
 | k+1=>by
  obtain⟨f,d⟩:=ze a k;unfold argBest;by_cases e:a (k+1) < a (JhX (λi j=>decide (a i < a j)))
  ·rw[JcM e];refine⟨nRq _,λi c=>?_⟩;by_cases b:i=k+1
   ·rw[b];exact Int.le_refl _
   ·have:=d i (by lia);lia
  ·rw[if_neg (λz=>e (oDq z))];refine X0 (λi c=>?_);by_cases b:i=k+1
   ·rw[b];lia
   ·exact d i (by lia)
def uT (a:Nat→Int):∀k,JhX (λi j=>decide (a i > a j))≤k∧∀i,i≤k→a i≤a (JhX (λi j=>decide (a i > a j)))
 | 0=>⟨nRq _,λi c=>by
   have e:i=0:=by lia
   subst e;exact Int.le_refl _⟩
 | k+1=>by
  obtain⟨f,d⟩:=uT a k;unfold argBest;by_cases e:a (k+1) > a (JhX (λi j=>decide (a i > a j)))
  ·rw[JcM e];refine⟨nRq _,λi c=>?_⟩;by_cases b:i=k+1
   ·rw[b];exact Int.le_refl _
   ·have:=d i (by lia);lia
  ·rw[if_neg (λz=>e (oDq z))];refine X0 (λi c=>?_);by_cases b:i=k+1
   ·rw[b];lia
   ·exact d i (by lia)
def zf {ns:List Int}{i:Nat}(h:i < ns.length):Ja8 i∈ns:=by rw[List.getD_eq_getElem?_getD,gG h];exact List.getElem_mem h
def zg {ns:List Int}{n:Int}(h:n∈ns):∃i,i < ns.length∧Ja8 i=n:=by obtain⟨i,a,e⟩:=List.mem_iff_getElem.mp h;exact⟨i,a,by rw[List.getD_eq_getElem?_getD,gG a];exact e⟩
section
variable {X:Cx}
def pL {ns:List Int}{a:List Value}(c:aM (ns.map V.int) a):∀i (v:Value),a.toArray[i]?=some v→∃t,v=.int (Ja8 i) t:=λi v e=>by
 have b:a[i]?=some v:=by simpa using e
 have k:i < a.length:=(gEq b).1;have f:=c.length;rw[lM]at f;have g:ns[i]?=some (Ja8 i):=by rw[List.getD_eq_getElem?_getD,gG (by lia)];rfl
 obtain⟨j,d,h⟩:=c.get (by rw[List.getElem?_map,g];rfl);rw[b]at d;cases d;exact h
end
def Inv.turnedLaid {X:Cx}{d:List (Addr × Obj)}{t:St}{H:Hp}{s:Shared}{h':Heap}{l:List Addr}{a:Addr}{o:HO}{t':Nat}(I:JjZ d t)(j:∀b∈l,de X d H b)(k:∀b u,b∉l→s.heap.get? b=some u→h'.get? b=some u)(x:Jch a)(p:JcP (JiW a) h' a o) :
  Inv X d t (JiW a) { s with heap:=h',toks:=t' }:=by
 have i:=I.hok.fresh x;have g:∀b u,Jlr u→b∉l:=λb u e z=>by rw[(j b z).1]at e;cases e
 have y:JhL l H (JiW a) h':=⟨λb u q _ _ h=>k b u h q,λb u q _ _ h=>⟨u.slots,k b u h q⟩,λb u q n _=>by rw[ai (X8 q x)];exact n,λb u q h=>⟨u,k b u h q⟩,λb xs q=>by rw[Jj1 i];exact q,λb u xs q=>by rw[Jj1 i];exact q,λb ps q=>⟨#[],by rw[Jj1 i,q];simp⟩⟩
 have r:Jf3 (JiW a) h':=λb u e=>by
  by_cases f:b=a
  ·subst f;rw[af]at e;cases e;exact p
  ·rw[ai f]at e;refine(Jj5 b u).stay (λc v A q=>k c v ?_ q) (λc q=>by rw[Jj1 i];exact q) λc xs q=>by rw[Jj1 i];exact q
   rcases A with z | z
   ·rw[z];exact g b u e
   ·exact g c _ z
 exact I.call (g':=s.gens) (d':=s.drawn) y r I.bare λb f=>⟨(j b f).2.2.2.1,(j b f).2.1,(j b f).2.2.2.2.1,(j b f).2.2.2.2.2⟩
def Ite (K:W.Frag)(a:Addr):It :=
 ⟨λi H=>∃xs x,Ja6 a∧xs[i]?=some x,λi H x H'=>∃p y,Jed p∧Vn p∧H'=Vh H p (VN i y)∧∀xs,Ja6 a→xs[i]?=some y,λi H=>∃xs,Ja6 a∧Jha i⟩
def mZ {K:W.Frag}{a:Addr}{xs:List V}:Jhd (Ite K a) (λH=>Ja6 a):=⟨λ_ _ h b=>⟨xs,h,b⟩,λi _ h b=>⟨xs,xs[i],h,by simp [b]⟩⟩
def zh {P:Program}{w:World}{K:W.Frag}{A:List Expr}{x1:Nat}{J:Pos}(a e it)(r:e≠it):g_ P w K (.Tuple A x1 J) (Ite K a) [e,it] e (λi h=>(∃c,IsEnum h e it (i:Int) c)∧JhQ it a) where
 mem:=by simp
 obj:=λi h st b d=>by
  obtain⟨⟨c,g⟩,o,R,Y,hd⟩:=st;rcases List.mem_cons.mp d with rfl | d
  ·exact Jlc g (λv z=>by have z':=z;cases z')
  ·have e':=mSq d;subst e';exact JjA R (λv z=>by rw[hd]at z;cases z)
 keep:=λi h h' st k=>⟨by obtain⟨c,g⟩:=st.1;exact⟨c,Jao e _ g⟩,st.2.at λo q=>Jao it o q⟩
 item:=by
  intro X hP O hK Y i l s σ H E I C st T;subst hP O hK;obtain⟨xs,x,B,N⟩:=T;obtain⟨M,G,p,hz⟩:=I.list B;obtain⟨u,hu,ru⟩:=G.get N;obtain⟨⟨c,g⟩,j⟩:=st;obtain⟨oi,Q,hci,hdi⟩:=id j;refine wpAny_pyNext_enum_item g j p.isList (by simpa using hu) r λh' R F hT hsz hk=>?_;refine V2 (wpAny_letOwnedTupleGo_enum R λD U f=>?_);replace f:Heap.SameBut e h' D:=f;have t:=hLq g;have S:=hLq Q;have hT2:=(f.2 _ (Nat.ne_of_gt t)).trans hT;have kk:∀b o,b∉[e,it]→s.heap.get? b=some o→D.get? b=some o:=λb o d q=>by have y:b≠e:=λz=>d (by simp [z]);have Z:b≠it:=λz=>d (by simp [z]);exact(f.2 b y).trans (hk b o y Z q)
  have L:JcP (Vh H s.heap.objs.size (VN i x)) D s.heap.objs.size (.tup (VN i x)):=by
   refine⟨?_,[Jkx i,u],Je6 (Xr _) ru,_,hT2,?_⟩
   ·exact VX (show 2≤1000 by decide)
   lia
  refine⟨.ref s.heap.objs.size,_,I.turnedLaid (t':=s.toks+1) C kk (nRq _) L,rfl,JjL _ x I.fresh rfl (λys hy=>by rw[I.list_inj hy B];exact N),XE ⟨u,by simpa using U⟩,?_⟩
  ·exact F.at λo q=>(f.2 it (Ne.symm r)).trans q
  ·intro b d;have n:Xh b:=by
    rcases List.mem_cons.mp d with rfl | d
    ·exact t
    ·rw[mSq d];exact S
   rw[ai (Nat.ne_of_lt n)];exact(C b d).1
 done:=by intro X hP O hK Y i l s σ H E I C st T;subst hP O hK;obtain⟨xs,B,N⟩:=T;obtain⟨M,G,p,hz⟩:=I.list B;obtain⟨⟨c,g⟩,j⟩:=st;obtain⟨f0,f1,f2,f3,f4,f5⟩:=C it (by simp);have hl:=G.length;exact wpAny_pyNext_enum_end (I.ok.hd Y) g j p.isList (by simp;lia) λh' eb=>JbC (t':=s.toks) (λb o d q=>eb b o d q) f0 f1 f3 f4 f5
 self:=λ_ _ _ _ _ st h=>by obtain⟨⟨c,g⟩,_⟩:=st;exact wpAny_pyIter_enum g h
section
variable {X:Cx}
def iEnum (K:W.Frag)(d:TA):TI:=λc H R=>d c H λvs b=>∃a,vs=Vt a∧(∃xs,Xt b a xs)∧R (Ite K a) b
def m_ {i:List Expr}{v:Nat}{y:Pos}{a:Expr}{o:TA}{p f:Pos}(E:Gl X "enumerate")(D:JaU "enumerate")(F:PA X [a] o)(hs:Qd [a]=[(false,Jf a)]:=by rfl):PI X (.Tuple i v y) (Jjs "enumerate" p [a] f) (iEnum X.K o):=by
 intro c s n H R I h;refine Jd9 I E D boot_enumerate (thn (F f c s n H _ I h) λus d ⟨vs,t,j,x,q1⟩=>?_) hs rfl;obtain⟨a,e,⟨xs,C⟩,q⟩:=q1;subst e;obtain⟨u,rfl,w⟩:=x.one;cases w;obtain⟨A,J,p,hz⟩:=j.list C;refine call_enumerate_list p.isList λh' r k B z=>?_;refine wpAny_pyIter_enum r ?_;have G:=j.kept (t':=d.toks) z;refine⟨_,[d.heap.objs.size+1,d.heap.objs.size],_,Ite X.K a,t,rfl,G,zh a (d.heap.objs.size+1) d.heap.objs.size (Nat.succ_ne_self _),⟨Jgo r,k⟩,λb l=>?_,q⟩;have g:d.heap.objs.size≤b:=by
  rcases List.mem_cons.mp l with rfl | l
  ·lia
  ·rw[mSq l];exact nRq _
 exact j.fpOk g (j.hok.fresh g)
end
end L2
namespace L2
open PySem
noncomputable def left (U hs:List Int):Nat:=(U.filter λp=>decide (p∉hs)).length
noncomputable def dQT (p:Int):Dt:=.tup (VN p (.bl true))
def pM:∀ps:List Int,Jc9 (ps.map dQT)
 | []=>by rfl
 | t :: ts=>by simp only[List.map_cons,bz,dQT,nol,Bool.true_and];exact pM ts
def zi (h:J9 K (dQT p) v):∃a,Xy v a∧SqT K H a (VN p (.bl true)):=by unfold dQT at h;simp only[Has,aj]at h;obtain⟨a,xs,rfl,hs,c,r,rfl,rfl,b,d,rfl,rfl,rfl⟩:=h;exact Vg a hs
def uU (h:X9 a (VN p (.bl true))):JcO K (dQT p) a:=QQ h .int (Qv (by rfl))
def uV (h:JQ (ps.map dQT) ys):ys.length=(tkv ps).length∧∀(i:Nat) y c,ys[i]?=some y→(tkv ps)[i]?=some c→∃a,Xy y a∧SqT K H a [kV c.1,c.2]:=by
 have f:Jej ys.length:=by rw[←h.length,lM]
 refine⟨by rw[f];simp [tkv],λi y c j b=>?_⟩;obtain⟨d,e,g⟩:=h.get j;unfold tkv at b;rw[List.getElem?_map]at b e;cases q:ps[i]? with
 | none=>rw[q]at b;cases b
 | some p =>
  rw[q]at b e;cases b;cases e;exact zi g
structure TrOk (m)(ts:List (Int × Int)):Prop where
 rng:∀t∈ts,t.1≠0∧-m≤t.1∧t.1≤m
 con:∀x∈ts.map Prod.fst,-x∉ts.map Prod.fst
def TrOk.nil:TrOk m []:=⟨λ_ h=>Jv h,λ_ h=>Jv h⟩
noncomputable def ins {a:Type}(xs:List a)(i:Nat)(y:a):List a:=xs.take i++y :: xs.drop i
def uW:z∈ins xs i y↔z=y∨z∈xs:=by
 unfold ins;rw[List.mem_append,List.mem_cons];constructor
 ·rintro (h | h | h)
  ·exact .inr (List.mem_of_mem_take h)
  ·exact .inl h
  ·exact .inr (List.mem_of_mem_drop h)
 ·rintro (h | h)
  ·exact .inr (.inl h)
  ·rw[←JaP xs]at h;rcases mPq h with h | h
   ·exact .inl h
   ·exact JbF h
def zj (xs)(i)(y:α):(ins xs i y).length=xs.length+1:=by unfold ins;rw[lAq,List.length_cons,List.length_take,List.length_drop];lia
def aj.ins (h:J9 K d v):∀i {c:List Dt} {vs:List V},JQ c vs→JQ (L2.ins c i d) (L2.ins vs i v)
 | 0,_,_,b=>.cons h b
 | i+1,[],vs,b=>by
  have e:vs=[]:=by have:=b.length;cases vs with | nil=>rfl | cons a t=>cases this
  subst e;exact Qv h
 | i+1,d' :: c,vs,b=>by
  cases vs with
  | nil=>have:=b.length;cases this
  | cons j vs =>
   simp only[aj]at b;obtain⟨u,us,q,g,f⟩:=b;cases q;exact .cons g (aj.ins h i f)
def cb (d:Addr)(H H':Hp):Prop:=∀b o,b≠d→Jlr o→Vw b o
def cb.refl (d)(H):cb d H H:=λ_ _ _ h=>h
def cb.trans (a:cb d H H1)(b:cb d H1 H2):cb d H H2:=λc o n h=>b c o n (a c o n h)
def ao.x (s:Xj H)(d):cb d H H':=λb o _ h=>s b o h
def cb.put (H)(o):cb d H (JiW d):=λb u n h=>by rw[ai n];exact h
def cb.kt (s:cb d H H')(h:Jdp d):aL H H':=λb us z=>by
 have a:b≠d:=λe=>by
  rw[e]at z;rcases z with z | ⟨o,z⟩
  ·rw[h]at z;cases z
  ·rw[h]at z;cases z
 rcases z with z | ⟨o,z⟩
 ·exact .inl (s _ _ a z)
 ·exact Jx o (s _ _ a z)
def iE.ne (h:iE H d hs)(a:Jc2 l):l≠d:=λe=>by obtain⟨kvs,b,_⟩:=h.ex;rw[e,b]at a;cases a
def cb.lst (s:cb d H H')(h:iE H d hs)(a:Jc2 l):H' l=some (.lst xs):=s _ _ (h.ne a) a
end L2
namespace L2
open PySem PySem.Spec PyProof.Rows
def Itv (K:W.Frag)(a:Addr)(n:Nat):It :=
 ⟨λi H=>i < n∧∃xs,Ja6 a∧Q8 n,λi H x H'=>H'=H∧∀xs,Ja6 a→xs[n - 1 - i]?=some x,λi H=>n≤i⟩
def pN {K:W.Frag}{a:Addr}{xs:List V}:Jhd (Itv K a xs.length) (λH=>Ja6 a):=⟨λ_ _ _ b=>b,λ_ _ h b=>⟨b,xs,h,rfl⟩⟩
def zk {P:Program}{w:World}{K:W.Frag}{O:Expr}(a it)(n):g_ P w K O (Itv K a n) [it] it (λi h=>i≤n∧h.IsRevIter it a ((n:Int) - 1 - (i:Int))) where
 mem:=by simp
 obj:=λi h st b j=>by
  have e:b=it:=by simpa using j
  subst e;obtain⟨_,o,e,c,d⟩:=st;exact JjB (λv z=>by rw[d]at z;cases z)
 keep:=λi h h' st k=>⟨st.1,st.2.at λo e=>Jao it o e⟩
 item:=by
  intro X A t B N i g s L H E I r st y;subst A t B;obtain⟨Z,xs,M,hl⟩:=y;obtain⟨T,R,p,hz⟩:=I.list M;have q:n - 1 - i < xs.length:=by lia
  obtain⟨u,Y,S⟩:=R.get (gG q);obtain⟨J,G,f2,F,D,C⟩:=r it (by simp);have e:(n:Int) - 1 - (i:Int)=((n - 1 - i:Nat):Int):=by lia
  have f:=st.2;rw[e]at f;refine wpAny_pyNext_rev_item f p.isList (by simpa using Y) λh' l Q=>?_;have I1:=I.turned (t':=s.toks) (λb o j e=>(Q.2 b j).trans e) J G F D C;obtain⟨o,e1,c,d⟩:=id l;refine Vg u (Jcx e1 c d ⟨xs[n - 1 - i],H,I1,S,Jbe (λys U=>by rw[I.list_inj U M];exact gG q),XE (by lia),λb j=>(r b j).1⟩);have e2:(n:Int) - 1 - ((i+1:Nat):Int)=((n - 1 - i:Nat):Int) - 1:=by lia
  rw[e2];exact l
 done:=by
  intro X A t B N i g s L H E I r st y;subst A t B;obtain⟨J,G,f2,F,D,C⟩:=r it (by simp);have Z:i=n:=Nat.le_antisymm st.1 y;have f:=st.2;have e:(n:Int) - 1 - (i:Int)=-1:=by lia
  rw[e]at f;exact wpAny_pyNext_rev_end (I.ok.hd N) f λh' eb=>JbC (t':=s.toks) (λb o j e=>eb b o j e) J G F D C
 self:=λ_ _ _ _ _ st h=>wpAny_pyIter_revIter st.2 h
def Itz (K:W.Frag)(a b:Addr):It :=
 ⟨λi H=>∃xs ys x y,Ja6 a∧JX b ys∧xs[i]?=some x∧ys[i]?=some y,λi H x H'=>∃p y z,Jed p∧Vn p∧H'=Vh H p [y,z]∧(∀xs,Ja6 a→xs[i]?=some y)∧∀ys,JX b ys→ys[i]?=some z,
  λi H=>∃xs ys,Ja6 a∧JX b ys∧(Jha i∨Jlh i)⟩
def wk_zip {K:W.Frag}{a b:Addr}{xs ys:List V}(h:Q8 ys.length):Jhd (Itz K a b) (λH=>Ja6 a∧JX b ys) :=
 ⟨λ_ _ q c=>⟨xs,ys,q.1,q.2,.inl c⟩,λi _ q c=>⟨xs,ys,xs[i],ys[i]'(by lia),q.1,q.2,by simp [c],by simp⟩⟩
def zm {P:Program}{w:World}{K:W.Frag}{U:List Expr}{x1:Nat}{pos:Pos}(a b z TI TO j g)(D:JbG z TI j g a b):g_ P w K (.Tuple U x1 pos) (Itz K a b) [z,TI,TO,j,g] z
  (λi h=>Jip h z TI∧JgV TI (.ref j) (.ref g)∧(∃u v,JgV TO u v)∧JhQ j a∧JhQ g b) where
 mem:=by simp
 obj:=λi h st c f=>by
  obtain⟨G,t,⟨u,v,F⟩,⟨o4,C,c4,d4⟩,⟨o5,B,c5,d5⟩⟩:=st;simp only[List.mem_cons,List.not_mem_nil,or_false]at f;rcases f with rfl | rfl | rfl | rfl | rfl
  ·exact Jlc G (λv q=>by have N:=q;cases N)
  ·exact Jlc t (λv q=>by have N:=q;cases N)
  ·exact Jlc F (λv q=>by have N:=q;cases N)
  ·exact⟨o4,C,λv q=>by rw[d4]at q;cases q⟩
  ·exact⟨o5,B,λv q=>by rw[d5]at q;cases q⟩
 keep:=λi h h' st k=>by obtain⟨G,t,⟨u,v,F⟩,C,B⟩:=st;exact⟨Jao z _ G,Jao TI _ t,⟨u,v,Jao TO _ F⟩,C.at λo q=>Jao j o q,B.at λo q=>Jao g o q⟩
 item:=by
  intro X hP hw hK f i O s σ H E I A st hg;subst hP hw hK;obtain⟨xs,ys,x,y,hq,l,Z,hy⟩:=hg;obtain⟨its,rv,p,hz⟩:=I.list hq;obtain⟨R,J,p2,hz2⟩:=I.list l;obtain⟨u,hu,ru⟩:=rv.get Z;obtain⟨v,hv,rw'⟩:=J.get hy;obtain⟨G,t,⟨u0,v0,F⟩,C,B⟩:=st;have lz:=hLq G;have lTI:Xh TI:=hLq t;have lTO:Xh TO:=hLq F;have l1:Xh j:=by obtain⟨o,e,_⟩:=id C;exact hLq e
  have l2:Xh g:=by obtain⟨o,e,_⟩:=id B;exact hLq e
  refine wpAny_pyNext_zip_item D G t F C B p.isList p2.isList (by simpa using hu) (by simpa using hv) λh' g1 g3 g4 g5 gT gz M=>?_;refine V2 (wpAny_letOwnedTupleGo_zip g1 λT g6 hs=>?_);replace hs:Heap.SameBut z h' T:=hs;have hT:=(hs.2 _ (Nat.ne_of_gt lz)).trans gT;have kk:∀c o,c∉[z,TI,TO,j,g]→s.heap.get? c=some o→T.get? c=some o:=λc o f q=>by have n1:c≠z:=λe=>f (by simp [e]);have n3:c≠TO:=λe=>f (by simp [e]);have n4:c≠j:=λe=>f (by simp [e]);have n5:c≠g:=λe=>f (by simp [e]);exact(hs.2 c n1).trans (M c o n1 n3 n4 n5 q)
  have new:JcP (Vh H s.heap.objs.size [x,y]) T s.heap.objs.size (.tup [x,y]) :=
   ⟨VX (show 2≤1000 by decide),[u,v],Je6 ru rw',_,hT,rfl,_,rfl⟩
  have gTI:=(hs.2 TI D.TIz).trans (M TI _ D.TIz D.TITO D.TIi1 D.TIi2 t);refine⟨.ref s.heap.objs.size,_,I.turnedLaid (t':=s.toks) A kk (nRq _) new,rfl,Jdr _ x y I.fresh rfl (λzs L=>by rw[I.list_inj L hq];exact Z) (λzs L=>by rw[I.list_inj L l];exact hy),⟨g6,gTI,Jlc _ ((hs.2 TO D.TOz).trans g3),g4.at λo q=>(hs.2 j D.i1z).trans q,g5.at λo q=>(hs.2 g D.i2z).trans q⟩,λc f=>?_⟩;have lc:Xh c:=by have S:=f;simp only[List.mem_cons,List.not_mem_nil,or_false]at S;rcases S with rfl | rfl | rfl | rfl | rfl <;> assumption
  rw[ai (Nat.ne_of_lt lc)];exact(A c f).1
 done:=by
  intro X hP hw hK f i O s σ H E I A st hg;subst hP hw hK;obtain⟨xs,ys,hq,l,Z⟩:=hg;obtain⟨its,rv,p,hz⟩:=I.list hq;obtain⟨R,J,p2,hz2⟩:=I.list l;obtain⟨G,t,⟨u0,v0,F⟩,C,B⟩:=st;have hl:=rv.length;have hl2:=J.length;refine wpAny_pyNext_zip_end (I.ok.hd f) D G t F C B p.isList p2.isList (Z.elim (λq=>.inl (by simp;lia)) λq=>.inr (by simp;lia)) λh' M=>XE rfl;have un:JhL [z,TI,TO,j,g] H H h':=⟨λc o q _ _ f=>M c o (λe=>f (by simp [e])) (λe=>f (by simp [e])) (λe=>f (by simp [e])) (λe=>f (by simp [e])) q,λc o q _ _ f=>⟨o.slots,M c o (λe=>f (by simp [e])) (λe=>f (by simp [e])) (λe=>f (by simp [e])) (λe=>f (by simp [e])) q⟩,λ_ _ _ n _=>n,λc o q f=>⟨o,M c o (λe=>f (by simp [e])) (λe=>f (by simp [e])) (λe=>f (by simp [e])) (λe=>f (by simp [e])) q⟩,λ_ _ q=>q,λ_ _ _ q=>q,λ_ ps q=>⟨#[],by rw[q];simp⟩⟩
  have Q:∀c u,Jg c u→c∉[z,TI,TO,j,g]:=λc u e q=>by rw[(A c q).1]at e;cases e
  have hok:Jf3 H h':=λc u e=>by
   refine(Jj5 c u).stay (λd v hd q=>?_) (λ_ q=>q) λ_ _ q=>q;have Y:d∉[z,TI,TO,j,g]:=by
    rcases hd with r | r
    ·rw[r];exact Q c u e
    ·exact Q d _ r
   exact M d v (λe=>Y (by simp [e])) (λe=>Y (by simp [e])) (λe=>Y (by simp [e])) (λe=>Y (by simp [e])) q
  exact I.call (g':=s.gens) (d':=s.drawn) (t':=s.toks) un hok I.bare λc f=>⟨(A c f).2.2.2.1,(A c f).2.1,(A c f).2.2.2.2.1,(A c f).2.2.2.2.2⟩
 self:=λ_ _ _ _ _ st h=>wpAny_pyIter_zip st.1 h
def Inv.freeze (I:QE s)(h:Jdp d)(k:s.heap.get? d=some o):Vy (Xw d (Jdh o)) s:=by
 have f:∀b u,Jlr u→u≠.dK kvs→b≠d:=λb u e n z=>by rw[z,h]at e;cases e;exact n rfl
 have u:Jeu X.fs [] H (Xw d (Jdh o)) s.heap:=⟨λb a q _ _ _=>q,λb a q _ _ _=>⟨a.slots,q⟩,λb a q n _=>by rw[ai (λz=>by rw[z,h]at n;cases n)];exact n,λb a q _=>⟨a,q⟩,λb xs q=>by rw[ai (f b _ q (by intro z;cases z))];exact q,λb a xs q=>by rw[ai (f b _ q (by intro z;cases z))];exact q,λb ps q=>⟨#[],by rw[ai (f b _ q (by intro z;cases z)),q];simp⟩⟩
 have g:Jf3 (Xw d (Jdh o)) s.heap:=λb j e=>by
  by_cases i:b=d
  ·subst i;rw[af]at e;cases e;exact⟨k,Jdv b h⟩
  ·rw[ai i]at e;exact(Jj5 b j).stay (λc l _ q=>q) (λc q=>by rw[ai (f c _ q (by intro z;cases z))];exact q) λc xs q=>by rw[ai (f c _ q (by intro z;cases z))];exact q
 exact I.un (t':=s.toks) (h':=s.heap) u g
def Inv.thaw (I:QE s)(h:Jg d (Jdh o))(h0:∀o u,X.H₀ d≠some (.frz o u)):Vy (Xe H d kvs) s:=by
 have a:∀b u,Jlr u→u≠Jdh o→b≠d:=λb u e n z=>by rw[z,h]at e;cases e;exact n rfl
 have g:∀b,Vn b→b≠d:=λb e z=>by rw[z,h]at e;cases e
 refine⟨I.ok,I.os,I.bare,⟨I.base.keep,I.base.slot,λb f q n i=>by rw[ai (g b (JeO f q n i))];exact JeO f q n i,I.base.there,λb xs q=>by rw[ai (a b _ (I.base.tups b xs q) (by intro z;cases z))];exact I.base.tups b xs q,λb f u q=>?_,λb ps q=>?_⟩,I.loc,I.cell,by rw[ai (g _ I.free)];exact I.free,λx c e=>by rw[ai (g _ (Jg9 c e))];exact Jg9 c e,λp v=>?_,λb r e=>?_,I.len⟩
 ·have t:b≠d:=λz=>h0 f u (by rw[←z];exact q);rw[ai t];exact I.base.frzs b f u q
 ·obtain⟨m,e⟩:=I.base.tbls b ps q;exact⟨m,by rw[ai (a b _ e (by intro z;cases z))];exact e⟩
 ·obtain⟨y,k,w⟩:=JiG v;exact⟨y,by rw[ai (g _ k)];exact k,w⟩
 ·by_cases j:b=d
  ·subst j;rw[af]at e;cases e;have q:=Jdv b h;exact q.2.stay (λc l _ q=>q) (λc q=>by rw[ai (a c _ q (by intro z;cases z))];exact q) λc xs q=>by rw[ai (a c _ q (by intro z;cases z))];exact q
  ·rw[ai j]at e;exact(Jj5 b r).stay (λc l _ q=>q) (λc q=>by rw[ai (a c _ q (by intro z;cases z))];exact q) λc xs q=>by rw[ai (a c _ q (by intro z;cases z))];exact q
def Itd (d:Addr)(o:Obj)(kvs:List (Key × V)):It :=
 ⟨λi H=>i < kvs.length∧Jg d (Jdh o),λi H x H'=>H'=H∧∃k v,kvs[i]?=some (k,v)∧x=kV k,λi H=>JdT i∧Jg d (Jdh o)⟩
def zo:Wk (Itd d o kvs) kvs.length (λH=>Jg d (Jdh o)):=⟨λ_ _ h a=>⟨a,h⟩,λ_ _ h a=>⟨a,h⟩⟩
def uX (h:Qu (gW k u)):Jeb (kV k):=by
 rcases gC h with ⟨i,t,rfl,rfl⟩ | ⟨x,t,rfl,rfl⟩
 ·exact Xr t
 ·exact Xr t
def zp {P:Program}{w:World}{K:W.Frag}{tg:Expr}(d it)(o)(kvs)(ep)(y:∃es,o.data=Jj4 ep):g_ P w K tg (Itd d o kvs) [it] it (λi h=>h.IsKeyIter it d i kvs.length ep) where
 mem:=by simp
 obj:=λi h st b n=>by
  have e:b=it:=by simpa using n
  subst e;obtain⟨f,e,c,B⟩:=st;exact⟨f,e,λv z=>by rw[B]at z;cases z⟩
 keep:=λi h h' st k=>st.at λf e=>Jao it f e
 item:=by
  intro X N G O hc i j s σ H E I D st M;subst N G O;obtain⟨hi,J⟩:=M;obtain⟨L,zl,t,vs,g,B⟩:=(show JcP H s.heap d (Jdh o) from Jdv d J);obtain⟨p,C⟩:=B.dictAt;obtain⟨f,es,e1,e2,A,e4⟩:=id C;obtain⟨Y,l⟩:=y;have Z:=Option.some.inj (e1.symm.trans L);subst Z;have q:p=ep:=by rw[l]at A;cases A;rfl
  subst q;have a:=g.length;obtain⟨U,T,f2,S,R,Q⟩:=D it (by simp);have hk:=g.keys;have hv:vs[i]?=some vs[i]:=gG (by lia);have u:=gG hi;have ek:kvs[i].1=(vs[i]'(by lia)).1:=by
   have h1:(kvs.map (·.1))[i]?=some kvs[i].1:=by rw[List.getElem?_map,u];rfl
   have h2:(vs.map (·.1))[i]?=some (vs[i]'(by lia)).1:=by rw[List.getElem?_map,hv];rfl
   rw[hk,h2]at h1;exact(Option.some.inj h1).symm
  rw[a]at st;refine wpAny_pyNext_dict_item st C hv λF h' x r sb=>?_;have I1:=I.turned (t':=s.toks) (λb f n e=>(sb.2 b n).trans e) U T S R Q;obtain⟨oi,q1,q2,q3⟩:=id r;refine Vg F (Jcx q1 q2 q3 ⟨kV kvs[i].1,H,I1,?_,⟨rfl,kvs[i].1,kvs[i].2,u,rfl⟩,by rw[a];exact r,λb n=>(D b n).1⟩);rw[ek];exact uX x
 done:=by
  intro X N G O hc i j s σ H E I D st M;subst N G O;obtain⟨hi,J⟩:=M;obtain⟨L,zl,t,vs,g,B⟩:=(show JcP H s.heap d (Jdh o) from Jdv d J);obtain⟨p,C⟩:=B.dictAt;obtain⟨f,es,e1,e2,A,e4⟩:=id C;obtain⟨Y,l⟩:=y;have Z:=Option.some.inj (e1.symm.trans L);subst Z;have q:p=ep:=by rw[l]at A;cases A;rfl
  subst q;have a:=g.length;rw[a]at st;obtain⟨U,T,f2,S,R,Q⟩:=D it (by simp);exact wpAny_pyNext_dict_end (I.ok.hd hc) st C (List.getElem?_eq_none (by lia)) λh' eb=>JbC (t':=s.toks) (λb f n e=>eb b f n e) U T S R Q
 self:=λ_ _ _ _ _ st h=>wpAny_pyIter_keyiter st h
section
variable {X:Cx} {tg:Expr}
def iRev (K:W.Frag)(d:TA):TI:=λc H R=>d c H λvs b=>∃a xs,vs=Vt a∧Xt b a xs∧R (Itv K a xs.length) b
def pO {a:Expr}{l:TA}{p g:Pos}(y:Gl X "reversed")(x:JaU "reversed")(A:PA X [a] l)(hs:Qd [a]=[(false,Jf a)]:=by rfl):PI X tg (Jjz p [a] g) (iRev X.K l):=by
 intro d s k H R I h;refine Jd9 I y x boot_reversed (thn (A g d s k H _ I h) λus f ⟨vs,n,j,v,q1⟩=>?_) hs rfl;obtain⟨a,xs,e,w,q⟩:=q1;subst e;obtain⟨u,rfl,t⟩:=v.one;cases t;obtain⟨c,r,pl,hz⟩:=j.list w;have C:=r.length;refine call_reversed_list pl.isList ?_;have i:Heap.IsRevIter (f.heap.push (revObj a ((c.toArray.size:Int) - 1))) f.heap.objs.size a ((c.toArray.size:Int) - 1):=Ji0 (Heap.get?_push_size _ rfl);refine wpAny_pyIter_revIter i ?_;have B:JK d k n { f with heap:=f.heap.push (revObj a ((c.toArray.size:Int) - 1)) }:=j.kept (t':=f.toks) λb o e=>XX e;refine⟨_,[f.heap.objs.size],_,Itv X.K a xs.length,n,rfl,B,zk a f.heap.objs.size xs.length,XE (Nat.zero_le _),λb z=>?_,q⟩
 ·have e:(xs.length:Int) - 1 - ((0:Nat):Int)=(c.toArray.size:Int) - 1:=by simp;lia
  rw[e];exact i
 ·rw[mSq z];exact j.fpOk (nRq _) j.fresh
def iZip (K:W.Frag)(e:TA):TI:=λd H R=>e d H λvs c=>∃a b,vs=JbP a b∧(∃xs,Xt c a xs)∧(∃ys,Xt c b ys)∧R (Itz K a b) c
def pi_zip {l:List Expr}{C:Nat}{G:Pos}{a b:Expr}{x:TA}{p g:Pos}(S:Gl X "zip")(Q:JaU "zip")(T:PA X [a,b] x)(hs:Qd [a,b]=[(false,Jf a),(false,Jf b)]:=by rfl)(j:Qd [b]=[(false,Jf b)]:=by rfl):PI X (.Tuple l C G) (Jjs "zip" p [a,b] g) (iZip X.K x):=by
 intro d s w H R I h;refine Jd9 I S Q boot_zip (thn (T g d s w H _ I h) λus f ⟨vs,B,n,F,q1⟩=>?_) (by rw[hs,j]) (by rw[j];rfl);obtain⟨a,b,e,⟨xs,P⟩,⟨ys,t⟩,q⟩:=q1;subst e;obtain⟨u,v,rfl,E,r⟩:=F.two;cases E;cases r;obtain⟨M,rv,pl,hz⟩:=n.list P;obtain⟨y,D,i,N⟩:=n.list t;have la:JjQ a:=by obtain⟨o,e,_⟩:=pl.isList;exact hLq e
 have J:JjQ b:=by obtain⟨o,e,_⟩:=i.isList;exact hLq e
 refine call_zip_2 pl.isList i.isList λh' A Z Y W U O L=>?_;refine wpAny_pyIter_zip A ?_;have I2:=n.kept (t':=f.toks) L;refine⟨_,_,_,Itz X.K a b,B,rfl,I2,zm a b _ _ _ _ _ (zipApart_new la J),⟨A,Z,Jlc _ Y,W,U⟩,λc z=>?_,q⟩;have k:f.heap.objs.size≤c:=by
  simp only[List.mem_cons,List.not_mem_nil,or_false]at z;lia
 exact n.fpOk k (n.hok.fresh k)
def iDict (c:TE):TI:=λb H R=>c b H λx a=>∃d kvs,Jed d∧Xa (a d) (.dK kvs)∧∀o,R (Itd d o kvs) (upd a d (Jdh o))
def zq (u:QG l tl):PI X tg l (iDict tl):=by
 intro a s k H R I h;refine thn (u a s k H _ I h) λv c ⟨x,C,r,t,q1⟩=>?_;obtain⟨d,kvs,e,n,q⟩:=q1;subst e;cases t;obtain⟨D,f,vs,i,A⟩:=hU r.hok n;obtain⟨ep,p⟩:=A.dictAt;obtain⟨o,es,z,G,y,F⟩:=id p;have g:=i.length;have j:=r.freeze n z;refine wpAny_pyIter_dict f p ?_;have B:JK a k (upd C d (Jdh o)) { c with heap:=c.heap.push { cls:=.type "dict_keyiterator",data:=.fields #[.ref d,.int 0 0,.int vs.length 0,.int ep 0] } }:=j.kept (t':=c.toks) λb E e=>XX e;refine⟨_,[c.heap.objs.size],_,Itd d o kvs,_,rfl,B,zp d c.heap.objs.size o kvs ep ⟨es,y⟩,?_,λb w=>?_,q o⟩
 ·exact XA _ (Heap.get?_push_size _ rfl) (by rw[g];rfl)
 ·rw[mSq w];exact j.fpOk (nRq _) j.fresh
def zr (h:QG e te):QG e (λb H Q=>te b H λx c=>∃d o kvs,Xa (c d) (Jdh o)∧(∀o u,X.H₀ d≠some (.frz o u))∧Q x (Xe c d kvs)):=by intro a s b H Q I g;refine thn (h a s b H _ I g) λv l ⟨x,c,k,f,d,o,kvs,j,i,q⟩=>?_;exact⟨x,_,k.thaw j i,f,q⟩
inductive uY:V→List V→Hp→VK→Prop|m{x vs H Q} d b kvs more:Jed d→vs=Vt b→d≠b→Jdp d→VR b more→kvs.length+more.length≤sizeLine→Jb7 (Xe H d (Jje more))→uY x vs H Q
def zt:MtR X "dict.update" uY:=by intro p s D H x vs v us Q I y z h;obtain⟨d,b,kvs,e,rfl,rfl,n,r,C,hz,q⟩:=h;cases y;obtain⟨u,rfl,A⟩:=z.one;cases A;obtain⟨G,k,i,c,f⟩:=JhW r;obtain⟨E,j,g,a,o⟩:=JhW C;have l1:=c.length;have l2:=a.length;refine JkC PySem.F.slot_dict_update PySem.F.entry_dict_update (PySem.F.args_dict_update_2 _ _) (meets_dict_update (Jf8 X.w) d b n j) ⟨i,g,f,o,by lia,λh' t K hs=>?_⟩;have J:=uM e kvs;have l:=jA (H':=Xe H d (Jje e)) (h':=h') (by lia) k (a.merge c) t;have B:∃q,h'.get? d=some q:=let ⟨q,_,_,hq,_⟩:=t;⟨q,hq⟩;exact Jr .non _ (je I (by rw[r];exact True.intro) hs B l) q
end
set_option maxRecDepth 100000
def zu:Jab "list_reverseiterator" "__len__"=pure none:=by rfl
def zv:Jab "list_reverseiterator" "__length_hint__"=pure (Jdu "list_reverseiterator.__length_hint__"):=by rfl
section
variable {prog:Program} {w:World} {A:Around} {E:Value→Shared→Prop} {s:Shared} {J:Addr} {fp wr:List Addr} {G:Array GenState→Array GenState→Prop} {n:Nat} {P:Nat→Value→Prop} {St:Nat→Shared→Prop}
def zw (W:WalksS prog w A.in1 J fp wr G n P St)(ty:∀i u,St i u→JcG (.ref J))(l:St 0 s)(r:∀b∈fp,Xh b)(p:J∈fp)
  (q:∀s' acc,Moved wr G s s'→JfH P n→Q acc.toList s')(fits:Ju n):Jlz (collect (.ref J)):=by
 have out:s.heap.objs.size∉fp:=λz=>JkD (r _ z);have g:JaJ J:=λe=>out (by rw[e];exact p);refine wpAny_bind (wpAny_runValue (XD PySem.F.entry_proto_collect));rw[Xx PySem.F.plain_proto_collect];refine wpAny_bind (wpAny_newObj_type ?_);refine Jia PySem.F.plain_list_iadd (XD PySem.F.entry_list_iadd);rw[Xx PySem.F.plain_list_iadd];have d:=W.frame 0 s (s.heap.push { cls:=.type "list",data:=.seq ([]:List Value).toArray }) s.toks l (nRq _) λb _ o e=>XX e;have j:Heap.get? (s.heap.push { cls:=.type "list",data:=.seq ([]:List Value).toArray }) s.heap.objs.size=some { cls:=.type "list",data:=.seq ([]:List Value).toArray }:=Heap.get?_push_size _ rfl;have f:Q9 (Builtin.List.listSameRef (.ref s.heap.objs.size) (.ref J)):=by simp [Builtin.List.listSameRef,g]
 show VV A.in1 (Builtin.List.listExtendWith (.ref s.heap.objs.size) (.ref J) (.ref s.heap.objs.size)) _ _ _;refine XW (ty 0 _ d) ?_;rw[if_neg (by rw[f];decide)];refine wpAny_bind (W.self 0 _ _ _ d (Vu ?_));refine XP (ty 0 _ d) zu ?_;refine XP (ty 0 _ d) zv ?_;generalize k:("list_reverseiterator.__length_hint__":String)=v
 wp_delta
 rw[show Xa (splitId v) ("list_reverseiterator","__length_hint__") from by subst k;rfl];subst k;refine wpAny_bind (wpAny_isInstance (b:=true) (ty 0 _ d) (by rfl) (wpAny_pure ?_));rw[if_neg (by decide)];refine Jia PySem.F.plain_extend_loop (codeAny_extend_loopS W fits _ out _ n 0 _ _ _ rfl (Nat.zero_le _) d j (ItemsOf.nil P) λs' acc c m h t=>?_);refine wpAny_bind (wpAny_load h (wpAny_pure (q s' acc (Moved.drop_new m (nRq _)) t)))
def zx (W:WalksS prog w A.in1.in1 J fp wr G n P St)(ty:∀i u,St i u→JcG (.ref J))(a:St 0 s)(e:∀b∈fp,Xh b)(d:J∈fp)
  (q:∀s' acc,Moved wr G s s'→JfH P n→Q₁ (.ref s'.heap.objs.size) { s' with heap:=s'.heap.push { cls:=.type "tuple",data:=.seq acc } })(fits:Ju n) :
  codeAny (Qo w) A (.call (.builtin "tuple.__new__") (Jew [.type "tuple",.ref J])) (wants Q₁ E) s:=by
 refine codeAny_of_tree ?_;show VV A.in1 (do checkBuiltinCall "tuple.__new__" (Jew [.type "tuple",.ref J]);again (JR "tuple.__new__" [.type "tuple",.ref J] [])) _ _ s
 refine JeQ (PySem.F.newCall_tuple_1 _) (Jia PySem.F.plain_tuple_new (XD PySem.F.entry_tuple_new));rw[Xx PySem.F.plain_tuple_new];have j:=sub_tuple_self;have h:=init_tuple_lookup;have g:=madeHere_tuple;have f:=ty 0 s a
 wp_walk using wpAny_typeOf f,zw (fits:=fits) W ty a e d
 intro s' acc m c;show VV _ (Builtin.Tuple.tupleExact acc.toList.toArray >>= λu=>ret u) _ _ _;refine JaO (wpAny_pure ?_) (by show Ju acc.toList.toArray.size;simp only[Array.toArray_toList];rw[c.1];exact fits);rw[show acc.toList.toArray=acc by simp];exact q s' acc m c
def zy (W:WalksS prog w A.in1.in1.in1 J fp wr G n P St)(ty:∀i u,St i u→JcG (.ref J))(c:St 0 s)(e:∀b∈fp,Xh b)(d:J∈fp)
  (q:∀s' acc,Moved wr G s s'→JfH P n→Xg s'.heap.objs.size { s' with heap:=s'.heap.push { cls:=.type "tuple",data:=.seq acc } })(fits:Ju n):Jlz (Jka "tuple" (Vt J)):=by
 refine callType_codes (Q₁:=λa u=>u.TypeIs a "tuple"∧Q a u) PySem.F.called_tuple (PySem.F.typeCall_tuple_1 _) PySem.F.entry_object_init
  (zx (fits:=fits) W ty c e d λs' acc m f=>⟨JeK (Heap.get?_push_size _ rfl),q s' acc m f⟩) λa u z=>?_
 exact⟨z.1,PySem.F.args_object_init_2 a _,object_init_meets PySem.F.called_tuple.init.lookup PySem.F.called_tuple.made (by decide) prog w A.in1 _ u (Vg z.1 z.2)⟩
end
set_option maxRecDepth 100000
def zz (a v):argsOk "max" ⟨[a],[(Str.ofString "default",v)]⟩:=by kernel_rfl
section
variable {prog:Program} {w:World} {A:Around} {R:Result→Shared→Prop} {J:Addr} {fp wr:List Addr} {n:Nat} {P:Nat→Value→Prop} {St:Nat→Heap→Prop} {kw:List (Str × Value)}
def ni:(toString "max"++toString ".loop":String)="max.loop":=by decide
def zA (W:Walks prog w A.in1 J fp wr n P St)(u)(G:CmpOf prog w A.in1 .Gt P u)(B)(out:B∉fp) :
  ∀k j s i c,n - (j+1)=k→j+1≤n→St (j+1) s.heap→P (argBest u j) i →
  s.heap.get? B=some { cls:=.type "list",dict:=none,data:=.seq #[i,i] c,slots:=#[] } →
  (∀v h' tk,P (argBest u (n - 1)) v→(∀b o,b∉wr→b≠B→s.heap.get? b=some o→h'.get? b=some o)→Jik v { s with heap:=h',toks:=tk }) →
  codeAny (Qo w) A (JR "max.loop" [.ref J,.none,.ref B] kw) R s:=by
 have p:B∉wr:=λz=>out (W.sub _ z);intro k
 induction k with
 | zero =>
  intro j s i c K L st C f l;have I:j+1=n:=by lia
  refine XD PySem.F.entry_max_loop;rw[Xx PySem.F.plain_max_loop];refine Jhv f;refine Q2 (W.done s _ _ (I ▸ st) λh' tk d=>?_);have a:=d B _ p f;refine Jai a rfl (JfX ?_);exact l i _ tk (by rw[←I];exact C) λb o t x e=>(Heap.get?_update_other _ _ (Ne.symm x)).trans (d b o t e)
 | succ k H =>
  intro j s i c K L st C f l;have E:j+1 < n:=by lia
  refine XD PySem.F.entry_max_loop;rw[Xx PySem.F.plain_max_loop];refine Jhv f;refine Q2 (W.item (j+1) s _ _ E st λv h' tk pv y d=>?_);have a:=d B _ p f;show VV A.in1 (tryCatch (holding [v,v] (richCompare .Gt v i >>= _)) _ >>= _) _ _ _;refine Q2 (wpAny_holding (wpAny_bind (G (j+1) (argBest u j) v i _ _ _ pv C ?_)));refine Vu (wpAny_truthy_bool (JfX ?_));cases eb:u (j+1) (argBest u j) with
  | true =>
   simp only[if_true];refine Jai a rfl (VO ?_);rw[ni];refine Jib (H (j+1) _ v _ (by lia) E (W.frame _ _ _ y λb M o e=>(Heap.get?_update_other _ _ (λz:B=b=>out (by rw[z];exact M))).trans e) (by simp only[argBest,eb,if_true];exact pv) (Heap.get?_update_self _ a rfl) λD r h q g=>?_);exact l D r h q λb o t x e=>g b o t x ((Heap.get?_update_other _ _ (Ne.symm x)).trans (d b o t e))
  | false =>
   simp only[Bool.false_eq_true,if_false];refine VO ?_;rw[ni];refine Jib (H (j+1) _ i c (by lia) E y (by simp only[argBest,eb,Bool.false_eq_true,if_false];exact C) a λD r h q g=>?_);exact l D r h q λb o t x e=>g b o t x (d b o t e)
def zB (W:Walks prog w A.in1 J fp wr n P St)(t)(r:CmpOf prog w A.in1 .Gt P t)(B)(out:B∉fp)(a:0 < n){s:Shared}{c:Nat}(st:St 0 s.heap)
  (g:s.heap.get? B=some { cls:=.type "list",dict:=none,data:=.seq #[] c,slots:=#[] })
  (q:∀v h' tk,P (argBest t (n - 1)) v→(∀b o,b∉wr→b≠B→s.heap.get? b=some o→h'.get? b=some o)→Jik v { s with heap:=h',toks:=tk }) :
  codeAny (Qo w) A (JR "max.loop" [.ref J,.none,.ref B] kw) R s:=by have j:B∉wr:=λz=>out (W.sub _ z);refine XD PySem.F.entry_max_loop;rw[Xx PySem.F.plain_max_loop];refine Jhv g;refine Q2 (W.item 0 s _ _ a st λv h' tk pv k f=>?_);have d:=f B _ j g;show VV A.in1 (updateSeq B (λ_=>#[v,v]) >>= _) _ _ _;refine Jai d rfl ?_;rw[ni];refine Jib (zA W t r B out _ 0 _ v _ rfl a (W.frame _ _ _ k λb C o e=>(Heap.get?_update_other _ _ (λz:B=b=>out (by rw[z];exact C))).trans e) pv (Heap.get?_update_self _ d rfl) λy p i l h=>?_);exact q y p i l λb o u x e=>h b o u x ((Heap.get?_update_other _ _ (Ne.symm x)).trans (f b o u e))
def zC (W:Walks prog w A.in1 J fp wr 0 P St)(B)(out:B∉fp){s:Shared}{c:Nat}{h:Str}{d:Value}(st:St 0 s.heap)
  (f:s.heap.get? B=some { cls:=.type "list",dict:=none,data:=.seq #[] c,slots:=#[] })
  (g:∀h' tk,(∀b o,b∉wr→b≠B→s.heap.get? b=some o→h'.get? b=some o)→Jik d { s with heap:=h',toks:=tk }) :
  codeAny (Qo w) A (JR "max.loop" [.ref J,.none,.ref B] [(h,d)]) R s:=by refine XD PySem.F.entry_max_loop;rw[Xx PySem.F.plain_max_loop];refine Jhv f;refine Q2 (W.done s _ _ st λh' tk a=>?_);refine Jkl ?_;exact g h' tk λb o i _ e=>a b o i e
end
section
variable {prog:Program} {w:World} {A:Around} {E:Value→Shared→Prop} {s:Shared}
theorem uZ
  (h:Jlv A.in1 (pyIter x) (λit s₂=>∃J fp wr n P St bt,Xy it J∧Walks prog w A.in1 J fp wr n P St∧St 0 s₂.heap∧(∀b∈fp,b < s₂.heap.objs.size)∧CmpOf prog w A.in1 .Gt P bt ∧ (n=0→∀h' tk,(∀b o,b∉wr→s₂.heap.get? b=some o→h'.get? b=some o)→Q d { s₂ with heap:=h',toks:=tk }) ∧ (0 < n→∀v h' tk,P (argBest bt (n - 1)) v→(∀b o,b∉wr→s₂.heap.get? b=some o→h'.get? b=some o)→Q v { s₂ with heap:=h',toks:=tk })) E s) :
  wpAny (Qo w) A (call (.builtin "max") [x] [(Str.ofString "default",d)]) Q E s:=by
 refine PyProof.Rows.kmk_tree PySem.F.kind_max PySem.F.plain_max PySem.F.entry_max (zz _ _) ?_;refine JeQ (show JjH (Builtin.Builtins.bindParams "max" ["key","default"] 0 ⟨[],[(Str.ofString "default",d)]⟩) [none,some d] from rfl) (Qy ?_);refine wpAny_bind (wpAny_mono h (λit s₂ h₂=>?_) λ_ _ e=>e);obtain⟨J,fp,wr,n,P,St,bt,rfl,W,st,low,cmp,q0,q1⟩:=h₂;refine wpAny_bind (wpAny_newObj_type ?_);have out:s₂.heap.objs.size∉fp:=λz=>JkD (low _ z);rw[ni];have st':=W.frame _ _ (s₂.heap.push { cls:=.type "list",data:=.seq ([]:List Value).toArray }) st λb _ o e=>XX e;rcases Nat.eq_zero_or_pos n with z | z
 ·subst z;exact wpAny_pure ⟨JU PySem.F.plain_max_loop,zC W s₂.heap.objs.size out st' (Heap.get?_push_size _ rfl) λh' tk kept=>q0 rfl h' tk λb o bw e=>kept b o bw (V_ e) (XX e)⟩
 ·exact Jib (zB W bt cmp s₂.heap.objs.size out z st' (Heap.get?_push_size _ rfl) λv h' tk pv kept=>q1 z v h' tk pv λb o bw e=>kept b o bw (V_ e) (XX e))
end
section
variable {X:Cx}
def tMaxd (K:W.Frag)(d tk:TA):TE:=λb H Q=>d b H λvs e=>tk b e λzs a=>∃p ns c,vs=Vt p∧zs=Jgr c∧mY K a p ns∧(ns=[]→VI c a)∧∀m∈ns,(∀n∈ns,n≤m)→VI m a
def zD (S:Qu X.calm)(hg:Gl X "max")(hm:JaU "max")(ha:PA X [e] ta)(f:PK X [⟨some "default",d,kp⟩] tk)
  (he:Qd [e]=(false,Jf e) :: []:=by rfl)(M:(XF pos [e]).any (·.1)=false:=by rfl)(P:(Jdd pos [⟨some "default",d,kp⟩]).any (·.1.isNone)=false:=by rfl)
  (E:(Jdd pos [⟨some "default",d,kp⟩]).all (·.1.isSome)=true:=by rfl)(O:(Jdd pos [⟨some "default",d,kp⟩]).filterMap (·.1)=[Str.ofString "default"]:=by rfl) :
  PE X (VA "max" p [e] [⟨some "default",d,kp⟩] pos) (tMaxd X.K ta tk):=by
 intro g s J H Q I h;refine wpAny_Call_Name_kw (ff I hg hm PyProof.Rows.Boot.max ?_);refine PyProof.Rows.callWith_builtin_kwB M P ?_;have U:=ha pos g s J H _ I h;rw[he]at U ⊢;refine evalArgs_kw E (thn U λus Z ⟨vs,H1,I1,r1,q1⟩=>thn (f pos g Z J H1 _ I1 q1) λws c ⟨zs,W,y,r2,pp,ns,R,ev,ez,C,q0,q⟩=>?_);subst ev ez;obtain⟨u,rfl,ru⟩:=r1.one;cases ru;obtain⟨v,rfl,t,rfl⟩:=r2.one;rw[O];have k:∀ {it:Addr} {l:Obj} {h':Heap},(∀b o,b∉[c.heap.objs.size]→(c.heap.push l).get? b=some o→h'.get? b=some o)→∀b o,c.heap.get? b=some o→h'.get? b=some o:=λ{it l h'} f b o e=>f b o (λz=>by
  have:b=c.heap.objs.size:=by simpa using z
  exact Jj9 e (by rw[this];exact Nat.lt_irrefl _)) (XX e)
 have B:∀ {l:Obj},JjR pp→∀b∈[c.heap.objs.size,pp],b < (c.heap.push l).objs.size:=λ{l} x b T=>by
  rw[Heap.size_push];simp only[List.mem_cons,List.not_mem_nil,or_false]at T;rcases T with rfl | rfl
  ·exact Nat.lt_succ_self _
  ·exact Nat.lt_succ_of_lt x
 have w:∀ {h':Heap} {tk:Nat},ns=[]→(∀b o,c.heap.get? b=some o→h'.get? b=some o)→EP X g J Q (Jcv R) { c with heap:=h',toks:=tk }:=λ{h' tk} en f=>⟨.int R,W,y.kept (t':=tk) f,Xr t,q0 en⟩;have G:∀ {a:List Value} {v:Value} {h':Heap} {tk:Nat},aM (ns.map V.int) a→0 < a.toArray.size→a.toArray[argBest (λi j=>decide (Ja8 i > Ja8 j)) (a.toArray.size - 1)]?=some v→(∀b o,c.heap.get? b=some o→h'.get? b=some o)→EP X g J Q v { c with heap:=h',toks:=tk }:=λ{a v h' tk} r Y F f=>by
  obtain⟨t,rfl⟩:=pL r _ _ F;have D:=r.length;rw[lM]at D;have n0:0 < ns.length:=by simp only[sAq]at Y;lia
  have es:a.toArray.size - 1=ns.length - 1:=by simp only[sAq];lia
  rw[es];obtain⟨b1,b2⟩:=uT (λi=>Ja8 i) (ns.length - 1);exact⟨.int _,W,y.kept (t':=tk) f,Xr t,q _ (zf (by lia)) λn hn=>by obtain⟨i,hi,e⟩:=zg hn;rw[←e];exact b2 i (by lia)⟩
 rcases C with C | C
 ·obtain⟨a,r,pl,hz⟩:=y.list C;have D:=r.length;rw[lM]at D;have x:JjR pp:=by obtain⟨o,N,_⟩:=pl.isList;exact hLq N
  refine uZ (Jax pl.isList);exact⟨c.heap.objs.size,[c.heap.objs.size,pp],[c.heap.objs.size],a.toArray.size,_,_,λi j=>decide (Ja8 i > Ja8 j),rfl,Walks.list (show Qn X.A.in1.handled from y.ok.hd S) _ pp (Nat.ne_of_lt x) a.toArray,JjK (Ji0 (Heap.get?_push_size _ rfl)) _,B x,CmpOf.ints_gt (λi=>Ja8 i) (pL r),λz h' tk f=>w (List.length_eq_zero_iff.mp (by simp only[sAq]at z;lia)) (k (it:=pp) f),λz v h' tk F f=>G r z F (k (it:=pp) f)⟩
 ·obtain⟨a,r,pl,hz⟩:=y.tuple C;have D:=r.length;rw[lM]at D;have L:=pl;have x:JjR pp:=by obtain⟨o,N,_⟩:=id L;exact hLq N
  refine uZ (Jf5 L);exact⟨c.heap.objs.size,[c.heap.objs.size,pp],[c.heap.objs.size],a.toArray.size,_,_,λi j=>decide (Ja8 i > Ja8 j),rfl,Walks.tuple (show Qn X.A.in1.handled from y.ok.hd S) _ pp (Nat.ne_of_lt x) a.toArray,⟨Ji0 (Heap.get?_push_size _ rfl),L.push _⟩,B x,CmpOf.ints_gt (λi=>Ja8 i) (pL r),λz h' tk f=>w (List.length_eq_zero_iff.mp (by simp only[sAq]at z;lia)) (k (it:=pp) f),λz v h' tk F f=>G r z F (k (it:=pp) f)⟩
def zE (K:W.Frag)(d:TA):TE:=λc H Q=>d c H λvs b=>∃a xs,vs=Vt a∧Xt b a xs∧∀l,Qn (b l)→Xg l (Vh b l xs.reverse)
def zF (Y:Qu X.calm)(U:Gl X "tuple")(T:JaU "tuple")(D:Gl X "reversed")(B:JaU "reversed")(x:PA X [a] ta)(hs:Qd [a]=[(false,Jf a)]:=by rfl)
  (v:Qd [Jjz p2 [a] pos2]=[(false,Jf (Jjz p2 [a] pos2))]:=by rfl) :
  PE X (Jjs "tuple" p [Jjz p2 [a] pos2] pos) (zE X.K ta):=by
 intro k s y H Q I h;refine wpAny_Call_Name_kw (Jt I U T PyProof.Rows.Boot.tuple ?_ v rfl);rw[v];refine Calls.spliced_cons (Jd9 I D B boot_reversed (thn (x pos2 k s y H _ I h) λus f ⟨vs,N,E,P,q1⟩=>?_) hs rfl);obtain⟨a,xs,e,S,q⟩:=q1;subst e;obtain⟨u,rfl,O⟩:=P.one;cases O;obtain⟨c,F,pl,hz⟩:=E.list S;have hl:=F.length;have la:JjQ a:=by obtain⟨o,v,_⟩:=pl.isList;exact hLq v
 refine call_reversed_list pl.isList (Calls.spliced_nil ?_);have W:=Walks.listRev (prog:=X.prog) (w:=X.w) (A:=X.A.in1.in1.in1) (E.ok.hd Y) f.heap.objs.size a (Nat.ne_of_lt la) c.toArray;have C:Heap.IsRevIter (f.heap.push (revObj a ((c.toArray.size:Int) - 1))) f.heap.objs.size a ((c.toArray.size:Int) - 1):=Ji0 (Heap.get?_push_size _ rfl);refine zy W.toS (λi u st=>st.2.1.typeIs) ⟨Nat.zero_le _,by simpa using C,pl.isList.push _⟩ (λb L=>?_) (by simp) (λs' acc r its'=>?_) (by simp only[sAq];lia)
 ·rw[Heap.size_push];simp only[List.mem_cons,List.not_mem_nil,or_false]at L;rcases L with rfl | rfl
  ·exact Nat.lt_succ_self _
  ·exact Nat.lt_succ_of_lt la
 ·have l:∀b o,f.heap.get? b=some o→s'.heap.get? b=some o:=λb o e=>r.heap b o (λz=>by
   have:b=f.heap.objs.size:=by simpa using z
   exact Jj9 e (by rw[this];exact Nat.lt_irrefl _)) (XX e)
  have Z:s'={ f with heap:=s'.heap,toks:=s'.toks }:=by obtain⟨J,g,d,t,R⟩:=s';have a1:=r.gens;have a2:=r.drawn;have a3:=r.os;subst a1 a2 a3;rfl
  have n:acc=c.reverse.toArray:=by
   apply Array.ext';apply List.ext_getElem?;intro j;have hsz:=its'.1;simp only[sAq]at hsz;rcases Nat.lt_or_ge j c.length with G | G
   ·have x:acc[j]?=some (acc[j]'(by lia)):=Array.getElem?_eq_getElem (by lia);have J:=its'.2 j _ x;rw[Array.getElem?_toList,x,←J];simp only[sAq];rw[List.getElem?_toArray,List.getElem?_reverse G]
   ·rw[List.getElem?_eq_none (by simp;lia),List.getElem?_eq_none (by simp;lia)]
  have M:JK k y N s':=by rw[Z];exact E.kept (t':=s'.toks) l
  have I3:JK k y (Vh N s'.heap.objs.size xs.reverse) { s' with heap:=s'.heap.push { cls:=.type "tuple",data:=.seq acc } } :=
   M.laid (t':=s'.toks) (λb o e=>XX e) (nRq _) (show JcP _ _ _ (.tup xs.reverse) from⟨by rw[List.length_reverse];exact hz,c.reverse,F.reverse,by rw[n];exact fw.new _ _⟩)
  exact VM s'.heap.objs.size _ I3 (q _ M.fresh)
end
end L2
namespace HT
open PySem PyProof.Rows
section
variable {prog:Program} {w:World} {A:Around} {E:Value→Shared→Prop} {s:Shared}
def getItem_tuple_whole {t d:Addr}{items:Array Value}{j i:Value}{lo b:Option Int}{Q:Value→Shared→Prop}(a:Jdi t items)(hs:Jdk d j i)(pl:IsPart j lo)(l:IsPart i b)
  (k:JP 0 lo=0∧JP items.size b=items.size)(h:Xg t s):Jlz (getItem (.ref t) (.ref d)):=by
 obtain⟨n,e,f,o⟩:=id hs;have g:Jal d "slice":=⟨n,e,f⟩;unfold getItem
 try with_reducible refine wpAny_holding ?_
 first | refine Qy ?_ | skip
 refine wpAny_bind (wpAny_sequenceKey a.typeIs (by decide) ?_);refine wpAny_bind (wpAny_callSpecial?_slot (name:=Str.ofString "__getitem__") a.typeIs PyProof.Rows.slot_tuple_getitem (JcL PyProof.Rows.slot_tuple_getitem a.typeIs entry_tuple_getitem (args_tuple_getitem _ _)))
 show VV _ (Jb0 t >>= _) _ _ s;refine wpAny_bind (tupleItemsOf_ a ?_);refine XW g ?_;rw[if_pos (by decide)];refine wpAny_bind (tX hs pl l ?_);have c:Qu ((sIx items.size 0 lo:Int) == 0&&(1:Int) == 1&&(sIx items.size items.size b - JP 0 lo) == items.size):=by rw[k.1,k.2];simp
 show VV _ (if Qu ((sIx items.size 0 lo:Int) == 0&&(1:Int) == 1&&(sIx items.size items.size b - JP 0 lo) == items.size) then _ else _) _ _ s
 rw[if_pos c];refine wpAny_bind ?_;refine XW a.typeIs (wpAny_pure ?_);rw[if_pos (by decide)];exact VJ (Jjv h)
end
end HT
namespace L2
open PySem PySem.Spec PyProof.Rows
section
variable {X:Cx}
inductive pP (K):V→Option Int→Option Int→Hp→VK→Prop|m{x lo hi H Q} a xs:Jed a→JfB a→(V3 0 lo=0∧Jlg (V3 xs.length hi))→Xg a H→pP K x lo hi H Q
def zG:SlR X (pP X.K):=by
 intro d s k H x v n l lo p o Q I f hs pl g h;obtain⟨a,xs,rfl,i,j,q⟩:=h;cases f;obtain⟨c,r,e,hz⟩:=I.tuple i;have b:Jlg c.toArray.size:=by rw[sAq];exact r.length.symm
 refine⟨"tuple",_,PyProof.Rows.slot_tuple_getitem.lookup,e.typeIs,?_⟩;exact HT.getItem_tuple_whole e hs pl g (by rw[b];exact j) (VM a H I q)
def rSlTA (K:W.Frag):V→Option Int→Option Int→Hp→VK→Prop:=λx lo a H Q=>rSlT K x lo a H Q∨pP K x lo a H Q
def u_:SlR X (rSlTA X.K):=tZ.or zG
end
end L2
namespace L2
open PySem
noncomputable def cN (t:Int × Int):Int:=if t.2=-1 then 1 else 0
noncomputable def cnt:List (Int × Int)→Int
 | []=>0
 | t :: ts=>cN t+cnt ts
def fX:∀c b,cnt (c++b)=cnt c+cnt b
 | [],b=>by simp [cnt]
 | a :: c,b=>by simp only[List.cons_append,cnt,fX c b];lia
def jE {ts:List (Int × Int)}{i:Nat}{t:Int × Int}(h:ts[i]?=some t):XB (i+1)=XB i+cN t:=by rw[bb h,fX];simp [cnt]
def hX:∀ts:List (Int × Int),0≤cnt ts
 | []=>Int.le_refl _
 | t :: ts=>by have:=hX ts;simp only[cnt,cN];split <;> lia
noncomputable def fY (ts:List (Int × Int))(n:Nat):List Int:=(List.range n).map λi=>XB (i+1)
def zH (ts)(n):fY ts (n+1)=fY ts n++[XB (n+1)]:=by unfold fY;rw[List.range_succ,mAq];rfl
def va (ts)(n):(fY ts n).length=n:=by simp [fY]
def zI (ts){n i:Nat}(h:i < n):(fY ts n)[i]?=some (XB (i+1)):=by unfold fY;rw[List.getElem?_map,List.getElem?_range h];rfl
noncomputable def negs (ts:List (Int × Int)):List Int:=ts.map λt=>-t.1
def jF {ts:List (Int × Int)}{i:Nat}{t:Int × Int}(h:ts[i]?=some t):(negs ts)[i]?=some (-t.1):=by unfold negs;rw[List.getElem?_map,h];rfl
def iF (ts):(negs ts).length=ts.length:=lM _
def vb:p∈negs ts↔-p∈ts.map Prod.fst:=by
 unfold negs;rw[List.mem_map,List.mem_map];constructor
 ·rintro ⟨t,a,e⟩;exact Jhe t a
 ·rintro ⟨t,a,e⟩;exact Jhe t a
noncomputable def lvF (ts:List (Int × Int))(p:Int):Int:=XB ((negs ts).idxOf p+1)
def dh {ts:List (Int × Int)}{i:Nat}{t:Int × Int}(a:(negs ts).Nodup)(h:ts[i]?=some t):QF (-t.1)=cnt (ts.take (i+1)):=by have c:=jF h;obtain⟨b,e⟩:=gEq c;unfold lvF;rw[←e,List.Nodup.idxOf_getElem a i b]
def Lev (H:Hp)(d:Addr)(ts:List (Int × Int)):Prop:=∃kvs:List (Key × V),Jdp d∧∀p:Int,JdE p=if p∈negs ts then Jb (QF p) else none
def Lev.same (h:JkE H d)(s:Xj H):JkE H' d:=by obtain⟨kvs,b,a⟩:=h;exact⟨kvs,s _ _ b,a⟩
def Kst (H:Hp)(d:Addr)(ks:List Int)(n:Nat):Prop:=∃kvs:List (Key × V),Jdp d∧(∀m:Int,(JdE m).isSome=decide (m∈ks))∧JdT n∧∀a∈kvs,∃m:Int,JcD a.1 m
def Kst.same (h:Kst H d ks n)(s:Xj H):Kst H' d ks n:=by obtain⟨kvs,b,a⟩:=h;exact⟨kvs,s _ _ b,a⟩
def vc (kvs)(k j:Key):aU (dw kvs k) j=if j=k then none else aU kvs j:=by
 unfold dw
 induction kvs with
 | nil=>simp [aU]
 | cons c kvs d =>
  rw[List.filter_cons];by_cases e:c.1=k
  ·rw[if_neg (by simp [e]),d];by_cases a:j=k
   ·rw[if_pos a,if_pos a]
   ·rw[if_neg a,if_neg a,ee (λz=>a (z.symm.trans e))]
  ·rw[if_pos (by simp [e])];by_cases a:c.1=j
   ·have:j≠k:=λz=>e (a.trans z);rw[eD a,if_neg this,eD a]
   ·rw[ee a,d];by_cases b:j=k
    ·rw[if_pos b,if_pos b]
    ·rw[if_neg b,if_neg b,ee a]
def Kst.pop {H:Hp}{d:Addr}{ks:List Int}{n:Nat}{kvs:List (Key × V)}{p:Int}(g:∀m:Int,(JdE m).isSome=decide (m∈ks))(f:JdT n)(c:∀a∈kvs,∃m:Int,JcD a.1 m):Kst (Xe H d (JiZ p)) d (ks.filter λm=>decide (m≠p)) n:=by
 refine⟨_,af,λm=>?_,JiY _ f,λa b=>c a ((List.mem_filter.mp b).1)⟩;rw[vc];by_cases e:m=p
 ·subst e;rw[if_pos rfl];simp
 ·rw[if_neg (λz=>e (by cases z;rfl)),g];simp [e]
def zJ:∀ps kvs m,(Vm (Jje (Jgi ps)) m).isSome=((JdE m).isSome||decide (m∈ps)):=by
 have c:∀a kvs m,(Vm (Jje a) m).isSome=((JdE m).isSome||(Vm a m).isSome):=by
  intro a
  induction a with
  | nil=>intro kvs m;simp [bc,aU]
  | cons b a d =>
   intro kvs m;show(Vm (bc (Jb8 b.1 b.2) a) m).isSome=_;rw[d,gM];by_cases e:b.1=Sum.inl m
   ·rw[if_pos e.symm,eD e];simp
   ·rw[if_neg (Ne.symm e),ee e]
 intro ps kvs m;rw[c,(jD ps).1]
def zK (a kvs):(Jje a).length≤kvs.length+a.length:=by
 induction a generalizing kvs with
 | nil=>exact nRq _
 | cons b a c =>
  have e:=c (Jb8 b.1 b.2);have d:=kJ kvs b.1 b.2;show(bc (Jb8 b.1 b.2) a).length≤_;rw[List.length_cons];lia
def zL {kvs:List (Key × V)}{k:Key}{v:V}(h:∀b∈kvs,∃m:Int,JcD b.1 m)(d:∃m:Int,JcD k m):∀b∈Jio v,∃m:Int,b.1=Sum.inl m:=by
 unfold aV;split
 ·intro b a;obtain⟨q,c,e⟩:=List.mem_map.mp a;split at e
  ·rw[←e];exact h q c
  ·rw[←e];exact h q c
 ·intro b a;rcases mPq a with q | q
  ·exact h b q
  ·rw[mSq q];exact d
def vd {a:List (Key × V)}(c:∀b∈a,∃m:Int,JcD b.1 m):∀ {kvs:List (Key × V)},(∀b∈kvs,∃m:Int,JcD b.1 m)→∀b∈Jje a,∃m:Int,b.1=Sum.inl m:=by
 induction a with
 | nil=>exact λh=>h
 | cons b a d =>
  intro kvs h;exact d (λq e=>c q (Xd e)) (zL h (c b List.mem_cons_self))
def vf (ps):∀b∈Jgi ps,∃m:Int,b.1=Sum.inl m :=
 vd (λb a=>by obtain⟨p,_,e⟩:=List.mem_map.mp a;exact⟨p,by rw[←e]⟩) (λ_ h=>Jv h)
def Kst.of:Kst (JgM H d ps) d ps ps.length:=⟨_,af,(jD ps).1,(jD ps).2,vf ps⟩
noncomputable def cV (ts:List (Int × Int))(ks:List Int)(a p y:Int):Bool:=decide (p∈ks)&&(decide (y≠-1)&&(decide (QF p=0)||(decide (QF p=a)&&ks.any λo=>decide (o≠p)&&decide (QF o=a))))
noncomputable def fm (Rs:JB Int)(ts:List (Int × Int))(a:Int)(st:List Int × List Int)(t:Int × Int):List Int × List Int :=
 if Qu (cV ts st.1 a (-t.1) t.2) then((st.1.filter λm=>decide (m≠-t.1))++(Jci t.2).filter (λm=>decide (m≠t.1)),st.2++[t.2]) else st
noncomputable def lrn (Rs:JB Int)(ts:List (Int × Int))(f:Int)(i:Nat):List Int × List Int:=(ts.reverse.take i).foldl (fm Rs ts (cnt ts)) (Jci f,[f])
def jG (h:ts.reverse[i]?=some t):JgF (i+1)=fm Rs ts (cnt ts) (JgF i) t:=by unfold lrn;rw[bb h,List.foldl_append];rfl
noncomputable def gj (Rs:JB Int)(ts:List (Int × Int))(f:Int):List Int:=(JgF ts.length).1
noncomputable def df (Rs:JB Int)(ts:List (Int × Int))(f:Int):List Int:=(JgF ts.length).2
noncomputable def aT (Rs:JB Int)(ts:List (Int × Int))(f:Int):List Int:=(negs ts).reverse.filter λp=>decide (p∈gj Rs ts f)
def jH (l:List Int)(m:Int):Prop:=(l=[]→m=0)∧(l≠[]→m∈l∧∀n∈l,n≤m)
structure eU (Rs:JB Int)(ts)(f:Int):Prop where
 nd:(negs ts).Nodup
 f0:0≤f
 f1:f < (Rs.length:Int)
 fp:∀p∈Jci f,p∈negs ts
 why:∀t∈ts,t.2≠-1→0≤t.2∧t.2 < (Rs.length:Int)∧∀p∈Jci t.2,p≠t.1→p∈negs ts
def nj (c:eU Rs ts f):∀i,∀p∈(JgF i).1,p∈negs ts:=by
 intro i
 induction i with
 | zero=>exact c.fp
 | succ i b =>
  rcases Nat.lt_or_ge i ts.reverse.length with a | a
  ·rw[jG (gG a)];have d:=List.mem_reverse.mp (List.getElem_mem a);unfold fm;split
   ·rename_i e;intro p g;rcases mPq g with q | q
    ·exact b p ((List.mem_filter.mp q).1)
    ·have y:ts.reverse[i].2≠-1:=by unfold cV at e;rw[Bool.and_eq_true,Bool.and_eq_true]at e;exact oDq e.2.1
     have:=List.mem_filter.mp q;exact(c.why _ d y).2.2 p this.1 (oDq this.2)
   ·exact b
  ·have e:JgF (i+1)=lrn Rs ts f i:=by unfold lrn;rw[tO (by lia),tO a]
   rw[e];exact b
def zM (Rs)(ts)(f):∀i,(JgF i).2.length≤1+i:=by
 intro i
 induction i with
 | zero=>exact nRq _
 | succ i b =>
  rcases Nat.lt_or_ge i ts.reverse.length with a | a
  ·rw[jG (gG a)];unfold fm;split
   ·rw[lAq];simp only[lS];lia
   ·lia
  ·have e:JgF (i+1)=lrn Rs ts f i:=by unfold lrn;rw[tO (by lia),tO a]
   rw[e];lia
def zN {K:W.Frag}{H:Hp}{a:Addr}{ps:List Int}{Q:VK}(h:JdL a)(q:∀H' t,Xj H→Vv H' t ((ps.drop 1).map V.int)→Jbq t):rSlTA K (.ref a) (some 1) none H Q:=by
 have b:HT.sIx (ps.map V.int).length 0 (some 1)=min 1 (ps.map V.int).length:=HT.sIx_nat _ _ 1;have f:HT.sIx (ps.map V.int).length (ps.map V.int).length none=(ps.map V.int).length:=HT.sIx_none _ _;cases ps with
 | nil=>exact .inr (JjL a _ h (Xr rfl) (q H a (ao.refl _) h))
 | cons p ps =>
  refine .inl (JjL a _ h (λz=>?_) (λt d=>q _ t (QL d) ?_))
  ·have c:=z.1;rw[b,lM,List.length_cons]at c;lia
  ·have e:gH ((p :: ps).map V.int) (some 1) none=((p :: ps).drop 1).map V.int:=by unfold gH;rw[b,f,lM,List.length_cons,Nat.min_eq_left (by lia),←List.map_drop,tO (by rw[lM,List.length_drop,List.length_cons];exact nRq _)]
   rw[e];exact SqT.of af
def jI {ts:List (Int × Int)}{i:Nat}(h:Jar i):ts.reverse[i]?=ts[ts.length - 1 - i]?:=by rw[List.getElem?_reverse h]
def vg (ts):(negs ts).reverse=ts.reverse.map λt=>-t.1:=by unfold negs;rw[List.map_reverse]
def Kst.ne (h:Kst H d ks n)(a:Jc2 l):l≠d:=λe=>by obtain⟨kvs,b,_⟩:=h;rw[e,b]at a;cases a
def Lev.ne (h:JkE H d)(a:Jc2 l):l≠d:=λe=>by obtain⟨kvs,b,_⟩:=h;rw[e,b]at a;cases a
def TOk (Rs:JB Int)(ts:List (Int × Int)):Prop:=∀i t,ts[i]?=some t →
 t.1≠0∧(-60≤t.1∧t.1≤60)∧t.1∉(ts.take i).map Prod.fst∧-t.1∉(ts.take i).map Prod.fst ∧
 (t.2=-1∨∃(k:Nat) (r:List Int),t.2=(k:Int)∧Rs[k]?=some r∧t.1∈r∧∀p∈r,p≠t.1→-p∈(ts.take i).map Prod.fst)
def TOk.nil (Rs):J7 []:=λi t h=>by cases h
def nu {a:Type}{xs ys:List a}{i:Nat}(h:i≤xs.length):(xs++ys).take i=xs.take i:=by rw[List.take_append,show i - xs.length=0 by lia];simp
def TOk.snoc {Rs:List (List Int)}{ts:List (Int × Int)}{t:Int × Int}(h:J7 ts)(h0:t.1≠0)(c:-60≤t.1∧t.1≤60)(b:t.1∉ts.map Prod.fst)(a:-t.1∉ts.map Prod.fst)
  (y:t.2=-1∨∃(k:Nat) (r:List Int),t.2=(k:Int)∧Rs[k]?=some r∧t.1∈r∧∀p∈r,p≠t.1→-p∈ts.map Prod.fst):J7 (ts++[t]):=λi u e=>by
 rcases Nat.lt_or_ge i ts.length with q | q
 ·rw[List.getElem?_append_left q]at e;rw[nu (Nat.le_of_lt q)];exact h i u e
 ·rw[List.getElem?_append_right q]at e;have f:i - ts.length=0:=by obtain⟨z,_⟩:=gEq e;simp only[lS]at z;lia
  rw[f]at e;cases e;have d:i=ts.length:=by lia
  subst d;rw[nu (nRq _),List.take_length];exact⟨h0,c,b,a,y⟩
def TOk.nd (h:J7 ts):∀i j:Nat,i < j→∀t u:Int × Int,ts[i]?=some t→ts[j]?=some u→t.1≠u.1∧t.1≠-u.1:=λi j a t u d c=>by
 have q:=h j u c;have b:t.1∈(ts.take j).map Prod.fst:=by refine Jho t ?_;refine mO (i:=i) ?_;rw[List.getElem?_take,if_pos a];exact d
 exact⟨λe=>q.2.2.1 (by rw[←e];exact b),λe=>q.2.2.2.1 (by rw[←e];exact b)⟩
def TOk.negs (h:J7 ts):(L2.negs ts).Nodup:=by rw[List.nodup_iff_pairwise_ne,List.pairwise_iff_getElem];intro i j b a c e;rw[iF]at b a;have q:=(h.nd i j c _ _ (gG b) (gG a)).1;have k:=jF (gG b);have g:=jF (gG a);rw[gG (by rw[iF];exact b)]at k;rw[gG (by rw[iF];exact a)]at g;lia
def TOk.atoms (h:J7 ts):(ts.map λt=>t.1.natAbs).Nodup:=by rw[List.nodup_iff_pairwise_ne,List.pairwise_iff_getElem];intro i j c b a e;rw[lM]at c b;have q:=h.nd i j a _ _ (gG c) (gG b);rw[List.getElem_map,List.getElem_map]at e;lia
def pQ:∀n {xs:List Nat},xs.Nodup→(∀x∈xs,x < n)→Jha n
 | 0,[],_,_=>nRq _
 | 0,x :: xs,_,h=>VB (Jaz x) _
 | n+1,xs,a,h=>by
  have q:=pQ n (a.erase n) (λx b=>by have z:=(List.Nodup.mem_erase_iff a).mp b;have:=h x z.2;have:=z.1;lia)
  rw[List.length_erase]at q;split at q <;> lia
def TOk.len (h:J7 ts):Jcj 61:=by
 have q:=pQ 61 h.atoms (λx a=>by obtain⟨t,b,e⟩:=List.mem_map.mp a;obtain⟨k,c⟩:=List.mem_iff_getElem?.mp b;have:=(h k t c).2.1;lia)
 rw[lM]at q;exact q
def Fails (Rs:JB Int)(ts:List (Int × Int))(f:Nat):Prop:=∃r,Rs[f]?=some r∧∀p∈r,-p∈ts.map Prod.fst
def ny {Rs:List (List Int)}{k:Nat}{r:List Int}(h:Rs[k]?=some r):Jci (k:Int)=r:=by unfold aO;rw[Int.toNat_natCast,List.getD_eq_getElem?_getD,h];rfl
def TOk.ln {Rs:List (List Int)}{ts:List (Int × Int)}{f:Nat}(h:J7 ts)(l:Fails Rs ts f):eU Rs ts (f:Int):=by
 obtain⟨r,c,g⟩:=l;have o:f < Rs.length:=(gEq c).1;refine⟨h.negs,by lia,by lia,λp q=>?_,λt e y=>?_⟩
 ·rw[ny c]at q;exact vb.mpr (g p q)
 ·obtain⟨i,j⟩:=List.mem_iff_getElem?.mp e;rcases(h i t j).2.2.2.2 with z | ⟨k,r',e1,e2,e3,e4⟩
  ·exact absurd z y
  ·have kl:k < Rs.length:=(gEq e2).1;refine⟨by lia,by lia,λp a b=>?_⟩;rw[e1,ny e2]at a;have q:=e4 p a b;refine vb.mpr ?_;obtain⟨u,d,n⟩:=List.mem_map.mp q;exact Xk u (List.mem_of_mem_take d) n
def TOk.more (h:J7 ts):TOk (Rs++Qs) ts:=λi t e=>by
 obtain⟨g,f,d,c,b⟩:=h i t e;refine⟨g,f,d,c,?_⟩;rcases b with z | ⟨k,r,l,a,j⟩
 ·exact .inl z
 ·exact Je_ k r l (by rw[List.getElem?_append_left (gEq a).1];exact a) j
noncomputable def dz (i:Int):Int:=if i < 0 then -i else i
structure FRow (ts:List (Int × Int))(row:List Int)(n):Prop where
 le:row.length≤n
 neg:∀p∈row,-p∈ts.map Prod.fst
 last:∀t,ts.getLast?=some t→-t.1∈row
def FRow.ins (h:FRow ts row n){t:Int × Int}(b:t∈ts)(i):FRow ts (L2.ins row i (-t.1)) (n+1):=by
 refine⟨by rw[zj];exact Nat.succ_le_succ h.le,λp c=>?_,λu a=>uW.mpr (.inr (h.last u a))⟩;rcases uW.mp c with e | e
 ·rw[e,Int.neg_neg];exact List.mem_map.mpr (Ja4 t b)
 ·exact h.neg p e
def nz:XB i≤cnt ts:=by
 have e:cnt ts=XB i+cnt (ts.drop i):=by rw[←fX,List.take_append_drop]
 have:=hX (ts.drop i);lia
def kK (p):QF p≤cnt ts:=nz
def jJ (p):0≤lvF ts p:=hX _
def Plc (H:Hp)(d:Addr)(ts:List (Int × Int)):Prop:=∃kvs:List (Key × V),Jdp d∧∀p:Int,JdE p=if p∈ts.map Prod.fst then Jb (QF (-p)) else none
def Plc.same (h:Plc H d ts)(s:Xj H):Plc H' d ts:=by obtain⟨kvs,b,a⟩:=h;exact⟨kvs,s _ _ b,a⟩
def TOk.y (h:J7 ts):∀t∈ts,-1≤t.2:=λt a=>by obtain⟨i,b⟩:=List.mem_iff_getElem?.mp a;rcases(h i t b).2.2.2.2 with z | ⟨k,_,z,_⟩ <;> lia
def kL (h0:0≤y)(a:y < (Rs.length:Int)):Rs[y.toNat]?=some (Jci y):=by unfold aO;rw[List.getD_eq_getElem?_getD,gG (by lia)];rfl
def h_ {ts:List (Int × Int)}{i j:Nat}(h:i≤j):XB i≤cnt (ts.take j):=by
 have e:ts.take j=ts.take i++(ts.take j).drop i:=by have:=JaP (ts.take j);rw[List.take_take,Nat.min_eq_left h]at this;exact this.symm
 rw[e,fX];have:=hX ((ts.take j).drop i);lia
def kM (h:q∈negs ts):∃(i:Nat) (t:Int × Int),ts[i]?=some t∧q=-t.1:=by obtain⟨t,a,e⟩:=List.mem_map.mp h;obtain⟨i,b⟩:=List.mem_iff_getElem?.mp a;exact⟨i,t,b,e.symm⟩
def TOk.same_ix (a:J7 ts){i j:Nat}{t u:Int × Int}(c:ts[i]?=some t)(b:ts[j]?=some u)(e:t.1=u.1):i=j:=by
 rcases Nat.lt_trichotomy i j with h | h | h
 ·exact absurd e (a.nd i j h t u c b).1
 ·exact h
 ·exact absurd e.symm (a.nd j i h u t b c).1
def kN (h:Qu (cV ts ks last p y)):p∈ks∧y≠-1∧(QF p=0∨(QF p=last∧∃o∈ks,o≠p∧QF o=last)):=by
 unfold cV at h;rw[Bool.and_eq_true,Bool.and_eq_true,Bool.or_eq_true,Bool.and_eq_true,List.any_eq_true]at h;refine Qk (oDq h.1) (oDq h.2.1);rcases h.2.2 with z | ⟨b,o,c,a⟩
 ·exact .inl (oDq z)
 ·rw[Bool.and_eq_true]at a;exact Je_ (oDq b) o c (oDq a.1) (oDq a.2)
def vh (g:p∈ks)(f:y≠-1)(e:QF p=0∨(QF p=last∧∃o∈ks,o≠p∧QF o=last)):Qu (cV ts ks last p y):=by
 unfold cV;rw[Bool.and_eq_true,Bool.and_eq_true,Bool.or_eq_true,Bool.and_eq_true,List.any_eq_true];refine Qk (dTq g) (dTq f);rcases e with z | ⟨c,o,d,b,a⟩
 ·exact .inl (dTq z)
 ·exact JcK (dTq c) o d (by rw[dTq b,dTq a];rfl)
def kO (d:J7 ts){i:Nat}(x:Jar i):∃t:Int × Int,ts[ts.length - 1 - i]?=some t∧JgF (i+1)=fm Rs ts (cnt ts) (JgF i) t ∧
  ∀q:Int,q∈(JgF (i+1)).1→q∈(JgF i).1∨∃j u,j < ts.length - 1 - i∧ts[j]?=some u∧q=-u.1∧JlH ts (JgF i).1 ts (-t.1) t.2∧q∈aO Rs t.2:=by
 obtain⟨t,g⟩:∃t,ts[ts.length - 1 - i]?=some t:=Jgp (by lia);have n:=jI x;rw[g]at n;have e:=jG (Rs:=Rs) (f:=f) n;refine⟨t,g,e,λq a=>?_⟩;rw[e]at a;unfold fm at a;by_cases r:JlH ts (JgF i).1 ts (-t.1) t.2
 ·rw[if_pos r]at a;rcases mPq a with z | z
  ·exact .inl (List.mem_filter.mp z).1
  ·obtain⟨l,p⟩:=List.mem_filter.mp z;have o:=oDq p;have s:=(kN r).2.1;rcases(d _ t g).2.2.2.2 with w | ⟨k,row,e1,e2,_,e4⟩
   ·exact absurd w s
   ·have b:=l;rw[e1,ny e2]at b;have w:=e4 q b o;obtain⟨u,v,y⟩:=List.mem_map.mp w;obtain⟨j,h⟩:=List.mem_iff_getElem?.mp v;have c:j < ts.length - 1 - i:=by have:=(gEq h).1;rw[List.length_take]at this;lia
    rw[List.getElem?_take,if_pos c]at h;exact .inr (Jc5 j u c h r l)
 ·rw[if_neg r]at a;exact .inl a
def pR (a:J7 ts){i j:Nat}{u:Int × Int}(g:Jar i)(d:ts[j]?=some u)(h:ts.length - 1 - i≤j)(c:-u.1∈(JgF (i+1)).1):-u.1∈(JgF i).1:=by
 obtain⟨t,o,e,b⟩:=kO a g;rcases b _ c with z | ⟨n,l,q,k,p,_⟩
 ·exact z
 ·have:=a.same_ix d k (by lia);lia
def vi (b:J7 ts){i:Nat}{t:Int × Int}(n:Jar i)(d:ts[ts.length - 1 - i]?=some t)(r:JlH ts (JgF i).1 ts (-t.1) t.2):-t.1∉(JgF (i+1)).1:=λl=>by
 obtain⟨t',c,e,o⟩:=kO b n;rw[d]at c;cases c;have a:=l;rw[e]at a;unfold fm at a;rw[if_pos r]at a;rcases mPq a with z | z
 ·exact(oDq (List.mem_filter.mp z).2) rfl
 ·obtain⟨g,h⟩:=List.mem_filter.mp z;have j:=(kN r).2.1;rcases(b _ t d).2.2.2.2 with w | ⟨k,row,e1,e2,_,e4⟩
  ·exact j w
  ·rw[e1,ny e2]at g;have w:=e4 _ g (oDq h);rw[Int.neg_neg]at w;exact(b _ t d).2.2.1 w
def vj (b:J7 ts){i:Nat}{t:Int × Int}{q:Int}(g:Jar i)(d:ts[ts.length - 1 - i]?=some t)(c:q∈(JgF i).1)(n:q≠-t.1∨Q9 (JgW ts (JgF i).1 ts (-t.1) t.2)):q∈(JgF (i+1)).1:=by
 obtain⟨t',a,e,_⟩:=kO b g;rw[d]at a;cases a;rw[e];unfold fm;by_cases r:JlH ts (JgF i).1 ts (-t.1) t.2
 ·rw[if_pos r];rcases n with n | n
  ·exact List.mem_append_left _ (Jhp c n)
  ·rw[n]at r;cases r
 ·rw[if_neg r];exact c
def zO (a:J7 ts):∀i,Jhf i→∀j t,ts[j]?=some t→ts.length - i≤j→-t.1∈(JgF i).1→QF (-t.1)≠0:=by
 intro i
 induction i with
 | zero =>
  intro _ j t b h;have:=(gEq b).1;lia
 | succ i e =>
  intro k j t b h d;have c:=pR a (by lia) b (by lia) d;rcases Nat.lt_or_ge j (ts.length - i) with q | q
  ·have g:j=ts.length - 1 - i:=by lia
   subst g;intro z;have r:JlH ts (JgF i).1 ts (-t.1) t.2:=by refine vh c (λy=>?_) (.inl z);rw[JcW b,jE b]at z;have:=hX (ts.take (ts.length - 1 - i));unfold cN at z;rw[if_pos y]at z;lia
   exact vi a (by lia) b r d
  ·exact e (by lia) j t b q c
def zP {Rs:List (List Int)}{ts:List (Int × Int)}{f:Int}(a:J7 ts)(M:eU Rs ts f)(hL:1≤cnt ts)(h0:∃q∈Jci f,QF q=cnt ts):∀i,Jhf i→(∃q∈(JgF i).1,QF q=cnt ts) ∧
  ∀j t,ts[j]?=some t→ts.length - i≤j→-t.1∈(JgF i).1→QF (-t.1)=cnt ts→∀q∈(JgF i).1,QF q=cnt ts→q=-t.1:=by
 intro i
 induction i with
 | zero =>
  intro _;refine⟨h0,λj t b h=>?_⟩;have:=(gEq b).1;lia
 | succ i R =>
  intro hi;obtain⟨⟨H,x,l0⟩,D⟩:=R (by lia);obtain⟨t,g,e,A⟩:=kO a (show Jar i by lia);have d:Jar i:=by lia
  have N:=JcW g;by_cases r:JlH ts (JgF i).1 ts (-t.1) t.2
  ·obtain⟨L,Z,K⟩:=kN r;have B:=vi a d g r;rcases K with z | ⟨z,o,S,no,lo⟩
   ·refine⟨⟨H,vj a d g x (.inl (λw=>by rw[w]at l0;lia)),l0⟩,λj u b h k l q n s=>?_⟩;have p:=pR a d b (by lia) k;rcases Nat.lt_or_ge j (ts.length - i) with w | w
    ·have C:j=ts.length - 1 - i:=by lia
     subst C;rw[g]at b;cases b;lia
    ·rcases A q n with v | ⟨Q,Y,h1,U,T,_⟩
     ·exact D j u b w p l q v s
     ·have P:=JcW U;rw[←T]at P;have:=h_ (ts:=ts) (show Q+1≤ts.length - 1 - i+1 by lia);lia
   ·refine⟨JjA (vj a d g S (.inl no)) lo,λj u b h k l q n s=>?_⟩;have p:=pR a d b (by lia) k;rcases Nat.lt_or_ge j (ts.length - i) with w | w
    ·have C:j=ts.length - 1 - i:=by lia
     subst C;rw[g]at b;cases b;exact absurd k B
    ·have I:=D j u b w p l (-t.1) L z;have:=a.same_ix g b (by lia);lia
  ·have r':Q9 (JgW ts (JgF i).1 ts (-t.1) t.2):=by
    lia
   have X:(JgF (i+1)).1=(JgF i).1:=by rw[e];unfold fm;rw[if_neg r]
   rw[X];refine⟨⟨H,x,l0⟩,λj u b h k l q n s=>?_⟩;rcases Nat.lt_or_ge j (ts.length - i) with w | w
   ·have C:j=ts.length - 1 - i:=by lia
    subst C;rw[g]at b;cases b;apply Decidable.byContradiction;intro F;by_cases y:t.2=-1
    ·obtain⟨G,u,E,W⟩:=kM (nj M i q n);subst W;have O:=JcW E;rcases Nat.lt_trichotomy G (ts.length - 1 - i) with c | c | c
     ·have c1:=h_ (ts:=ts) (show G+1≤ts.length - 1 - i by lia);have J:=jE g;unfold cN at J;rw[if_pos y]at J;lia
     ·subst c;rw[g]at E;cases E;exact F rfl
     ·have I:=D G u E (by lia) n s (-t.1) k l;exact F I.symm
    ·exact r (vh k y (Je_ l q n F s))
   ·exact D j u b w k l q n s
def nB (h:q∈Jcd f):q∈negs ts∧q∈(JgF ts.length).1:=by obtain⟨b,a⟩:=List.mem_filter.mp h;exact⟨List.mem_reverse.mp b,oDq a⟩
def pS (a:J7 ts)(h:q∈Jcd f):QF q≠0:=by obtain⟨d,c⟩:=nB h;obtain⟨j,t,b,e⟩:=kM d;subst e;exact zO a ts.length (nRq _) j t b (by lia) c
def vk (a:J7 ts)(h:cnt ts=0):Jcd f=[]:=by rw[List.eq_nil_iff_forall_not_mem];intro q b;have e:=pS a b;have d:=kK (ts:=ts) q;have c:=jJ (ts:=ts) q;lia
def zQ {Rs:List (List Int)}{ts:List (Int × Int)}{f:Int}(c:J7 ts)(w:eU Rs ts f)(D:1≤cnt ts)(h0:∃q∈Jci f,QF q=cnt ts):∃a rest,Jcd f=a :: rest∧QF a=cnt ts∧∀r∈rest,QF r≠cnt ts:=by
 obtain⟨⟨q,s,x⟩,B⟩:=zP c w D h0 ts.length (nRq _);have y:=nj w ts.length q s;have n:q∈aT Rs ts f:=Jhp (List.mem_reverse.mpr y) s;have only:∀r∈Jcd f,QF r=cnt ts→r=q:=λr g p=>by obtain⟨j,t,d,e⟩:=kM y;subst e;exact B j t d (by lia) s x r (nB g).2 p
 have k:(Jcd f).Pairwise λa b=>QF b≤lvF ts a:=by refine List.Pairwise.filter _ ?_;rw[List.pairwise_reverse,List.pairwise_iff_getElem];intro i j o d C;rw[iF]at o d;have A:=jF (gG o);have z:=jF (gG d);rw[gG (by rw[iF];exact o)]at A;rw[gG (by rw[iF];exact d)]at z;have v:=Option.some.inj A;have u:=Option.some.inj z;rw[v,u,dh c.negs (gG o),dh c.negs (gG d)];exact h_ (by lia)
 have l:(Jcd f).Nodup:=List.Pairwise.filter _ (by rw[List.pairwise_reverse];exact List.Pairwise.imp (λh=>Ne.symm h) c.negs);generalize Jcd f=ps at n only k l
 match ps,n,only,k,l with
 | a :: rest,n,only,k,l =>
  have la:QF a=cnt ts:=by
   rcases List.mem_cons.mp n with e | e
   ·rw[←e];exact x
   ·have H:=(List.pairwise_cons.mp k).1 q e;have G:=kK (ts:=ts) a;lia
  refine JC a rest la (λr g p=>?_);have F:=only r (Xd g) p;have E:=only a List.mem_cons_self la;rw[F,←E]at g;exact(List.nodup_cons.mp l).1 g
def vm {Rs:List (List Int)}{hs:List Int}:∀ {es:List (Int × Int)},(∀t∈es,t.2≠-1)→cnt es=0
 | [],_=>rfl
 | t :: es,h=>by have c:=vm (Rs:=Rs) (hs:=hs) λu a=>h u (Xd a);have b:=Jaz t;simp only[cnt,cN,if_neg b,c];rfl
def TOk.cons (a:J7 ts){q:Int}(h:q∈ts.map Prod.fst)(g:-q∈ts.map Prod.fst):False:=by
 obtain⟨u,f,n⟩:=List.mem_map.mp h;obtain⟨v,e,l⟩:=List.mem_map.mp g;obtain⟨i,d⟩:=List.mem_iff_getElem?.mp f;obtain⟨j,b⟩:=List.mem_iff_getElem?.mp e;have k:=(a i u d).1;rcases Nat.lt_trichotomy i j with c | c | c
 ·exact(a.nd i j c u v d b).2 (by lia)
 ·subst c;rw[d]at b;cases b;lia
 ·exact(a.nd j i c v u b d).2 (by lia)
def zR (h:y < (Rs.length:Int)):aO (Rs++Qs) y=Jci y∨y < 0:=by
 by_cases h0:y < 0
 ·exact .inr h0
 ·left;unfold aO;rw[List.getD_eq_getElem?_getD,List.getD_eq_getElem?_getD,List.getElem?_append_left (by lia)]
structure Got (K)(H:Hp)(rl tl)(xs zs)(Rs:JB Int)(ts:List (Int × Int))(fl):Prop where
 r:Jc2 rl
 rh:Jdg eE
 t:VH tl zs
 th:J_ dP zs
 ne:rl≠tl
 tok:J7 ts
 ok:eU Rs ts fl
 last:1≤cnt ts→∃q∈Jci fl,QF q=cnt ts
 t61:Jcj 61
 r20:∀r∈Rs,JjP 100
 R300:Rs.length≤300
def Got.same (g:Got K H rl tl xs zs Rs ts fl)(s:Xj H):Got K H' rl tl xs zs Rs ts fl :=
 ⟨s _ _ g.r,aj.keep s.kt (dy _) g.rh,s _ _ g.t,XT s.kt _ g.th,g.ne,g.tok,g.ok,g.last,g.t61,g.r20,g.R300⟩
def Got.zl (g:Got K H rl tl xs zs Rs ts fl):Jhl ts.length:=by rw[←g.th.length,lM]
def Got.xl (g:Got K H rl tl xs zs Rs ts fl):Q8 Rs.length:=by rw[←g.rh.length,lM]
end L2
namespace L2
open PySem PySem.Spec PyProof.Rows
set_option maxRecDepth 100000
end L2
namespace L2
open PySem
def NoF (Rs:JB Int)(hs:List Int):Prop:=∀r∈Rs,∃q∈r,-q∉hs
def Comp (Rs:JB Int)(ts:List (Int × Int)):Prop:=∀i t,ts[i]?=some t→t.2=-1→NoF Rs ((ts.take i).map Prod.fst)
def Comp.nil (Rs):Comp Rs []:=λi t h=>by cases h
def TOk.take (h:J7 ts)(j):J7 (ts.take j):=λi t e=>by
 have a:i < j:=by have:=(gEq e).1;rw[List.length_take]at this;lia
 rw[List.getElem?_take,if_pos a]at e;rw[List.take_take,Nat.min_eq_left (Nat.le_of_lt a)];exact h i t e
def zS:∀ts,1≤cnt ts→∃i t,ts[i]?=some t∧t.2=-1∧XB i+1=cnt ts:=by
 intro ts;generalize a:ts.length=n
 induction n generalizing ts with
 | zero =>
  intro h;rw[List.length_eq_zero_iff.mp a]at h;exact Jap h
 | succ n g =>
  intro h;obtain⟨xs,t,rfl⟩:∃xs t,ts=xs++[t]:=⟨ts.dropLast,ts.getLast (by intro e;rw[e]at a;cases a),(List.dropLast_concat_getLast _).symm⟩;rw[lAq]at a;simp only[lS]at a;have f:cnt (xs++[t])=cnt xs+cN t:=by rw[fX];simp [cnt]
  by_cases y:t.2=-1
  ·refine⟨xs.length,t,by rw[List.getElem?_append_right (nRq _),Nat.sub_self];rfl,y,?_⟩;rw[nu (nRq _),List.take_length,f];unfold cN;rw[if_pos y]
  ·have d:cnt (xs++[t])=cnt xs:=by rw[f];unfold cN;rw[if_neg y];lia
   rw[d]at h;obtain⟨i,u,c,k,j⟩:=g xs (by lia) h;have b:=(gEq c).1;exact⟨i,u,by rw[List.getElem?_append_left b];exact c,k,by rw[nu (Nat.le_of_lt b),d];exact j⟩
structure fq (ts:List (Int × Int))(lv)(j):Prop where
 le:Jhf j
 low:∀m,m < j→XB (m+1)≤lv
 high:Jar j→lv < XB (j+1)
def fq.inj (a:fq ts lv j)(b:fq ts lv k):j=k:=by
 rcases Nat.lt_trichotomy j k with h | h | h
 ·have d:=b.low j h;have c:=a.high (by have:=b.le;lia);lia
 ·exact h
 ·have d:=a.low k h;have c:=b.high (by have:=a.le;lia);lia
structure kP (Rs)(ts)(f n)(j):Prop where
 tok:J7 ts
 ok:eU Rs ts f
 last:1≤cnt ts→∃q∈Jci f,QF q=cnt ts
 mx:jH (((Jcd f).drop 1).map (lvF ts)) n
 cut:fq ts n j
def kP.n0 (R:kP Rs ts f n j):0≤n:=by
 by_cases e:((Jcd f).drop 1).map (lvF ts)=[]
 ·rw[R.mx.1 e];decide
 ·obtain⟨a,_,b⟩:=List.mem_map.mp (R.mx.2 e).1;rw[←b];exact jJ a
def kP.split (R:kP Rs ts f n j)(k:Jcd f≠[]):∃a rest,Jcd f=a :: rest∧QF a=cnt ts∧n < cnt ts∧(∀r∈rest,QF r≤n)∧(1≤n→∃r∈rest,QF r=n):=by
 have h:1≤cnt ts:=by apply Decidable.byContradiction;intro z;have:=hX ts;exact k (vk R.tok (by lia))
 obtain⟨a,rest,e,la,l⟩:=zQ R.tok R.ok h (R.last h);have g:=R.mx;rw[e]at g;have b:=g;refine⟨a,rest,e,la,?_,λr d=>?_,λo=>?_⟩
 ·by_cases z:Jlj ts=[]
  ·rw[b.1 z];lia
  ·obtain⟨r,c,i⟩:=List.mem_map.mp (b.2 z).1;have o:=l r c;have p:=kK (ts:=ts) r;lia
 ·have z:Jlj ts≠[]:=λz=>by rw[List.map_eq_nil_iff]at z;rw[z]at d;cases d
  exact(b.2 z).2 _ (Jho r d)
 ·have z:Jlj ts≠[]:=λz=>by have:=b.1 z;lia
  obtain⟨r,c,i⟩:=List.mem_map.mp (b.2 z).1;exact⟨r,c,i⟩
def jf (a:J7 ts)(h:q∈Jcd f):∃i t,ts[i]?=some t∧q=-t.1∧QF q=cnt (ts.take (i+1)):=by obtain⟨i,t,b,e⟩:=kM (nB h).1;exact⟨i,t,b,e,by rw[e];exact JcW b⟩
def zT (b:J7 ts){i m:Nat}{t:Int × Int}(d:ts[i]?=some t):t.1∈(ts.take m).map Prod.fst↔i < m:=by
 constructor
 ·intro h;obtain⟨u,e,f⟩:=List.mem_map.mp h;obtain⟨k,c⟩:=List.mem_iff_getElem?.mp e;have a:k < m:=by have:=(gEq c).1;rw[List.length_take]at this;lia
  rw[List.getElem?_take,if_pos a]at c;rw[b.same_ix d c f.symm];exact a
 ·intro h;refine Jho t (mO (i:=i) ?_);rw[List.getElem?_take,if_pos h];exact d
end L2
namespace L2
open PySem PySem.Spec PyProof.Rows
set_option maxRecDepth 100000
section
variable {X:Cx}
def zU (c:TA):TE:=λb H Q=>c b H λvs a=>∃j:Int,vs=Jgr j∧∀r,Qn (a r)→Xg r (upd a r (.rng 0 j))
def vn (n:Gl X "range")(l:JaU "range")(u:PA X [a] ta)(hs:Qd [a]=[(false,Jf a)]:=by rfl):QG (Jjs "range" p [a] pos) (zU ta):=by
 intro c s f H Q I h;refine Jd9 I n l boot_range (thn (u pos c s f H _ I h) λus g ⟨vs,w,d,k,q1⟩=>?_) hs rfl;obtain⟨j,e,q⟩:=q1;subst e;cases k with
 | cons r i =>
  cases i;obtain⟨t,rfl⟩:=r;refine call_range_1 ?_;refine VM g.heap.objs.size _ (d.laid (λb v e=>XX e) (nRq _) ?_) (q _ (Jei _));exact⟨_,_,_,Heap.get?_push_size _ rfl⟩
def vo (D:Qu X.calm):JfF X "list" (λxs H Q=>∃r j,xs=Vt r∧Jg r (.rng 0 j)∧0≤j∧j≤100000∧∀l,Vn l→JkM l l (((List.range j.toNat).map λi:Nat=>(i:Int)).map V.int)):=by
 intro k s J H xs us Q I r h;obtain⟨z,j,rfl,C,P,O,q⟩:=h;obtain⟨u,rfl,y⟩:=fy r;cases y;obtain⟨N,M,K,e⟩:=Jdv z C;have E:Builtin.Range.rangeSize 0 j 1=(j.toNat:Int):=by rw[rangeSize_one];split <;> lia
 refine call_list_range (I.ok.hd D) e (small_one (by lia) (by lia) (by lia) (by lia)) E (by lia) λh' tk acc c A F a=>?_;have G:JfO j.toNat:=by rw[Array.length_toList];exact a.1
 have d:aM (((List.range j.toNat).map λi:Nat=>(i:Int)).map V.int) acc.toList:=by
  have f:∀n L o,L.length=n→(∀i v,L[i]?=some v→∃t,v=JcC (0+(((o+i:Nat):Nat):Int) * 1))→aM (((List.range' o n).map λi:Nat=>(i:Int)).map V.int) L:=by
   intro n
   induction n with
   | zero =>
    intro L o b _;cases L with
    | nil=>exact .nil
    | cons _ _=>cases b
   | succ n B =>
    intro L o b p
    match L,b with
    | x :: L,b =>
     refine .cons ?_ (B L (o+1) (by simpa using b) λi v e=>?_)
     ·obtain⟨t,e⟩:=p 0 x rfl;exact⟨t,by rw[e];congr 1;show(0:Int)+(o+0:Int) * 1=(o:Int);lia⟩
     ·obtain⟨t,g⟩:=p (i+1) v e;exact⟨t,by rw[g];congr 1;lia⟩
  have:=f j.toNat acc.toList 0 G λi v e=>by obtain⟨t,g⟩:=a.2 i v (by rw[←Array.getElem?_toList];exact e);exact⟨t,by rw[g,Nat.zero_add]⟩
  rw[List.range_eq_range'];exact this
 refine JkV _ (t':=tk) A _ (show JcP _ h' _ (.lst (((List.range j.toNat).map λi:Nat=>(i:Int)).map V.int)) from⟨?_,acc.toList,c,d,by rw[Array.toArray_toList];exact F⟩) (q _ (VG _));rw[lM,lM,List.length_range,sizeLine_eq];lia
end
end L2
namespace L2
open PySem
noncomputable def loF (x y:Int):Int:=if y < x then y else x
noncomputable def hiF (x y:Int):Int:=if y > x then y else x
noncomputable def mrg (c:Int→Int)(a b:Int):Int→Int:=λt=>if c t=hiF (c a) (c b) then loF (c a) (c b) else c t
structure Hd (N:Nat)(hd:Int→Int):Prop where
 idem:∀t,hd (hd t)=hd t
 le:∀t,hd t≤t
 rng:∀t,hd t≠t→0≤hd t∧t < (N)
def Hd.zero (N):Hd N (λt=>t):=⟨λ_=>rfl,λ_=>Int.le_refl _,λ_ h=>JbT h⟩
def lohi (x y):loF x y≤hiF x y∧((loF x y=x∧hiF x y=y)∨(loF x y=y∧hiF x y=x)):=by unfold loF hiF;split <;> split <;> lia
def Hd.in' (h:Hd N hd){a:Int}(b:0≤a∧a < (N:Int)):0≤hd a∧hd a < (N:Int):=by
 have c:=h.le a;by_cases e:hd a=a
 ·rw[e];exact b
 ·have:=h.rng a e;lia
def Hd.lo_id (h:Hd N hd)(a b):hd (Ji8 a b)=loF (hd a) (hd b):=by rcases(lohi (hd a) (hd b)).2 with ⟨e,_⟩ | ⟨e,_⟩ <;> rw[e] <;> exact h.idem _
def Hd.hi_id (h:Hd N hd)(a b):hd (hiF (hd a) (hd b))=hiF (hd a) (hd b):=by rcases(lohi (hd a) (hd b)).2 with ⟨_,e⟩ | ⟨_,e⟩ <;> rw[e] <;> exact h.idem _
def vp (e:Ji8 a b=hiF (hd a) (hd b)):mrg hd a b=hd:=by
 funext t;unfold mrg;lia
def Hd.mrg (h:Hd N hd){a b:Int}(f:0≤a∧a < (N:Int))(d:0≤b∧b < (N:Int)):Hd N (mrg hd a b):=by
 have g:=lohi (hd a) (hd b);have la:=h.in' f;have i:=h.in' d;refine⟨λt=>?_,λt=>?_,λt=>?_⟩
 ·by_cases e:Ji8 a b=hiF (hd a) (hd b)
  ·rw[vp e];exact h.idem t
  ·unfold L2.mrg;by_cases c:hd t=hiF (hd a) (hd b)
   ·rw[if_pos c,h.lo_id,if_neg e]
   ·rw[if_neg c,h.idem,if_neg c]
 ·unfold L2.mrg;have:=h.le t;split <;> lia
 ·unfold L2.mrg;intro z;by_cases c:hd t=hiF (hd a) (hd b)
  ·rw[if_pos c]at z ⊢;refine XE (by lia);by_cases w:hd t=t
   ·lia
   ·exact(h.rng t w).2
  ·rw[if_neg c]at z ⊢;exact h.rng t z
def nC:mrg hd a b t=mrg hd a b u↔hd t=hd u∨(hd t=hd a∧hd u=hd b)∨(hd t=hd b∧hd u=hd a):=by
 have g:=(lohi (hd a) (hd b)).2;unfold mrg;lia
abbrev Lk:=Int × Int × Int
noncomputable def hdL (ls:List Lk):Int→Int:=ls.foldl (λa l=>mrg a l.1 l.2.1) λt=>t
def ic (ls)(l):hdL (ls++[l])=mrg (hdL ls) l.1 l.2.1:=by unfold hdL;rw[List.foldl_append];rfl
def InN (N:Nat)(ls:List Lk):Prop:=∀l∈ls,(0≤l.1∧l.1 < (N:Int))∧0≤l.2.1∧l.2.1 < (N:Int)
def vq (h:InN N ls):∀i,i≤ls.length→Hd N (hdL (ls.take i)):=by
 intro i
 induction i with
 | zero=>exact λ_=>Hd.zero N
 | succ i b =>
  intro c;obtain⟨l,a⟩:∃l,ls[i]?=some l:=Jgp (by lia);rw[bb a,ic];have:=h l (mO a);exact(b (by lia)).mrg this.1 this.2
def vr (h:InN N ls):Hd N (hdL ls):=by have:=vq h ls.length (nRq _);rw[List.take_length]at this;exact this
def kQ {b:Type}{P:List b→Prop}(h0:P [])(f:∀xs x,P xs→P (xs++[x])):∀xs,P xs:=by
 intro xs;generalize a:xs.length=n
 induction n generalizing xs with
 | zero=>rw[List.length_eq_zero_iff.mp a];exact h0
 | succ n d =>
  have c:xs≠[]:=λe=>by rw[e]at a;cases a
  rw[←List.dropLast_concat_getLast c];refine f _ _ (d _ ?_);rw[List.length_dropLast];lia
def vt (S:Int→Prop):∀ls:List Lk,(∀l∈ls,S l.1↔S l.2.1)→∀t u,JeB t=JeB u→(S t↔S u):=by
 refine kQ ?_ ?_
 ·intro _ t u e;have i:t=u:=e;rw[i]
 ·intro ls l f h t u e;rw[ic,nC]at e;have a:=f λk g=>h k (Qc g);have d:=h l (Xb List.mem_cons_self);rcases e with e | ⟨c,b⟩ | ⟨c,b⟩
  ·exact a t u e
  ·exact(a t l.1 c).trans (d.trans (a u l.2.1 b).symm)
  ·exact(a t l.2.1 c).trans (d.symm.trans (a u l.1 b).symm)
def vu:∀ls:List Lk,∀l∈ls,JeB l.1=hdL ls l.2.1:=by
 refine kQ (λl h=>Jv h) ?_;intro ls k a l b;rw[ic,nC];rcases mPq b with z | z
 ·exact .inl (a l z)
 ·cases mSq z;exact .inr (Jh8 rfl)
def zV (h:JeB t=JeB u):hdL (ls++[l]) t=hdL (ls++[l]) u:=by rw[ic,nC];exact .inl h
def nD {ls:List Lk}{t u:Int}:∀a:List Lk,JeB t=JeB u→hdL (ls++a) t=hdL (ls++a) u:=by refine kQ (λh=>by rw[List.append_nil];exact h) ?_;intro a l b h;rw[←List.append_assoc];exact zV (b h)
def fZ:∀(n:Nat) {xs:List Int},xs.Nodup→(∀x∈xs,0≤x∧x < (n:Int))→Jha n
 | 0,[],_,_=>nRq _
 | 0,x :: xs,_,h=>by have:=Jaz x;lia
 | n+1,xs,a,h=>by
  have q:=fZ n (a.erase (n:Int)) (λx b=>by have z:=(List.Nodup.mem_erase_iff a).mp b;have:=h x z.2;have:=z.1;lia)
  rw[List.length_erase]at q;split at q <;> lia
noncomputable def dL (l:Lk):Dt:=.tup (Jbt l.1 l.2.1 l.2.2)
def has_dL (h:J9 K (dL l) v):∃p,Xy v p∧SqT K H p (Jbt l.1 l.2.1 l.2.2):=by obtain⟨a,xs,rfl,b,c⟩:=h;have e:=jb (ns:=[l.1,l.2.1,l.2.2]) c;rw[e]at b;exact Vg a b
def nF (h:X9 p (Jbt l.1 l.2.1 l.2.2)):JcO K (dL l) p:=QQ h Has.int (Je6 Has.int Has.int)
def cR:∀ls:List Lk,Jc9 (ls.map dL)
 | []=>by rfl
 | l :: ls=>by simp only[List.map_cons,bz,dL,nol,Bool.true_and];exact cR ls
def jK {K:W.Frag}{H:Hp}{ls:List Lk}{xs:List V}{i:Nat}{x:V}(h:Jdf (ls.map dL))(e:xs[i]?=some x):∃l p,ls[i]?=some l∧Jed p∧SqT K H p (Jbt l.1 l.2.1 l.2.2):=by obtain⟨d,b,a⟩:=h.get e;rw[List.getElem?_map]at b;obtain⟨l,j,g⟩:=Option.map_eq_some_iff.mp b;rw[←g]at a;obtain⟨p,f,c⟩:=has_dL a;exact⟨l,p,j,f,c⟩
def Mem (H:Hp)(kg:List (Key × V))(c:Int→Int)(d:List Addr)(x:Int)(b:List Int):Prop:=b.Nodup∧(∀t,t∈b↔c t=x)∧((Qn (Vm kg x)∧b=[x])∨∃a,Vm kg x=Ja a∧VH a (b.map V.int)∧a∉d)
structure GO (H:Hp)(C g ld gd)(N b)(hd)(av):Prop where
 h:Hd N hd
 ne:ld≠gd
 ex:∃dx kl kg,Jcr g [("least",.ref ld),("gathered",.ref gd)]∧VR ld kl∧VR gd kg∧(∀t:Int,(Vm kl t).getD (.int t)=.int (hd t))∧(∀x:Int,hd x=x→∃ms:List Int,Mem H kg hd av x ms)∧kl.length≤b * N∧kg.length≤b
def GO.same (G:Jji H C g N b)(s:Xj H):Jji H' C g N b:=by
 obtain⟨dx,kl,kg,t,r,q,p,o,n,l⟩:=G.ex;refine⟨G.h,G.ne,dx,kl,kg,s _ _ t,s _ _ r,s _ _ q,p,λx k=>?_,n,l⟩;obtain⟨e,j,i,c⟩:=o x k;refine Jkw e j i;rcases c with c | ⟨a,f,d⟩
 ·exact .inl c
 ·exact JcK a f (s _ _ d.1) d.2
def GO.mono (G:Jji H C g N b)(h:b≤b'):Jji H C g N b':=by obtain⟨dx,kl,kg,j,i,f,e,d,c,a⟩:=G.ex;exact⟨G.h,G.ne,dx,kl,kg,j,i,f,e,d,Nat.le_trans c (Nat.mul_le_mul_right _ h),Nat.le_trans a h⟩
def bq (ld gd:Addr)(H H':Hp):Prop:=∀b o,b≠ld→b≠gd→Jlr o→Vw b o
def bq.trans (a:Jfo H1)(b:Jfn H1 H2):Jfo H2:=λc o e d h=>b c o e d (a c o e d h)
def ao.g (s:Xj H):Jfo H':=λb o _ _ h=>s b o h
def ao.ofG (s:JhU H1)(d:Vn ld)(c:Vn gd)(x:Jfn H1 H2):JhU H2:=λb o a=>x b o (λe=>by rw[e,d]at a;cases a) (λe=>by rw[e,c]at a;cases a) (s b o a)
def bq.put1 (H)(o):Jfo (JiW ld):=λb u a _ h=>by rw[ai a];exact h
def bq.put2 (H)(o):Jfo (JiW gd):=λb u _ a h=>by rw[ai a];exact h
def vv (h:Hd N hd){x:Int}(g:0≤x∧x < (N:Int)){a:List Int}(b:a.Nodup)(f:∀t,t∈a↔hd t=x):a.length≤N:=by
 refine fZ N b λt d=>?_;have e:=(f t).mp d;have:=h.le t;by_cases c:hd t=t
 ·lia
 ·have:=h.rng t c;lia
def GO.merged (h:Hd N hd)(q:ld≠gd)(I:0≤a∧a < (N:Int))(G:0≤c∧c < (N:Int))(f:Ji8 a c≠hiF (hd a) (hd c)){dx:Addr}{kl kg:List (Key × V)}{p:Addr}{ml mh:List Int}
  (Q:Jcr g [("least",.ref ld),("gathered",.ref gd)])(P:VR ld kl)(O:VR gd (Jam kg (Ji8 a c) (.ref p)))(M:∀t:Int,(Vm kl t).getD (.int t)=.int (if t∈mh then Ji8 a c else hd t))
  (L:∀x:Int,hd x=x→∃i:List Int,Mem H kg hd av x i)(l1:ml.Nodup)(l2:∀t,t∈ml↔hd t=Ji8 a c)(B:mh.Nodup)(k2:∀t,t∈mh↔hd t=hiF (hd a) (hd c))(F:VH p ((ml++mh).map V.int))(K:kl.length≤b * N)(J:kg.length+1≤b)(j:p∉av):Jjh H C g N b (mrg hd a c):=by
 refine⟨h.mrg I G,q,dx,kl,_,Q,P,O,λt=>?_,λx d=>?_,K,Nat.le_trans (kJ _ _ _) J⟩
 ·rw[M];unfold mrg;by_cases z:hd t=hiF (hd a) (hd c)
  ·rw[if_pos ((k2 t).mpr z),if_pos z]
  ·rw[if_neg (λw=>z ((k2 t).mp w)),if_neg z]
 ·by_cases z:x=loF (hd a) (hd c)
  ·subst z;refine⟨ml++mh,VT l1 B (λu E v D e=>?_),λt=>?_,JcK p (by rw[gM,if_pos rfl]) F j⟩
   ·subst e;have o:=(l2 u).mp E;have n:=(k2 u).mp D;exact f (o.symm.trans n)
   ·rw[List.mem_append,l2,k2];unfold mrg;lia
  ·have k:hd x≠hiF (hd a) (hd c):=λw=>by unfold mrg at d;rw[if_pos w]at d;exact z d.symm
   have l:hd x=x:=by unfold mrg at d;rw[if_neg k]at d;exact d
   obtain⟨i,A,s,r⟩:=L x l;refine Jkw i A (λt=>?_)
   ·rw[s];unfold mrg;lia
   ·rw[gM,if_neg (λy=>z (by injection y))];exact r
def GO.avoid (G:Jji H C g N b)(n:Vn l):Jjg H C g N b hd (l :: av):=by
 obtain⟨dx,kl,kg,v,u,t,s,r,q,p⟩:=G.ex;refine⟨G.h,G.ne,dx,kl,kg,v,u,t,s,λx o=>?_,q,p⟩;obtain⟨e,k,j,d⟩:=r x o;refine Jkw e k j;rcases d with d | ⟨a,i,c,f⟩
 ·exact .inl d
 ·exact .inr ⟨a,i,c,λz=>by
   rcases List.mem_cons.mp z with z | z
   ·rw[z,n]at c;cases c
   ·exact f z⟩
def GO.sub (G:Jji H C g N b)(h:∀a∈av',a∈av):Jjg H C g N b hd av':=by
 obtain⟨dx,kl,kg,t,s,r,q,p,o,n⟩:=G.ex;refine⟨G.h,G.ne,dx,kl,kg,t,s,r,q,λx l=>?_,o,n⟩;obtain⟨d,k,j,c⟩:=p x l;refine Jkw d k j;rcases c with c | ⟨a,i,f,e⟩
 ·exact .inl c
 ·exact JcK a i f (λz=>e (h a z))
def GO.put (G:Jji H C g N b)(c:l∈av∨∀xs,H l≠Jj6 xs)(j:l≠g)(n:l≠ld)(k:l≠gd):Jji (JiW l) C g N b:=by
 obtain⟨dx,kl,kg,B,A,z,y,w,v,u⟩:=G.ex;refine⟨G.h,G.ne,dx,kl,kg,by rw[JaI j];exact B,by rw[JaI n];exact A,by rw[JaI k];exact z,y,λx t=>?_,v,u⟩;obtain⟨p,s,r,d⟩:=w x t;refine Jkw p s r;rcases d with d | ⟨a,q,i,f⟩
 ·exact .inl d
 ·refine JcK a q ?_ f;rw[ai (λe=>by
   rcases c with c | c
   ·exact f (e ▸ c)
   ·exact c _ (e ▸ i))]
  exact i
def Kd (H:Hp)(d:Addr)(F:List Int):Prop:=∃kvs:List (Key × V),Jdp d∧kvs.map (·.1)=F.map Sum.inl
def jL {kvs:List (Key × V)}{F:List Int}(h:kvs.map (·.1)=F.map Sum.inl)(n):(JdE n).isSome=decide (n∈F):=by
 rw[←gL,Bool.eq_iff_iff,List.any_eq_true,decide_eq_true_iff];constructor
 ·rintro ⟨a,d,c⟩;have e:=oDq c;have m:a.1∈F.map Sum.inl:=by rw[←h];exact Jho a d
  obtain⟨k,g,b⟩:=List.mem_map.mp m;lia
 ·intro f;have m:(Sum.inl n:Key)∈kvs.map (·.1):=by rw[h];exact Jho n f
  obtain⟨a,d,c⟩:=List.mem_map.mp m;exact⟨a,d,dTq c⟩
noncomputable def addK (F:List Int)(n:Int):List Int:=if n∈F then F else F++[n]
def vw {kvs:List (Key × V)}{F:List Int}(h:kvs.map (·.1)=F.map Sum.inl)(n)(v):(Jam kvs n v).map (·.1)=(addK F n).map Sum.inl:=by
 unfold aV addK;by_cases c:n∈F
 ·have a:Qu (kvs.any λb=>decide (JcD b.1 n)):=by rw[gL,jL h];lia
  rw[if_pos a,if_pos c,List.map_map,←h];apply List.map_congr_left;lia
 ·have a:¬Qu (kvs.any λb=>decide (JcD b.1 n)):=by rw[gL,jL h,dFq c];lia
  rw[if_neg a,if_neg c,mAq,mAq,h];rfl
def vz {kvs:List (Key × V)}{F:List Int}(h:kvs.map (·.1)=F.map Sum.inl):kvs.length=F.length:=by have:=Jad h;rw[lM,lM]at this;lia
def zW {kvs:List (Key × V)}{F:List Int}(h:kvs.map (·.1)=F.map Sum.inl):(kvs.map λa=>kV a.1)=F.map V.int:=by
 have e:(kvs.map λa=>kV a.1)=(kvs.map (·.1)).map kV:=by rw[List.map_map];rfl
 rw[e,h,List.map_map];rfl
def Kd.same (h:Kd H d F)(s:Xj H):Kd H' d F:=by obtain⟨kvs,b,a⟩:=h;exact⟨kvs,s _ _ b,a⟩
structure RS (ls)(N:Nat)(s)(F:List Int):Prop where
 nd:F.Nodup
 st:s∈F
 inn:∀u∈F,(0≤u∧u < (N:Int))∧JeB u=JeB s
def RS.len (h:RS ls N s F):F.length≤N:=fZ N h.nd λx a=>(h.inn x a).1
def zX {ls:List Lk}{n:Nat}{k:Int}(f:Int→Int)(h0:0≤k)(a:k < (n:Int)):atI (((List.range n).map λi:Nat=>f (i:Int)).map V.int) k=some (.int (f k)):=by
 have e:k=(k.toNat:Int):=by lia
 have:=uG (ns:=(List.range n).map λi:Nat=>f (i:Int)) (i:=k.toNat) (by rw[List.getElem?_map,List.getElem?_range (by lia)];rfl)
 lia
noncomputable def hldP (v:Int→Bool)(p:Int):Bool:=if 0 < p then v p else !v (-p)
def zY (h:p≠0):hldP v (-p)=!hldP v p:=by
 unfold hldP;lia
def SatR (v:Int→Bool)(r:List Int):Prop:=∃p∈r,Qu (hldP v p)
def ie (v:Int→Bool)(rs:JB Int):Prop:=∀r∈rs,SatR v r
def nH (h0:0≤f)(a:f < (rs.length:Int)):aO rs f∈rs:=by have:=kL h0 a;exact mO this
def zZ (d:TOk rs ts)(g:eU rs ts f){v:Int→Bool}(h:ie v rs):∀i,Jhf i→SatR v (XI rs f i).1:=by
 intro i
 induction i with
 | zero=>exact λ_=>h _ (nH g.f0 g.f1)
 | succ i s =>
  intro B;obtain⟨q,n,b⟩:=s (by lia);have l:ts.reverse[i]?=some (ts[ts.length - 1 - i]'(by lia)):=by rw[jI (by lia)];exact gG _
  generalize u:ts[ts.length - 1 - i]'(by lia)=t at l;have j:t∈ts:=by rw[←u];exact List.getElem_mem _
  rw[jG l];unfold fm;by_cases c:JlH ts (XI rs f i).1 ts (-t.1) t.2
  ·rw[if_pos c];by_cases e:q=-t.1
   ·have y:=(kN c).2.1;have w:=g.why t j y;obtain⟨p,x,a⟩:=h _ (nH w.1 w.2.1);have r:p≠t.1:=λz=>by obtain⟨k,A⟩:=List.getElem?_of_mem j;have o:=(d _ _ A).1;rw[e,zY o,←z,a]at b;cases b
    exact⟨p,Xb (Jhp x r),a⟩
   ·exact⟨q,Qc (Jhp n e),b⟩
  ·rw[if_neg c];exact⟨q,n,b⟩
def vA (a:TOk rs ts)(b:eU rs ts f){v:Int→Bool}(h:ie v rs):SatR v (Jcc rs f):=by obtain⟨q,c,d⟩:=zZ a b h _ (nRq _);refine⟨q,?_,d⟩;exact Jhp (List.mem_reverse.mpr (nj b _ q c)) c
noncomputable def wgt (n:Nat):Nat→List (Int × Int)→Nat
 | _,[]=>0
 | i,t :: r=>(if t.2=-1 then 1 else 2 ^ (n - i))+Jce (i+1) r
def kR (n):∀b c i,Jce i (b++c)=Jce i b+Jce (i+b.length) c
 | [],c,i=>by simp [wgt]
 | a :: b,c,i=>by show _+Jce (i+1) (b++c)=_+Jce (i+1) b+_;rw[kR n b c (i+1),List.length_cons,show i+1+b.length=i+(b.length+1) by lia];lia
def kT (n):∀b i,i+b.length≤n→Jce i b+2≤2 ^ (n - i+1)
 | [],i,h=>by have:1≤2 ^ (n - i):=Nat.one_le_two_pow;show 0+2≤_;rw[Nat.pow_succ];lia
 | a :: b,i,h=>by
  rw[List.length_cons]at h;have c:=kT n b (i+1) (by lia);have e:n - (i+1)+1=n - i:=by lia
  rw[e]at c;have:1≤2 ^ (n - i):=Nat.one_le_two_pow;show(if a.2=-1 then 1 else 2 ^ (n - i))+Jce (i+1) b+2≤_
  rw[Nat.pow_succ];split <;> lia
def z_ (n)(ts)(t):Jeg ts < wgt n 0 (ts++[t]):=by
 have:1≤2 ^ (n - ts.length):=Nat.one_le_two_pow;rw[kR,Nat.zero_add];show _ < _+((if t.2=-1 then 1 else 2 ^ (n - ts.length))+0)
 split <;> lia
def Aa (i:Jcj n)(h:ts[j]?=some t)(d:t.2=-1)(f:k≠-1):Jeg ts < wgt n 0 (ts.take j++[(p,k)]):=by
 have b:=(gEq h).1;have e:ts=ts.take j++t :: ts.drop (j+1):=by
  have:=List.take_append_drop j ts;rw[List.drop_eq_getElem_cons b]at this;have g:ts[j]=t:=by have:=gG b;rw[h]at this;injection this with this;exact this.symm
  rw[g]at this;exact this.symm
 have a:(ts.take j).length=j:=by rw[List.length_take];lia
 have l1:Jeg ts=Jeg (ts.take j)+(1+Jce (j+1) (ts.drop (j+1))):=by
  conv=>lhs;rw[e]
  rw[kR,a,Nat.zero_add];show _+((if t.2=-1 then 1 else _)+_)=_
  rw[if_pos d]
 have l2:Jeg (ts.take j++[(p,k)])=Jeg (ts.take j)+2 ^ (n - j):=by
  rw[kR,a,Nat.zero_add];show _+((if k=-1 then 1 else _)+0)=_
  rw[if_neg f];rfl
 have c:=kT n (ts.drop (j+1)) (j+1) (by rw[List.length_drop];lia);rw[show n - (j+1)+1=n - j by lia]at c;lia
noncomputable def bsF:Nat→List (Int × Int)→List Int
 | _,[]=>[]
 | i,t :: r=>if t.2=-1 then(i:Int) :: bsF (i+1) r else bsF (i+1) r
def pU:∀b c i,bsF i (b++c)=bsF i b++bsF (i+b.length) c
 | [],c,i=>rfl
 | a :: b,c,i=>by
  have d:=pU b c (i+1);rw[show i+1+b.length=i+(a :: b).length by rw[List.length_cons];lia]at d;show(if a.2=-1 then(i:Int) :: bsF (i+1) (b++c) else bsF (i+1) (b++c))=(if a.2=-1 then(i:Int) :: bsF (i+1) b else bsF (i+1) b)++_
  split <;> rw[d] <;> rfl
def nI (ts)(t):bsF 0 (ts++[t])=if t.2=-1 then bsF 0 ts++[(ts.length:Int)] else bsF 0 ts:=by
 rw[pU,Nat.zero_add];show bsF 0 ts++(if t.2=-1 then(ts.length:Int) :: [] else [])=_
 split
 ·rfl
 ·rw[List.append_nil]
def nJ:∀ts:List (Int × Int),((bsF 0 ts).length:Int)=cnt ts:=by
 refine kQ rfl ?_;intro ts t a;rw[nI,fX];have e:cnt [t]=if t.2=-1 then 1 else 0:=by show cN t+0=_;unfold cN;rw[Int.add_zero]
 rw[e];split
 ·rw[lAq];show((_+1:Nat):Int)=_;lia
 ·lia
def Ab:∀ts:List (Int × Int),bsF 0 ts≠[]→∃j t,ts[j]?=some t∧t.2=-1∧bsF 0 ts=bsF 0 (ts.take j)++[(j:Int)]∧XB j+1=cnt ts:=by
 refine kQ (λh=>JbT h) ?_;intro ts t b h;rw[nI]at h ⊢;by_cases c:t.2=-1
 ·rw[if_pos c];refine⟨ts.length,t,by rw[List.getElem?_append_right (nRq _),Nat.sub_self];rfl,c,?_,?_⟩
  ·rw[JbH _,List.take_length]
  ·rw[JbH _,List.take_length,fX];show _=_+(cN t+0);unfold cN;rw[if_pos c,Int.add_zero]
 ·rw[if_neg c]at h ⊢;obtain⟨j,u,a,g,f,e⟩:=b h;have d:=(gEq a).1;refine⟨j,u,by rw[List.getElem?_append_left d];exact a,g,?_,?_⟩
  ·rw[List.take_append_of_le_length (by lia)];exact f
  ·rw[List.take_append_of_le_length (by lia),fX,e];show _=_+(cN t+0);unfold cN;rw[if_neg c,Int.add_zero,Int.add_zero]
structure HS where
 rs:JB Int
 pp:List Dt
 ts:List (Int × Int)
 lk:Nat
 bs:List Int
 wt:Int→Option (Int × Int)
 wg:Int→List Int
 od:List Int
 la:Int→Option Int
abbrev HS.hs (S:HS):List Int:=S.ts.map Prod.fst
noncomputable def HS.hold (S:HS)(p y:Int):HS:={ S with ts:=S.ts++[(p,y)] }
noncomputable def HS.setW (S:HS)(r a b:Int):HS:={ S with wt:=λx=>if x=r then some (a,b) else S.wt x }
noncomputable def HS.addG (S:HS)(c r:Int):HS:={ S with wg:=λx=>if x=c then S.wg x++[r] else S.wg x }
noncomputable def HS.setG (S:HS)(c:Int)(ns:List Int):HS:={ S with wg:=λx=>if x=c then ns else S.wg x }
noncomputable def HS.watch (S:HS)(r a b:Int):HS:=((Jjj a b).addG a r).addG b r
noncomputable def eV (a:List Int)(o:Int)(hs:List Int):Option Int:=a.find? λq=>decide (q≠o)&&decide (-q∉hs)
def Ac (h:Xa (eV row o hs) q):q∈row∧q≠o∧-q∉hs:=by have b:=List.mem_of_find?_eq_some h;have a:=List.find?_some h;lia
def vB (h:Qn (eV row o hs))(b:q∈row)(a:q≠o):-q∈hs:=by have:=List.find?_eq_none.mp h q b;lia
noncomputable def bo (S:HS)(c r:Int):Int:=let p:=(S.wt r).getD (0,0);if p.1=c then p.2 else p.1
abbrev LkS:=HS × List Int × Option Int
noncomputable def stepK (c:Int)(st:LkS)(r:Int):LkS :=
 if Jf_ st.1∈st.1.hs then(st.1,st.2.1++[r],st.2.2)
 else match eV (aO st.1.rs r) (Jf_ st.1) st.1.hs with
  | some q=>((st.1.setW r (Jf_ st.1) q).addG q r,st.2.1,st.2.2)
  | none=>if -(Jf_ st.1)∈st.1.hs then(st.1,st.2.1++[r],some r) else(st.1.hold (Jf_ st.1) r,st.2.1++[r],st.2.2)
noncomputable def da (S:HS)(c:Int)(i:Nat):LkS:=((S.wg c).take i).foldl (stepK c) (S,[],none)
def vC (h:(S.wg c)[i]?=some r):da S c (i+1)=stepK c (da S c i) r:=by unfold da;rw[bb h,List.foldl_append];rfl
def Wp (ts:List (Int × Int))(k:Nat)(a b:Int):Prop:=∀i t,i < k→ts[i]?=some t→t.1=-a→∃j u,ts[j]?=some u∧u.1=b∧XB (j+1)≤XB (i+1)
structure WOk (S:HS)(g:Int→List Int)(k):Prop where
 has:∀(r:Nat) (row),S.rs[r]?=some row→2≤row.length→∃a b,Jcl r (a,b)
 is:∀(r a b),Jcl r (a,b)→a∈Jdb r∧b∈Jdb r∧a≠b∧0≤r∧r < (S.rs.length:Int)
 gw:∀r c,r∈g c↔∃a b,Jcl r (a,b)∧(c=a∨c=b)
 nd:∀c,(g c).Nodup
 wp:∀r a b,Jcl r (a,b)→Wp S.ts k a b∧Wp S.ts k b a
 one:∀a,[a]∈S.rs→∃(j:Nat) (u:Int × Int),S.ts[j]?=some u∧u.1=a∧V8 (j+1)=0
 nil:[]∉S.rs
def eF {ts es:List (Int × Int)}{i:Nat}{t:Int × Int}(h:ts[i]?=some t):(ts++es)[i]?=some t∧cnt ((ts++es).take (i+1))=cnt (ts.take (i+1)):=by have a:=(gEq h).1;exact⟨by rw[List.getElem?_append_left a];exact h,by rw[List.take_append_of_le_length (by lia)]⟩
def Wp.more {ts:List (Int × Int)}{k:Nat}{a b:Int}(h:Wp ts k a b)(n:Jhf k)(es):Wp (ts++es) k a b:=by intro i t f c e;rw[List.getElem?_append_left (by lia)]at c;obtain⟨j,u,d,l,g⟩:=h i t f c e;refine⟨j,u,(eF d).1,l,?_⟩;rw[(eF d).2,(eF c).2];exact g
def iG {ts:List (Int × Int)}{p:Int}(h:p∈ts.map Prod.fst):∃(i:Nat) (t:Int × Int),ts[i]?=some t∧t.1=p:=by obtain⟨t,c,b⟩:=List.mem_map.mp h;obtain⟨i,a⟩:=List.getElem?_of_mem c;exact⟨i,t,a,b⟩
def fu {ts:List (Int × Int)}{i:Nat}{t:Int × Int}(h:ts[i]?=some t):t.1∈ts.map Prod.fst:=Jho t (mO h)
structure LkI (n k)(c)(S0:HS)(L:List Int)(i)(st:LkS):Prop where
 rs:st.1.rs=S0.rs
 eq:st.1.pp=S0.pp∧st.1.lk=S0.lk∧st.1.bs=S0.bs∧st.1.od=S0.od∧st.1.la=S0.la
 ex:∃es,st.1.ts=S0.ts++es∧∀t∈es,t.2≠-1
 tok:TOk st.1.rs st.1.ts
 rng:∀t∈st.1.ts,t.1.natAbs≤n
 w:WOk st.1 (λx=>if x=c then st.2.1++L.drop i else st.1.wg x) k
 wc:st.1.wg c=L
 ol:Qn st.2.2→∀r∈st.2.1,∃a b,Xa (st.1.wt r) (a,b)∧((a=c∧b∈st.1.hs)∨(b=c∧a∈st.1.hs))
 fl:∀f,Xa st.2.2 f→0≤f∧f < (S0.rs.length:Int)∧c∈aO S0.rs f∧∀p∈aO S0.rs f,-p∈st.1.hs
def vD (W:WOk S g k){c r:Int}(h:r∈g c):(Jcl r (c,Jf_ S)∨Jcl r (Jf_ S,c))∧Jf_ S≠c∧Jf_ S∈Jdb r∧c∈Jdb r∧0≤r∧r < (S.rs.length:Int):=by
 obtain⟨a,b,e,f⟩:=(W.gw r c).mp h;have d:=W.is r a b e;unfold bo;rw[e];show(Xa (some (a,b)) (c,if a=c then b else a)∨Xa (some (a,b)) (if a=c then b else a,c))∧(if a=c then b else a)≠c∧(if a=c then b else a)∈_∧_
 lia
def jg (h:∀t∈es,t.2≠-1):cnt es=0:=vm (Rs:=[]) (hs:=[]) h
def mid_nd (h:(as++x :: bs).Nodup):x∉as++bs∧(as++bs).Nodup:=by have a:=(List.perm_middle.nodup_iff).mp h;exact List.nodup_cons.mp a
def LkI.step (I:LkI n k c S0 L i st){r:Int}(hr:L[i]?=some r)(hk:k≤S0.ts.length)(hc:-c∈S0.hs)(n60:n≤60)
  (hrow:∀W∈S0.rs,∀p∈W,p≠0∧Jfp n):LkI n k c S0 L (i+1) (stepK c st r):=by
 obtain⟨S,o,fl⟩:=st;have hi:=(gEq hr).1;have ed:L.drop i=r :: L.drop (i+1):=by rw[List.drop_eq_getElem_cons hi];have:=gG hi;rw[hr]at this;injection this with this;rw[this]
 obtain⟨C,M,⟨es,K,Q⟩,s,w,g,H,O,P⟩:=I;have T:=C;have J:=K;have hk':k≤S.ts.length:=by rw[J,lAq];lia
 have hc':-c∈S.hs:=by show -c∈S.ts.map Prod.fst;rw[J,mAq];exact List.mem_append_left _ hc
 have hrc:r∈(λx=>if x=c then o++L.drop i else S.wg x) c:=by
  show r∈if c=c then o++L.drop i else S.wg c
  rw[if_pos rfl,ed];exact Xb List.mem_cons_self
 obtain⟨ow,oc,E,crow,r0,r1⟩:=vD g hrc;have gE:(λx=>if x=c then o++L.drop i else S.wg x)=λx=>if x=c then(o++[r])++L.drop (i+1) else S.wg x:=by funext x;rw[ed,List.append_assoc];rfl
 have hol:∀d∈o++[r],d∈o∨d=r:=λd h=>(mPq h).imp id mSq;have wE:∃a b,Jcl r (a,b)∧((a=c∧b=Jf_ S)∨(b=c∧a=Jf_ S)):=ow.elim (λz=>⟨_,_,z,Jh8 rfl⟩) λz=>⟨_,_,z,Jkj rfl⟩;show LkI n k c S0 L (i+1) (if Jf_ S∈S.hs then(S,o++[r],fl) else _)
 by_cases c1:Jf_ S∈S.hs
 ·rw[if_pos c1];refine⟨C,M,⟨es,K,Q⟩,s,w,gE ▸ g,H,λY d h'=>?_,P⟩;rcases hol d h' with z | rfl
  ·exact O Y d z
  ·obtain⟨a,b,v,y⟩:=wE;exact⟨a,b,v,y.imp (λ z=>⟨z.1,by rw[z.2];exact c1⟩) λ z=>⟨z.1,by rw[z.2];exact c1⟩⟩
 rw[if_neg c1];show LkI n k c S0 L (i+1) (match eV (Jdb r) (Jf_ S) S.hs with | some q=>((Jjj (Jf_ S) q).addG q r,o,fl) | none=>if -(Jf_ S)∈S.hs then(S,o++[r],some r) else(Jkt S r,o++[r],fl))
 cases hf:eV (Jdb r) (Jf_ S) S.hs with
 | some q =>
  obtain⟨q1,q2,q3⟩:=Ac hf;have qc:q≠c:=λz=>q3 (z ▸ hc');have ndc:=g.nd c;have R:(o++L.drop i).Nodup:=by
   lia
  rw[ed]at R;have md:=mid_nd R;have wtE:∀x a b,((Jjj (Jf_ S) q).addG q r).wt x=some (a,b)→(x=r∧a=Jf_ S∧b=q)∨(x≠r∧Jcl x (a,b)):=λx a b h=>by
   have h':(if x=r then some (Jf_ S,q) else S.wt x)=some (a,b):=h
   lia
  have U:∀x,x≠r→((Jjj (Jf_ S) q).addG q r).wt x=S.wt x:=λx e=>if_neg e;have wtR:((Jjj (Jf_ S) q).addG q r).wt r=some (Jf_ S,q):=if_pos rfl;have old:∀x,x≠c→(r∈S.wg x↔x=Jf_ S):=λx hx=>by
   have:=g.gw r x;have this:=this
   rw[if_neg hx]at this;rw[this];obtain⟨a,b,v,y⟩:=wE;constructor
   ·lia
   ·intro e;refine Jkw a b v;lia
  refine⟨C,M,⟨es,K,Q⟩,s,w,⟨λx W hx hl=>?_,λx a b h=>?_,λd x=>?_,λx=>?_,λx a b h=>?_,g.one,g.nil⟩,?_,λY d h'=>?_,P⟩
  ·by_cases e:(x:Int)=r
   ·rw[e];exact Jlc _ wtR
   ·rw[U _ e];exact g.has x W hx hl
  ·rcases wtE x a b h with ⟨rfl,rfl,rfl⟩ | ⟨_,h⟩
   ·exact⟨E,q1,Ne.symm q2,r0,r1⟩
   ·exact g.is x a b h
  ·show(d∈if x=c then o++L.drop (i+1) else if x=q then S.wg x++[r] else S.wg x)↔_
   by_cases e:d=r
   ·subst e;have rhs:(∃a b,((S.setW d (Jf9 S d) q).addG q d).wt d=some (a,b)∧(x=a∨x=b))↔(x=Jf9 S d∨x=q):=by
     rw[wtR];lia
    rw[rhs];by_cases B:x=c
    ·lia
    ·rw[if_neg B];by_cases G:x=q
     ·rw[if_pos G];exact⟨λ_=>.inr G,λ_=>Xb List.mem_cons_self⟩
     ·rw[if_neg G,old x B];exact⟨.inl,λh=>h.elim id λz=>Jd5 G⟩
   ·rw[U _ e];have:=g.gw d x;rw[←this];show _↔(d∈if x=c then o++L.drop i else S.wg x)
    by_cases B:x=c
    ·rw[if_pos B,if_pos B,ed,List.mem_append,List.mem_append,List.mem_cons];lia
    ·rw[if_neg B,if_neg B];by_cases G:x=q
     ·rw[if_pos G,List.mem_append,List.mem_singleton];exact⟨λh=>h.elim id λz=>Jd5 e,.inl⟩
     ·rw[if_neg G]
  ·show(if x=c then o++L.drop (i+1) else if x=q then S.wg x++[r] else S.wg x).Nodup
   by_cases B:x=c
   ·rw[if_pos B];exact md.2
   ·rw[if_neg B];have nx:=g.nd x;have nx:=nx
    rw[if_neg B]at nx;by_cases G:x=q
    ·rw[if_pos G];refine JkQ nx (λa ha b hb e=>?_);have hb:=mSq hb;rw[e,hb]at ha;exact q2 (G.symm.trans ((old x B).mp ha))
    ·rw[if_neg G];exact nx
  ·rcases wtE x a b h with ⟨rfl,rfl,rfl⟩ | ⟨_,h⟩
   ·refine⟨λj t hj A e=>?_,λj t hj A e=>?_⟩
    ·have wpc:=ow.elim (λz=>(g.wp _ _ _ z).2) λz=>(g.wp _ _ _ z).1;obtain⟨l,u,v,y,_⟩:=wpc j t hj A e;exact absurd (s.cons (y ▸ fu v) hc') id
    ·exact absurd (e ▸ fu A) q3
   ·exact g.wp x a b h
  ·show(if c=q then S.wg c++[r] else S.wg c)=L
   rw[if_neg (Ne.symm qc)];exact H
  ·have hne:d≠r:=λe=>md.1 (Qc (e ▸ h'));obtain⟨a,b,v,y⟩:=O Y d h';exact⟨a,b,(U _ hne).trans v,y⟩
 | none =>
  by_cases c2:-(Jf_ S)∈S.hs
  ·rw[if_pos c2];refine⟨C,M,⟨es,K,Q⟩,s,w,gE ▸ g,H,λY=>?_,λf F=>?_⟩
   ·cases Y
   ·injection F with F;subst F;rw[←T];refine⟨r0,r1,crow,λp hp=>?_⟩;by_cases e:p=bo S c r
    ·rw[e];exact c2
    ·exact vB hf hp e
  ·rw[if_neg c2];have hro:=hrow _ (T ▸ nH r0 r1) _ E;have X:(Jkt S r).hs=S.hs++[Jf_ S]:=by show(S.ts++[(Jf_ S,r)]).map Prod.fst=_;rw[mAq];rfl
   refine⟨C,M,⟨es++[(Jf_ S,r)],?_,λt A=>?_⟩,?_,λt A=>?_,?_,H,λY d h'=>?_,λf F=>?_⟩
   ·show S.ts++[(Jf_ S,r)]=S0.ts++(es++[(Jf_ S,r)]);rw[J,List.append_assoc]
   ·rcases mPq A with A | A
    ·exact Q t A
    ·rw[mSq A];lia
   ·refine TOk.snoc s hro.1 (by lia) c1 c2 (.inr ⟨r.toNat,Jdb r,?_,kL r0 r1,E,λp hp ne=>vB hf hp ne⟩);lia
   ·rcases mPq A with A | A
    ·exact w t A
    ·rw[mSq A];exact hro.2
   ·refine⟨g.has,g.is,?_,?_,λx a b h=>⟨(g.wp x a b h).1.more hk' _,(g.wp x a b h).2.more hk' _⟩,λa h=>?_,g.nil⟩
    ·exact(gE ▸ g:WOk S (λx=>if x=c then(o++[r])++L.drop (i+1) else S.wg x) k).gw
    ·exact(gE ▸ g:WOk S (λx=>if x=c then(o++[r])++L.drop (i+1) else S.wg x) k).nd
    ·obtain⟨j,u,v,y,N⟩:=g.one a h;exact⟨j,u,(eF v).1,y,(eF v).2.trans N⟩
   ·rcases hol d h' with z | rfl
    ·obtain⟨a,b,v,y⟩:=O Y d z;refine Jkw a b v;show(a=c∧b∈(Jkt S r).hs)∨(b=c∧a∈(Jkt S r).hs);rw[X];exact y.imp (λz=>⟨z.1,Qc z.2⟩) λz=>⟨z.1,Qc z.2⟩
    ·obtain⟨a,b,v,y⟩:=wE;refine Jkw a b v;show(a=c∧b∈(S.hold (Jf9 S d) d).hs)∨(b=c∧a∈(S.hold (Jf9 S d) d).hs);rw[X];exact y.imp (λ z=>⟨z.1,by rw[z.2];exact Xb List.mem_cons_self⟩) λ z=>⟨z.1,by rw[z.2];exact Xb List.mem_cons_self⟩
   ·have:=P f F;refine⟨this.1,this.2.1,this.2.2.1,λp hp=>?_⟩;rw[X];exact Qc (this.2.2.2 p hp)
def SatE (E:List Int→Prop)(v:Int→Bool):Prop:=∀r,E r→SatR v r
def CF (E:List Int→Prop)(ts:List (Int × Int)):Prop:=∀j t,ts[j]?=some t→t.2=-1→∀r,E r→∃p∈r,-p∉(ts.take j).map Prod.fst
def CF.more (h:CF E ts)(d:∀t∈es,t.2≠-1):CF E (ts++es):=λj t a b=>by
 rcases Nat.lt_or_ge j ts.length with c | c
 ·rw[List.getElem?_append_left c]at a;rw[List.take_append_of_le_length (by lia)];exact h j t a b
 ·rw[List.getElem?_append_right c]at a;exact absurd b (d t (mO a))
def CF.take (h:CF E ts)(m):CF E (ts.take m):=λj t a b=>by
 rw[List.getElem?_take]at a;split at a
 ·rw[List.take_take,Nat.min_eq_left (by lia)];exact h j t a b
 ·cases a
noncomputable def putW (r:Int)(lat:List Int)(c:Int→Option (Int × Int)):Int→Option (Int × Int):=match lat with
 | a :: b :: _=>λx=>if x=r then some (a,b) else c x
 | _=>c
noncomputable def putG (r:Int)(lat:List Int)(wg:Int→List Int):Int→List Int:=match lat with
 | a :: b :: _=>λx=>if x=b then(if x=a then wg x++[r] else wg x)++[r] else if x=a then wg x++[r] else wg x
 | _=>wg
noncomputable def HS.put (S:HS)(l:Dt)(ps lat:List Int):HS:={ S with rs:=S.rs++[ps],pp:=S.pp++[l],wt:=putW (S.rs.length:Int) lat S.wt,wg:=putG (S.rs.length:Int) lat S.wg }
inductive pV (S0)(f):HS→Prop
 | same:pV S0 f S0
 | put (l) (ps):f=(S0.rs.length:Int)→ps.Nodup→pV S0 f (S0.put l ps ((negs S0.ts).reverse.filter λp=>decide (p∈ps)))
structure HB (n)(B)(E)(S:HS):Prop where
 tok:TOk S.rs S.ts
 rng:∀t∈S.ts,t.1.natAbs≤n
 row:∀r∈S.rs,r.Nodup∧∀p∈r,p≠0∧Jfp n
 snd:∀v,SatE E v→ie v B→ie v S.rs
 sub:∀r∈B,r∈S.rs
 len:S.rs.length=B.length+S.pp.length
 bs:S.bs=bsF 0 S.ts
 od:∀a:Int,a∈S.od↔1≤a∧a≤n
 odn:S.od.Nodup
 la:∀a x,Xa (S.la a) x→x=a∨x=-a
 cf:CF E S.ts
structure cO (n)(B)(E)(S):Prop where
 b:HB n B E S
 w:WOk S S.wg S.lk
 lk:S.lk≤S.ts.length
 lv:∀i,S.lk≤i→Jel i→V8 (i+1)=cnt S.ts
structure eG (n)(B)(E)(S)(f):Prop where
 b:HB n B E S
 ln:eU S.rs S.ts f
 last:1≤cnt S.ts→∃q∈Jdb f,lvF S.ts q=cnt S.ts
 w:1≤cnt S.ts→∃S0 k,WOk S0 S0.wg k∧(∀i,Jel i→V8 (i+1) < cnt S.ts→i < k)∧pV S0 f S
structure eW (S S':HS):Prop where
 rs:S'.rs=S.rs
 pp:S'.pp=S.pp
 ts:∃es,S'.ts=S.ts++es∧∀t∈es,t.2≠-1
def eW.refl (S):eW S S:=⟨rfl,rfl,[],by rw[List.append_nil],λ_ h=>nomatch h⟩
def eW.trans (a:eW S T)(b:eW T U):eW S U:=by obtain⟨es,g,f⟩:=a.ts;obtain⟨h,e,d⟩:=b.ts;exact⟨b.rs.trans a.rs,b.pp.trans a.pp,es++h,by rw[e,g,List.append_assoc],λt c=>(mPq c).elim (f t) (d t)⟩
def eW.wgt (a:eW S T)(n):Jeg S.ts≤wgt n 0 T.ts:=by obtain⟨es,b,_⟩:=a.ts;rw[b,kR];lia
def HB.tlen (h:HB n B E S):JjS n:=by
 have l:=h.tok.atoms;have d:=pQ n (xs:=S.ts.map λt=>t.1.natAbs - 1) ?_ ?_
 ·rw[lM]at d;exact d
 ·rw[show(S.ts.map λt=>t.1.natAbs - 1)=(S.ts.map λt=>t.1.natAbs).map (· - 1) by rw[List.map_map];rfl];refine List.pairwise_map.mpr (l.imp_of_mem λ{x y} b f e z=>e ?_);obtain⟨t,a,rfl⟩:=List.mem_map.mp b;obtain⟨u,g,rfl⟩:=List.mem_map.mp f;obtain⟨i,c⟩:=List.getElem?_of_mem a;obtain⟨j,k⟩:=List.getElem?_of_mem g;have:=(h.tok _ _ c).1;have:=(h.tok _ _ k).1;lia
 ·intro x b;obtain⟨t,a,rfl⟩:=List.mem_map.mp b;obtain⟨i,c⟩:=List.getElem?_of_mem a;have:=(h.tok _ _ c).1;have:=h.rng t a;lia
def HB.rlen (h:HB n B E S)(b:n≤40):∀r∈S.rs,JjP 100:=λr a=>by
 have f:=fZ 81 (xs:=r.map λp=>p+40) ?_ ?_
 ·rw[lM]at f;lia
 ·refine List.pairwise_map.mpr ((h.row r a).1.imp λ{x y} e z=>e (by lia))
 ·intro x c;obtain⟨p,d,rfl⟩:=List.mem_map.mp c;have:=((h.row r a).2 p d).2;lia
def pW:∀es i,(∀t∈es,t.2≠-1)→bsF i es=[]
 | [],_,_=>rfl
 | e :: es,i,h=>by
  show(if e.2=-1 then _ else bsF (i+1) es)=[]
  rw[if_neg (Jaz e)];exact pW es _ λt a=>h t (Xd a)
noncomputable def f_ (S:HS)(c:Int):HS × Option Int:=((da S c (S.wg c).length).1.setG c (da S c (S.wg c).length).2.1,(da S c (S.wg c).length).2.2)
def LkI.zero (M:cO n B E S)(c):LkI n S.lk c S (S.wg c) 0 (S,[],none):=by
 refine⟨rfl,JkN rfl rfl rfl,⟨[],(List.append_nil _).symm,λ_ h=>nomatch h⟩,M.b.tok,M.b.rng,?_,rfl,λ_ r h=>(nomatch h),λf h=>(nomatch h)⟩;have e:(λx=>if x=c then([]:List Int)++(S.wg c).drop 0 else S.wg x)=S.wg:=by
  funext x;by_cases h:x=c
  ·rw[if_pos h,h];rfl
  ·rw[if_neg h]
 rw[e];exact M.w
def LkI.all (M:cO n B E S)(d:n≤60){c:Int}(g:-c∈S.hs):∀i,i≤(S.wg c).length→LkI n S.lk c S (S.wg c) i (da S c i):=by
 intro i
 induction i with
 | zero=>exact λ_=>LkI.zero M c
 | succ i f =>
  intro j;obtain⟨r,e⟩:∃r,(S.wg c)[i]?=some r:=Jgp (by lia);rw[vC e];exact(f (by lia)).step e M.lk g d λa h=>(M.b.row a h).2
def cO.look (M:cO n B E S)(Z:n≤60){s:Int × Int}(W:S.ts[S.lk]?=some s) :
  eW S (f_ S (-s.1)).1∧((f_ S (-s.1)).2=none→cO n B E { (f_ S (-s.1)).1 with lk:=S.lk+1 })∧∀f,(f_ S (-s.1)).2=some f→eG n B E { (f_ S (-s.1)).1 with lk:=S.lk+1 } f:=by
 have hc:- -s.1∈S.hs:=by rw[Int.neg_neg];exact fu W
 have I:=LkI.all M Z hc _ (nRq _);have ec:s.1=- -s.1:=(Int.neg_neg _).symm;unfold f_;generalize -s.1=c at hc I ec;generalize da S c (S.wg c).length=st at I;obtain⟨d,G,fl⟩:=st;obtain⟨g,o,⟨es,l,w⟩,p,C,k,Iwc,R,F⟩:=I;have gE:(λx=>if x=c then G++(S.wg c).drop (S.wg c).length else d.wg x)=(d.setG c G).wg:=by funext x;rw[List.drop_length,List.append_nil];rfl
 rw[gE]at k;have hk:=(gEq W).1;have ce:=jg w;have cE:cnt d.ts=cnt S.ts:=by rw[l,fX,ce,Int.add_zero]
 have P:d.ts[S.lk]?=some s:=by rw[l];exact(eF W).1
 have N:JfI (S.lk+1)=cnt d.ts:=by rw[cE,l,(eF W).2];exact M.lv _ (nRq _) hk
 have L:∀i,S.lk≤i→i < d.ts.length→JfI (i+1)=cnt d.ts:=λi A H=>by have h3:=JdD (ts:=d.ts) (S.lk+1) (i+1);have h4:=nz (ts:=d.ts) (i:=i+1);lia
 have hb:HB n B E { d.setG c G with lk:=S.lk+1 }:=by
  refine⟨p,C,?_,?_,?_,?_,?_,?_,?_,?_,by show CF E d.ts;rw[l];exact M.b.cf.more w⟩
  ·show ∀r∈d.rs,_;rw[g];exact M.b.row
  ·show ∀v,SatE E v→ie v B→ie v d.rs;rw[g];exact M.b.snd
  ·show ∀r∈B,r∈d.rs;rw[g];exact M.b.sub
  ·show d.rs.length=B.length+d.pp.length;rw[g,o.1];exact M.b.len
  ·show d.bs=bsF 0 d.ts;rw[o.2.2.1,l,pU,pW es _ w,List.append_nil];exact M.b.bs
  ·show ∀a:Int,a∈d.od↔_;rw[o.2.2.2.1];exact M.b.od
  ·show d.od.Nodup;rw[o.2.2.2.1];exact M.b.odn
  ·show ∀a x,Xa (d.la a) x→_;rw[o.2.2.2.2];exact M.b.la
 refine⟨⟨g,o.1,es,l,w⟩,λhn=>⟨hb,⟨k.has,k.is,k.gw,k.nd,?_,k.one,k.nil⟩,?_,λi A H=>L i (by have:S.lk+1≤i:=A;lia) H⟩,λf hf=>⟨hb,?_,λ_=>Qk c ?_,λ_=>⟨{ d.setG c G with lk:=S.lk+1 },S.lk,⟨k.has,k.is,k.gw,k.nd,k.wp,k.one,k.nil⟩,λi A H=>?_,.same⟩⟩⟩
 ·intro r a b h;have h':d.wt r=some (a,b):=h;have J:=k.wp r a b h;have ab:=(k.is r a b h).2.2.1;have K:∀x y,(x=a∧y=b)∨(x=b∧y=a)→Wp d.ts S.lk x y→Wp d.ts (S.lk+1) x y:=by
   intro x y O wp i t hi q e;by_cases c1:i < S.lk
   ·exact wp i t c1 q e
   have ei:i=S.lk:=by lia
   rw[ei]at q ⊢;rw[P]at q;injection q with q;have T:x=c:=by rw[←q,ec]at e;lia
   have hr:=(k.gw r c).mpr ⟨a,b,h,O.elim (λz=>.inl (T.symm.trans z.1)) λz=>.inr (T.symm.trans z.1)⟩;have Q:r∈if c=c then G else d.wg c:=hr
   rw[if_pos rfl]at Q;obtain⟨a',b',U,w2⟩:=R hn r Q;rw[h']at U;injection U with U;injection U with e1 e2;have yh:y∈d.hs:=by
    lia
   obtain⟨j,u,hj,hu⟩:=iG yh;exact⟨j,u,hj,hu,by rw[N];exact nz⟩
  exact⟨K a b (Jh8 rfl) J.1,K b a (Jkj rfl) J.2⟩
 ·show S.lk+1≤d.ts.length;rw[l,lAq];lia
 ·have A:=F f hf;have H:Fails d.rs d.ts f.toNat:=⟨aO d.rs f,by rw[g];exact kL A.1 A.2.1,by rw[g];exact A.2.2.2⟩;have h3:=p.ln H;rw[show(f.toNat:Int)=f by lia]at h3;exact h3
 ·show c∈aO d.rs f;rw[g];exact(F f hf).2.2.1
 ·show Jds c=cnt d.ts;rw[show c=-s.1 by lia,dh p.negs P];exact N
 ·have h2':JfI (i+1) < cnt d.ts:=H;rcases Nat.lt_or_ge i S.lk with z | z
  ·exact z
  ·rw[L i z A]at h2';lia
noncomputable def HS.pick (S:HS)(a:Int):HS:={ S with ts:=S.ts++[((S.la a).getD (-a),-1)],bs:=S.bs++[(S.ts.length:Int)] }
def cO.pick (M:cO n B E S)(G:n≤60)(O:Je1 S.lk){a:Int}(L:a∈S.od)(v:a∉S.hs)(s:-a∉S.hs)(F:∀r,E r→∃p∈r,-p∉S.hs):cO n B E (S.pick a):=by
 have l:(S.la a).getD (-a)=a∨(S.la a).getD (-a)=-a:=by
  cases e:S.la a with
  | none=>exact .inr rfl
  | some x=>exact M.b.la a x e
 have N:=(M.b.od a).mp L;generalize K:(S.la a).getD (-a)=p at l;have d:(S.pick a).ts=S.ts++[(p,-1)]:=by show S.ts++[((S.la a).getD (-a),-1)]=_;rw[K]
 have I:=l.elim (λz=>z ▸ v) λz=>z ▸ s;have H:=l.elim (λz=>z ▸ s) λz=>by rw[z,Int.neg_neg];exact v
 have q:p≠0∧Jfp n:=by rcases l with z | z <;> rw[z] <;> lia
 refine Jkw ⟨?_,?_,M.b.row,M.b.snd,M.b.sub,M.b.len,?_,M.b.od,M.b.odn,M.b.la,?_⟩ ⟨M.w.has,M.w.is,M.w.gw,M.w.nd,?_,?_,M.w.nil⟩ ?_
 ·rw[d];exact TOk.snoc M.b.tok q.1 (by lia) I H (.inl rfl)
 ·rw[d];intro t f;rcases mPq f with f | f
  ·exact M.b.rng t f
  ·rw[mSq f];exact q.2
 ·rw[d,nI,if_pos rfl];show S.bs++[(S.ts.length:Int)]=_;rw[M.b.bs]
 ·rw[d];intro j t o f;rcases Nat.lt_or_ge j S.ts.length with c | c
  ·rw[List.getElem?_append_left c]at o;rw[List.take_append_of_le_length (by lia)];exact M.b.cf j t o f
  ·have:=(gEq o).1;rw[lAq]at this;have this:j < S.ts.length+1:=this;rw[show Je1 j by lia,List.take_left];exact F
 ·rw[d];intro r x y h;exact⟨(M.w.wp r x y h).1.more M.lk _,(M.w.wp r x y h).2.more M.lk _⟩
 ·rw[d];intro x J;obtain⟨j,u,k,g,A⟩:=M.w.one x J;exact⟨j,u,(eF k).1,g,(eF k).2.trans A⟩
 ·rw[d,lAq];show S.lk≤_;lia
 ·rw[d];intro i k g;have D:S.lk≤i:=k;rw[lAq]at g;rw[tO (by rw[lAq];show S.ts.length+1≤_;lia)]
def cO.yes (M:cO n B E S)(D:Je1 S.lk)(h:∀a∈S.od,a∈S.hs∨-a∈S.hs):∀r∈B,∃p∈r,p∈S.hs:=by
 intro r d;have d:=M.b.sub r d;have g:∀p∈r,p∈S.hs∨-p∈S.hs:=λp C=>by
  have f:=(M.b.row r d).2 p C;rcases Int.lt_or_gt_of_ne f.1 with c | c
  ·have:=h (-p) ((M.b.od _).mpr (by lia));rw[Int.neg_neg]at this;exact this.symm
  ·exact h p ((M.b.od _).mpr (by lia))
 match r,d,g with
 | [],d,_=>exact absurd d M.w.nil
 | [a],d,_ =>
  obtain⟨j,u,f,o,_⟩:=M.w.one a d;exact⟨a,List.mem_cons_self,o ▸ fu f⟩
 | a :: b :: l,d,g =>
  obtain⟨k,s⟩:=List.getElem?_of_mem d;obtain⟨x,y,q⟩:=M.w.has k _ s (by simp only[List.length_cons];lia);have f:=M.w.is _ _ _ q;have e:Jdb (k:Int)=a :: b :: l:=by have:=kL f.2.2.2.1 f.2.2.2.2;rw[Int.toNat_natCast,s]at this;injection this with this;exact this.symm
  rw[e]at f;rcases g x f.1 with z | z
  ·exact⟨x,f.1,z⟩
  ·obtain⟨i,t,v,A⟩:=iG z;obtain⟨j,u,o,F,_⟩:=(M.w.wp _ _ _ q).1 i t (by rw[D];exact(gEq v).1) v A;exact⟨y,f.2.1,F ▸ fu o⟩
noncomputable def HS.cut (S:HS)(j:Nat)(la:Int→Option Int):HS:={ S with ts:=S.ts.take j,bs:=bsF 0 (S.ts.take j),lk:=j,la:=la }
def vE (h0:0≤r)(a:r < (rs.length:Int)):aO (rs++[ps]) r=aO rs r:=by
 rcases zR a with h | h
 ·exact h
 ·lia
def pX (rs)(ps):aO (rs++[ps]) (rs.length:Int)=ps:=by unfold aO;rw[Int.toNat_natCast,List.getD_eq_getElem?_getD,List.getElem?_append_right (nRq _),Nat.sub_self];rfl
def WOk.put (W:WOk S S.wg k){l:Dt}{ps lat:List Int}(D:lat.Nodup)(t:∀p,p∈lat↔p∈ps)(n:Jej lat.length)(L:ps≠[])(J:∀a,lat=[a]→∃j u,S.ts[j]?=some u∧u.1=a∧V8 (j+1)=0)
  (I:∀a b d,lat=a :: b :: d→Wp S.ts k a b∧Wp S.ts k b a):WOk (JeC l lat) (JeC l lat).wg k:=by
 have E:∀x a b,Jcl x (a,b)→x≠(S.rs.length:Int):=λx a b h=>by have:=(W.is x a b h).2.2.2.2;lia
 match lat,D,t,n,J,I with
 | [],_,_,n,_,_=>exact absurd (List.length_eq_zero_iff.mp n.symm) L
 | [a],_,t,n,J,_ =>
  obtain⟨b,rfl⟩:∃b,ps=[b]:=List.length_eq_one_iff.mp n.symm;obtain rfl:b=a:=mSq ((t b).mpr List.mem_cons_self);refine⟨λr g H B=>?_,λr x y h=>?_,W.gw,W.nd,W.wp,λx G=>?_,λh=>?_⟩
  ·have f:(S.rs++[[b]])[r]?=some g:=H;rcases Nat.lt_or_ge r S.rs.length with c | c
   ·rw[List.getElem?_append_left c]at f;exact W.has r g f B
   ·have:=mO (by rw[List.getElem?_append_right c]at f;exact f);rw[mSq this]at B;exact absurd B (by simp)
  ·have:=W.is r x y h;show x∈aO (S.rs++[[b]]) r∧y∈aO (S.rs++[[b]]) r∧x≠y∧0≤r∧r < ((S.rs++[[b]]).length:Int);rw[vE this.2.2.2.1 this.2.2.2.2,lAq];lia
  ·have s:=G;rcases mPq s with h | h
   ·exact W.one x h
   ·have:=mSq h;injection this with this;rw[this];exact J _ rfl
  ·have h':=h;rcases mPq h' with h | h
   ·exact W.nil h
   ·cases mSq h
 | a :: b :: d,D,t,n,_,I =>
  have P:a≠b:=λe=>by rw[e]at D;exact(List.nodup_cons.mp D).1 List.mem_cons_self
  have A:∀x y z,(JeC l (a :: b :: d)).wt x=some (y,z)→(x=(S.rs.length:Int)∧y=a∧z=b)∨(x≠(S.rs.length:Int)∧Jcl x (y,z)):=λx y z h=>by
   have h':(if x=(S.rs.length:Int) then some (a,b) else S.wt x)=some (y,z):=h
   lia
  have v:(JeC l (a :: b :: d)).wt (S.rs.length:Int)=some (a,b):=if_pos rfl;have w:∀x,x≠(S.rs.length:Int)→(JeC l (a :: b :: d)).wt x=S.wt x:=λx e=>if_neg e;have O:∀x,(JeC l (a :: b :: d)).wg x=if x=a∨x=b then S.wg x++[(S.rs.length:Int)] else S.wg x:=λx=>by
   show(if x=b then(if x=a then S.wg x++[_] else S.wg x)++[_] else if x=a then S.wg x++[_] else S.wg x)=_
   lia
  have K:∀x,(S.rs.length:Int)∉S.wg x:=λx h=>by obtain⟨y,z,C,_⟩:=(W.gw _ x).mp h;exact E _ _ _ C rfl
  refine⟨λr g H B=>?_,λr x y h=>?_,λr x=>?_,λx=>?_,λr x y h=>?_,λx G=>?_,λh=>?_⟩
  ·have f:(S.rs++[ps])[r]?=some g:=H;rcases Nat.lt_or_ge r S.rs.length with c | c
   ·rw[List.getElem?_append_left c]at f;rw[w _ (by lia)];exact W.has r g f B
   ·have:=(gEq f).1;rw[lAq]at this;have this:r < S.rs.length+1:=this;rw[show r=S.rs.length by lia];exact⟨a,b,v⟩
  ·show x∈aO (S.rs++[ps]) r∧y∈aO (S.rs++[ps]) r∧x≠y∧0≤r∧r < ((S.rs++[ps]).length:Int);rw[lAq];show _∧_∧_∧_∧r < (S.rs.length+1:Int);rcases A r x y h with ⟨rfl,rfl,rfl⟩ | ⟨_,h⟩
   ·rw[pX];exact⟨(t _).mp List.mem_cons_self,(t _).mp (Xd List.mem_cons_self),P,by lia,by lia⟩
   ·have:=W.is r x y h;rw[vE this.2.2.2.1 this.2.2.2.2];exact⟨this.1,this.2.1,this.2.2.1,this.2.2.2.1,by lia⟩
  ·rw[O x];by_cases e:r=(S.rs.length:Int)
   ·rw[e,v];by_cases z:x=a∨x=b
    ·rw[if_pos z];exact⟨λ_=>XA a b z,λ_=>Xb List.mem_cons_self⟩
    ·rw[if_neg z];refine⟨λh=>absurd h (K x),λ⟨y,Q,C,N⟩=>?_⟩;lia
   ·rw[w r e,←W.gw r x];by_cases z:x=a∨x=b
    ·rw[if_pos z,List.mem_append,List.mem_singleton];exact⟨λh=>h.elim id λq=>absurd q e,.inl⟩
    ·rw[if_neg z]
  ·rw[O x];by_cases z:x=a∨x=b
   ·rw[if_pos z];refine JkQ (W.nd x) (λy M Q F e=>?_);rw[e,mSq F]at M;exact K x M
   ·rw[if_neg z];exact W.nd x
  ·rcases A r x y h with ⟨rfl,rfl,rfl⟩ | ⟨_,h⟩
   ·exact I x y d rfl
   ·exact W.wp r x y h
  ·have s:=G;rcases mPq s with h | h
   ·exact W.one x h
   ·have:=mSq h;rw[←this]at n;cases n
  ·have h':=h;rcases mPq h' with h | h
   ·exact W.nil h
   ·exact absurd (mSq h).symm L
def jh {ts:List (Int × Int)}{i j:Nat}{t:Int × Int}(a:i < j)(h:ts[i]?=some t):(ts.take j)[i]?=some t∧cnt ((ts.take j).take (i+1))=cnt (ts.take (i+1)):=by refine XE (by rw[List.getElem?_take,if_pos a];exact h);rw[List.take_take,Nat.min_eq_left (by lia)]
def iH {ts:List (Int × Int)}{i j:Nat}{t:Int × Int}(h:(ts.take j)[i]?=some t):i < j∧ts[i]?=some t:=by
 rw[List.getElem?_take]at h;split at h
 ·exact⟨by assumption,h⟩
 ·cases h
def fq.ix (c:fq ts m j)(h:ts[i]?=some t):XB (i+1)≤m↔i < j:=by
 have a:Jar i:=(gEq h).1;constructor
 ·intro e;rcases Nat.lt_or_ge i j with z | z
  ·exact z
  ·have d:=c.high (by lia);have b:=JdD (ts:=ts) (j+1) (i+1);lia
 ·exact c.low i
def WOk.cut {S:HS}{g:Int→List Int}{k:Nat}(W:WOk S g k){m:Int}{j:Nat}(c:fq S.ts m j)(B:0≤m)(E:m < cnt S.ts)(A:∀i,Jel i→V8 (i+1) < cnt S.ts→i < k){la:Int→Option Int}{a y:Int}{od:List Int} :
  WOk { (Je2 j).hold a y with od:=od } g j:=by
 have D:(S.ts.take j).length=j:=by rw[List.length_take];have:=c.le;lia
 have p:∀x y,Wp S.ts k x y→Wp (S.ts.take j) j x y:=by intro x y h i t q w e;have b:=iH w;have s:=(gEq b.2).1;have C:=(c.ix b.2).mpr q;obtain⟨l,u,f,o,d⟩:=h i t (A i s (by lia)) b.2 e;have n:=(c.ix f).mp (by lia);refine⟨l,u,(jh n f).1,o,?_⟩;rw[(jh n f).2,(jh q b.2).2];exact d
 refine⟨W.has,W.is,W.gw,W.nd,λr x z h=>⟨(p _ _ (W.wp r x z h).1).more (by lia) _,(p _ _ (W.wp r x z h).2).more (by lia) _⟩,λx v=>?_,W.nil⟩;obtain⟨l,u,b,f,o⟩:=W.one x v;have n:=(c.ix b).mp (by lia);have d:=jh n b;exact⟨l,u,(eF d.1).1,f,(eF d.1).2.trans (d.2.trans o)⟩
def vF (a:J7 ts):(negs ts).Pairwise λx y=>QF x≤lvF ts y:=by rw[List.pairwise_iff_getElem];intro i j c b d;rw[iF]at c b;have f:=gG c;have e:=gG b;have h:(negs ts)[i]=-ts[i].1:=List.getElem_map _;have g:(negs ts)[j]=-ts[j].1:=List.getElem_map _;rw[h,g,JcW f,JcW e];exact h_ (by lia)
def Ad (a:J7 ts):(Jcd f).Pairwise λx y=>QF y≤lvF ts x:=by exact(List.pairwise_reverse.mpr (vF a)).filter _
def nM (a:J7 ts):(Jcd f).Nodup:=by exact(List.pairwise_reverse.mpr (a.negs.imp Ne.symm)).filter _
def Ae (Rs)(ts)(f):((negs ts).reverse.filter λp=>decide (p∈Jcd f))=aT Rs ts f:=by unfold aT;refine List.filter_congr λp a=>decide_eq_decide.mpr ?_;rw[List.mem_filter,decide_eq_true_eq];exact⟨λh=>h.2,λh=>⟨a,h⟩⟩
def Af:∀i,Jhf i→1≤(JgF i).2.length∧((JgF i).2.length=1→JgF i=(Jci f,[f])):=by
 intro i
 induction i with
 | zero=>exact λ_=>⟨nRq _,λ_=>rfl⟩
 | succ i a =>
  intro e;obtain⟨d,c⟩:=a (by lia);have b:ts.reverse[i]?=some (ts[ts.length - 1 - i]'(by lia)):=by rw[jI (by lia)];exact gG _
  rw[jG b];unfold fm;split
  ·simp only[lAq,List.length_cons,List.length_nil];exact X0 (λh=>absurd h (by lia))
  ·exact⟨d,c⟩
def vG (a:eU Rs ts f)(h:(df Rs ts f).length=1){q:Int}:q∈Jcd f↔q∈aO Rs f:=by have e:=(Af _ (nRq ts.length)).2 h;unfold aT gj;rw[e,List.mem_filter,decide_eq_true_eq];exact⟨λh=>h.2,λh=>⟨List.mem_reverse.mpr (a.fp q h),h⟩⟩
def eG.no (C:eG n B E S f)(h:JbJ f=[])(v)(c:SatE E v):¬ie v B:=λz=>by obtain⟨p,a,_⟩:=vA C.b.tok C.ln (C.b.snd v c z);rw[h]at a;cases a
def eG.zero (C:eG n B E S f)(h:JbJ f≠[]):1≤cnt S.ts:=by
 have:=hX S.ts;by_cases e:cnt S.ts=0
 ·exact absurd (vk C.b.tok e) h
 ·lia
def Ah (a:J7 ts)(v:1≤cnt ts)(u:∀q∈Jci f,QF q=cnt ts→q=q0):∀i,Jhf i→∀q∈(JgF i).1,(QF q=cnt ts→q=q0)∧(q∈Jci f∨QF q=0):=by
 intro i
 induction i with
 | zero=>exact λ_ q c=>⟨u q c,.inl c⟩
 | succ i b =>
  intro s q c;have b:=b (by lia);obtain⟨t,k,_,h⟩:=kO a (show Jar i by lia);rcases h q c with h | ⟨j,x,p,g,rfl,r,_⟩
  ·exact b q h
  obtain⟨e,_,d⟩:=kN r;have l0:=d.resolve_right λ⟨z,o,l,no,lo⟩=>no (((b o l).1 lo).trans ((b _ e).1 z).symm);rw[JcW k]at l0;have l1:=JcW g;have l2:=JdD (ts:=ts) (j+1) (ts.length - 1 - i+1);have n:=jJ (ts:=ts) (-x.1);exact⟨λz=>by lia,.inr (by lia)⟩
def eG.wk (C:eG n B E S f)(D:fq S.ts m j)(m0:0≤m)(mL:m < cnt S.ts){a:Int}{rest:List Int}(eP:JbJ f=a :: rest)(lA:lvF S.ts a=cnt S.ts)(l1:1≤m→∃r∈rest,lvF S.ts r=m){la:Int→Option Int}{y:Int}(hy:y≠-1){od:List Int} :
  WOk { (Je2 j).hold a y with od:=od } S.wg j:=by
 have hL:1≤cnt S.ts:=by lia
 have tok:=C.b.tok;have cl:=C.last hL;have lf:=C.ln.fp;obtain⟨d,k,W,hk,po⟩:=C.w hL;have cj:V8 j≤m:=by
  rcases Nat.eq_zero_or_pos j with z | z
  ·rw[z];exact m0
  ·have:=D.low (j - 1) (by lia);rw[show j - 1+1=j by lia]at this;exact this
 have P:(S.ts.take j).length=j:=by rw[List.length_take];have:=D.le;lia
 cases po with
 | same=>exact W.cut D m0 mL hk
 | put l ps ef nd =>
  have rf:aO (d.rs++[ps]) f=ps:=by rw[ef];exact pX _ _
  have L:∃q∈aO (d.rs++[ps]) f,Jds q=cnt d.ts:=cl;have U:∀p∈aO (d.rs++[ps]) f,p∈negs d.ts:=lf;have g:TOk (d.rs++[ps]) d.ts:=tok;have Z:aT (d.rs++[ps]) d.ts f=a :: rest:=eP;have lA':=lA;have hL':=hL;have mL':m < cnt d.ts:=mL;have G:fq d.ts m j:=D;have cj':JfI j≤m:=cj;have Q:(d.ts.take j).length=j:=P;have X:1≤m→∃r∈rest,Jds r=m:=l1;rw[rf]at L U;generalize el:((negs d.ts).reverse.filter λp=>decide (p∈ps))=lat;have M:∀p,p∈lat↔p∈ps:=λp=>by rw[←el,List.mem_filter,List.mem_reverse,decide_eq_true_eq];exact⟨λh=>h.2,λh=>⟨U p h,h⟩⟩
  have pw:lat.Pairwise λx y=>Jds y≤lvF d.ts x:=by rw[←el];exact(List.pairwise_reverse.mpr (vF g)).filter _
  have ln:lat.Nodup:=by rw[←el];exact(List.pairwise_reverse.mpr (g.negs.imp Ne.symm)).filter _
  have le:=(List.perm_ext_iff_of_nodup ln nd |>.mpr M).length_eq;have R:∀q0∈ps,(∀q∈ps,Jds q=cnt d.ts→q=q0)→a=q0∧∀r∈rest,r∈ps∧r≠q0:=λq0 _ u=>by
   have h:=Ah g hL' (by rw[rf];exact u) _ (nRq d.ts.length);have hp:∀q∈a :: rest,q∈(lrn (d.rs++[ps]) d.ts f d.ts.length).1∧Jds q≠0:=λq o=>by rw[←Z]at o;exact⟨(nB o).2,pS g o⟩
   have O:=(h a (hp a List.mem_cons_self).1).1 lA';have T:=nM (f:=f) g;rw[Z]at T;refine⟨O,λr K=>?_⟩;have F:=hp r (Xd K);refine⟨?_,λe=>(List.nodup_cons.mp T).1 (by rw[O,←e];exact K)⟩;have:=(h r F.1).2.resolve_right F.2;rwa [rf]at this
  have Y:∀q,Jds q=cnt d.ts→∀i t,i < j→(d.ts.take j++[(a,y)])[i]?=some t→t.1=-q→False:=λq o i t N v e=>by rw[List.getElem?_append_left (by lia)]at v;have F:=iH v;have:=(G.ix F.2).mpr N;have h4:=dh g.negs F.2;rw[e,Int.neg_neg]at h4;lia
  have top:∀x s,lat=x :: s→Jds x=cnt d.ts:=λx s e=>by
   obtain⟨q,o,lq⟩:=L;have:=(M q).mpr o;rw[e]at this pw;rcases List.mem_cons.mp this with z | z
   ·rw[←z];exact lq
   ·have h5:=(List.pairwise_cons.mp pw).1 q z;have h6:=kK (ts:=d.ts) x;lia
  have atJ:(d.ts.take j++[(a,y)])[j]?=some (a,y):=by rw[List.getElem?_append_right (by lia),Q,Nat.sub_self];rfl
  have cJ:cnt ((d.ts.take j++[(a,y)]).take (j+1))=cnt (d.ts.take j):=by rw[tO (by rw[lAq,Q];show j+1≤_;lia),fX,show cnt [(a,y)]=0 from jg λt v=>by rw[mSq v];exact hy,Int.add_zero]
  refine WOk.put (lat:=lat) (W.cut G m0 mL' hk) ln M le (λz=>?_) (λx I=>?_) λx H s I=>?_
  ·obtain⟨q,o,_⟩:=L;rw[z]at o;cases o
  ·have px:ps=[x]:=by
    have h7:ps.length=1:=by rw[←le,I];rfl
    obtain⟨b,rfl⟩:=List.length_eq_one_iff.mp h7;have:=(M b).mpr List.mem_cons_self;rw[I]at this;rw[mSq this]
   obtain⟨O,K⟩:=R x (by rw[px];exact List.mem_cons_self) (by rw[px];exact λq o _=>mSq o);refine⟨j,(a,y),atJ,O,?_⟩;show cnt ((d.ts.take j++[(a,y)]).take (j+1))=0;rw[cJ];have m1:¬1≤m:=λz=>by obtain⟨r,A,_⟩:=X z;have:=K r A;rw[px]at this;exact this.2 (mSq this.1)
   have:=hX (d.ts.take j);lia
  ·refine⟨λi t N v e=>(Y x (top _ _ I) i t N v e).elim,λi t N v e=>?_⟩;by_cases c:Jds H=cnt d.ts
   ·exact(Y H c i t N v e).elim
   rw[I]at pw;have pw':=(List.pairwise_cons.mp (List.pairwise_cons.mp pw).2).1;have inL:∀q∈ps,q=x∨q=H∨q∈s:=λq o=>by have:=(M q).mpr o;rw[I]at this;simpa using this
   have up:∀q∈ps,q≠x→Jds q≤lvF d.ts H:=λq o nq=>by
    rcases inL q o with z | z | z
    ·exact absurd z nq
    ·rw[z];exact Int.le_refl _
    ·exact pw' q z
   obtain⟨O,K⟩:=R x ((M x).mp (by rw[I];exact List.mem_cons_self)) λq o lq=>Decidable.byContradiction λnq=>by have:=up q o nq;have:=kK (ts:=d.ts) H;lia
   refine⟨j,(a,y),atJ,O,?_⟩;show cnt ((d.ts.take j++[(a,y)]).take (j+1))≤cnt ((d.ts.take j++[(a,y)]).take (i+1));have J:(d.ts.take j++[(a,y)])[i]?=some t:=v;rw[List.getElem?_append_left (by lia)]at J;rw[cJ,(eF J).2];have F:=iH J;rw[(jh N F.2).2];have ly:Jds H=cnt (d.ts.take (i+1)):=by have:=dh g.negs F.2;rw[e,Int.neg_neg]at this;exact this
   rw[←ly];have:=jJ (ts:=d.ts) H;by_cases m1:1≤m
   ·obtain⟨r,A,hr2⟩:=X m1;have:=up r (K r A).1 (K r A).2;lia
   ·lia
def cO.clash (M:cO n B E S)(F:Je1 S.lk)(l){ps:List Int}(e:E ps)(o:ps.Nodup)(A:∀p∈ps,-p∈S.hs):eG n B E (JeC l ((negs S.ts).reverse.filter λp=>decide (p∈ps))) (S.rs.length:Int):=by
 have a:=M.b.tok;have x:∀p∈ps,∃(i:Nat) (t:Int × Int),S.ts[i]?=some t∧p=-t.1:=λp h=>by obtain⟨i,t,c,e⟩:=iG (A p h);exact⟨i,t,c,by lia⟩
 have G:(S.rs++[ps])[S.rs.length]?=some ps:=by rw[List.getElem?_append_right (nRq _),Nat.sub_self];rfl
 refine⟨⟨a.more,M.b.rng,λr d=>?_,λv g C r d=>?_,λr d=>Qc (M.b.sub r d),?_,M.b.bs,M.b.od,M.b.odn,M.b.la,M.b.cf⟩,a.more.ln ⟨ps,G,A⟩,λH=>?_,λ_=>⟨S,S.ts.length,?_,λi c _=>c,.put l ps rfl o⟩⟩
 ·rcases mPq d with h | h
  ·exact M.b.row r h
  ·rw[mSq h];refine⟨o,λp h=>?_⟩;obtain⟨i,t,c,rfl⟩:=x p h;have N:=(a i t c).1;have L:=M.b.rng t (mO c);lia
 ·rcases mPq d with h | h
  ·exact M.b.snd v g C r h
  ·rw[mSq h];exact g ps e
 ·show(S.rs++[ps]).length=B.length+(S.pp++[l]).length;rw[lAq,lAq,M.b.len];rfl
 ·show ∃q∈aO (S.rs++[ps]) (S.rs.length:Int),lvF S.ts q=cnt S.ts;rw[pX];obtain⟨j,t,y,s,J⟩:=zS S.ts H;obtain⟨p,k,D⟩:=M.b.cf j t y s ps e;refine Qk p k;obtain⟨i,u,c,rfl⟩:=x p k;rw[JcW c];have I:j≤i:=by
   rcases Nat.lt_or_ge i j with z | z
   ·exact absurd (by rw[Int.neg_neg];exact(zT a c).mpr z) D
   ·exact z
  have f:=JdD (ts:=S.ts) (j+1) (i+1);have K:=nz (ts:=S.ts) (i:=i+1);rw[jE y]at f;unfold cN at f;rw[if_pos s]at f;lia
 ·rw[←F];exact M.w
def eG.next (C:eG n B E S f)(n60:n≤60)(ne:JbJ f≠[])(mx:jH (((JbJ f).drop 1).map (lvF S.ts)) m)(g:fq S.ts m j)
  {la:Int→Option Int}(P:∀a x,Xa (la a) x→x=a∨x=-a){od:List Int}(o1:∀a:Int,a∈od↔1≤a∧a≤n)(o2:od.Nodup):∃a rest,JbJ f=a :: rest ∧
   (∀l,cO n B E { ((S.put l (JbJ f) (JbJ f)).cut j la).hold a (S.rs.length:Int) with od:=od }) ∧
   ((df S.rs S.ts f).length=1→cO n B E { (Je2 j).hold a f with od:=od })∧∀y,y≠-1→Jeg S.ts < wgt n 0 (S.ts.take j++[(a,y)]):=by
 have c:=C.b.tok;have R:kP S.rs S.ts f m j:=⟨c,C.ln,C.last,mx,g⟩;obtain⟨a,rest,u,lA,X,lR,l1⟩:=R.split ne;have m0:=R.n0;have jl:Jel j:=by
  rcases Nat.lt_or_ge j S.ts.length with z | z
  ·exact z
  ·have e:Je1 j:=by have:=g.le;lia
   rcases Nat.eq_zero_or_pos S.ts.length with z | z
   ·rw[List.length_eq_zero_iff.mp z]at X;have:m < 0:=X;lia
   ·have:=g.low (S.ts.length - 1) (by lia);rw[show S.ts.length - 1+1=S.ts.length by lia,List.take_length]at this;lia
 have cj:V8 j≤m:=by
  rcases Nat.eq_zero_or_pos j with z | z
  ·rw[z];exact m0
  ·have:=g.low (j - 1) (by lia);rw[show j - 1+1=j by lia]at this;exact this
 have hj:=gG jl;have ch:(S.ts[j]).2=-1:=by
  have D:=g.high jl;rw[jE hj]at D;unfold cN at D;by_cases z:(S.ts[j]).2=-1
  ·exact z
  ·rw[if_neg z]at D;lia
 have w:∀q∈JbJ f,q≠0∧q.natAbs≤n:=λq Y=>by obtain⟨i,t,s,e,_⟩:=jf c Y;have D:=(c i t s).1;have h2:=C.b.rng t (mO s);lia
 have I:a∈aT S.rs S.ts f:=by rw[u];exact List.mem_cons_self
 have k:∀q∈rest,-q∈(S.ts.take j).map Prod.fst:=λq Y=>by
  have hq':q∈aT S.rs S.ts f:=by rw[u];exact Xd Y
  obtain⟨i,t,s,e,lv⟩:=jf c hq';have ij:=(g.ix s).mp (by rw[←lv];exact lR q Y);rw[e,Int.neg_neg];exact fu (jh ij s).1
 have a2:-a∉(S.ts.take j).map Prod.fst:=λz=>by obtain⟨i,t,s,e,lv⟩:=jf c I;obtain⟨i',t',K,e'⟩:=iG z;have D:=iH K;have ii:=c.same_ix s D.2 (by rw[e'];lia);have:=(g.ix s).mpr (by lia);lia
 have a1:a∉(S.ts.take j).map Prod.fst:=λz=>by obtain⟨i,t,s,e,lv⟩:=jf c I;obtain⟨i',t',K,e'⟩:=iG z;exact c.cons (e' ▸ fu (iH K).2) (by rw[e,Int.neg_neg];exact fu s)
 have d:(S.ts.take j).length=j:=by rw[List.length_take];lia
 have G:∀y,∀t∈S.ts.take j++[(a,y)],t.1.natAbs≤n:=λy t A=>by
  rcases mPq A with h | h
  ·exact C.b.rng t (List.mem_of_mem_take h)
  ·rw[mSq h];exact(w a I).2
 have U:∀y,y≠-1→JV 0 j=bsF 0 (S.ts.take j++[(a,y)]):=λy O=>by rw[nI,if_neg O]
 have M:∀y i,j≤i→i < (S.ts.take j++[(a,y)]).length→cnt ((S.ts.take j++[(a,y)]).take (i+1))=cnt (S.ts.take j++[(a,y)]):=λy i D h2=>by rw[tO (by rw[lAq,d];show j+1≤_;lia)]
 have N:∀y,j≤(S.ts.take j++[(a,y)]).length:=λy=>by rw[lAq,d];lia
 have T:∀y,y≠-1→CF E (S.ts.take j++[(a,y)]):=λy O=>(C.b.cf.take j).more λt A=>by rw[mSq A];exact O
 have W:-60≤a∧a≤60:=by have:=w a I;lia
 refine⟨a,rest,u,λl=>?_,λD=>?_,λy O=>Aa C.b.tlen hj ch O⟩
 ·have L:(S.rs.length:Int)≠-1:=by lia
  have W1:=C.wk g m0 X u lA l1 (la:=la) L (od:=od);have W2:=WOk.put W1 (l:=l) (nM c) (λ_=>Iff.rfl) rfl ne (λx F=>?_) (λx y more F=>?_)
  ·refine⟨⟨?_,G _,?_,?_,?_,?_,U _ L,o1,o2,P,T _ L⟩,W2,N _,M _⟩
   ·show TOk (S.rs++[JbJ f]) (S.ts.take j++[(a,(S.rs.length:Int))]);refine TOk.snoc ((c.take j).more) (w a I).1 W a1 a2 (.inr (JjL S.rs.length (JbJ f) ?_ I (λp J np=>?_)))
    ·rw[List.getElem?_append_right (nRq _),Nat.sub_self];rfl
    ·rw[u]at J;exact k p ((List.mem_cons.mp J).resolve_left np)
   ·intro r H;rcases mPq H with h | h
    ·exact C.b.row r h
    ·rw[mSq h];exact⟨nM c,w⟩
   ·intro v ve hv r H;rcases mPq H with h | h
    ·exact C.b.snd v ve hv r h
    ·rw[mSq h];exact vA c C.ln (C.b.snd v ve hv)
   ·exact λr H=>List.mem_append_left _ (C.b.sub r H)
   ·show(S.rs++[JbJ f]).length=B.length+(S.pp++[l]).length;rw[lAq,lAq,C.b.len];rfl
  ·have e:rest=[]:=by rw[u]at F;injection F
   have Z:x=a:=by rw[u]at F;injection F with F;exact F.symm
   have m00:m=0:=mx.1 (by rw[u,e];rfl);refine⟨j,(a,(S.rs.length:Int)),?_,Z.symm,?_⟩
   ·show(S.ts.take j++[(a,(S.rs.length:Int))])[j]?=_;rw[List.getElem?_append_right (by lia),d,Nat.sub_self];rfl
   ·show cnt ((S.ts.take j++[(a,(S.rs.length:Int))]).take (j+1))=0;rw[tO (by rw[lAq,d];show j+1≤_;lia),fX,show cnt [(a,(S.rs.length:Int))]=0 from jg λt A=>by rw[mSq A];exact L];have:=hX (S.ts.take j);lia
  ·rw[u]at F;injection F with Z er;refine⟨λi t s A e=>?_,λi t s A e=>?_⟩
   ·have o:(S.ts.take j++[(a,(S.rs.length:Int))])[i]?=some t:=A;rw[List.getElem?_append_left (by lia)]at o;exact absurd (show -a∈_ by rw[Z,←e];exact fu o) a2
   ·have o:(S.ts.take j++[(a,(S.rs.length:Int))])[i]?=some t:=A;rw[List.getElem?_append_left (by lia)]at o;refine⟨j,(a,(S.rs.length:Int)),?_,Z,?_⟩
    ·show(S.ts.take j++[(a,(S.rs.length:Int))])[j]?=_;rw[List.getElem?_append_right (by lia),d,Nat.sub_self];rfl
    ·show cnt ((S.ts.take j++[(a,(S.rs.length:Int))]).take (j+1))≤cnt ((S.ts.take j++[(a,(S.rs.length:Int))]).take (i+1));rw[tO (by rw[lAq,d];show j+1≤_;lia),fX,show cnt [(a,(S.rs.length:Int))]=0 from jg λt A=>by rw[mSq A];exact L,(eF o).2];have h3:=iH o;rw[(jh s h3.2).2];have yr:y∈rest:=by rw[er];exact List.mem_cons_self
     have yP:y∈aT S.rs S.ts f:=by rw[u];exact List.mem_cons_of_mem _ yr
     have ly:lvF S.ts y=cnt (S.ts.take (i+1)):=by have:=dh c.negs h3.2;rw[e,Int.neg_neg]at this;exact this
     have y0:=pS c yP;have y1:=jJ (ts:=S.ts) y;have y2:=lR y yr;obtain⟨r,H,Q⟩:=l1 (by lia);have pw:=Ad (f:=f) c;rw[u,er]at pw;have pw2:=(List.pairwise_cons.mp (List.pairwise_cons.mp pw).2).1;have:m≤lvF S.ts y:=by
      rw[er]at H;rcases List.mem_cons.mp H with z | z
      ·rw[←Q,z];exact Int.le_refl _
      ·rw[←Q];exact pw2 r z
     lia
 ·have f0:f≠-1:=by have:=C.ln.f0;lia
  refine⟨⟨?_,G _,C.b.row,C.b.snd,C.b.sub,C.b.len,U _ f0,o1,o2,P,T _ f0⟩,C.wk g m0 X u lA l1 f0,N _,M _⟩;refine TOk.snoc (c.take j) (w a I).1 W a1 a2 (.inr ⟨f.toNat,Jdb f,?_,kL C.ln.f0 C.ln.f1,(vG C.ln D).mp I,λp J np=>?_⟩)
  ·have:=C.ln.f0;lia
  ·have J:=(vG C.ln D).mpr J;rw[u]at J;exact k p ((List.mem_cons.mp J).resolve_left np)
structure cP (n:Nat)(B)(i)(S:HS):Prop where
 rs:S.rs=B
 pp:S.pp=[]
 lk:S.lk=0
 bs:S.bs=[]
 od:∀a:Int,a∈S.od↔1≤a∧a≤n
 odn:S.od.Nodup
 la:∀a x,Xa (S.la a) x→x=a∨x=-a
 tok:TOk B S.ts
 rng:∀t∈S.ts,t.1.natAbs≤n
 fo:∀t∈S.ts,t.2≠-1
 w:WOk { S with rs:=B.take i } S.wg 0
def wp0 (ts)(a b):Wp ts 0 a b:=λ_ _ h=>VB h _
def cP.zero {n:Nat}{B:List (List Int)}{S:HS}(rs:S.rs=B)(pp:S.pp=[])(g:S.lk=0)(i:S.bs=[])(od:∀a:Int,a∈S.od↔1≤a∧a≤n)(d:S.od.Nodup)(la:∀a,Qn (S.la a))(ts:S.ts=[])(e:∀r,Qn (S.wt r))(wg:∀c,S.wg c=[]):cP n B 0 S:=by
 refine⟨rs,pp,g,i,od,d,λa x h=>(by rw[la]at h;cases h),(by rw[ts];exact TOk.nil _),(by rw[ts];exact λ_ h=>(nomatch h)),(by rw[ts];exact λ_ h=>(nomatch h)),⟨λr f h=>?_,λr a b h=>?_,λr c=>?_,λc=>?_,λr a b h=>?_,λa h=>?_,λh=>?_⟩⟩
 ·cases h
 ·have h':=h;rw[e]at h';cases h'
 ·rw[wg];refine⟨λh=>(nomatch h),λ⟨a,b,h,_⟩=>?_⟩;have h':=h;rw[e]at h';cases h'
 ·rw[wg];exact List.Pairwise.nil
 ·exact⟨wp0 _ _ _,wp0 _ _ _⟩
 ·cases h
 ·cases h
def Ai {B:List (List Int)}{i:Nat}{r:List Int}(h:B[i]?=some r):(B.take i).length=i:=by have:=(gEq h).1;rw[List.length_take];lia
def cnt0 (h:cP n B i S)(j):V8 j=0:=jg λt a=>h.fo t (List.mem_of_mem_take a)
def cP.add {n:Nat}{B:List (List Int)}{i:Nat}{S v:HS}{r:List Int}(h:cP n B i S)(d:B[i]?=some r)(y:r.Nodup)(x:r≠[])(F:∀a,r=[a]→a∈S.hs)(es:v={ S with wt:=putW (i:Int) r S.wt,wg:=putG (i:Int) r S.wg }):cP n B (i+1) v:=by
 subst es;refine⟨h.rs,h.pp,h.lk,h.bs,h.od,h.odn,h.la,h.tok,h.rng,h.fo,?_⟩;have W:=WOk.put h.w (l:=.int 0) y (λ_=>Iff.rfl) rfl x (λa e=>?_) λa b t _=>⟨wp0 _ _ _,wp0 _ _ _⟩
 ·have s:=Ai d;have e:(({ S with rs:=B.take i }:HS).put (.int 0) r r).wg=putG (i:Int) r S.wg:=by show putG ((B.take i).length:Int) r S.wg=_;rw[s]
  have q:(({ S with rs:=B.take i }:HS).put (.int 0) r r).wt=putW (i:Int) r S.wt:=by show putW ((B.take i).length:Int) r S.wt=_;rw[s]
  rw[e]at W;refine⟨λk p o A=>?_,λk a b o=>?_,λk c=>?_,W.nd,λk a b o=>?_,λa C=>?_,λz=>?_⟩
  ·have:=W.has k p (by show(B.take i++[r])[k]?=_;rw[←bb d];exact o) A;rw[q]at this;exact this
  ·have:=W.is k a b (by rw[q];exact o);rw[bb d];exact this
  ·have:=W.gw k c;rw[q]at this;exact this
  ·exact⟨wp0 _ _ _,wp0 _ _ _⟩
  ·have g:=C;rw[bb d]at g;exact W.one a g
  ·have f:=z;rw[bb d]at f;exact W.nil f
 ·obtain⟨j,u,E,D⟩:=iG (F a e);exact⟨j,u,E,D,cnt0 h _⟩
def cP.hold (h:cP n B i S)(o:n≤60)(d:B[i]?=some [a])(f:a≠0∧a.natAbs≤n)(v:a∉S.hs)(s:-a∉S.hs):cP n B (i+1) (S.hold a i):=by
 have h':cP n B i (S.hold a i):=by
  refine⟨h.rs,h.pp,h.lk,h.bs,h.od,h.odn,h.la,TOk.snoc h.tok f.1 (by lia) v s (.inr (JjL i [a] d List.mem_cons_self (λp r l=>absurd (mSq r) l))),λt b=>?_,λt b=>?_,⟨h.w.has,h.w.is,h.w.gw,h.w.nd,λ_ _ _ _=>⟨wp0 _ _ _,wp0 _ _ _⟩,λx q=>?_,h.w.nil⟩⟩
  ·rcases mPq b with z | z
   ·exact h.rng t z
   ·rw[mSq z];exact f.2
  ·rcases mPq b with z | z
   ·exact h.fo t z
   ·rw[mSq z];show(i:Int)≠-1;lia
  ·obtain⟨j,u,c,k,g⟩:=h.w.one x q;exact⟨j,u,(eF c).1,k,(eF c).2.trans g⟩
 refine h'.add d (by simp) (by simp) (λx e=>?_) rfl;injection e with e;show x∈(S.ts++[(a,(i:Int))]).map Prod.fst;rw[mAq,←e];exact Xb List.mem_cons_self
def cP.hb (h:cP n B i S)(e:∀r∈B,r.Nodup∧∀p∈r,p≠0∧Jfp n):HB n B E S:=by refine⟨h.rs ▸ h.tok,h.rng,h.rs ▸ e,λv _ a=>h.rs ▸ a,λr c=>h.rs ▸ c,by rw[h.rs,h.pp];rfl,?_,h.od,h.odn,h.la,λj t d b=>absurd b (h.fo t (mO d))⟩;rw[h.bs,pW _ _ h.fo]
def cP.fail (h:cP n B i S)(c:∀r∈B,r.Nodup∧∀p∈r,p≠0∧Jfp n)(a:B[i]?=some r)(b:∀p∈r,-p∈S.hs):eG n B E S (i:Int):=by have d:cnt S.ts=0:=jg h.fo;exact⟨h.hb c,(h.rs ▸ h.tok:TOk S.rs S.ts).ln ⟨r,h.rs ▸ a,b⟩,λz=>Jd5 (by lia),λz=>Jd5 (by lia)⟩
def cP.mid (h:cP n B B.length S)(a:∀r∈B,r.Nodup∧∀p∈r,p≠0∧Jfp n):cO n B E S:=by
 have e:({ S with rs:=B.take B.length }:HS)=S:=by rw[List.take_length,←h.rs]
 have w:=h.w;rw[e]at w;refine⟨h.hb a,by rw[h.lk];exact w,by rw[h.lk];exact Nat.zero_le _,λi _ _=>?_⟩;rw[cnt0 h,jg h.fo]
end L2
namespace L2
open PySem PySem.Spec PyProof.Rows
section
variable {P:Program} {w:World}
abbrev Sgn:=Str × List Key
def eg (P:Program)(w:World)(h:Heap)(k:Sgn)(a:Addr):Prop :=
 ∃o t q n,h.get? a=some o∧o.cls=.type "tuple"∧o.data=.seq #[.str k.1 t,.ref q] n∧IsTupleKey (bV P w) h k.2 q
def eg.typeIs {s:Shared}{k:Sgn}{a:Addr}(x:Jhg P w k a):Jal a "tuple":=let ⟨o,_,_,_,ho,hc,_⟩:=x;JjA ho hc
def eg.inj (i:eg P w h x a)(g:eg P w h y a):x=y:=by obtain⟨o,t,q,n,j,_,l,k⟩:=i;obtain⟨A,t',f,B,b,_,d,c⟩:=g;cases j.symm.trans b;have e:=l.symm.trans d;injection e with e _;have z:=JcT e;injection z with v u;injection v with s _;injection u with r _;injection r with p;subst p;exact Prod.ext s (k.inj c)
def eg.keeps (x:eg P w h k a)(f:h.get? d=some o)(g:o.data=Jj4 ep)(hs:Heap.SameBut d h h'):eg P w h' k a:=by
 obtain⟨i,t,q,n,c,l,b,j⟩:=x;have e:a≠d:=by rintro rfl;cases c.symm.trans f;rw[g]at b;exact nomatch b
 exact⟨i,t,q,n,(hs.2 a e).trans c,l,b,j.keeps f g hs⟩
noncomputable def pY (P:Program)(w:World)(k:Sgn):Int:=reduceHash (Builtin.Tuple.tupleHashOf [(bV P w).hash (.inr k.1),JkF P w k.2])
variable {A:Around} {E:Value→Shared→Prop} {s:Shared}
def Aj {k:Sgn}{a:Addr}{Q:Int→Shared→Prop}(u:A.units+10 < cLine)(i:Jhg P w k a)(h:Q (pY P w k) { s with toks:=s.toks+(k.2.length+3) }) :
  wpAny (Jhy P) A (pyHash (.ref a)) Q E s:=by
 have d:=i.typeIs;obtain⟨o,t,q,n,l,_,r,p⟩:=i;unfold pyHash
 first | unfold pyHashByItsType | skip
 first | refine wpAny_bind (wpAny_cRoomFor_or (.inr (by lia)) ?_) | skip
 refine XP d F.slot_tuple_hash.lookup ?_;show VV _ (if Qu (some (Value.builtin "tuple.__hash__") == some Value.none) then _ else _) Q E s
 rw[if_neg (by rw[beq_builtin_none];exact Bool.false_ne_true)];refine XP d F.slot_tuple_hash.lookup ?_;refine wpAny_bind (wpAny_callSpecialIfBoundUnlessNone?_slot d F.slot_tuple_hash (JcL F.slot_tuple_hash d F.entry_tuple_hash (F.args_tuple_hash_1 _)));show VV _ (Jb0 a >>= _) _ _ s;refine Jc6 l r ?_;refine wpAny_bind ?_;rw[←Array.forIn_toList];refine wpAny_forIn_list _
  (λrest b s'=>(rest=[.str k.1 t,.ref q]∧b=#[]∧s'=s)∨(rest=Vt q∧b=#[(bV P w).hash (.inr k.1)]∧s'={ s with toks:=s.toks+1 }) ∨ (rest=[]∧b=#[(bV P w).hash (.inr k.1),JkF P w k.2]∧s'={ s with toks:=s.toks+1+(k.2.length+1) }))
  _ ?_ ?_ _ _ (.inl (Jhm rfl))
 ·rintro x rest b s' (⟨e,rfl,rfl⟩ | ⟨e,rfl,rfl⟩ | ⟨e,rfl,rfl⟩)
  ·injection e with g f;subst g f;refine wpAny_bind ((bV P w).pyHash (mv P w k.1 t) ?_)
   first
    | exact wpAny_pure (Jj8 (Jhm rfl))
    | exact wpAny_bind (Xl (Jj8 (Jhm rfl)))
  ·injection e with g f;subst g f;refine wpAny_bind (wpAny_pyHash_tuple (knd:=bV P w) (by lia) p ?_)
   first
    | exact wpAny_pure (JbF (Jhm rfl))
    | exact wpAny_bind (Xl (JbF (Jhm rfl)))
  ·exact nomatch e
 ·rintro b s' (⟨e,rfl,rfl⟩ | ⟨e,rfl,rfl⟩ | ⟨e,rfl,rfl⟩)
  ·exact nomatch e
  ·exact nomatch e
  refine wpAny_ret_mkInt ?_;have j:s.toks+(k.2.length+3)=s.toks+1+(k.2.length+1)+1:=by lia
  rw[j]at h;unfold pY reduceHash at h;generalize Builtin.Tuple.tupleHashOf [(bV P w).hash (.inr k.1),JkF P w k.2]=z at h ⊢;show VV _ (if Qu (decide (-2 ^ 63≤z)&&decide (z < 2 ^ 63)) then _ else _) Q E _
  by_cases c:Qu (decide (-2 ^ 63≤z)&&decide (z < 2 ^ 63))
  ·rw[if_pos c];rw[if_pos c]at h;exact wpAny_pure h
  ·rw[if_neg c];rw[if_neg c]at h;exact Jkl h
def Ak {x y:Sgn}{a b:Addr}{R:Fin→Shared→Prop}(Q:A.units+5 < cLine)(I:Jhg P w x a)(H:Jhg P w y b)(h:R (.done (.ret (.bool (decide (x=y))))) s) :
  wpAny (Jhy P) A (Builtin.«tuple.__eq__» (Jew (JbP a b))) R E s:=by
 have o:=H.typeIs;obtain⟨M,D,G,O,i,_,n,k⟩:=I;obtain⟨L,C,F,N,g,_,l,j⟩:=H;show VV _ (isInstance (.ref b) (.type "tuple") >>= _) _ _ s;refine JeV o ?_;simp only[Bool.not_true,Bool.false_eq_true,if_false];refine Jc6 i n ?_;refine Jc6 g l ?_;refine wpAny_bind ?_;refine wpAny_forIn_list _
  (λrest r s'=>Qn r.1∧s'=s∧((rest=[(.str x.1 D,.str y.1 C),(.ref G,.ref F)])∨(rest=[(.ref G,.ref F)]∧x.1=y.1)∨(rest=[]∧x=y)))
  _ ?_ ?_ _ _ (Jhm (.inl rfl))
 ·rintro ⟨u,v⟩ rest r s' ⟨f,rfl,e | ⟨e,d⟩ | ⟨e,d⟩⟩
  ·injection e with B t;injection B with q p;subst t q p;refine wpAny_bind ((bV P w).eqBool (mv P w x.1 D) (mv P w y.1 C) ?_);by_cases c:x.1=y.1
   ·rw[dTq (show(Sum.inr x.1:Key)=.inr y.1 by rw[c])];simp only[Bool.not_true,Bool.false_eq_true,if_false];exact wpAny_pure ⟨by trivial,by trivial,.inr (Jo (by trivial) c)⟩
   ·rw[dFq (show ¬(Sum.inr x.1:Key)=.inr y.1 from λz=>c (Sum.inr.inj z))];simp only[Bool.not_false,if_true];rw[dFq (show ¬x=y from λz=>c (by rw[z]))]at h;exact wpAny_bind (Jki h)
  ·injection e with B t;injection B with q p;subst t q p;refine wpAny_bind (wpAny_eqBool_tuple (knd:=bV P w) (by lia) k j ?_);by_cases c:x.2=y.2
   ·rw[dTq c];simp only[Bool.not_true,Bool.false_eq_true,if_false];exact wpAny_pure ⟨by trivial,by trivial,.inr (Jx (by trivial) (Prod.ext d c))⟩
   ·rw[dFq c];simp only[Bool.not_false,if_true];rw[dFq (show ¬x=y from λz=>c (by rw[z]))]at h;exact wpAny_bind (Jki h)
  ·exact nomatch e
 ·rintro ⟨K,J⟩ s' ⟨f,rfl,e | ⟨e,d⟩ | ⟨e,d⟩⟩
  ·exact nomatch e
  ·exact nomatch e
  simp only at f;subst f;refine wpAny_pure ?_;rw[dTq d]at h;exact h
def Al {x y:Sgn}{a b:Addr}{Q:Bool→Shared→Prop}(g:A.units+10 < cLine)(d:Jhg P w x a)(f:Jhg P w y b)(h:Q (decide (x=y)) s) :
  wpAny (Jhy P) A (eqBool (.ref a) (.ref b)) Q E s:=by
 unfold eqBool
 try with_reducible refine wpAny_holding ?_
 by_cases c:Qu (Value.ref a == Value.ref b)
 ·rw[if_pos c];have e:a=b:=by have:=eq_of_beq c;injection this
  subst e;cases d.inj f;exact wpAny_bind (wpAny_rule (wpAny_pure (by simpa using h)))
 ·rw[if_neg c];exact wpAny_bind (wpAny_richCompare_same_room d.typeIs f.typeIs F.slot_tuple_eq (wpAny_call_entry F.slot_tuple_eq d.typeIs F.entry_tuple_eq (Ak (by lia) d f (Q1 _ (λe=>nomatch e) (wpAny_truthy_bool h))) (F.args_tuple_eq_2 _ _)) (by lia))
def quiet7 (e:IsTupleKey (bV P w) s.heap ks a)(h:Q true s):Vb P w A (eqIsQuiet 7 (.ref a)) Q E s:=by
 have f:=e.typeIs;obtain⟨o,items,n,g,_,j,i⟩:=e;unfold eqIsQuiet;refine XP f F.slot_tuple_eq.lookup ?_;refine JeV f ?_;simp only[Bool.not_true,Bool.false_eq_true,if_false];refine Jh g j ?_;refine wpAny_bind ?_;rw[←Array.forIn_toList];refine wpAny_forIn_list _ (λrest r s'=>Qn r.1∧s'=s∧∀v∈rest,Qu (carriedByValue v)) _ ?_ ?_ _ _ (Jhm i.byValue)
 ·rintro v rest r s' ⟨d,rfl,b⟩;rw[eqIsQuiet_byValue _ (b v List.mem_cons_self)];refine Qy ?_;simp only[Bool.not_true,Bool.false_eq_true,if_false];exact wpAny_pure (Jhm (λu c=>b u (Xd c)))
 ·rintro ⟨l,k⟩ s' ⟨d,rfl,_⟩;simp only at d;subst d;exact wpAny_pure h
def Am {k:Sgn}{a:Addr}{Q:Bool→Shared→Prop}(f:Jhg P w k a)(h:Q true s):Vb P w A (eqIsQuiet 8 (.ref a)) Q E s:=by
 have g:=f.typeIs;obtain⟨o,t,q,n,i,_,l,j⟩:=f;unfold eqIsQuiet;refine XP g F.slot_tuple_eq.lookup ?_;refine JeV g ?_;simp only[Bool.not_true,Bool.false_eq_true,if_false];refine Jh i l ?_;refine wpAny_bind ?_;rw[←Array.forIn_toList];refine wpAny_forIn_list _ (λrest r s'=>Qn r.1∧s'=s∧∀v∈rest,Qu (carriedByValue v)∨Xy v q) _ ?_ ?_ _ _ (Jhm (λv d=>?_))
 ·rintro v rest r s' ⟨e,rfl,b⟩;rcases b v List.mem_cons_self with d | rfl
  ·rw[eqIsQuiet_byValue _ d];refine Qy ?_;simp only[Bool.not_true,Bool.false_eq_true,if_false];exact wpAny_pure (Jhm (λu c=>b u (Xd c)))
  ·refine wpAny_bind (quiet7 j ?_);simp only[Bool.not_true,Bool.false_eq_true,if_false];exact wpAny_pure (Jhm (λu c=>b u (Xd c)))
 ·rintro ⟨x,p⟩ s' ⟨e,rfl,_⟩;simp only at e;subst e;exact wpAny_pure h
 ·rcases List.mem_cons.mp d with rfl | d
  ·exact .inl rfl
  ·exact .inr (mSq d)
end
noncomputable def kU (P)(w):HeapKind P w Sgn where
 is:=eg P w
 hash:=pY P w
 draws:=λk=>k.2.length+3
 room:=λA=>A.units+10 < cLine
 inj:=λb a=>b.inj a
 keeps:=λx e f hs=>x.keeps e f hs
 pyHash:=λc d h=>Aj c d h
 eqBool:=λc b a h=>Al c b a h
 quiet:=λd h=>Am d h
section
variable {prog:Program} {w:World} {K:Type} [DecidableEq K] {knd:HeapKind prog w K} {A:Around} {E:Value→Shared→Prop} {s:Shared}
def An {d a:Addr}{xs:List (K × Addr × Value)}{k:K}{c:Value}{Q:Value→Shared→Prop}(u:knd.room A)(b:knd.is s.heap k a)(z:Jkd knd d)
  (D:∀p,Xa (Jec xs) p→Q p.2 { s with toks:=s.toks+knd.draws k })
  (C:Qn (Jec xs)→∀h',h'.DictOfH knd d (xs++[(k,a,c)])→XZ d h'→Q c { s with heap:=h',toks:=s.toks+knd.draws k })
  (hsz:Ju xs.length):Jlz (dictSetDefault d (.ref a) c):=by
 obtain⟨o,es,ep,h,B,g,q,n,r⟩:=z;unfold dictSetDefault
 try with_reducible refine wpAny_holding ?_
 refine wpAny_bind (knd.pyHash u b ?_);refine wpAny_bind (wpAny_dictFind_heap u b h g q n r ?_ ?_)
 ·intro l;have i:=not_mem_keys_of_get l;refine wpAny_bind (wpAny_rule (wpAny_bind (wpAny_updateDictKeys (hz:=by have e:=size_of_entries q;lia) h g (wpAny_pure (C (atKey_none_of_get l) _ ⟨_,_,ep+1,Heap.get?_update_self _ h (Obj.isFreed_of_dict (Obj.data_mapDictKeys g _)),B.mapDictKeys _,Obj.data_mapDictKeys g _,?_,?_,?_⟩ (Heap.SameBut.update ..))))))
  ·simp [q,entryOfKey]
  ·intro x f;rcases mPq f with f | f
   ·exact knd.keeps (n x f) h g (Heap.SameBut.update ..)
   ·simp only[List.mem_singleton]at f;subst f;exact knd.keeps b h g (Heap.SameBut.update ..)
  ·rw[mAq,List.nodup_append];refine Qk r (by simp);intro x f y t;simp only[List.map_cons,List.map_nil,List.mem_singleton]at t;subst t;exact λe=>i (e ▸ f)
 ·intro j p v;refine wpAny_bind (wpAny_dictEntries h g ?_);rw[entry_at q j,v];exact Jkl (D p (atKey_of_get r v))
def Ao (knd:HeapKind prog w K)(d a)(j:Q9 (d == sysModules))(b) :
  MeetsIn prog w (Builtin.«dict.setdefault» (Jew [.ref d,.ref a,b])) (λA R s=>knd.room A.in1∧∃k xs,knd.is s.heap k a∧Jkd knd d∧Ju xs.length ∧ (∀p,Xa (Jec xs) p→Jik p.2 { s with toks:=s.toks+knd.draws k }) ∧ (Qn (Jec xs)→∀h',h'.DictOfH knd d (xs++[(k,a,b)])→XZ d h'→Jik b { s with heap:=h',toks:=s.toks+knd.draws k })) :=
 .of_wp λA R s ⟨g,k,xs,c,f,hz,n,l⟩=>by
  refine wpAny_bind ?_;refine wpAny_bind (wpAny_notOrdered_dict f.typeIs ?_);refine wpAny_pure ?_;show VV _ (if Qu (d == sysModules) then _ else(dictSetDefault d (.ref a) b >>= _)) _ _ s
  rw[if_neg (by rw[j];exact Bool.false_ne_true)];exact wpAny_bind (An g c f (λp h=>Jls p.2 (n p h)) (λi h' e hs'=>Jls b (l i h' e hs')) hz)
end
abbrev SE:=Sgn × Addr × V
def relS (p:SE)(q:Sgn × Addr × Value):Prop:=p.1=q.1∧p.2.1=q.2.1∧aS p.2.2 q.2.2
def ig (P:Program)(w:World)(a:Addr)(kvs:List SE):HO:=.ext λh=>Q9 (a == sysModules)∧∃xs:List (Sgn × Addr × Value),Paired relS kvs xs ∧
 ∃o es ep,h.get? a=some o∧o.ExactDict∧o.data=Jj4 ep∧es.toList=Jg8 (kU P w)∧(xs.map (·.1)).Nodup
def SD (P:Program)(w:World)(H:Hp)(a:Addr)(kvs:List SE):Prop:=(VR a []∧kvs=[])∨Jg a (ig P w a kvs)
def gk (K:W.Frag)(H:Hp)(k:Sgn)(p:Addr):Prop:=∃q,X9 p (JgY k.1 q)∧X9 q (k.2.map kV)
noncomputable def atS (kvs:List SE)(k:Sgn):Option SE:=kvs.find? λe=>decide (e.1=k)
def vH (r:Paired relS kvs xs)(k) :
  (∃e q,JlF k e∧Xa (Jec xs) q∧aS e.2.2 q.2)∨(Qn (Je3 k)∧Qn (Jec xs)):=by
 induction r with
 | nil=>exact Jkj rfl
 | @cons p q ps b h t c =>
  by_cases a:p.1=k
  ·refine .inl ⟨p,q.2,?_,?_,h.2.2⟩
   ·unfold atS;rw[List.find?_cons_of_pos (by exact dTq a)]
   ·unfold atKey;rw[List.find?_cons_of_pos (by exact dTq (h.1.symm.trans a))];rfl
  ·have f:atS (p :: ps) k=atS ps k:=by unfold atS;rw[List.find?_cons_of_neg (by simpa using a)]
   have d:Jec (q :: b)=atKey b k:=by unfold atKey;rw[List.find?_cons_of_neg (by simpa using λz=>a (h.1.trans z))]
   rw[f,d];exact c
section
variable {X:Cx}
def vI (I:QE s)(h:gk X.K H k p):Jhg P w k p:=by
 obtain⟨q,j,i⟩:=h;obtain⟨g,r,⟨o,z,y,n,x⟩,_⟩:=I.tuple j;obtain⟨f,c,⟨d,v,u,e,l⟩,_⟩:=I.tuple i;cases r with
 | cons b t =>
  cases t with
  | cons a t =>
   cases t;obtain⟨tk,rfl⟩:=b;cases a;exact⟨o,tk,q,n,z,y,x,d,f.toArray,e,v,u,l,by simpa using pJ c⟩
inductive pZ (P)(w)(K):V→List V→Hp→VK→Prop|m{x vs H Q} d p k v kvs:Jed d→vs=JbO p v→JkG P w H d→JaH kvs.length→(∀e∈kvs,gk K H e.1 e.2.1)→gk K H k p→((∃e,JlF k e∧Q e.2.2 H)∨(Qn (Je3 k)∧Q v (Xw d (ig P w d (kvs++[(k,p,v)])))))→pZ P w K x vs H Q
def Ap (hu:X.A.units+64 < cLine):MtR X "dict.setdefault" (pZ X.prog X.w X.K):=by
 intro pins s σ H x vs v us Q I rx rv h;obtain⟨d,p,k,y,kvs,rfl,rfl,hd,hz,B,hk,q⟩:=h;cases rx;cases rv with
 | cons rp t =>
 cases t with
 | @cons _ y' _ _ ry t =>
 cases t;cases rp;have R:Q9 (d == sysModules)∧Mut (H d)∧∃xs:List (Sgn × Addr × Value),Paired relS kvs xs ∧
   ∃o es ep,s.heap.get? d=some o∧o.ExactDict∧o.data=Jj4 ep∧es.toList=Jg8 (kU X.prog X.w)∧(xs.map (·.1)).Nodup:=by
  rcases hd with ⟨e,rfl⟩ | e
  ·obtain⟨z,i,ws,c,o,es,ep,P,O,N,M,D,h6⟩:=JhW e;cases c;refine⟨i,by rw[e];exact True.intro,[],.nil,o,es,ep,P,O,N,?_,List.nodup_nil⟩;cases es with
   | mk l =>
    cases l with
    | nil=>rfl
    | cons a r=>exact absurd D (by intro z;cases z)
  ·obtain⟨⟨i,xs,r⟩,_⟩:=Jdv d e;exact⟨i,by rw[e];exact True.intro,xs,r⟩
 obtain⟨i,mu,xs,c,o,es,ep,P,O,N,M,D⟩:=R;have all:∀x∈xs,(kU X.prog X.w).is s.heap x.1 x.2.1:=by
  clear q M D hz hd
  induction c with
  | nil=>intro x j;exact nomatch j
  | @cons a b G E r t L =>
   intro x j;rcases List.mem_cons.mp j with rfl | j
   ·have:=B a List.mem_cons_self;rw[r.1,r.2.1]at this;exact vI I this
   ·exact L (λe he=>B e (Xd he)) x j
 have dd:Jkd (kU X.prog X.w) d:=⟨o,es,ep,P,O,N,M,all,D⟩;have ll:=Paired.length c;refine call_meetsIn PySem.F.slot_dict_setdefault dd.typeIs PySem.F.entry_dict_setdefault (PySem.F.args_dict_setdefault_3 _ _ _) (Ao (kU X.prog X.w) d p i y')
  ⟨(by show X.A.units+1+10 < cLine;lia),k,xs,vI I hk,dd,by lia,λu n=>?_,λhn h' Z hs=>?_⟩
 ·rcases vH c k with ⟨e,u2,g,f,r2⟩ | ⟨_,f⟩
  ·cases n.symm.trans f;rcases q with ⟨e',q1,C⟩ | ⟨q1,_⟩
   ·cases q1.symm.trans g;exact Ja1 _ H _ r2 C
   ·rw[q1]at g;exact nomatch g
  ·rw[n]at f;exact nomatch f
 ·rcases vH c k with ⟨e,u2,g,f,r2⟩ | ⟨g,f⟩
  ·rw[hn]at f;exact nomatch f
  rcases q with ⟨e',q1,C⟩ | ⟨_,C⟩
  ·rw[q1]at g;exact nomatch g
  obtain⟨o',U,Y,S,g2,g3,g4,g5,g6⟩:=Z;have J:JcP (Xw d (ig X.prog X.w d (kvs++[(k,p,y)]))) h' d (ig X.prog X.w d (kvs++[(k,p,y)])):=by
   refine⟨⟨i,_,?_,o',U,Y,S,g2,g3,g4,g6⟩,Jgo S,λa b z kp=>?_⟩
   ·have app:∀ {G:List SE} {E:List (Sgn × Addr × Value)},Paired relS G E→Paired relS (G++[(k,p,y)]) (E++[(k,p,y')]):=by
     intro G E r
     induction r with
     | nil=>exact Qv (Jhm ry)
     | cons r t L=>exact JeY L
    exact app c
   ·obtain⟨z1,ys,z2,o2,T,W,z3,z4⟩:=z;exact⟨z1,ys,z2,o2,T,W,kp _ z3,z4⟩
  exact⟨y,_,je I mu hs (Jgo S) J,ry,C⟩
def sd_is (I:QE s)(h:JkG X.prog X.w H d) :
  s.TypeIs (.ref d) "dict"∧∀a,Xy (Value.ref d) a→∃f,s.heap.get? a=some f∧Qn f.dict:=by
 have z:∃o,s.heap.get? d=some o∧o.ExactDict:=by
  rcases h with ⟨e,_⟩ | e
  ·obtain⟨_,_,_,_,o,_,_,c,b,_⟩:=Jdv d e;exact JjA c b
  ·obtain⟨⟨_,_,_,o,_,_,c,b,_⟩,_⟩:=Jdv d e;exact JjA c b
 obtain⟨o,e,b⟩:=z;refine⟨JjB b.1,λa g=>?_⟩;cases g;exact JjB b.2.1
def tSetd (P:Program)(w:World)(K:W.Frag)(c:TE)(t:TA):TE:=λa H Q=>c a H λx b=>(∃d kvs,Jed d∧JkG P w b d)∧t a b λxs e=>pZ P w K x xs e Q
def Aq (y:X.A.units+64 < cLine)(z:QG o to)(B:PA X (e :: es) t)
  (f:Jii o "setdefault" o=eval o X.env:=by rfl)
  (g:Qu ((JdG (e :: es)).all (λx=>!x.1)&&(Jdd cpos []).all (λx=>x.1.isSome)
   && decide ((e :: es).length+([]:List Keyword).length+(if([]:List Keyword).isEmpty then 0 else 1) < 30)):=by rfl)
  (c:Qu (apos.endLine == cpos.line):=by rfl)(hs:Qd (e :: es)=(false,Jf e) :: starEach es X.env:=by rfl)(b:(JdG es).any (·.1)=false:=by rfl) :
  PE X (JkR o "setdefault" (e :: es) [] cpos) (tSetd X.prog X.w X.K to t):=by intro a s i H Q I h;refine JfG f g c (thn (z a s i H _ I h) λv p ⟨x,L,k,r,⟨d,kvs,E,l⟩,q1⟩=>?_);subst E;cases r;obtain⟨D,C⟩:=sd_is k l;refine⟨"dict","dict.setdefault",PySem.F.plainAttrs_dict,PySem.F.slot_dict_setdefault,PySem.F.type_dict_setdefault,D,C,?_⟩;have j:=B cpos a p i L _ k q1;rw[hs]at j ⊢;refine XJ (by show Q9 (false||(JdG es).any (·.1));rw[b] <;> rfl) ?_;exact thn j λus n ⟨vs,J,G,q,u⟩=>Ap y a n i J (.ref d) vs (.ref d) us Q G rfl q u
end
end L2
namespace L2
open PySem
abbrev Tm:=Str × List Int
noncomputable def dTm (t:Tm):Dt:=.tup (JgX t.1 (.tup (t.2.map Dt.int)))
def Au (h:J9 K (dTm t) v):∃p q,Xy v p∧X9 p (JgY t.1 q)∧SqT K H q (t.2.map V.int):=by
 obtain⟨a,xs,rfl,j,i⟩:=h;obtain⟨d,w,s,l,g⟩:=i;obtain⟨u,e,r,k,f⟩:=g;cases s;cases r;have o:e=[]:=by have:=aj.length f;exact List.length_eq_zero_iff.mp this.symm
 subst o;have n:=l;subst n;obtain⟨b,ys,rfl,c,k2⟩:=k;rw[jb k2]at c;exact JC a b j c
def jM:∀ts:List Tm,Jc9 (ts.map dTm)
 | []=>by rfl
 | t :: ts=>by simp only[List.map_cons,bz,dTm,nol,Bool.true_and,Bool.and_eq_true];exact⟨⟨jC _,trivial⟩,jM ts⟩
def tm_at {K:W.Frag}{H:Hp}{ts:List Tm}{xs:List V}{i:Nat}{x:V}(h:J_ dTm xs)(e:xs[i]?=some x):∃t p q,ts[i]?=some t∧Jed p∧X9 p (JgY t.1 q)∧SqT K H q (t.2.map V.int):=by obtain⟨d,b,a⟩:=h.get e;rw[List.getElem?_map]at b;obtain⟨t,k,j⟩:=Option.map_eq_some_iff.mp b;rw[←j]at a;obtain⟨p,q,g,f,c⟩:=Au a;exact⟨t,p,q,k,g,f,c⟩
def jN (ts:List Tm)(c:Int→Int)(a b:Int):Prop:=∃t u,ts[a.toNat]?=some t∧ts[b.toNat]?=some u∧t.1=u.1∧t.2.map c=u.2.map c
structure LkOk (ts:List Tm)(gs:List (Int × Int))(pre)(l:Lk):Prop where
 a:0≤l.1∧l.1 < (ts.length:Int)
 b:0≤l.2.1∧l.2.1 < (ts.length:Int)
 new:hdL pre l.1≠hdL pre l.2.1
 how:(0≤l.2.2∧gs[l.2.2.toNat]?=some (l.1,l.2.1))∨(l.2.2=-1∧jN ts (hdL pre) l.1 l.2.1)
def bu (ts:List Tm)(a:List (Int × Int))(ls:List Lk):Prop:=∀i l,ls[i]?=some l→LkOk ts a (ls.take i) l
def bu.nil (ts)(a):Jit a []:=λi l h=>by simp at h
def bu.snoc (h:Jiu ls)(k:LkOk ts gs ls l):Jiu (ls++[l]):=λi m a=>by
 have b:=(gEq a).1;rw[lAq]at b;have b:i < ls.length+1:=b;by_cases c:i < ls.length
 ·rw[List.getElem?_append_left c]at a;rw[List.take_append_of_le_length (by lia)];exact h i m a
 ·have e:i=ls.length:=by lia
  subst e;rw[List.getElem?_append_right (nRq _),Nat.sub_self]at a;cases a;rw[JbH _,List.take_length];exact k
def bu.inn (h:Jiu ls):InN ts.length ls:=λl d=>by obtain⟨i,c⟩:=List.mem_iff_getElem?.mp d;exact⟨(h i l c).a,(h i l c).b⟩
def bu.his (h:Jiu ls):∀n,n≤ls.length→∃xs:List Int,Q8 n∧xs.Nodup∧∀x∈xs,(0≤x∧x < (ts.length:Int))∧Jfq n x≠x:=by
 intro n
 induction n with
 | zero=>exact λ_=>Q1 [] List.nodup_nil (λx c=>nomatch c)
 | succ n o =>
  intro s;obtain⟨xs,j,i,e⟩:=o (by lia);obtain⟨l,f⟩:∃l,ls[n]?=some l:=Jgp (by lia);have k:=h n l f;have d:=vq h.inn n (by lia);have q:=lohi (Jfq n l.1) (Jfq n l.2.1);have la:=d.in' k.a;have r:=d.in' k.b;have g:=d.hi_id l.1 l.2.1;have p:=k.new;refine⟨hiF (Jfq n l.1) (Jfq n l.2.1) :: xs,by rw[List.length_cons,j],JbW (λz=>(e _ z).2 g) i,λx c=>?_⟩;rw[bb f,ic];rcases List.mem_cons.mp c with rfl | c
  ·refine XE (by lia);unfold mrg;rw[if_pos g];lia
  ·refine XE ((e x c).1);have:=(e x c).2;have:=d.le x;unfold mrg;split <;> lia
def bu.len (h:Jiu ls):Jhf ls.length:=by obtain⟨xs,c,b,a⟩:=h.his ls.length (nRq _);rw[←c];exact fZ _ b λx d=>(a x d).1
def eX (ts:List Tm)(c:Int→Int):Prop:=∀(a b:Nat) t u,ts[a]?=some t→ts[b]?=some u→t.1=u.1→t.2.map c=u.2.map c→c (a:Int)=c (b:Int)
def eY (b:List (Int × Int))(a:Int→Int):Prop:=∀p∈b,a p.1=a p.2
def eY.more (h:Jc7 gs ls)(a):Jc7 gs (ls++a):=λp b=>nD a (h p b)
def vJ (N:Nat)(a:List (Int × Int)):Prop:=∀p∈a,(0≤p.1∧p.1 < (N:Int))∧0≤p.2∧p.2 < (N:Int)
noncomputable def eZ (t:Tm)(a:Int→Int):Sgn:=(t.1,(t.2.map a).map Sum.inl)
def Av (b:t.1=u.1)(a:t.2.map hd=u.2.map hd):eZ t hd=eZ u hd:=by unfold eZ;rw[b,a]
def vK:∀ {d c:List Int},d.map (Sum.inl:Int→Key)=c.map Sum.inl→d=c
 | [],[],_=>rfl
 | [],b :: c,h=>by cases h
 | a :: d,[],h=>by cases h
 | a :: d,b :: c,h=>by rw[List.map_cons,List.map_cons]at h;injection h with e f;injection e with e;rw[e,vK f]
def nN (ts:List Tm)(a:Int→Int)(i:Nat)(kvs:List SE):Prop:=∀e∈kvs,∃(j:Nat) (t:Tm) (es:List Int),Jhz e.2.2 (j:Int)∧j < i∧ts[j]?=some t∧e.1=(t.1,es.map Sum.inl)∧es.map a=t.2.map a
def vL (c):∀ {e d:List Int},e.map (hdL ls)=d.map (hdL ls)→e.map (hdL (ls++c))=d.map (hdL (ls++c))
 | [],[],_=>rfl
 | [],b :: d,h=>by cases h
 | a :: e,[],h=>by cases h
 | a :: e,b :: d,h=>by rw[List.map_cons,List.map_cons]at h ⊢;injection h with g f;rw[nD c g,vL c f]
def nN.more (h:nN ts (hdL ls) i kvs)(a)(b:i≤j):nN ts (hdL (ls++a)) j kvs:=λe c=>by obtain⟨k,t,es,l,n,g,f,d⟩:=h e c;exact⟨k,t,es,l,by lia,g,f,vL a d⟩
def Aw (h:JlF k e):e∈kvs∧e.1=k:=⟨List.mem_of_find?_eq_some h,by have:=List.find?_some h;exact oDq this⟩
def Ax {kvs:List SE}{k k2:Sgn}{e e2:SE}(h:JlF k e):atS (kvs++[e2]) k=some e:=by unfold atS at h ⊢;rw[List.find?_append,h];rfl
def Ay (h:Qn (Je3 k)):atS (kvs++[(k,p,v)]) k=some (k,p,v):=by unfold atS at h ⊢;rw[List.find?_append,h];rw[List.find?_cons_of_pos (by exact dTq rfl)];rfl
def GO.ktG (G:Jji H C g N b)(s:Jfo H'):aL H H':=λc xs h=>by
 obtain⟨dx,kl,kg,e,d,a,_⟩:=G.ex;rcases h with h | ⟨o,h⟩
 ·exact .inl (s _ _ (cq h d (by intro z;cases z)) (cq h a (by intro z;cases z)) h)
 ·exact Jx o (s _ _ (cq h d (by intro z;cases z)) (cq h a (by intro z;cases z)) h)
def GO.seqG (G:Jji H C g N b)(s:Jfo H')(h:Ja6 a):Xt H' a xs:=by
 obtain⟨dx,kl,kg,e,d,c,_⟩:=G.ex;rcases h with h | h
 ·rcases h with h | ⟨o,h⟩
  ·exact .inl (.inl (s _ _ (cq h d (by intro z;cases z)) (cq h c (by intro z;cases z)) h))
  ·exact .inl (Jx o (s _ _ (cq h d (by intro z;cases z)) (cq h c (by intro z;cases z)) h))
 ·exact .inr h
def GO.lstG (G:Jji H C g N b)(s:Jfo H')(h:Jc2 a):H' a=some (.lst xs):=by obtain⟨dx,kl,kg,e,d,c,_⟩:=G.ex;exact s _ _ (cq h d (by intro z;cases z)) (cq h c (by intro z;cases z)) h
def bq.grow (s:Jfo H')(n:Vn l):Jfo (upd H' l o):=λb u c a h=>by rw[Jbd h n];exact s b u c a h
def GO.putL (G:Jji H C g N b)(a:l∈av)(h:Jc2 l):Jji (JiW l) C g N b:=by obtain⟨dx,kl,kg,e,d,c,_⟩:=id G.ex;exact G.put (.inl a) (cq h e (by intro z;cases z)) (cq h d (by intro z;cases z)) (cq h c (by intro z;cases z))
def p_ {K:W.Frag}{H:Hp}{ts:List (Int × Int)}{xs:List V}{i:Nat}{x:V}(h:J_ dP xs)(e:xs[i]?=some x):∃t p,ts[i]?=some t∧Jed p∧SqT K H p (JO t.1 t.2):=gK h e
def aL.sd (h:JkG P w H d):aL H (JiW d):=λb xs q=>by
 have a:b≠d:=λe=>by
  subst e;rcases h with ⟨h,_⟩ | h
  ·rcases q with q | ⟨u,q⟩
   ·rw[h]at q;cases q
   ·rw[h]at q;cases q
  ·rcases q with q | ⟨u,q⟩
   ·rw[h]at q;cases q
   ·rw[h]at q;cases q
 rcases q with q | ⟨u,q⟩
 ·exact .inl (by rw[ai a];exact q)
 ·exact Jx u (by rw[ai a];exact q)
def SD.nol (h:JkG P w H d)(xs):H d≠some (.lst xs):=λe=>by
 rcases h with ⟨h,_⟩ | h
 ·rw[h]at e;cases e
 ·rw[h]at e;cases e
def SD.noi (h:JkG P w H d){C dx:Addr}{a:List (Str × V)}(e:Jcr d a):False:=by
 rcases h with ⟨h,_⟩ | h
 ·rw[h]at e;cases e
 ·rw[h]at e;cases e
def SD.to (h:JkG P w H d)(k:∀o,Jg d o→Vw d o):JkG P w H' d:=h.imp (λz=>⟨k _ z.1,z.2⟩) λz=>k _ z
def gk.keep (h:gk K H k p)(a:aL H H'):gk K H' k p:=by obtain⟨q,c,b⟩:=h;exact⟨q,a.sq c,a.sq b⟩
def qa (ts:List Tm)(a:Int→Int)(i:Nat)(kvs:List SE):Prop:=∀j t,j < i→ts[j]?=some t→∃e k,JlF (eZ t a) e∧Jhz e.2.2 k∧a k=a (j:Int)
def qa.closed (h:qa ts hd ts.length kvs):eX ts hd:=λa b t u f d p o=>by obtain⟨e,k,c,i,g⟩:=h a t (gEq f).1 f;obtain⟨r,q,n,l,j⟩:=h b u (gEq d).1 d;rw[Av p o]at c;lia
def NtR (kvs:List SE)(a:List (Sgn × Int)):Prop:=kvs.map (λe=>(e.1,e.2.2))=a.map λx=>(x.1,V.int x.2)
def NtR.at:∀ {kvs:List SE} {a:List (Sgn × Int)},NtR kvs a→(∃e x,JlF k e∧a.find? (λe=>decide (e.1=k))=some x∧Jhz e.2.2 x.2)∨(Qn (Je3 k)∧a.find? (λe=>decide (e.1=k))=none)
 | [],[],_=>Jkj rfl
 | [],x :: a,h=>by cases h
 | e :: kvs,[],h=>by cases h
 | e :: kvs,x :: a,h=>by
  unfold NtR at h;rw[List.map_cons,List.map_cons]at h;injection h with g f;injection g with b d;by_cases c:e.1=k
  ·refine .inl ⟨e,x,?_,?_,d⟩
   ·unfold atS;rw[List.find?_cons_of_pos (by exact dTq c)]
   ·rw[List.find?_cons_of_pos (by exact dTq (b ▸ c))]
  ·have i:atS (e :: kvs) k=atS kvs k:=by unfold atS;rw[List.find?_cons_of_neg (by simpa using c)]
   rw[i,List.find?_cons_of_neg (by simpa using (λz=>c (b.trans z)))];exact NtR.at f
def nwH (h:Vn a)(o):∃H',JiW a=H'∧Xj H∧H' a=some o:=Q1 _ (aq h o) af
inductive Ex2 {α₁ α₂:Type}(p:α₁→α₂→Prop):Prop | m (a:α₁) (b:α₂):p a b→Ex2 p
inductive Ex3 {α₁ α₂ α₃:Type}(p:α₁→α₂→α₃→Prop):Prop | m (a:α₁) (b:α₂) (c:α₃):p a b c→Ex3 p
inductive Ex4 {α₁ α₂ α₃ α₄:Type}(p:α₁→α₂→α₃→α₄→Prop):Prop | m (a:α₁) (b:α₂) (c:α₃) (d:α₄):p a b c d→Ex4 p
inductive Ex5 {α₁ α₂ α₃ α₄ α₅:Type}(p:α₁→α₂→α₃→α₄→α₅→Prop):Prop | m (a:α₁) (b:α₂) (c:α₃) (d:α₄) (e:α₅):p a b c d e→Ex5 p
inductive Ex6 {α₁ α₂ α₃ α₄ α₅ α₆:Type}(p:α₁→α₂→α₃→α₄→α₅→α₆→Prop):Prop | m (a:α₁) (b:α₂) (c:α₃) (d:α₄) (e:α₅) (f:α₆):p a b c d e f→Ex6 p
inductive Ex7 {α₁ α₂ α₃ α₄ α₅ α₆ α₇:Type}(p:α₁→α₂→α₃→α₄→α₅→α₆→α₇→Prop):Prop | m (a:α₁) (b:α₂) (c:α₃) (d:α₄) (e:α₅) (f:α₆) (g:α₇):p a b c d e f g→Ex7 p
inductive An3 (a b c:Prop):Prop | m:a→b→c→An3 a b c
inductive An4 (a b c d:Prop):Prop | m:a→b→c→d→An4 a b c d
inductive An5 (a b c d e:Prop):Prop | m:a→b→c→d→e→An5 a b c d e
inductive An6 (a b c d e f:Prop):Prop | m:a→b→c→d→e→f→An6 a b c d e f
inductive An7 (a b c d e f g:Prop):Prop | m:a→b→c→d→e→f→g→An7 a b c d e f g
inductive An8 (a b c d e f g h:Prop):Prop | m:a→b→c→d→e→f→g→h→An8 a b c d e f g h
inductive An10 (a b c d e f g h i j:Prop):Prop | m:a→b→c→d→e→f→g→h→i→j→An10 a b c d e f g h i j
inductive An11 (a b c d e f g h i j k:Prop):Prop | m:a→b→c→d→e→f→g→h→i→j→k→An11 a b c d e f g h i j k
def TmIn (zs:List Str)(n:Nat)(t:Tm):Prop:=t.1∈zs∧t.2.length≤3∧∀x∈t.2,0≤x∧x < (n:Int)
def TmW (zs:List Str)(ts:List Tm):Prop:=∀i t,ts[i]?=some t→TmIn zs i t
def TmW.nil (zs):TmW zs []:=λi t h=>by simp at h
def aj.take:∀ {a:List Dt} {vs:List V} (n:Nat),JQ a vs→JQ (a.take n) (vs.take n)
 | _,_,0,_=>aj.nil
 | [],vs,n+1,h=>by have e:=aj.length h;have f:=List.length_eq_zero_iff.mp e.symm;subst f;rfl
 | d :: a,vs,n+1,h=>by obtain⟨v,r,e,c,b⟩:=h;cases e;rw[List.take_succ_cons,List.take_succ_cons];exact aj.cons c (aj.take n b)
def kW (x y):decide (JjG x y)=decide (x=y):=JeD (λz=>by injection z) (λz=>by rw[z])
noncomputable def hdsG (a:Int→Int)(n:Nat):List Int:=(List.range n).map λi:Nat=>a (i:Int)
def vM (a){n:Nat}{k:Int}(h0:0≤k)(b:k < (n:Int)):atI ((hdsG a n).map V.int) k=some (.int (a k)):=zX (ls:=[]) a h0 b
end L2
namespace L2
open PySem PySem.Spec PyProof.Rows
section
variable {prog:Program} {w:World} {A:Around} {E:Value→Shared→Prop} {s:Shared}
def kX (a:s.heap.IsTupleIter it t i)(g:s.heap.IsTuple t items)(f:items[i]?=some x)
  (j:∀h',h'.IsTupleIter it t (i+1)→XZ it h'→Q x { s with heap:=h' }):Jlz (Builtin.SmallTypes.nextOf (.ref it)):=by
 obtain⟨o,c,h,b⟩:=id a;obtain⟨k,d,_,l,e⟩:=g;refine wpAny_bind (wpAny_callSpecial?_slot (name:=Str.ofString "__next__") a.typeIs F.slot_tuple_iterator_next (JcL F.slot_tuple_iterator_next a.typeIs F.entry_tuple_iterator_next (F.args_tuple_iterator_next_1 _)));show VV _ (Jem it 0 >>= _) _ _ s;refine Jdm c b ?_;show VV _ (if Qu (Value.ref t == Value.none) then _ else _) _ _ s
 rw[if_neg (show ¬(Qu (Value.ref t == Value.none)) from Bool.false_ne_true)];refine Jdm c b ?_;refine Jh d e ?_;simp only[Int.toNat_natCast,f];refine wpAny_bind (wpAny_setField c b (by simp) (Jls x (wpAny_pure (j _ ?_ (Heap.SameBut.update ..)))));exact⟨_,Heap.get?_update_self _ c (Obj.isFreed_of_fields (Obj.data_mapFields b _)),(Obj.cls_mapFields ..).trans h,by rw[Obj.data_mapFields b];rfl⟩
def qb (h:Qn A.handled)(b:s.heap.IsTupleIter it t i)(k:s.heap.IsTuple t items)(j:items[i]?=none)
  (l:∀h' e,Heap.ExtBut it s.heap h'→(∃o,h'.get? e=some o∧o.cls=.type "StopIteration")→E (.ref e) { s with heap:=h' }):Jlz (Builtin.SmallTypes.nextOf (.ref it)):=by
 obtain⟨o,d,q,g⟩:=id b;obtain⟨n,c,_,p,f⟩:=k;refine wpAny_bind (wpAny_callSpecial?_slot (name:=Str.ofString "__next__") b.typeIs F.slot_tuple_iterator_next (JcL F.slot_tuple_iterator_next b.typeIs F.entry_tuple_iterator_next (F.args_tuple_iterator_next_1 _)));show VV _ (Jem it 0 >>= _) _ _ s;refine Jdm d g ?_;show VV _ (if Qu (Value.ref t == Value.none) then _ else _) _ _ s
 rw[if_neg (show ¬(Qu (Value.ref t == Value.none)) from Bool.false_ne_true)];refine Jdm d g ?_;refine Jh c f ?_;simp only[Int.toNat_natCast,j];refine VJ (wpAny_bind (wpAny_setField d g (by simp) ?_));refine wpAny_bind ?_;simp only[newExc,newTuple];refine JaO ?_ (by size_fits);refine JeQ (by rfl) ?_
 refine wpAny_newObj_type ?_ (by size_fits);simp only[raiseNew];refine wpAny_bind (wpAny_handled ?_)
 first | rw[show Qn A.in1.handled from h] | rw[h]
 refine Qy (wpAny_throw ?_);exact l _ _ (((Heap.SameBut.update ..).extBut.push _).push _) (JeK (Heap.get?_push_size _ rfl))
def TuI (h:Heap)(it t:Addr)(i:Nat)(xs:Array Value):Prop:=h.IsTupleIter it t i∧h.IsTuple t xs
def TuI.ext (x:TuI h it t i xs)(hs:Heap.ExtBut b h h')(c:it≠b)(a:t≠b):TuI h' it t i xs:=⟨x.1.extBut hs c,x.2.extBut hs a⟩
def Az {z l TO J I l1 l2:Addr}{k1 k2:Nat}{xs ys:Array Value}{x y a b:Value}{Q:Value→Shared→Prop}(D:JbG z l J I l1 l2)
  (hz:Jku z l)(hTI:Jko l J I)(hTO:QR TO a b)(h1:Jb1 J l1 k1 xs)(h2:Jb1 I l2 k2 ys)(hx:xs[k1]?=some x)(hy:ys[k2]?=some y)
  (hQ:∀h',JcF h' z l (rawInt s.heap.objs.size)→IsPair h' TO x y→Jfa J (k1+1)→Jfb I (k2+1)→JcX h' x y→h'.objs.size=s.heap.objs.size+1 → (∀c o,c≠z→c≠TO→c≠J→c≠I→s.heap.get? c=some o→h'.get? c=some o)→JaQ { s with heap:=h' }) :
  wpAny (Qo w) A (Builtin.«zip.__next__» (Jgm z)) (λfin s'=>∃v,fin=.done (.ret v)∧Q v s') E s:=by
 show VV _ (Jem z 2 >>= _) _ _ _;refine Jgl ?_;refine Jgl ?_;refine Jhv hTI;refine wpAny_bind ?_;refine Jgl (wpAny_pure ?_);simp only[if_true];refine VJ ?_;refine Jgl ?_;refine wpAny_bind (wpAny_setField_rec hz (by simp) λY t k=>?_);replace t:JcF Y z l .ellipsis:=t;refine wpAny_bind ?_;simp only[List.zipIdx_cons,List.zipIdx_nil,List.forIn_cons,List.forIn_nil];refine Jd1 ?_;have a1:=h1.ext k.extBut D.i1z D.l1z;refine wpAny_bind (kX a1.1 a1.2 hx λX R j=>wpAny_pure ?_);have F:=j.extBut _ _ D.TOi1 (k.extBut _ _ D.TOz hTO);refine Jhv F;refine wpAny_bind (wpAny_updateSeq_pair F λW p i=>?_);replace p:IsPair W TO x b:=p;refine JfX ?_;refine Jd1 ?_;have a2:=((h2.ext k.extBut D.i2z D.l2z).ext j.extBut D.i12.symm D.l2i1).ext i.extBut D.TOi2.symm D.l2TO;refine wpAny_bind (kX a2.1 a2.2 hy λU O h=>wpAny_pure ?_);have C:=h.extBut _ _ D.TOi2 p;refine Jhv C;refine wpAny_bind (wpAny_updateSeq_pair C λd f g=>?_);replace f:IsPair d TO x y:=f;refine VO (Xl ?_);refine Jhv f;refine wpAny_bind (wpAny_newTuple ?_);have hsz:JgZ d.objs.size:=by rw[g.1,h.1,i.1,j.1,k.1]
 have G:=g.extBut _ _ D.TOz.symm (h.extBut _ _ D.i2z.symm (i.extBut _ _ D.TOz.symm (j.extBut _ _ D.i1z.symm t)));have M:∀c o,c≠z→c≠TO→c≠J→c≠I→s.heap.get? c=some o→d.get? c=some o:=λc o S c2 c3 c4 e =>
  g.extBut _ _ c2 (h.extBut _ _ c4 (i.extBut _ _ c2 (j.extBut _ _ c3 (k.extBut _ _ S e))))
 have P:=((R.extBut i.extBut D.TOi1.symm).extBut h.extBut D.i12).extBut g.extBut D.TOi1.symm;have N:=O.extBut g.extBut D.TOi2.symm;have K:=hLq G;refine wpAny_bind ?_;have L:JcF (d.push { cls:=.type "tuple",data:=.seq #[x,y] }) z l .ellipsis:=XX G;refine wpAny_bind (wpAny_setField_rec L (by simp) λT r B=>?_);replace r:JcF T z l (rawInt d.objs.size):=r;refine wpAny_setField_rec r (by simp) λq n u=>?_;replace n:JcF q z l (rawInt d.objs.size):=n;have up:∀c o,c≠z→d.get? c=some o→q.get? c=some o:=λc o S e=>u.extBut _ _ S (B.extBut _ _ S (XX e));have H:=u.extBut _ _ (Nat.ne_of_gt K) (B.extBut _ _ (Nat.ne_of_gt K) (Heap.get?_push_size _ rfl));have Z:q.objs.size=d.objs.size+1:=by rw[u.1,B.1,Heap.size_push]
 rw[hsz]at n H Z;refine Jb2 ?_;rw[hsz];exact hQ q n (up _ _ D.TOz f) (P.at λo e=>up _ o D.i1z e) (N.at λo e=>up _ o D.i2z e) H Z λc o S c2 c3 c4 e=>up c o S (M c o S c2 c3 c4 e)
def AA {z k TO C B l1 l2:Addr}{N k2:Nat}{xs ys:Array Value}{a b:Value}{Q:Fin→Shared→Prop}(U:Qn A.handled)(D:JbG z k C B l1 l2)
  (hz:Jku z k)(R:Jko k C B)(P:QR TO a b)(h1:Jb1 C l1 N xs)(Z:Jb1 B l2 k2 ys)(I:xs[N]?=none∨ys[k2]?=none)
  (W:∀h' e,(∀c o,c≠z→c≠TO→c≠C→c≠B→s.heap.get? c=some o→h'.get? c=some o)→(∃o,h'.get? e=some o∧o.cls=.type "StopIteration")→E (.ref e) { s with heap:=h' }) :
  wpAny (Qo w) A (Builtin.«zip.__next__» (Jgm z)) Q E s:=by
 show VV _ (Jem z 2 >>= _) _ _ _;refine Jgl ?_;refine Jgl ?_;refine Jhv R;refine wpAny_bind ?_;refine Jgl (wpAny_pure ?_);simp only[if_true];refine VJ ?_;refine Jgl ?_;refine wpAny_bind (wpAny_setField_rec hz (by simp) λH i g=>?_);replace i:JcF H z k .ellipsis:=i;refine wpAny_bind ?_;simp only[List.zipIdx_cons,List.zipIdx_nil,List.forIn_cons,List.forIn_nil];refine Jd1 ?_;have L:=h1.ext g.extBut D.i1z D.l1z;cases hx:xs[N]? with
 | none =>
  refine wpAny_bind (qb U L.1 L.2 hx λn e d O=>?_);obtain⟨M,j,u⟩:=O;have q:=d _ _ D.i1z.symm i;have y:e≠z:=λx=>by subst x;rw[q]at j;cases j;simp at u
  refine wpAny_setField_rec q (by simp) λv _ f=>W v e (λc o J _ T _ x=>f.extBut _ _ J (d _ _ T (g.extBut _ _ J x))) ⟨M,f.extBut _ _ y j,u⟩
 | some x =>
  have Y:ys[k2]?=none:=by rcases I with h | h;rw[hx]at h;cases h;exact h
  refine wpAny_bind (kX L.1 L.2 hx λn S d=>wpAny_pure ?_);have l:=d.extBut _ _ D.TOi1 (g.extBut _ _ D.TOz P);refine Jhv l;refine wpAny_bind (wpAny_updateSeq_pair l λv K f=>?_);refine JfX ?_;refine Jd1 ?_;have X:=((Z.ext g.extBut D.i2z D.l2z).ext d.extBut D.i12.symm D.l2i1).ext f.extBut D.TOi2.symm D.l2TO;refine wpAny_bind (qb U X.1 X.2 Y λG e t O=>?_);obtain⟨M,j,u⟩:=O;have p:=t _ _ D.i2z.symm (f.extBut _ _ D.TOz.symm (d.extBut _ _ D.i1z.symm i));have y:e≠z:=λx=>by subst x;rw[p]at j;cases j;simp at u
  refine wpAny_setField_rec p (by simp) λF _ r=>W F e (λc o J c2 T c4 x=>r.extBut _ _ J (t _ _ c4 (f.extBut _ _ c2 (d.extBut _ _ T (g.extBut _ _ J x))))) ⟨M,r.extBut _ _ y j,u⟩
def AB {z d TO f e l1 l2:Addr}{g k2:Nat}{xs ys:Array Value}{x y a b:Value}{Q:Option Value→Shared→Prop}(D:JbG z d f e l1 l2)
  (hz:Jku z d)(i:Jko d f e)(h:QR TO a b)(q:Jb1 f l1 g xs)(p:Jb1 e l2 k2 ys)(l:xs[g]?=some x)(k:ys[k2]?=some y)
  (n:∀h',JcF h' z d (rawInt s.heap.objs.size)→IsPair h' TO x y→Jfa f (g+1)→Jfb e (k2+1)→JcX h' x y→h'.objs.size=s.heap.objs.size+1 → (∀c o,c≠z→c≠TO→c≠f→c≠e→s.heap.get? c=some o→h'.get? c=some o)→Q (Ja s.heap.objs.size) { s with heap:=h' }) :
  wpAny (Qo w) A (Jdj z) Q E s:=by
 have j:JkS z:=JeK hz;exact JdN (wpAny_callSpecial?_slot (name:=Str.ofString "__next__") j F.slot_zip_next (JeN j (Az D hz i h q p l k λh' G C B v u t r=>wpAny_pure (n h' G C B v u t r)) _))
def AC {z d TO h g l1 l2:Addr}{k k2:Nat}{xs ys:Array Value}{a b:Value}{Q:Option Value→Shared→Prop}(q:Qn A.handled)(D:JbG z d h g l1 l2)
  (hz:Jku z d)(j:Jko d h g)(i:QR TO a b)(x:Jb1 h l1 k xs)(v:Jb1 g l2 k2 ys)(f:xs[k]?=none∨ys[k2]?=none)
  (u:∀h',(∀c o,c≠z→c≠TO→c≠h→c≠g→s.heap.get? c=some o→h'.get? c=some o)→Q none { s with heap:=h' }):Jlz (Jdj z):=by
 have l:JkS z:=JeK hz;refine JdN (wpAny_callSpecial?_slot (name:=Str.ofString "__next__") l F.slot_zip_next (JeN l (AA q D hz j i x v f λh' e p r=>?_) _))
 obtain⟨o,n,t⟩:=r;refine Jae (JjA n t) isSubtype_stop ?_;exact wpAny_pure (u _ p)
end
abbrev zpT1 (h:Heap)(l1:Addr):Heap:=h.push { cls:=.type "tuple_iterator",data:=.fields #[.ref l1,.int 0 0] }
abbrev zpT2 (h:Heap)(l1 l2:Addr):Heap:=(zpT1 h l1).push { cls:=.type "tuple_iterator",data:=.fields #[.ref l2,.int 0 0] }
abbrev zpT3 (h:Heap)(l1 l2:Addr):Heap:=(zpT2 h l1 l2).push { cls:=.type "tuple",data:=.seq #[.ref h.objs.size,.ref (zpT1 h l1).objs.size] }
abbrev zpT4 (h:Heap)(l1 l2:Addr):Heap:=(zpT3 h l1 l2).push { cls:=.type "tuple",data:=.seq #[.none,.none] }
abbrev iI (h:Heap)(l1 l2:Addr):Heap:=(zpT4 h l1 l2).push { cls:=.type "zip",data:=.fields #[.none,.bool false,.bool false,.ref (zpT2 h l1 l2).objs.size,.ref (zpT3 h l1 l2).objs.size] }
def AD (l1 l2)(xs ys) :
  Meets (Builtin.«zip.__new__» (Jew [.type "zip",.ref l1,.ref l2])) (λ_ R s=>s.heap.IsTuple l1 xs∧s.heap.IsTuple l2 ys∧Jik (.ref (zpT4 s.heap l1 l2).objs.size) { s with heap:=iI s.heap l1 l2 }) :=
 .of_wp λprog w A R s h=>by
  obtain⟨j,g,d,tk,f⟩:=s;obtain⟨b,a,h⟩:=h;have i:=sub_zip;have e:=b;have c:Heap.IsTuple (Shared.heap ⟨j.push { cls:=.type "tuple_iterator",data:=.fields #[.ref l1,.int 0 0] },g,d,tk,f⟩) l2 ys:=Heap.IsTuple.push a _
  wp_walk using wpAny_pyIter_tuple e,wpAny_pyIter_tuple c
  exact V2 h
section
variable {prog:Program} {w:World} {A:Around} {E:Value→Shared→Prop} {s:Shared}
def AE (j:s.heap.IsTuple l1 xs)(i:s.heap.IsTuple l2 ys)
  (h:∀h',IsZip h' (s.heap.objs.size+4) (s.heap.objs.size+2) (s.heap.objs.size+3) .none→IsPair h' (s.heap.objs.size+2) (.ref s.heap.objs.size) (.ref (s.heap.objs.size+1)) →
   IsPair h' (s.heap.objs.size+3) .none .none→Jfa s.heap.objs.size 0→Jfb (s.heap.objs.size+1) 0→h'.objs.size=s.heap.objs.size+5 → (∀c o,s.heap.get? c=some o→h'.get? c=some o)→Xg (s.heap.objs.size+4) { s with heap:=h' }) :
  wpAny (Qo w) A (Jka "zip" (JbP l1 l2)) Q E s:=by
 refine callType_new F.called_zip (by decide) (F.typeCall_zip_2 _ _) (F.newCall_zip_2 _ _) (λg=>F.args_object_init_3 g _ _) F.entry_zip_new (AD l1 l2 xs ys) (Qk j i);have f:(zpT1 s.heap l1).objs.size=s.heap.objs.size+1:=Heap.size_push ..;have d:(zpT2 s.heap l1 l2).objs.size=s.heap.objs.size+2:=by rw[Heap.size_push,f]
 have b:(zpT3 s.heap l1 l2).objs.size=s.heap.objs.size+3:=by rw[Heap.size_push,d]
 have a:(zpT4 s.heap l1 l2).objs.size=s.heap.objs.size+4:=by rw[Heap.size_push,b]
 have q:(Jhh l1 l2).objs.size=s.heap.objs.size+5:=by rw[Heap.size_push,a]
 have k:(Jhh l1 l2).get? (zpT4 s.heap l1 l2).objs.size=some _:=Heap.get?_push_size _ rfl;have l:(Jhh l1 l2).get? (zpT3 s.heap l1 l2).objs.size=some _:=XX (Heap.get?_push_size _ rfl);have n:(Jhh l1 l2).get? (zpT2 s.heap l1 l2).objs.size=some _:=Jf0 (Heap.get?_push_size _ rfl);have p:(Jhh l1 l2).get? (zpT1 s.heap l1).objs.size=some _:=Jf0 (XX (Heap.get?_push_size _ rfl));have t:(Jhh l1 l2).get? s.heap.objs.size=some _:=XX (Jf0 (XX (Heap.get?_push_size _ rfl)));have r:∀c o,s.heap.get? c=some o→(Jhh l1 l2).get? c=some o:=λc o e=>XX (Jf0 (Jf0 e));rw[d,b,a]at k;rw[f,d]at n;rw[b]at l;rw[f]at p;rw[a];exact⟨JeK k,h _ k n l (Ji0 t) (Ji0 p) q r⟩
end
section
variable {X:Cx}
def qd (K)(c:X.K=K)(a:JjW e)(b:Jii e f e=Jf e):QG (Jev e pos) (tFld K ta f):=by subst c;exact aB a b
def qe:Jay X "sorted" (λxs H Q=>∃p ns,xs=Vt p∧JgP H p (ns.map V.int)∧ns.length < 64∧∀l (a:List Int),Vn l→a.Perm ns→a.Pairwise (·≤·)→JkM l l (a.map V.int)):=by intro g s A H xs us Q I r h;obtain⟨p,ns,rfl,k,x,q⟩:=h;obtain⟨u,rfl,j⟩:=fy r;cases j;obtain⟨d,f,pl,hz⟩:=I.list k;have n:=pA f;have c:=f.length;rw[lM]at c;refine sorted_ints pl.isList n (by lia) λout a z i y=>?_;obtain⟨e,t⟩:=sortedAll_at s.heap d out;have ml:=i.length_eq;exact VM (s.heap.objs.size+1) _ (I.laid (t':=s.toks) (λb o v=>sortedAll_old v) (Nat.le_succ _) (show JcP _ _ _ (.lst (a.map V.int)) from⟨VX (by rw[lM];lia),out.toList,e,mJ z,t⟩)) (q _ a (I.hok.fresh (Nat.le_succ _)) i y)
end
section
variable {prog:Program} {w:World} {A:Around} {E:Value→Shared→Prop} {s:Shared}
def AF {t b:Addr}{vs i:List Value}{Q:Value→Shared→Prop}(v:Jdi t vs.toArray)(x:Jdi b i.toArray)(u:vs=[])(h:Xg b s):Jlz (binaryOp .Add (.ref t) (.ref b)):=by
 obtain⟨⟨z,y,o,q⟩,j,l,n,k⟩:=id v;obtain⟨⟨p,f,g,e⟩,a,d,r,c⟩:=id x;simp only at l k d c;subst l k d c;exact concat_meets (JeK j) (JeK a) noFill_tuple_add seq_tuple_add PySem.F.slot_tuple_add PySem.F.entry_tuple_add (JdS _)
   (tuple_addW0 t b vs.toArray i.toArray n r y f q e (by simp [u])) ⟨j,a,h⟩
end
inductive rCatA (K):R2|m{x y H Q} a b xs ys:Jed a→Xy y b→JfB a→X9 b ys→xs.length+ys.length≤sizeLine→(∀H' p,Xj H→Vv H' p (xs++ys)→Jbq p)→rCatA K x y H Q
def AG:JaD X .Add (rCatA X.K):=by
 intro c s n H x y v u Q I i g h;obtain⟨a,b,xs,ys,l,k,f,e,hz,q⟩:=h;by_cases d:xs=[]
 ·subst l k;cases i;cases g;obtain⟨w,o,t,_⟩:=I.tuple f;obtain⟨j,B,r,_⟩:=I.tuple e;refine AF t r (o.nil_iff.mpr d) (VM b H I (q H b (ao.refl _) ?_));rw[d];exact e
 ·refine ym c s n H x y v u Q I i g ⟨a,b,xs,ys,l,k,f,e,d,hz,λz=>?_,λz p A=>q _ p (QL A) (SqT.of af)⟩;refine q H a (ao.refl _) ?_;rw[z,List.append_nil];exact f
section
variable {P:Program} {w:World} {H H':Hp} {h h' B:Heap} {a:Addr} {o:HO}
def bE.there (x:bE P w H h a o):∃b,h.get? a=some b:=by
 cases o with
 | lst xs=>obtain⟨_,_,_,_,q⟩:=x;exact Jgo q
 | tup xs=>obtain⟨_,_,_,b,q,_⟩:=x;exact Jgo q
 | dK kvs=>obtain⟨_,_,_,_,o,_,_,q,_⟩:=x;exact Jgo q
 | dT kvs=>obtain⟨_,_,_,_,o,_,_,q,_⟩:=x;exact Jgo q
 | set S n=>obtain⟨o,_,_,_,q,_⟩:=x;exact Jgo q
 | ins C dx c=>obtain⟨_,_,_,q,_⟩:=x;exact Jgo q
 | own y=>exact x
 | xd c=>obtain⟨_,⟨_,_,_,q,_⟩,_⟩:=x;exact Jgo q
 | rng lo e=>obtain⟨_,_,_,q⟩:=x;exact Jgo q
 | frz b u=>exact Jgo x.1
 | tbl ps=>exact Jgo (show h.get? a=some _ from x)
 | met f y=>exact Jgo (show h.get? a=some _ from x)
 | ext d=>exact x.2.1
def Trk (H:Hp)(h B:Heap):Prop:=∀b c,H b≠none→h.get? b=some c→B.get? b=some c
def Old (e:List Addr)(H:Hp)(h B:Heap):Prop:=∀b d,h.get? b=some d→b∉e→∃c,B.get? b=some c∧(Vn b→c=d)
end
section
variable {X:Cx} {pins:List (Addr × Obj)} {σ:St} {H H':Hp} {s s':Shared} {B:Heap} {ea C:Addr} {a0:Value} {D:ir} {f:Flow} {E1:Value→Shared→Prop}
structure Came (X)(pins)(σ:St)(H)(s)(H')(B)(s':Shared):Prop where
 I:QE s
 os:s'.os=s.os
 bare:AllBare s'.gens
 u:JhL [] H H' s'.heap
 ok:Jf3 H' s'.heap
 trk:Trk H' s'.heap B
 old:Old (frs X.stack) H s.heap B
end
section
variable {X:Cx} {pins:List (Addr × Obj)} {σ:St} {H H':Hp} {s s':Shared} {B:Heap} {ea C:Addr} {a0:Value} {D:ir} {f:Flow}
def Came.apart (c:Came X pins σ H s H' B s'){h':Heap}(e:Heap.FlyingW B X.stack ea (.ref C) a0 h'):s.heap.get? ea=none:=by
 cases q:s.heap.get? ea with
 | none=>rfl
 | some h =>
  by_cases d:ea∈frs X.stack
  ·obtain⟨_,_,k,l,vs,_,_,_,i,_,j,_⟩:=e;obtain⟨_,o,b,a⟩:=k.mem d;rw[i]at b;cases b;exact absurd j (a vs)
  ·obtain⟨n,g,_⟩:=c.old ea h q d;rw[e.2.1]at g;cases g
end
section
variable {prog:Program} {w:World} {A:Around} {E:Value→Shared→Prop} {s:Shared} {T:String} {r d:Addr} {n:Nat} {P:Nat→Value→Prop} {OK:Heap→Prop}
def AH (K:W.KdlSrc prog w T r d n P OK)(p:Qn A.handled)(c:OK s.heap)(k:Ju n)
  (t:∀h' tk a,(∀b o,s.heap.get? b=some o→h'.get? b=some o)→s.heap.objs.size < h'.objs.size→ItemsOf P a n→Q a.toList { s with heap:=h',toks:=tk }) :
  wpAny (Qo w) A (collect (.ref r)) Q E s:=by
 have f:=K.there _ c;have i:∀R:Result→Shared→Prop,(∀h' tk a j,(∀b o,JdU b→(s.heap.push (seqObj "list" #[] 0)).get? b=some o→h'.get? b=some o)→h'.get? s.heap.objs.size=some { cls:=.type "list",dict:=none,data:=.seq a j,slots:=#[] }→ItemsOf P a n→Jik (.ref s.heap.objs.size) { s with heap:=h',toks:=tk }) →
   codeAny (Qo w) A (JR "list.__iadd__" (JbP s.heap.objs.size r) []) R { s with heap:=s.heap.push (seqObj "list" #[] 0) }:=λR q=>by refine XD entry_list_iadd';rw[Xx PySem.F.plain_list_iadd];exact W.kdl_extend K p (K.keep _ _ c λb _ o e=>XX e) _ (Nat.ne_of_gt f.1) (Nat.ne_of_gt f.2) _ 0 (Heap.get?_push_size _ rfl) q k
 refine wpAny_bind (wpAny_runValue (XD entry_proto_collect'));show VV _ (do again (JR "list.__iadd__" [←newList [],.ref r] [])) _ _ s
 refine wpAny_bind (wpAny_newList (QX (Code.quiet_builtin _ (by decide +kernel)) (i _ λh' tk a j l h g=>?_)));show Jly (do
   let o ←load s.heap.objs.size
   match o.data with
   | .seq xs _=>pure xs.toList
   | _=>unsupported "internal:collect") _
 refine wpAny_bind (wpAny_load h ?_);exact wpAny_pure (t h' tk a (λb o e=>l b o (V_ e) (XX e)) (hLq h) g)
def AI (K:W.KdlSrc prog w T r d n P OK)(t:Qn A.handled)(k:OK s.heap)(p:n < 64)
  (y:∀acc:Array Value,JfH P n→∃ns,Jex acc.toList)
  (x:∀h' tk acc out ns c e (a:Addr),(∀b o,s.heap.get? b=some o→h'.get? b=some o)→Jch a→h'.get? a=some (seqObj "list" out e)→JfH P n→Jex acc.toList→IntsAre out.toList c→c.Perm ns→c.Pairwise (·≤·)→Xg a { s with heap:=h',toks:=tk }) :
  wpAny (Qo w) A (Jbj "sorted" (Vt r)) Q E s:=by
 refine Calls.call_function_entry kind_sorted plain_sorted entry_sorted (args_sorted1 _) ?_;refine Qy ?_;refine wpAny_bind (AH K t k (Jq (Nat.le_of_lt p)) λh' tk acc q l f=>?_);have z:JfO n:=by rw[Array.length_toList];exact f.1
 refine wpAny_bind (wpAny_newList (hsz:=by rw[z];exact Jq (Nat.le_of_lt p)) ?_);obtain⟨ns,i⟩:=y acc f;have g:(h'.push (seqObj "list" acc.toList.toArray 0)).get? h'.objs.size=some (seqObj "list" acc.toList.toArray 0):=Heap.get?_push_size _ rfl;refine Vu (wpAny_call_entry slot_list_sort (JeK g) entry_list_sort (list_sort_tree g i (by lia) λout c D C B=>V2 ?_) (args_list_sort _));obtain⟨e,u⟩:=sortedHeap_at (out:=out) g;refine Jb2 (x _ tk acc out ns c e _ (λb o v=>?_) (Nat.le_of_lt l) u f i D C B);have j:=q b o v;have h:=hLq j;rw[sortedHeap_old (Nat.ne_of_lt h) (by rw[size_push'];exact Nat.lt_succ_of_lt h),Heap.get?_push_ne _ _ _ (Nat.ne_of_lt h)];exact j
end
section
variable {X:Cx}
def vN:∀ {vs:List Value} {ns c:List Int},Jex vs→IntsAre vs c→ns=c
 | _,_,_,.nil,.nil=>rfl
 | _,_,_,.cons n t a,.cons _ _ b=>by rw[vN a b]
def AJ (Z:Qu X.calm):Jay X "sorted" (λxs H Q=>∃d kvs ns,xs=Vt d∧Jdp d∧kvs.map (λS=>kV S.1)=ns.map V.int∧ns.length < 64∧∀l (B:List Int),Vn l→B.Perm ns→B.Pairwise (·≤·)→JkM l l (B.map V.int)):=by
 intro G s σ H xs us Q I r h;obtain⟨d,kvs,ns,rfl,K,D,h64,q⟩:=h;obtain⟨u,rfl,P⟩:=fy r;cases P;obtain⟨N,z,c,f,o⟩:=JhW K;obtain⟨ep,M⟩:=o.dictAt;have l1:=f.length;have kl:kvs.length=ns.length:=by have:=Jad D;rw[lM,lM]at this;exact this
 have items:∀acc:Array Value,JfH (λi v=>∃k x,c[i]?=some (k,x)∧Qu (gW k v)) c.length→aM (ns.map V.int) acc.toList:=λacc b=>by
  have t:JfO c.length:=by rw[Array.length_toList];exact b.1
  have g:∀j x,acc.toList[j]?=some x→∃k y,c[j]?=some (k,y)∧Qu (gW k x):=λj x E=>b.2 j x (by rw[←Array.getElem?_toList];exact E);rw[←D];clear b N l1 M o q K D kl;generalize acc.toList=L at t g
  induction f generalizing L with
  | nil =>
   match L,t with
   | [],_=>exact .nil
  | @cons p p' ps R a _ U =>
   match L,t with
   | x :: L,t =>
    obtain⟨k,y,e1,e2⟩:=g 0 x rfl;cases e1;refine .cons ?_ (U L (by simpa using t) λj x E=>g (j+1) x E);have:=uX e2;show aS (kV p.1) x;rw[show p.1=k from a.1];exact this
 refine AI (W.kdl_dict (kvs:=c) z) (I.ok.hd Z) M (by lia) (λacc b=>⟨ns,pA (items acc b)⟩) λh' tk acc out A n e a T J ha b Y C F O=>?_;have en:=vN Y (pA (items acc b));subst en;have ml:=F.length_eq;exact VM a _ (I.laid (t':=tk) T J (show JcP _ h' _ (.lst (n.map V.int)) from⟨VX (by rw[lM];lia),out.toList,e,mJ C,by rw[Array.toArray_toList];exact ha⟩)) (q _ n (I.hok.fresh J) F O)
def tD1 (tk c:TE):TE:=λa H Q=>∀d,Vn d→tk a (Xe H d []) λx e=>c a e λy b=>∃k,x=kV k∧Xa (b d) (.dK [])∧Xg d (Xe b d [(k,y)])
def pe_d1 (C:QG ke tk)(B:QG ve tv)
  (e:(evalEachOpt [some ke] X.env).zip ((evalEach [ve] X.env).map λv=>do let x ←v;standAt pos;pure x)=([(Jf ke,do let x ←Jf ve;standAt pos;pure x)]:List (Sem Value × Sem Value)).map λp=>(some p.1,p.2):=by rfl):QG (.Dict [some ke] [ve] pos) (tD1 tk tv):=by intro b s f H Q I h;refine wpAny_Dict_pairs (knd:=Jf8 X.w) e (by simp) (by show 1≤15;decide) ?_;have J:=JbR (t':=s.toks) (λ_ _ q=>XX q) _ (uL s.heap I.big);have h0:=h _ (VG _);refine evalPairs_cons (thn (C b _ f _ _ J h0) λN r ⟨x,K,G,u,q1⟩=>?_);refine wpAny_bind (thn (B b r f K _ G q1) λj M ⟨y,P,i,t,k,E,g,A⟩=>JT (wpAny_pure (evalPairs_nil ?_)));subst E;obtain⟨z,l,L,d,F⟩:=hU i.hok g;cases d;refine⟨[(k,j)],Vg (gN u) True.intro,F,λh' c n=>?_⟩;obtain⟨o,es,ep,D,O⟩:=id c;exact VM _ _ (je i (by rw[g];exact True.intro) n (Jgo D) (jA (by show Ju 1;decide) l (Qv (Jbe t)) c)) A
inductive kY:V→List V→Hp→VK→Prop|m{x vs H Q} (d) (k) (v) (kvs):Jed d→vs=[kV k,v]→Jdp d→JaH kvs.length→((∃u,Xa (JeA k) u∧Q u H)∨(Qn (JeA k)∧Q v (Xe H d (Jio v))))→kY x vs H Q
def AK:MtR X "dict.setdefault" kY:=by
 intro l s K H x vs v us Q I r A h;obtain⟨d,k,y,kvs,rfl,rfl,n,hz,q⟩:=h;cases r;cases A with
 | cons B t =>
 cases t with
 | @cons _ p _ _ j t =>
 cases t;obtain⟨z,i,f,b,o⟩:=JhW n;have C:Ju f.length:=by rw[←b.length];exact z
 have a:=b.val k;refine call_meetsIn PySem.F.slot_dict_setdefault o.typeIs PySem.F.entry_dict_setdefault (PySem.F.args_dict_setdefault_3 _ _ _) (kt_meets_setdefault (Jf8 X.w) d (gN B) i p) ⟨f,o,C,λu D=>?_,λE h' c hs=>?_⟩
 ·rw[D]at a;rcases q with ⟨g,q1,e⟩ | ⟨q1,_⟩
  ·rw[q1]at a;exact Ja1 g H _ a e
  ·rw[q1]at a;exact a.elim
 ·rw[E]at a;rcases q with ⟨g,q1,e⟩ | ⟨q1,e⟩
  ·rw[q1]at a;exact a.elim
  ·have J:∃q,h'.get? d=some q:=let ⟨q,_,_,hq,_⟩:=c;⟨q,hq⟩;have G:(Jio y).length≤sizeLine:=by have:=kG kvs k y;lia
   exact⟨y,_,je I (by rw[n];exact True.intro) hs J (jA G i (b.put k j) c),j,e⟩
def tSetK (c:TE)(t:TA):TE:=λa H Q=>c a H λx b=>(∃d kvs,Jed d∧Xa (b d) (.dK kvs))∧t a b λxs e=>kY x xs e Q
def kZ (w:QG o to)(y:PA X (e :: es) t)
  (f:Jii o "setdefault" o=eval o X.env:=by rfl)
  (g:Qu ((JdG (e :: es)).all (λx=>!x.1)&&(Jdd cpos []).all (λx=>x.1.isSome)
   && decide ((e :: es).length+([]:List Keyword).length+(if([]:List Keyword).isEmpty then 0 else 1) < 30)):=by rfl)
  (c:Qu (apos.endLine == cpos.line):=by rfl)(hs:Qd (e :: es)=(false,Jf e) :: starEach es X.env:=by rfl)(b:(JdG es).any (·.1)=false:=by rfl) :
  PE X (JkR o "setdefault" (e :: es) [] cpos) (tSetK to t):=by intro a s i H Q I h;refine JfG f g c (thn (w a s i H _ I h) λv p ⟨x,E,k,r,⟨d,kvs,B,l⟩,q1⟩=>?_);subst B;cases r;obtain⟨A,z,_⟩:=pK k (Jd0 kvs l);refine⟨"dict","dict.setdefault",PySem.F.plainAttrs_dict,PySem.F.slot_dict_setdefault,PySem.F.type_dict_setdefault,A,z,?_⟩;have j:=y cpos a p i E _ k q1;rw[hs]at j ⊢;refine XJ (by show Q9 (false||(JdG es).any (·.1));rw[b] <;> rfl) ?_;exact thn j λus n ⟨vs,D,C,q,u⟩=>AK a n i D (.ref d) vs (.ref d) us Q C rfl q u
end
abbrev jO (h:Heap)(z TI TO:Addr)(f0 f1:Value):Prop :=
 h.get? z=some { cls:=.type "zip",dict:=none,data:=.fields #[f0,f1,.bool false,.ref TI,.ref TO],slots:=#[] }
def Zow (h:Heap)(z TI TO b a:Addr):Prop:=Jip h z TI∨∃(p:Addr) (c u v:Value),JjM h z TI TO p c∧JgV p u v∧p≠z∧p≠TO∧p≠b∧p≠a
section
variable {prog:Program} {w:World} {A:Around} {E:Value→Shared→Prop} {s:Shared}
def AL (h:Q (s.heap.get? a) s):wpAny M A (loadIfAlive a) Q E s:=λc p b=>by unfold loadIfAlive;rw[Sem.wp_loadIfAlive];simpa [Sem.wp] using h
def vO {z TI TO p:Addr}{e u v:Value}{Q:Bool→Shared→Prop}(hz:JjM s.heap z TI TO p e)(h:QR p u v)
  (g:∀h' f,JjM h' z TI TO p f→XZ z h'→Q false { s with heap:=h' }):Jlz (Builtin.SmallTypes.ownedTupleIsFree (.ref z)):=by
 refine Jgl ?_;refine wpAny_bind (AL ?_);rw[Int.toNat_natCast,h];refine wpAny_bind (wpAny_field hz rfl (x:=e) rfl ?_);by_cases c:Qu (e != .bool true)
 ·rw[if_pos c];refine wpAny_bind (wpAny_setField_rec hz (by simp) λd a b=>?_);exact wpAny_pure (g d (.bool true) a b)
 ·rw[if_neg c];exact wpAny_pure (g s.heap e hz (Jbe (λ_ _=>rfl)))
def AM {z h TO j i l1 l2:Addr}{r k2:Nat}{xs ys:Array Value}{x y M L u v X:Value}{p:Addr}{Q:Value→Shared→Prop}(D:JbG z h j i l1 l2)
  (hz:JjM s.heap z h TO p X)(P:QR p u v)(Y:p≠z∧p≠TO∧p≠j∧p≠i)(t:Jko h j i)(S:QR TO M L)(W:Jb1 j l1 r xs)(U:Jb1 i l2 k2 ys)(O:xs[r]?=some x)(N:ys[k2]?=some y)
  (T:∀h' f,JjM h' z h TO p f→Jfa j (r+1)→Jfb i (k2+1)→JcX h' x y→h'.objs.size=s.heap.objs.size+1 → (∀c o,c≠z→c≠j→c≠i→s.heap.get? c=some o→h'.get? c=some o)→JaQ { s with heap:=h' }) :
  wpAny (Qo w) A (Builtin.«zip.__next__» (Jgm z)) (λB s'=>∃v,B=.done (.ret v)∧Q v s') E s:=by
 show VV _ (Jem z 2 >>= _) _ _ _;refine Jgl ?_;refine Jgl ?_;refine Jhv t;refine wpAny_bind (vO hz P λI f l d=>?_);simp only[Bool.false_eq_true,if_false];refine wpAny_bind ?_;rw[←Array.forIn_toList];simp only[List.forIn_cons,List.forIn_nil];refine Jkk ?_;have K:=W.ext d.extBut D.i1z D.l1z;refine wpAny_bind (kX K.1 K.2 O λH q b=>Xl ?_);refine Jkk ?_;have J:=(U.ext d.extBut D.i2z D.l2z).ext b.extBut D.i12.symm D.l2i1;refine wpAny_bind (kX J.1 J.2 N λg n a=>Jki ?_);refine wpAny_bind (wpAny_newTuple ?_ (show Ju 2 by rw[sizeLine_eq];decide));have hsz:JgZ g.objs.size:=by rw[a.1,b.1,d.1]
 have k:=a.extBut _ _ D.i2z.symm (b.extBut _ _ D.i1z.symm l);have R:∀c o,c≠z→c≠j→c≠i→s.heap.get? c=some o→g.get? c=some o:=λc o G F C e=>a.extBut _ _ C (b.extBut _ _ F (d.extBut _ _ G e));refine Jb2 ?_;rw[hsz];refine T _ f (XX k) ((q.extBut a.extBut D.i12).at λo e=>XX e) (n.at λo e=>XX e) ?_ (by rw[Heap.size_push,hsz]) λc o G F C e=>XX (R c o G F C e);rw[←hsz];exact Heap.get?_push_size _ rfl
def AN {z b TO g i l1 l2:Addr}{l:Nat}{xs:Array Value}{t r u v J:Value}{p:Addr}{Q:Fin→Shared→Prop}(C:Qn A.handled)(D:JbG z b g i l1 l2)
  (hz:JjM s.heap z b TO p J)(B:QR p u v)(k:Jko b g i)(G:QR TO t r)(I:Jb1 g l1 l xs)(y:xs[l]?=none)
  (H:∀h' e,(∀c o,c≠z→c≠TO→c≠g→c≠i→s.heap.get? c=some o→h'.get? c=some o)→(∃o,h'.get? e=some o∧o.cls=.type "StopIteration")→E (.ref e) { s with heap:=h' }) :
  wpAny (Qo w) A (Builtin.«zip.__next__» (Jgm z)) Q E s:=by show VV _ (Jem z 2 >>= _) _ _ _;refine Jgl ?_;refine Jgl ?_;refine Jhv k;refine wpAny_bind (vO hz B λn f j a=>?_);simp only[Bool.false_eq_true,if_false];refine wpAny_bind ?_;rw[←Array.forIn_toList];simp only[List.forIn_cons,List.forIn_nil];refine Jkk ?_;have q:=I.ext a.extBut D.i1z D.l1z;refine wpAny_bind (qb C q.1 q.2 y λh e d F=>H h e (λc o L _ K _ x=>d _ _ K (a.extBut _ _ L x)) F)
structure ZSt (h)(z TI' TO i1 i2 l1 l2)(k)(xs ys):Prop where
 ow:Zow h z TI' TO i1 i2
 ti:JgV TI' (.ref i1) (.ref i2)
 to:∃u v,JgV TO u v
 a:TuI h i1 l1 k xs
 b:TuI h i2 l2 k ys
def AO {z i TO C B l1 l2:Addr}{k:Nat}{xs ys:Array Value}{x y:Value}{Q:Option Value→Shared→Prop}(D:JbG z i C B l1 l2)(Z:ZSt s.heap z i TO C B l1 l2 k xs ys)(L:xs[k]?=some x)(K:ys[k]?=some y)
  (O:∀h',ZSt h' z i TO C B l1 l2 (k+1) xs ys→JcX h' x y→(∀c o,c≠z→c≠TO→c≠C→c≠B→s.heap.get? c=some o→h'.get? c=some o)→h'.objs.size=s.heap.objs.size+1→Q (Ja s.heap.objs.size) { s with heap:=h' }) :
  wpAny (Qo w) A (Jdj z) Q E s:=by
 obtain⟨J,G,⟨S,R,d⟩,a,b⟩:=Z;have T:Xh l1:=by obtain⟨o,e,_⟩:=a.2;exact hLq e
 have I:Xh z:=by rcases J with e | ⟨_,_,_,_,e,_⟩ <;> exact hLq e
 have t:=hLq d;have r:Xh C:=by obtain⟨o,e,_⟩:=id a.1;exact hLq e
 have n:Xh B:=by obtain⟨o,e,_⟩:=id b.1;exact hLq e
 rcases J with e | ⟨p,f1,u,v,e,M,l⟩
 ·refine AB D e G d a b L K λh' g1 Y X W P U H=>O h' ⟨.inr ⟨s.heap.objs.size,.bool false,x,y,g1,P,Nat.ne_of_gt I,Nat.ne_of_gt t,Nat.ne_of_gt r,Nat.ne_of_gt n⟩,H _ _ D.TIz D.TITO D.TIi1 D.TIi2 G,⟨x,y,Y⟩,XE X,XE W⟩ P H U
  ·obtain⟨o,h,g⟩:=a.2;exact JjA (H _ _ D.l1z D.l1TO D.l1i1 D.l1i2 h) g
  ·obtain⟨o,h,g⟩:=b.2;exact JjA (H _ _ D.l2z D.l2TO D.l2i1 D.l2i2 h) g
 ·have N:JkS z:=JeK e;refine wpAny_bind (wpAny_attempt (wpAny_callSpecial?_slot (name:=Str.ofString "__next__") N F.slot_zip_next (JeN N (AM D e M l G d a b L K λh' f a1 a3 a4 a5 a6 j=>wpAny_pure (O h' ⟨.inr ⟨p,f,u,v,a1,j _ _ l.1 l.2.2.1 l.2.2.2 M,l⟩,j _ _ D.TIz D.TIi1 D.TIi2 G,⟨S,R,j _ _ D.TOz D.TOi1 D.TOi2 d⟩,XE a3,XE a4⟩ a5 (λc o c1 _ c3 c4 q=>j c o c1 c3 c4 q) a6)) _)))
  ·obtain⟨o,h,g⟩:=a.2;exact JjA (j _ _ D.l1z D.l1i1 D.l1i2 h) g
  ·obtain⟨o,h,g⟩:=b.2;exact JjA (j _ _ D.l2z D.l2i1 D.l2i2 h) g
def AQ {z f TO h g l1 l2:Addr}{k:Nat}{xs ys:Array Value}{Q:Option Value→Shared→Prop}(l:Qn A.handled)(D:JbG z f h g l1 l2)(Z:ZSt s.heap z f TO h g l1 l2 k xs ys)(j:xs[k]?=none)
  (q:∀h',(∀c o,c≠z→c≠TO→c≠h→c≠g→s.heap.get? c=some o→h'.get? c=some o)→Q none { s with heap:=h' }):Jlz (Jdj z):=by
 obtain⟨r,i,⟨H,G,d⟩,a,b⟩:=Z;rcases r with e | ⟨p,J,u,v,e,t,I⟩
 ·exact AC l D e i d a b (.inl j) q
 ·have n:JkS z:=JeK e;refine JdN (wpAny_callSpecial?_slot (name:=Str.ofString "__next__") n F.slot_zip_next (JeN n (AN l D e t i d a j λh' e y B=>?_) _))
  obtain⟨o,x,C⟩:=B;refine Jae (JjA x C) isSubtype_stop ?_;exact wpAny_pure (q _ y)
def nO (N:Nat)(h:Heap)(z TO b a S:Addr)(xs ys:Array Value)(acc:Array Value)(k:Nat):Prop:=acc.size=k∧∀j,j < k→∃p x y,acc[j]?=Ja p∧xs[j]?=some x∧ys[j]?=some y∧JgV p x y∧p≠z∧p≠TO∧p≠b∧p≠a∧p≠S∧N≤p
def k_ {h h':Heap}{z b TO f d l1 l2 S:Addr}{k:Nat}{xs ys:Array Value}(Z:ZSt h z b TO f d l1 l2 k xs ys)(a:∀c o,c≠S→h.get? c=some o→h'.get? c=some o)(n:S≠z∧S≠b∧S≠TO∧S≠f∧S≠d∧S≠l1∧S≠l2)(L:∀u v,¬JgV S u v):ZSt h' z b TO f d l1 l2 k xs ys:=by
 obtain⟨i,K,J,I,H,G,F⟩:=n;obtain⟨y,r,⟨q,l,g⟩,⟨Q,C,O,x⟩,P,B,N,t⟩:=Z;refine⟨?_,a _ _ K.symm r,⟨q,l,a _ _ J.symm g⟩,⟨Q.at λo e=>a _ o I.symm e,C,a _ _ G.symm O,x⟩,P.at λo e=>a _ o H.symm e,B,a _ _ F.symm N,t⟩;rcases y with e | ⟨p,M,u,v,e,j,D⟩
 ·exact .inl (a _ _ i.symm e)
 ·exact .inr ⟨p,M,u,v,a _ _ i.symm e,a _ _ (λc=>L u v (c ▸ j)) j,D⟩
def AR {N:Nat}{R:Result→Shared→Prop}{z B TO n l l1 l2 S:Addr}{xs ys:Array Value}(hh:Qn A.handled)(D:JbG z B n l l1 l2)(nS:S≠z∧S≠B∧S≠TO∧S≠n∧S≠l∧S≠l1∧S≠l2)(hl:xs.size=ys.size)(hn:Ju xs.size)(C) :
  ∀m k s acc c,N≤s.heap.objs.size→xs.size - k=m→k≤xs.size→ZSt s.heap z B TO n l l1 l2 k xs ys→s.heap.get? S=some { cls:=.type "list",dict:=none,data:=.seq acc c,slots:=#[] }→nO N s.heap z TO n l S xs ys acc k →
  (∀h' g c',(∀b o,b≠S→b≠z→b≠TO→b≠n→b≠l→s.heap.get? b=some o→h'.get? b=some o)→h'.get? S=some { cls:=.type "list",dict:=none,data:=.seq g c',slots:=#[] }→nO N h' z TO n l S xs ys g xs.size→Jik C { s with heap:=h' }) →
  codeAny (Qo w) A (JR "list.extend.loop" [.ref S,.ref z,C] []) R s:=by
 obtain⟨n1,n2,n3,n4,n5,n6,n7⟩:=id nS;intro m
 induction m with
 | zero =>
  intro k s acc c hN hk hi f T d hR;have hin:k=xs.size:=by lia
  subst hin;refine XD F.entry_extend_loop;rw[Xx F.plain_extend_loop];refine wpAny_bind (AQ hh D f (by simp) λh' i=>?_);refine wpAny_pure (hR h' acc c (λb o _ Y X W U e=>i b o Y X W U e) (i S _ n1 n3 n4 n5 T) ⟨d.1,λj hj=>?_⟩);obtain⟨p,x,y,e1,e2,e3,e4,q1,I,H,G,Q⟩:=d.2 j hj;exact⟨p,x,y,e1,e2,e3,i p _ q1 I H G e4,q1,I,H,G,Q⟩
 | succ m ih =>
  intro k s acc c hN hk hi f T d hR;have q:k < xs.size:=by lia
  have h:k < ys.size:=by lia
  have Z:Xh z:=by rcases f.ow with e | ⟨_,_,_,_,e,_⟩ <;> exact hLq e
  have L:Xh TO:=by obtain⟨_,_,e⟩:=f.to;exact hLq e
  have K:Xh n:=by obtain⟨o,e,_⟩:=id f.a.1;exact hLq e
  have J:Xh l:=by obtain⟨o,e,_⟩:=id f.b.1;exact hLq e
  have M:=hLq T;refine XD F.entry_extend_loop;rw[Xx F.plain_extend_loop];refine wpAny_bind (AO D f (Array.getElem?_eq_getElem q) (Array.getElem?_eq_getElem h) λh' Z' gT i gz=>?_);have t:=i S _ n1 n3 n4 n5 T;refine wpAny_bind ?_;have P:∀b o,b≠S→h'.get? b=some o→(h'.update S (Obj.mapSeq (·.push (.ref s.heap.objs.size)))).get? b=some o:=λb o hb e=>(Heap.get?_update_other _ _ (Ne.symm hb)).trans e;refine wpAny_updateSeq t rfl (Jia F.plain_extend_loop (ih (k+1) _ (acc.push (.ref s.heap.objs.size)) _ (by rw[(Heap.SameBut.update ..).1,gz];lia) (by lia) q (k_ Z' P nS λu v e=>by have:=congrArg Obj.cls (Option.some.inj (t.symm.trans e));simp at this) (Heap.get?_update_self _ t rfl) ⟨by rw[Array.size_push,d.1],λj hj=>?_⟩ λh'' g c' kp2 O r=>?_))
   (by rw[d.1];lia) (by show(acc.push _).size≤sizeLine+1;rw[Array.size_push,d.1];lia)
  ·by_cases ej:j=k
   ·subst ej;refine⟨s.heap.objs.size,_,_,?_,Array.getElem?_eq_getElem q,Array.getElem?_eq_getElem h,P _ _ (Nat.ne_of_gt M) gT,Nat.ne_of_gt Z,Nat.ne_of_gt L,Nat.ne_of_gt K,Nat.ne_of_gt J,Nat.ne_of_gt M,hN⟩;rw[←d.1,Array.getElem?_push_size]
   ·obtain⟨p,x,y,e1,e2,e3,e4,q1,I,H,G,Q⟩:=d.2 j (by lia);exact⟨p,x,y,by rw[Array.getElem?_push_lt (by rw[d.1];lia),←Array.getElem?_eq_getElem];exact e1,e2,e3,P _ _ Q.1 (i _ _ q1 I H G e4),q1,I,H,G,Q⟩
  ·exact hR h'' g c' (λb o b0 Y X W U e=>kp2 b o b0 Y X W U (P b o b0 (i b o Y X W U e))) O r
def AS {z a TO c b l1 l2:Addr}{k:Nat}{xs ys:Array Value}{Q:Bool→Shared→Prop}(Z:ZSt s.heap z a TO c b l1 l2 k xs ys)(h:Q true s):Jlz (Builtin.List.listLengthHint (.ref z)):=by
 have d:JkS z:=by rcases Z.ow with e | ⟨_,_,_,_,e,_⟩ <;> exact JeK e
 have l1:Jab "zip" "__len__"=pure none:=by rw[typeLookup_type,builtinLookup_eq_fast];kernel_rfl
 have l2:Jab "zip" "__length_hint__"=pure none:=by rw[typeLookup_type,builtinLookup_eq_fast];kernel_rfl
 repeat (any_goals (first | assumption | wp_step))
def AU {Q:Value→Shared→Prop}{z n TO x r l1 l2:Addr}{xs ys:Array Value}(Y:Qn A.handled)(D:JbG z n x r l1 l2)(Z:ZSt s.heap z n TO x r l1 l2 0 xs ys)(z0:Jku z n)(hl:xs.size=ys.size)(hn:Ju xs.size)
  (hQ:∀h' p c',(∀b o,b≠z→b≠TO→b≠x→b≠r→s.heap.get? b=some o→h'.get? b=some o)→h'.get? s.heap.objs.size=some { cls:=.type "list",dict:=none,data:=.seq p c',slots:=#[] }→nO s.heap.objs.size h' z TO x r s.heap.objs.size xs ys p xs.size→JaQ { s with heap:=h' }) :
  wpAny (Qo w) A (Jka "list" (Vt z)) Q E s:=by
 refine callType_codes (Q₁:=λC q=>Xy C s.heap.objs.size∧q={ s with heap:=s.heap.push { cls:=.type "list",data:=.seq #[] } }) PySem.F.called_list (PySem.F.typeCall_list_1 _) PySem.F.entry_list_init
  (code_list_new _ (Xr rfl)) λC q M=>?_
 obtain⟨rfl,rfl⟩:=M;have P:(s.heap.push { cls:=.type "list",data:=.seq #[] }).get? s.heap.objs.size=some { cls:=.type "list",data:=.seq #[] }:=Heap.get?_push_size _ rfl;refine Qk (JeK P) (PySem.F.args_list_init_2 _ _);have X:Xh z:=by rcases Z.ow with e | ⟨_,_,_,_,e,_⟩ <;> exact hLq e
 have L:=hLq Z.ti;have K:Xh TO:=by obtain⟨_,_,e⟩:=Z.to;exact hLq e
 have J:Xh x:=by obtain⟨o,e,_⟩:=id Z.a.1;exact hLq e
 have I:Xh r:=by obtain⟨o,e,_⟩:=id Z.b.1;exact hLq e
 have H:Xh l1:=by obtain⟨o,e,_⟩:=Z.a.2;exact hLq e
 have G:Xh l2:=by obtain⟨o,e,_⟩:=Z.b.2;exact hLq e
 have y:JaJ z∧JaJ n∧JaJ TO∧JaJ x∧JaJ r∧JaJ l1∧JaJ l2:=⟨Nat.ne_of_gt X,Nat.ne_of_gt L,Nat.ne_of_gt K,Nat.ne_of_gt J,Nat.ne_of_gt I,Nat.ne_of_gt H,Nat.ne_of_gt G⟩;have Z1:ZSt (s.heap.push { cls:=.type "list",data:=.seq #[] }) z n TO x r l1 l2 0 xs ys:=k_ Z (λc o _ e=>XX e) y λu v e=>QV (hLq e) _;show VV _ (do let U ←Builtin.List.listItems (.ref s.heap.objs.size);Builtin.List.listUpdate (.ref s.heap.objs.size) (λ_=>#[]);letGo U.toList.reverse;Builtin.List.listExtendWith (.ref s.heap.objs.size) (.ref z) .none) _ _ _
 refine wpAny_bind ?_;refine Jhn P (wpAny_pure ?_);refine Jai P rfl ?_;have l:=Heap.get?_update_self (Obj.mapSeq (λ_=>(#[]:Array Value))) P rfl;have i:∀(h:Heap) f b o,JdU b→h.get? b=some o→(h.update s.heap.objs.size (Obj.mapSeq f)).get? b=some o:=λh f b o hb e=>(Heap.get?_update_other _ _ (Ne.symm hb)).trans e;have W:∀ {h:Heap} {a c},h.get? s.heap.objs.size=some { cls:=.type "list",dict:=none,data:=.seq a c,slots:=#[] }→∀u v,¬IsPair h s.heap.objs.size u v:=λY u v e=>by have:=congrArg Obj.cls (Option.some.inj (Y.symm.trans e));simp at this
 have Z2:=k_ Z1 (i _ λ_=>#[]) y (W P);refine VO ?_;have hT:∀ {h:Heap} {g d t os},ZSt h z n TO x r l1 l2 0 xs ys→(⟨h,g,d,t,os⟩:Shared).TypeIs (.ref z) "zip":=λZ=>by rcases Z.ow with e | ⟨_,_,_,_,e,_⟩ <;> exact JeK e
 refine XW (hT Z2) ?_;have h1:Q9 (Builtin.List.listSameRef (.ref s.heap.objs.size) (.ref z)):=by simp [Builtin.List.listSameRef,y.1]
 simp only[h1,show Q9 (Value.type "zip" == Value.type "list") from by decide +kernel,show Q9 (Value.type "zip" == Value.type "tuple") from by decide +kernel,Bool.or_false,Bool.false_eq_true,if_false];have z2:=i (s.heap.push { cls:=.type "list",data:=.seq #[] }) (λ_=>#[]) _ _ y.1.symm (XX z0);refine wpAny_bind (wpAny_pyIter_zip z2 ?_);refine Vu (AS Z2 ?_);refine wpAny_ite_split (λ_=>?_) (λhab=>JbT hab);refine VJ ?_;refine wpAny_bind ?_;refine Jai l rfl ?_;have k:=Heap.get?_update_self (Obj.mapSeq (·.push Value.none)) l rfl;refine wpAny_updateSeq k rfl ?_;have B:=Heap.get?_update_self (Obj.mapSeq (·.pop)) k rfl;have Z3:=k_ Z2 (i _ (·.push Value.none)) y (W l);have Z4:=k_ Z3 (i _ (·.pop)) y (W k);refine Jia PySem.F.plain_extend_loop (AR (A:=A.in1) Y D y hl hn .none xs.size 0 _ #[] _ (by show s.heap.objs.size≤(Heap.update _ _ _).objs.size;rw[(Heap.SameBut.update ..).1,(Heap.SameBut.update ..).1,(Heap.SameBut.update ..).1,Heap.size_push];lia) rfl (Nat.zero_le _) Z4 B (Jbe (λj hj=>VB hj _)) λh' p c' kp hS' O=>?_);exact Jbe (hQ h' p c' (λb o b1 b2 b3 b4 e=>by have R:=V_ e;exact kp b o R b1 b2 b3 b4 (i _ _ b o R (i _ _ b o R (i _ _ b o R (XX e))))) hS' O)
end
section
variable {X:Cx} {pins:List (Addr × Obj)} {σ:St} {H H2:Hp} {s:Shared}
def Inv.grow (I:QE s)(f:∀c o,s.heap.get? c=some o→h'.get? c=some o)(a:∀c o,Jg c o→Xa (H2 c) o)
  (d:∀c o,Xa (H2 c) o→Jg c o∨(Jch c∧JcP H2 h' c o)):Vy H2 { s with heap:=h',toks:=t' }:=by
 refine I.un ⟨λb u q _ _ _=>f b u q,λb u q _ _ _=>⟨u.slots,f b u q⟩,λb u q n _=>?_,λb u q _=>⟨u,f b u q⟩,λb xs q=>a _ _ q,λb u xs q=>a _ _ q,λb ps q=>⟨#[],by rw[a _ _ q];simp⟩⟩ λb u e=>?_
 ·cases z:H2 b with
  | none=>rfl
  | some o =>
   rcases d b o z with e | ⟨e,_⟩
   ·rw[n]at e;cases e
   ·exact absurd (Xq q e) (Nat.lt_irrefl _)
 ·rcases d b u e with e | ⟨_,e⟩
  ·exact(Jj5 b u).stay (λc v _ q=>f c v q) (λc q=>a _ _ q) λc xs q=>a _ _ q
  ·exact e
def tLZip (K:W.Frag)(e:TA):TE:=λσ H Q=>e σ H λvs d=>∃a b xs ys,vs=JbP a b∧Vv d a xs∧Vv d b ys∧Q8 ys.length∧∀H2 l (ps:List Addr),Qn (d l)→(∀c o,Xa (d c) o→Xa (H2 c) o)→Qb (H2 l) (ps.map V.ref) →
 (∀(j:Nat) x y,xs[j]?=some x→ys[j]?=some y→∃p,ps[j]?=some p∧Vv H2 p [x,y])→Jlg ps.length→Xg l H2
def AV {N:Nat}{h:Heap}{z TO v u S:Addr}{xs ys acc:Array Value}:∀ {k:Nat},nO N h z TO v u S xs ys acc k→∃ps:List Addr,acc.toList=ps.map Value.ref∧ps.length=k∧∀(j:Nat) p,ps[j]?=some p→∃x y,xs[j]?=some x∧ys[j]?=some y∧JgV p x y∧p≠S∧N≤p:=by
 intro k g;have d:∀m,m≤k→∃ps:List Addr,acc.toList.take m=ps.map Value.ref∧ps.length=m∧∀(j:Nat) p,ps[j]?=some p→∃x y,xs[j]?=some x∧ys[j]?=some y∧JgV p x y∧p≠S∧N≤p:=by
  intro m
  induction m with
  | zero=>exact λ_=>XA [] rfl (λj p e=>by simp at e)
  | succ m t =>
   intro w;obtain⟨ps,c,b,f⟩:=t (by lia);obtain⟨p,x,y,q1,o,n,l,_,_,_,_,i⟩:=g.2 m (by lia);refine⟨ps++[p],?_,by rw[lAq,b];rfl,λj q a=>?_⟩
   ·rw[bb (by rw[Array.getElem?_toList];exact q1),c,mAq];rfl
   ·by_cases r:j < ps.length
    ·rw[List.getElem?_append_left r]at a;exact f j q a
    ·have:=(gEq a).1;rw[lAq]at this;have e:Jej j:=by have:j < ps.length+1:=this;lia
     subst e;rw[List.getElem?_append_right (nRq _),Nat.sub_self]at a;cases a;rw[b];exact⟨x,y,o,n,l,i⟩
 obtain⟨ps,c,b,f⟩:=d k (nRq _);rw[tO (by rw[Array.length_toList,g.1];exact nRq _)]at c;exact⟨ps,c,b,f⟩
def AW {a b:Expr}{ta:TA}{p p2 g t:Pos}(w:Qu X.calm)(hg:Gl X "zip")(hm:JaU "zip")(hg2:Gl X "list")(hm2:JaU "list")(ha:PA X [a,b] ta)
  (hs:Qd [a,b]=[(false,Jf a),(false,Jf b)]:=by rfl)(M:Qd [b]=[(false,Jf b)]:=by rfl)
  (L:Qd [Jjs "zip" p [a,b] g]=[(false,Jf (Jjs "zip" p [a,b] g))]:=by rfl) :
  PE X (Jjs "list" p2 [Jjs "zip" p [a,b] g] t) (tLZip X.K ta):=by
 intro pins s σ H Q I h;refine Jd9 I hg2 hm2 PyProof.Rows.Boot.list ?_ L rfl;rw[L];refine Calls.spliced_cons ?_;refine Jd9 I hg hm boot_zip (thn (ha g pins s σ H _ I h) λus d ⟨vs,H1,J,r1,q1⟩=>?_) (by rw[hs,M]) (by rw[M];rfl);obtain⟨a,b,xs,ys,e,hq,hq2,hl,q⟩:=q1;subst e;obtain⟨u,v,rfl,ru,rv'⟩:=r1.two;cases ru;cases rv';obtain⟨l,rv,pl,hz⟩:=J.tuple hq;obtain⟨f,A,B,hz2⟩:=J.tuple hq2;have la:JjT a:=by obtain⟨o,e,_⟩:=pl;exact hLq e
 have lb:JjT b:=by obtain⟨o,e,_⟩:=B;exact hLq e
 refine AE (show d.heap.IsTuple a l.toArray from pl) (show d.heap.IsTuple b f.toArray from B) λh' h1 h2 h3 h4 h5 hz' kk=>?_;refine Calls.spliced_nil ?_;have D:=zipApart_new la lb;have kt:∀ {c:Addr} {zs:Array Value},d.heap.IsTuple c zs→h'.IsTuple c zs:=λ⟨o,W,G⟩=>JjA (kk _ _ W) G;have Z:ZSt h' (d.heap.objs.size+4) (d.heap.objs.size+2) (d.heap.objs.size+3) d.heap.objs.size (d.heap.objs.size+1) a b 0 l.toArray f.toArray:=⟨.inl h1,h2,Jlc _ h3,⟨h4,kt pl⟩,h5,kt B⟩;have l1:=rv.length;have l2:=A.length;refine AU (J.ok.hd w) D Z h1 (by simp;lia) (by simp;lia) λr acc cn kp hS z=>?_;obtain⟨ps,W,G,e3⟩:=AV z;have big:∀c,JjT c→c≠d.heap.objs.size+4∧c≠d.heap.objs.size+3∧c≠d.heap.objs.size∧c≠d.heap.objs.size+1:=λc w=>⟨by lia,by lia,by lia,by lia⟩;have kk2:∀c o,d.heap.get? c=some o→r.get? c=some o:=λc o e=>by obtain⟨b1,b2,b3,b4⟩:=big c (hLq e);exact kp c o b1 b2 b3 b4 (kk c o e)
 have N:=hS;have eN:=hz'.symm
 let H2:Hp:=λc=>if c=h'.objs.size then Jj6 (ps.map V.ref) else if c∈ps then some (.tup [JiL c .non,JiM c .non]) else H1 c
 have n:∀c∈ps,d.heap.objs.size≤c∧c≠h'.objs.size∧∃x y:V,∃k i:Value,JiL c .non=x∧JiM c .non=y∧xs[ps.idxOf c]?=some x∧ys[ps.idxOf c]?=some y∧aS x k∧aS y i∧IsPair r c k i:=λc w=>by
  have F:=List.idxOf_lt_length_of_mem w;have at_:ps[ps.idxOf c]?=some c:=by rw[gG F];simp
  obtain⟨k,i,T,S,R,P,O⟩:=e3 _ _ at_;have E:l[ps.idxOf c]?=some k:=by simpa using T
  have C:f[ps.idxOf c]?=some i:=by simpa using S
  have lx:JdO (ps.idxOf c):=by rw[l1];exact(gEq E).1
  have ly:ps.idxOf c < ys.length:=by rw[l2];exact(gEq C).1
  obtain⟨w1,w2,w3⟩:=rv.get (gG lx);obtain⟨w4,w5,Y⟩:=A.get (gG ly);cases w2.symm.trans E;cases w5.symm.trans C;exact⟨by have:h'.objs.size≤c:=O;lia,P,xs[ps.idxOf c],ys[ps.idxOf c],k,i,by simp [lx],by simp [ly],gG lx,gG ly,w3,Y,R⟩
 have up:∀c o,Xa (H1 c) o→H2 c=some o:=λc o e=>by
  have F:=J.hok.lt e;have F:=F;show(if c=h'.objs.size then _ else _)=_
  have n1:¬c=h'.objs.size:=Nat.ne_of_lt (Nat.lt_of_lt_of_le F (by lia));have n2:¬c∈ps:=λw=>JkD (Nat.lt_of_lt_of_le F (n c w).1);rw[if_neg n1,if_neg n2];exact e
 have I2:Vy H2 { d with heap:=r }:=by
  refine Inv.grow (t':=d.toks) J kk2 up λc o e=>?_;have e:(if c=h'.objs.size then some (HO.lst (ps.map V.ref)) else if c∈ps then some (.tup [JiL c .non,JiM c .non]) else H1 c)=some o:=e
  split at e
  ·rename_i ec;cases e;subst ec;refine .inr ⟨by lia,?_,ps.map Value.ref,cn,?_,?_⟩
   ·rw[lM,G];simp;lia
   ·clear W G e3 up n z hS N e
    induction ps with
    | nil=>exact .nil
    | cons p ps ih=>exact .cons rfl ih
   ·rw[N,←W,Array.toArray_toList]
  ·split at e
   ·rename_i w;cases e;obtain⟨g0,_,x,y,k,i,T,S,_,_,R,P,O⟩:=n c w;refine Jx g0 ?_;rw[T,S];exact⟨VX (show 2≤1000 by decide),[k,i],Je6 R P,_,O,rfl,_,rfl⟩
   ·exact .inl e
 refine VM h'.objs.size H2 I2 (q H2 h'.objs.size ps (J.hok.fresh (by lia)) up (by show(if _ then _ else _)=_;rw[if_pos rfl]) (λj x y hx hy=>?_) (by rw[G];simp;lia))
 have lj:j < ps.length:=by rw[G];simp;rw[←l1];exact(gEq hx).1
 have hj:=gG lj;refine⟨ps[j],hj,Jj7 ?_⟩;obtain⟨g0,g00,x',y',k,i,T,S,E,C,R,P,O⟩:=n ps[j] (List.getElem_mem lj);obtain⟨vx,vy,k1,k2,k3,_⟩:=e3 _ _ hj;have k1':l[j]?=some vx:=by simpa using k1
 have k2':f[j]?=some vy:=by simpa using k2
 obtain⟨w1,w2,w3⟩:=rv.get hx;obtain⟨w4,w5,Y⟩:=A.get hy;cases w2.symm.trans k1';cases w5.symm.trans k2';have U:=Option.some.inj (O.symm.trans k3);injection U with _ _ U;injection U with U;have e5:=JcT U;injection e5 with e6 e7;injection e7 with e7;subst e6 e7;show(if _ then _ else _)=_
 rw[if_neg g00,if_pos (List.getElem_mem lj),T,S,R.inj w3,P.inj Y]
end
end L2
namespace L2
open PySem
structure Two (F O H):Prop where
 f:ao F H
 o:ao O H
 d:∀b,O b≠none→Qn (F b)
def Two.own (T:Jlk F H){a:Addr}(h:O a≠none)(u):Two F (Jle O) (Xw a u):=by
 refine⟨λb o e=>?_,λb o e=>?_,λb e=>?_⟩
 ·rw[ai (λz=>by rw[z,T.d a h]at e;cases e)];exact T.f b o e
 ·by_cases z:b=a
  ·rw[z,af]at e ⊢;exact e
  ·rw[ai z]at e ⊢;exact T.o b o e
 ·by_cases z:b=a
  ·rw[z];exact T.d a h
  ·rw[ai z]at e;exact T.d b e
def Two.newO (T:Jlk F H){a:Addr}(h:Vn a)(u):Two F (Jle O) (Xw a u):=by
 have c:Qn (F a):=by
  cases e:F a with
  | none=>rfl
  | some o=>rw[T.f a o e]at h;cases h
 refine⟨λb o e=>?_,λb o e=>?_,λb e=>?_⟩
 ·rw[ai (λz=>by rw[z,c]at e;cases e)];exact T.f b o e
 ·by_cases z:b=a
  ·rw[z,af]at e ⊢;exact e
  ·rw[ai z]at e ⊢;exact T.o b o e
 ·by_cases z:b=a
  ·rw[z];exact c
  ·rw[ai z]at e;exact T.d b e
def Two.swap (T:Jlk F H):Two O F H:=⟨T.o,T.f,λb e=>by
 cases h:O b with
 | none=>rfl
 | some o=>exact absurd (T.d b (by rw[h];exact λz=>nomatch z)) e⟩
def Two.frm (T:Jlk F H){a:Addr}(h:F a≠none)(u):Jlk (Jle F) (Xw a u):=(T.swap.own h u).swap
def Two.newF (T:Jlk F H){a:Addr}(h:Vn a)(u):Jlk (Jle F) (Xw a u):=(T.swap.newO h u).swap
def Two.base (T:Jlk F H)(s:ao F0 F):Jlk F0 H:=⟨s.trans T.f,T.o,λb e=>by
 cases h:F0 b with
 | none=>rfl
 | some o=>have:=s b o h;rw[T.d b e]at this;cases this⟩
def Two.none (T:Jlk F H){a:Addr}(h:Jhc (H a)):Jhc (O a)∧Jhc (F a):=by
 constructor
 ·cases e:O a with
  | none=>rfl
  | some o=>rw[T.o a o e]at h;cases h
 ·cases e:F a with
  | none=>rfl
  | some o=>rw[T.f a o e]at h;cases h
def aL.oth (h:Jg a u)(n:∀xs,u≠.tup xs)(d:∀q xs,u≠.frz q (.tup xs)):aL H (JiW a):=λb zs q=>by
 have c:b≠a:=λz=>by
  rw[z]at q;rcases q with q | ⟨w,q⟩ <;> rw[h]at q <;> injection q with q
  ·exact n _ q
  ·exact d _ _ q
 unfold Rd at q ⊢;rw[ai c];exact q
def vP (kvs)(k:Key)(v):(k∈kvs.map Prod.fst∧(Jio v).map Prod.fst=kvs.map Prod.fst)∨(k∉kvs.map Prod.fst∧(Jio v).map Prod.fst=kvs.map Prod.fst++[k]):=by
 unfold aV;by_cases c:Qu (kvs.any (λb=>decide (b.1=k)))
 ·rw[if_pos c];obtain⟨x,a,e⟩:=List.any_eq_true.mp c;refine Jo (Xk x a (oDq e)) ?_;rw[List.map_map];refine List.map_congr_left λy _=>?_;simp only[Function.comp_apply];split <;> simp_all
 ·rw[if_neg c];refine Jx (λz=>?_) (by rw[mAq];rfl);obtain⟨x,a,e⟩:=List.mem_map.mp z;exact c (Je4 x a (dTq e))
structure DI (kvs:List (Key × V))(g:Int→Option V):Prop where
 nd:(kvs.map Prod.fst).Nodup
 ks:∀k∈kvs.map Prod.fst,∃m:Int,JcD k m∧-100≤m∧JhY m
 val:∀p:Int,JdE p=g p
def DI.nil:DI [] λ_=>none:=⟨List.Pairwise.nil,λk h=>(nomatch h),λ_=>rfl⟩
def DI.put (h:DI kvs g){p:Int}(f:-100≤p∧JhY p)(v):DI (Jam kvs p v) λx=>if x=p then some v else g x:=by
 refine⟨?_,λk d=>?_,λx=>?_⟩
 ·rcases vP kvs (Sum.inl p) v with ⟨c,e⟩ | ⟨c,e⟩ <;> rw[e]
  ·exact h.nd
  ·exact List.nodup_append.mpr ⟨h.nd,by simp,λa j b i e=>c (by rw[mSq i]at e;rw[←e];exact j)⟩
 ·rcases vP kvs (Sum.inl p) v with ⟨c,e⟩ | ⟨c,e⟩ <;> rw[e]at d
  ·exact h.ks k d
  ·rcases mPq d with z | z
   ·exact h.ks k z
   ·exact⟨p,mSq z,f⟩
 ·rw[gM,h.val];lia
def DI.drop (h:DI kvs g)(p):DI (JiZ p) λx=>if x=p then none else g x:=by
 have a:((JiZ p).map Prod.fst).Sublist (kvs.map Prod.fst):=List.Sublist.map _ List.filter_sublist;refine⟨h.nd.sublist a,λk b=>h.ks k (a.subset b),λx=>?_⟩;rw[vc,h.val];lia
noncomputable def keyI:Key→Int
 | .inl m=>m+100
 | .inr _=>0
def DI.len (h:DI kvs g):JdT 200000:=by
 have:=fZ 200000 (xs:=(kvs.map Prod.fst).map keyI) ?_ ?_
 ·rw[lM,lM]at this;exact this
 ·refine List.pairwise_map.mpr (h.nd.imp_of_mem λ{x y} a c e z=>e ?_);obtain⟨m,rfl,_⟩:=h.ks x a;obtain⟨b,rfl,_⟩:=h.ks y c;have f:m+100=b+100:=z;rw[show m=b by lia]
 ·intro x a;obtain⟨k,d,rfl⟩:=List.mem_map.mp a;obtain⟨m,rfl,j,i⟩:=h.ks k d;show 0≤m+100∧m+100 < _;lia
structure HA where
 h:Addr
 dx:Addr
 kn:Addr
 pp:Addr
 tr:Addr
 hd:Addr
 bg:Addr
 wd:Addr
 wg:Addr
 od:Addr
 lt:Addr
noncomputable def HA.st (A:HA):List Addr:=[A.h,A.kn,A.pp,A.tr,A.hd,A.bg,A.wd,A.wg,A.od,A.lt]
noncomputable def cI (A:HA)(b:Addr)(a:Int)(c:Nat):List (Str × V):=[("problem",.ref b),("most",.int a),("known",.ref A.kn),("paper",.ref A.pp),("trail",.ref A.tr),("held",.ref A.hd),("looked",.int c),("begins",.ref A.bg),("watched",.ref A.wd),("watching",.ref A.wg),("order",.ref A.od),("lately",.ref A.lt)]
structure HC where
 xs:List V
 ys:List V
 zs:List V
 kh:List (Key × V)
 kw:List (Key × V)
 gw:Int→Option V
 kg:List (Key × V)
 gg:Int→Option V
 kl:List (Key × V)
noncomputable def gp (C:Addr)(A:HA)(b:Addr)(a:Int)(S:HS)(R:HC):List HO:=[JdF (cI A b a S.lk),.lst R.xs,.lst R.ys,.lst R.zs,.dK R.kh,.lst (S.bs.map V.int),.dK R.kw,.dK R.kg,.lst (S.od.map V.int),.dK R.kl]
inductive WdR (K)(H):Option V→Option (Int × Int)→Prop
 | no:WdR K H none none
 | is {q:Addr} {a b:Int}:X9 q (JO a b)→WdR K H (Ja q) (some (a,b))
inductive WgR (O:Hp)(A:HA)(gg:Int→Option V)(c):List Int→Prop
 | no:Qn (gg c)→WgR O A gg c []
 | is {l:Addr} {ns:List Int}:gg c=Ja l→Qb (O l) (ns.map V.int)→l∉A.st→(∀c',gg c'=Ja l→c'=c)→WgR O A gg c ns
noncomputable def gq (hs:List Int):Int→Option V:=λp=>if p∈hs then some (.bl true) else none
structure HuO (K)(C)(O H:Hp)(A:HA)(pr)(most)(S)(hs)(R):Prop where
 nd:A.st.Nodup
 at_:∀(i:Nat) (a) (o),A.st[i]?=some a→(JiN C A pr S R)[i]?=some o→Xa (O a) o
 kn:JQ (S.rs.map eE) R.xs
 pp:JQ S.pp R.ys
 pn:Jc9 S.pp
 tr:JQ (S.ts.map dP) R.zs
 hd:DI R.kh (gq hs)
 wd:DI R.kw R.gw
 wr:∀r,WdR K H (R.gw r) (S.wt r)
 wg:DI R.kg R.gg
 gr:∀c,WgR O A R.gg c (S.wg c)
 lt:DI R.kl λa=>(S.la a).map V.int
def NTup (o:HO):Prop:=(∀xs,o≠.tup xs)∧∀q xs,o≠.frz q (.tup xs)
def NoT (O:Hp):Prop:=∀b o,Xa (O b) o→NTup o
def NoT.upd (h:NoT O){a:Addr}{u:HO}(n:NTup u):NoT (Jle O):=λb o e=>by
 by_cases z:b=a
 ·rw[z,af]at e;injection e with e;exact e ▸ n
 ·rw[ai z]at e;exact h b o e
structure Hu (K)(C)(F O H)(A)(pr)(most)(S)(hs)(R):Prop where
 n:NoT O
 t:Jlk F H
 u:HuO K C O H A pr most S hs R
def at_upd {g:List Addr}{k:List HO}{O:Hp}(l:g.Nodup)(h:∀(i:Nat) a o,g[i]?=some a→k[i]?=some o→Xa (O a) o){i:Nat}{a:Addr}{u:HO}(d:g[i]?=some a) :
  ∀(j:Nat) b o,g[j]?=some b→(k.set i u)[j]?=some o→upd O a u b=some o:=by
 intro j b o f c;rw[List.getElem?_set]at c;by_cases e:i=j
 ·rw[if_pos e]at c;split at c
  ·rw[e,f]at d;injection d with d;injection c with c;rw[d,c,af]
  ·cases c
 ·rw[if_neg e]at c;have n:b≠a:=λz=>by rw[z]at f;have q:=(gEq d);have p:=(gEq f);exact e ((List.getElem_inj l).mp (q.2.trans p.2.symm))
  rw[ai n];exact h j b o f c
def WdR.keep (k:aL H H')(h:WdR K H g p):WdR K H' g p:=by
 cases h with
 | no=>exact .no
 | is h=>exact .is (k.sq h)
def WgR.upd (h:WgR O A gg c ns)(g:a∈A.st∨Qn (O a))(i:∀l∈A'.st,l∈A.st∨Qn (O l)):WgR (Jle O) A' gg c ns:=by
 cases h with
 | no h=>exact .no h
 | @is l ns k b d j =>
  refine .is k ?_ (λz=>(i _ z).elim d λe=>by rw[b]at e;cases e) j;have f:l≠a:=λz=>g.elim (λq=>d (by rw[z];exact q)) λe=>by rw[←z,b]at e;cases e
  rw[ai f];exact b
section
variable {K:W.Frag} {C:Addr} {F O H:Hp} {A:HA} {pr:Addr} {most:Int} {S:HS} {hs:List Int} {R:HC}
def Hu.heap (U:JgK F)(k:aL H H')(t:Jlk F' H'):JgJ F' H':=⟨U.n,t,{ U.u with kn:=U.u.kn.keep k (dy _),pp:=U.u.pp.keep k U.u.pn,tr:=U.u.tr.keep k (cm _),wr:=λr=>(U.u.wr r).keep k }⟩
def Hu.newF (U:JgK F){a:Addr}(h:Vn a)(u):JgJ (Jle F) (Xw a u):=U.heap (aL.new h) (U.t.newF h u)
def Hu.base (U:JgK F)(s:ao F0 F):JgK F0:=⟨U.n,U.t.base s,U.u⟩
def Hu.frmL (U:JgK F){a:Addr}{xs:List V}(h:Qb (F a) xs)(u):JgJ (Jle F) (Xw a u):=U.heap (aL.oth (U.t.f _ _ h) (λ_ z=>nomatch z) λ_ _ z=>nomatch z) (U.t.frm (by rw[h];exact λz=>nomatch z) u)
def Hu.at' (U:JgK F)(i:Nat){a:Addr}{o:HO}(c:A.st[i]?=some a)(b:(JiN C A pr S R)[i]?=some o):H a=some o:=U.t.o _ _ (U.u.at_ i a o c b)
def Hu.ins (U:JgK F):H A.h=some (Jiq A):=Jca 0
def Hu.set (U:JgK F)(i){a:Addr}{o u:HO}(d:A.st[i]?=some a)(p:(JiN C A pr S R)[i]?=some o)(n:∀xs,o≠.tup xs)(h:∀q xs,o≠.frz q (.tup xs))(g:NTup u) :
  NoT (Jle O)∧Two F (Jle O) (Xw a u)∧aL H (Xw a u)∧(∀(j:Nat) b e,A.st[j]?=some b→((JiN C A pr S R).set i u)[j]?=some e→Xa (upd O a u b) e)∧∀c,WgR (Jle O) A R.gg c (S.wg c):=by have f:=U.u.at_ i a o d p;refine⟨U.n.upd g,U.t.own (by rw[f];exact λz=>nomatch z) u,aL.oth (U.t.o _ _ f) n h,at_upd U.u.nd U.u.at_ d,λc=>(U.u.gr c).upd (.inl (mO d)) λl k=>.inl k⟩
def cA:(∀ys,HO.lst xs≠.tup ys)∧∀q ys,HO.lst xs≠.frz q (.tup ys):=⟨λ_ z=>(nomatch z),λ_ _ z=>(nomatch z)⟩
def di:(∀ys,HO.dK xs≠.tup ys)∧∀q ys,HO.dK xs≠.frz q (.tup ys):=⟨λ_ z=>(nomatch z),λ_ _ z=>(nomatch z)⟩
def gu:(∀ys,HO.ins C dx fs≠.tup ys)∧∀q ys,HO.ins C dx fs≠.frz q (.tup ys):=⟨λ_ z=>(nomatch z),λ_ _ z=>(nomatch z)⟩
def Hu.setTr (U:JgK F){ts:List (Int × Int)}{zs:List V}(h:J_ dP zs):JgG F (Qa O A.tr zs) (JkL A.tr zs) { S with ts:=ts } { R with zs:=zs }:=by obtain⟨b,t,k,a,g⟩:=JhZ 3 rfl cA.1 cA.2 cA;exact⟨b,t,U.u.nd,a,JW k _,XM k,U.u.pn,h.keep k (cm _),U.u.hd,U.u.wd,λr=>(U.u.wr r).keep k,U.u.wg,g,U.u.lt⟩
def Hu.setHd (U:JgK F){kh:List (Key × V)}{hs':List Int}(h:DI kh (gq hs')):J6 F (Xe O A.hd kh) (Xe H A.hd kh) A S hs' { R with kh:=kh }:=by obtain⟨b,t,k,a,g⟩:=JhZ 4 rfl di.1 di.2 di;exact⟨b,t,U.u.nd,a,JW k _,XM k,U.u.pn,Q3 k _,h,U.u.wd,λr=>(U.u.wr r).keep k,U.u.wg,g,U.u.lt⟩
def Hu.setBg (U:JgK F)(bs):JgH F (Qa O A.bg (bs.map V.int)) (JkL A.bg (bs.map V.int)) { S with bs:=bs }:=by obtain⟨b,t,k,a,g⟩:=JhZ 5 rfl cA.1 cA.2 cA;exact⟨b,t,U.u.nd,a,JW k _,XM k,U.u.pn,Q3 k _,U.u.hd,U.u.wd,λr=>(U.u.wr r).keep k,U.u.wg,g,U.u.lt⟩
def Hu.setKn (U:JgK F){rs:List (List Int)}{xs:List V}(h:Jdf (rs.map eE)):JgG F (Qa O A.kn xs) (JkL A.kn xs) { S with rs:=rs } { R with xs:=xs }:=by obtain⟨b,t,k,a,g⟩:=JhZ 1 rfl cA.1 cA.2 cA;exact⟨b,t,U.u.nd,a,h.keep k (dy _),XM k,U.u.pn,Q3 k _,U.u.hd,U.u.wd,λr=>(U.u.wr r).keep k,U.u.wg,g,U.u.lt⟩
def Hu.setPp (U:JgK F){pp:List Dt}{ys:List V}(h:JQ pp ys)(n:Jc9 pp):JgG F (Qa O A.pp ys) (JkL A.pp ys) { S with pp:=pp } { R with ys:=ys }:=by obtain⟨b,t,k,a,g⟩:=JhZ 2 rfl cA.1 cA.2 cA;exact⟨b,t,U.u.nd,a,JW k _,h.keep k n,n,Q3 k _,U.u.hd,U.u.wd,λr=>(U.u.wr r).keep k,U.u.wg,g,U.u.lt⟩
def Hu.setWd (U:JgK F){r:Int}(c:-100≤r∧JhY r){q:Addr}{x y:Int}(d:X9 q (JO x y)):JgG F (Xe O A.wd (Jam R.kw r (.ref q))) (Xe H A.wd (Jam R.kw r (.ref q))) (Jjj x y) { R with kw:=aV R.kw (Sum.inl r) (.ref q),gw:=λz=>if z=r then some (.ref q) else R.gw z }:=by
 obtain⟨b,t,k,a,g⟩:=JhZ 6 rfl di.1 di.2 di;refine⟨b,t,U.u.nd,a,JW k _,XM k,U.u.pn,Q3 k _,U.u.hd,U.u.wd.put c _,λz=>?_,U.u.wg,g,U.u.lt⟩;show WdR K _ (if z=r then Ja q else R.gw z) (if z=r then some (x,y) else S.wt z)
 by_cases e:z=r
 ·rw[if_pos e,if_pos e];exact .is (k.sq d)
 ·rw[if_neg e,if_neg e];exact(U.u.wr z).keep k
def Hu.setLt (U:JgK F){c:Int}(d:-100≤c∧JhY c)(x):JgG F (Xe O A.lt (Jam R.kl c (.int x))) (Xe H A.lt (Jam R.kl c (.int x))) { S with la:=λz=>if z=c then some x else S.la z } { R with kl:=aV R.kl (Sum.inl c) (.int x) }:=by
 obtain⟨b,t,k,a,g⟩:=JhZ 9 rfl di.1 di.2 di;refine⟨b,t,U.u.nd,a,JW k _,XM k,U.u.pn,Q3 k _,U.u.hd,U.u.wd,λr=>(U.u.wr r).keep k,U.u.wg,g,?_⟩;have e:(λz=>(if z=c then some x else S.la z).map V.int)=λz=>if z=c then Jb x else(S.la z).map V.int:=by funext z;split <;> rfl
 rw[e];exact U.u.lt.put d _
def Hu.setLk (U:JgK F)(n):JgH F (upd O A.h (JdR A n)) (Xw A.h (JdR A n)) { S with lk:=n }:=by obtain⟨b,t,k,a,g⟩:=JhZ 0 rfl gu.1 gu.2 gu;exact⟨b,t,U.u.nd,a,JW k _,XM k,U.u.pn,Q3 k _,U.u.hd,U.u.wd,λr=>(U.u.wr r).keep k,U.u.wg,g,U.u.lt⟩
end
def Two.take (T:Jlk F H){n:Addr}{o:HO}(h:Xa (F n) o)(h0:Jhc (F0 n))(s:ao F0 F):Two F0 (upd O n o) H:=by
 refine⟨s.trans T.f,λb u e=>?_,λb e=>?_⟩
 ·by_cases z:b=n
  ·rw[z,af]at e;rw[z,←e];exact T.f _ _ h
  ·rw[ai z]at e;exact T.o b u e
 ·by_cases z:b=n
  ·rw[z];exact h0
  ·rw[ai z]at e;exact(T.base s).d b e
def vQ {b:Type}{L:List b}(c:L.Nodup){i j:Nat}{a:b}(g:L[i]?=some a)(f:L[j]?=some a):i=j:=by have e:=gEq g;have d:=gEq f;exact(List.getElem_inj c).mp (e.2.trans d.2.symm)
def qf:∀ {L:List α} {i:Nat},L.Nodup→n∉L→(L.set i n).Nodup
 | [],_,a,_=>a
 | x :: L,0,a,h=>JbW (λz=>h (Xd z)) ((List.nodup_cons.mp a).2)
 | x :: L,i+1,a,h=>by
  refine JbW (λz=>?_) (qf (List.nodup_cons.mp a).2 λz=>h (Xd z));rcases List.mem_or_eq_of_mem_set z with z | z
  ·exact(List.nodup_cons.mp a).1 z
  ·exact h (z ▸ List.mem_cons_self)
section
variable {K:W.Frag} {C:Addr} {F O H:Hp} {A:HA} {pr:Addr} {most:Int} {S:HS} {hs:List Int} {R:HC}
def Hu.oN (U:JgK F){n:Addr}{o:HO}(h:Xa (F n) o):Qn (O n):=by
 cases e:O n with
 | none=>rfl
 | some u=>have:=U.t.d n (by rw[e];exact λz=>nomatch z);rw[h]at this;cases this
def HuO.stO (U:HuO K C O H A pr most S hs R){n:Addr}(h:Qn (O n)):n∉A.st:=λz=>by obtain⟨i,a⟩:=List.getElem?_of_mem z;have b:=(gEq a).1;have:=U.at_ i n _ a (gG (show i < (JiN C A pr S R).length from b));rw[h]at this;cases this
def Hu.give (U:JgK F){n:Addr}{c:Int}{ns:List Int}(E:-100≤c∧JhY c)(h:Qb (F n) (ns.map V.int))(h0:Qn (F0 n))(s:ao F0 F) :
  ∃M x,JgG F0 M (Xe H A.wg (Jam R.kg c (.ref n))) (S.setG c ns) x∧(x.gg=λz=>if z=c then Ja n else R.gg z)∧x.xs=R.xs:=by
 have v:=U.oN h;have j:=U.u.stO v;have L:=U.t.take h h0 s;have J:JgI F0 (Qa O n (ns.map V.int)) H:=by refine⟨U.n.upd cA,L,U.u.nd,λi a o b p=>?_,U.u.kn,U.u.pp,U.u.pn,U.u.tr,U.u.hd,U.u.wd,U.u.wr,U.u.wg,λc=>(U.u.gr c).upd (.inr v) λl D=>.inl D,U.u.lt⟩;have w:a≠n:=λz=>j (z ▸ mO b);rw[ai w];exact U.u.at_ i a o b p
 obtain⟨y,t,k,a,g⟩:=J.set 7 rfl rfl di.1 di.2 di;refine Jr _ { R with kg:=aV R.kg (Sum.inl c) (.ref n),gg:=λz=>if z=c then some (.ref n) else R.gg z } ⟨y,t,U.u.nd,a,JW k _,XM k,U.u.pn,Q3 k _,U.u.hd,U.u.wd,λr=>(U.u.wr r).keep k,U.u.wg.put E _,λz=>?_,U.u.lt⟩ rfl
 have f:∀z,R.gg z≠some (.ref n):=λz e=>by
  have:=U.u.gr z;generalize S.wg z=B at this;cases this with
  | no h=>rw[h]at e;cases e
  | is b p _ _ =>
   lia
 show WgR _ A (λz=>if z=c then Ja n else R.gg z) z (if z=c then ns else S.wg z)
 by_cases e:z=c
 ·rw[if_pos e];refine .is (by show(if z=c then _ else _)=_;rw[if_pos e]) ?_ j λd h'=>?_
  ·have w:n≠A.wg:=λq=>j (q ▸ mO (i:=7) rfl);rw[ai w,af]
  ·have h':=h'
   by_cases q:d=c
   ·rw[q,e]
   ·rw[if_neg q]at h';exact absurd h' (f d)
 ·rw[if_neg e];have g':=g z;generalize S.wg z=B at g';cases g' with
  | no h=>exact .no (by show(if z=c then _ else _)=_;rw[if_neg e];exact h)
  | @is l _ b p I G =>
   refine .is (by show(if z=c then _ else _)=_;rw[if_neg e];exact b) p I λd h'=>?_
   have h':=h'
   by_cases q:d=c
   ·rw[if_pos q]at h';injection h' with h';injection h' with h';rw[←h']at b;exact absurd b (f z)
   ·rw[if_neg q]at h';exact G d h'
def Hu.addL (U:JgK F){l:Addr}{c:Int}(h:R.gg c=Ja l)(r):VH l ((S.wg c).map V.int)∧Hu K C F (Qa O l ((S.wg c++[r]).map V.int)) (JkL l ((S.wg c++[r]).map V.int)) A pr most (S.addG c r) hs R:=by
 have g:=U.u.gr c;generalize I:S.wg c=G at g;cases g with
 | no h'=>rw[h]at h';cases h'
 | @is j _ b w v s =>
  rw[h]at b;injection b with b;injection b with b;subst b;have p:=U.t.o _ _ w;have k:=aL.oth (o:=.lst ((G++[r]).map V.int)) p cA.1 cA.2;refine⟨p,U.n.upd cA,U.t.own (by rw[w];exact λz=>nomatch z) _,U.u.nd,λi a o x J=>?_,JW k _,XM k,U.u.pn,Q3 k _,U.u.hd,U.u.wd,λr=>(U.u.wr r).keep k,U.u.wg,λz=>?_,U.u.lt⟩
  ·have d:a≠l:=λz=>v (z ▸ mO x);rw[ai d];exact U.u.at_ i a o x J
  ·show WgR _ A R.gg z (if z=c then S.wg z++[r] else S.wg z)
   by_cases e:z=c
   ·rw[if_pos e,e,I];exact .is h af v s
   ·rw[if_neg e];have g:=U.u.gr z;generalize S.wg z=E at g;cases g with
    | no h'=>exact .no h'
    | @is j _ f D B y =>
     refine .is f ?_ B y;have d:j≠l:=λq=>e (s z (q ▸ f));rw[ai d];exact D
def Hu.gg0 (U:JgK F){c:Int}(h:Qn (R.gg c)):S.wg c=[]:=by
 have g:=U.u.gr c;generalize S.wg c=b at g;cases g with
 | no _=>rfl
 | is a _ _ _=>rw[h]at a;cases a
def Hu.gg1 (U:JgK F){c:Int}{v:V}(h:Xa (R.gg c) v):∃l,Xy v l∧H l=some (.lst ((S.wg c).map V.int)):=by
 have g:=U.u.gr c;generalize S.wg c=d at g;cases g with
 | no h'=>rw[h]at h';cases h'
 | @is l _ a b _ _ =>
  rw[h]at a;injection a with a;exact⟨l,a,U.t.o _ _ b⟩
def Hu.moveTr {x:Hp}(U:JgK F){n:Addr}{ts:List (Int × Int)}{zs:List V}(h:Qb (F n) zs)(hz:J_ dP zs)(h0:Qn (x n))(s:ao x F) :
  ∃I,Hu K C x I (Xw A.h (Jiq { A with tr:=n })) { A with tr:=n } pr most { S with ts:=ts } hs { R with zs:=zs }:=by
 have g:=U.oN h;have b:=U.u.stO g;have B:=U.u.at_ 0 _ _ rfl rfl;have y:n≠A.h:=λz=>b (z ▸ mO (i:=0) rfl);have k:=aL.oth (o:=Jiq { A with tr:=n }) U.ins gu.1 gu.2;have j:({ A with tr:=n }:HA).st.Nodup:=by have e:({ A with tr:=n }:HA).st=A.st.set 3 n:=rfl;rw[e];exact qf U.u.nd b
 refine⟨_,(U.n.upd cA).upd gu,(U.t.take h h0 s).own (by rw[JaI y,B];exact λz=>nomatch z) _,j,λi a o f d=>?_,JW k _,XM k,U.u.pn,hz.keep k (cm _),U.u.hd,U.u.wd,λr=>(U.u.wr r).keep k,U.u.wg,λz=>?_,U.u.lt⟩
 ·by_cases q:i=0
  ·subst q;cases f;cases d;exact af
  by_cases p:i=3
  ·subst p;cases f;cases d;rw[ai y,af]
  have c:A.st[i]?=some a:=by have e:({ A with tr:=n }:HA).st=A.st.set 3 n:=rfl;rw[e,List.getElem?_set_ne (Ne.symm p)]at f;exact f
  have w:(JiN C A pr S R)[i]?=some o:=by have e:JiN C { A with tr:=n } pr { S with ts:=ts } { R with zs:=zs }=((JiN C A pr S R).set 3 (.lst zs)).set 0 (Jiq { A with tr:=n }):=rfl;rw[e,List.getElem?_set_ne (Ne.symm q),List.getElem?_set_ne (Ne.symm p)]at d;exact d
  have G:a≠A.h:=λz=>q (vQ U.u.nd c (show A.st[0]?=some a by rw[z];rfl));have E:a≠n:=λz=>b (z ▸ mO c);rw[ai G,ai E];exact U.u.at_ i a o c w
 ·have D:=(U.u.gr z).upd (u:=.lst zs) (.inr g) (A':={ A with tr:=n }) λl v=>(List.mem_or_eq_of_mem_set (i:=3) v).imp id λe=>by rw[e];exact g
  exact D.upd (.inl (mO (i:=0) rfl)) λl v=>.inl v
def Hu.moveOd {x:Hp}(U:JgK F){n:Addr}{od:List Int}(h:Qb (F n) (od.map V.int))(h0:Qn (x n))(s:ao x F) :
  ∃I,Hu K C x I (Xw A.h (Jiq { A with od:=n })) { A with od:=n } pr most { S with od:=od } hs R:=by
 have g:=U.oN h;have b:=U.u.stO g;have B:=U.u.at_ 0 _ _ rfl rfl;have y:n≠A.h:=λz=>b (z ▸ mO (i:=0) rfl);have k:=aL.oth (o:=Jiq { A with od:=n }) U.ins gu.1 gu.2;have j:({ A with od:=n }:HA).st.Nodup:=by have e:({ A with od:=n }:HA).st=A.st.set 8 n:=rfl;rw[e];exact qf U.u.nd b
 refine⟨_,(U.n.upd cA).upd gu,(U.t.take h h0 s).own (by rw[JaI y,B];exact λz=>nomatch z) _,j,λi a o f d=>?_,JW k _,XM k,U.u.pn,Q3 k _,U.u.hd,U.u.wd,λr=>(U.u.wr r).keep k,U.u.wg,λz=>?_,U.u.lt⟩
 ·by_cases q:i=0
  ·subst q;cases f;cases d;exact af
  by_cases p:i=8
  ·subst p;cases f;cases d;rw[ai y,af]
  have c:A.st[i]?=some a:=by have e:({ A with od:=n }:HA).st=A.st.set 8 n:=rfl;rw[e,List.getElem?_set_ne (Ne.symm p)]at f;exact f
  have w:(JiN C A pr S R)[i]?=some o:=by have e:JiN C { A with od:=n } pr { S with od:=od } R=((JiN C A pr S R).set 8 (.lst (od.map V.int))).set 0 (Jiq { A with od:=n }):=rfl;rw[e,List.getElem?_set_ne (Ne.symm q),List.getElem?_set_ne (Ne.symm p)]at d;exact d
  have G:a≠A.h:=λz=>q (vQ U.u.nd c (show A.st[0]?=some a by rw[z];rfl));have E:a≠n:=λz=>b (z ▸ mO c);rw[ai G,ai E];exact U.u.at_ i a o c w
 ·have D:=(U.u.gr z).upd (u:=.lst (od.map V.int)) (.inr g) (A':={ A with od:=n }) λl v=>(List.mem_or_eq_of_mem_set (i:=8) v).imp id λe=>by rw[e];exact g
  exact D.upd (.inl (mO (i:=0) rfl)) λl v=>.inl v
end
def hln (h:n≤200000):JaH n:=by rw[sizeLine_eq];lia
def HS.setG_self {S:HS}{c:Int}{ns:List Int}(h:S.wg c=ns):S.setG c ns=S:=by
 have:(λx=>if x=c then ns else S.wg x)=S.wg:=by
  funext x;by_cases e:x=c
  ·rw[if_pos e,e,h]
  ·rw[if_neg e]
 unfold HS.setG;rw[this]
def AX (hs)(p):(λx=>if x=p then some (V.bl true) else gq hs x)=gq (hs++[p]):=by
 funext x;unfold gq;by_cases e:x=p
 ·rw[if_pos e,if_pos (Xb (by rw[e];exact List.mem_cons_self))]
 ·rw[if_neg e];by_cases c:x∈hs
  ·rw[if_pos c,if_pos (Qc c)]
  ·rw[if_neg c,if_neg (λz=>(mPq z).elim c λz=>e (mSq z))]
def iJ (hs)(p):(gq hs p).isSome=decide (p∈hs):=by
 unfold gq;by_cases c:p∈hs
 ·rw[if_pos c,dTq c];rfl
 ·rw[if_neg c,dFq c];rfl
def dV (R a:HC):Prop:=(∀c v,Xa (R.gg c) v→Xa (a.gg c) v)∧a.xs=R.xs
section
variable {K:W.Frag} {C:Addr} {F O H:Hp} {A:HA} {pr:Addr} {most:Int} {S:HS} {hs:List Int} {R:HC}
def Hu.setd (U:JgK F){c r:Int}(x:-100≤c∧JhY c){e:Addr}(g:Vn e){Q:VK}
  (q:∀l d,Qb (d l) ((S.wg c).map V.int)→(∃o b,JgG F o (Qa d l ((S.wg c++[r]).map V.int)) (S.addG c r) b∧dV R b)→Xg l d) :
  kY (.ref A.wg) (Jde c e) (X_ H e) Q:=by
 have a:=U.newF g (.lst []);have j:=(U.t.none g).2;have f:ao F (X_ F e):=QL j;refine JjJ A.wg (Sum.inl c) (.ref e) R.kg rfl (a.at' 7 rfl rfl) (hln U.u.wg.len) ?_;rw[U.u.wg.val];cases h:R.gg c with
 | some v =>
  obtain⟨l,rfl,w⟩:=a.gg1 h;exact .inl (V2 (q l _ w ⟨_,_,((a.addL h r).2).base f,Xr (λ_ _ z=>z)⟩))
 | none =>
  have s:=U.gg0 h;obtain⟨o,b,n,i,p⟩:=a.give (ns:=[]) x af j f;rw[HS.setG_self s]at n;have k:=n.addL (by rw[i];exact if_pos rfl) r;refine Jx rfl (q e _ k.1 ⟨_,_,k.2,λz v hz=>?_,p⟩);lia
def Hu.same (U:JgK F)(s:Xj H):JgJ F H':=U.heap s.kt ⟨U.t.f.trans s,U.t.o.trans s,U.t.d⟩
def Hu.more (U:JgK F)(s:Xj H){d:Addr}{o:HO}(h:Vn d)(c:Vw d o):JgJ (upd F d o) H':=by
 have a:=U.same s;refine⟨a.n,⟨λb u e=>?_,a.t.o,λb e=>?_⟩,a.u⟩
 ·by_cases z:b=d
  ·rw[z,af]at e;rw[z,←e];exact c
  ·rw[ai z]at e;exact a.t.f b u e
 ·have g:b≠d:=λz=>e (by rw[z];exact(U.t.none h).1);rw[ai g];exact a.t.d b e
def Hu.tupF (U:JgK F){d:Addr}{o:HO}(a:Jg d o)(h:¬NTup o):ao F (upd F d o)∧Hu K C (upd F d o) O H A pr most S hs R:=by
 have od:Qn (O d):=by
  cases e:O d with
  | none=>rfl
  | some u=>have:=U.t.o _ _ e;rw[a]at this;injection this with this;exact absurd (U.n d u e) (this ▸ h)
 refine⟨λb u e=>?_,U.n,⟨λb u e=>?_,U.t.o,λb e=>?_⟩,U.u⟩
 ·by_cases z:b=d
  ·have:=U.t.f _ _ e;rw[z,a]at this;rw[z,af];exact this
  ·rw[ai z];exact e
 ·by_cases z:b=d
  ·rw[z,af]at e;rw[z,←e];exact a
  ·rw[ai z]at e;exact U.t.f b u e
 ·have c:b≠d:=λz=>e (by rw[z];exact od);rw[ai c];exact U.t.d b e
def Hu.sqF (U:JgK F){d:Addr}{xs:List V}(h:JfB d):∃b,ao F b∧JgK b∧SqT K b d xs:=by
 rcases h with (h | ⟨q,h⟩) | h
 ·obtain⟨s,a⟩:=U.tupF h λz=>z.1 _ rfl;exact⟨_,s,a,Jj7 af⟩
 ·obtain⟨s,a⟩:=U.tupF h λz=>z.2 _ _ rfl;exact⟨_,s,a,.inl (Jx q af)⟩
 ·exact⟨F,ao.refl F,U,.inr h⟩
def Hu.held (U:JgK F)(p):bU H A.hd (.int p) (gq hs p):=by have:=bU.k (k:=Sum.inl p) (Jca 4);rw[U.u.hd.val]at this;exact this
def Hu.hold (U:JgK F){q:Addr}{p y:Int}(e:-100≤p∧JhY p)(a:Vn q) :
  ∃h c,J6 F h (Xe (Qa (Jkm H q p y) A.tr (R.zs++Vt q)) A.hd (Jam R.kh p (.bl true))) A (S.hold p y) (hs++[p]) c∧dV R c:=by
 have b:=JlG a p y;have d:Jcm F F q (JO p y):=QL (U.t.none a).2;have g:=b.setTr (ts:=S.ts++[(p,y)]) (zs:=R.zs++Vt q) (by rw[mAq];refine Jac b.u.tr ?_;exact of_dP (SqT.of af))
 have f:=g.setHd (hs':=hs++[p]) (by rw[←AX];exact U.u.hd.put e _);exact⟨_,_,f.base d,Xr (λ_ _ z=>z)⟩
end
section
variable {K:W.Frag} {h:Heap} {mg:Str→Option Value} {C f:Addr} {fd:FuncData} {n x q:Str} {st:Stmt} {oc kV doc pm cdv ct:Value} {od an:Option Addr} {osl:Array (Option Value)}
structure FT (K)(n x)(st)(f)(fd):Prop where
 a:Jg0 (JeE K n) f
 F:X4 x x st
 k:JgL K f
def FT.m (z:FT K n x st f fd)(X:K.In h)(G:h.Ns mainGlobals mg):mg n=some (.ref f):=W.mg_of X G z.a
def ft_in (a:Jg0 (JeE K n) f)(l:J8 f (JhS oc od (JhC x x st (cG st) (ap st) .none kV doc pm an cdv ct) osl))(c:Jjr K cdv x)(k:JgL K f):FT K n x st f (JhC x x st (cG st) (ap st) .none kV doc pm an cdv ct):=⟨a,uq l c k,k⟩
structure FM (K)(C)(x q)(st)(f)(fd):Prop where
 a:Jg0 (W.findIn K (.ref C) x) f
 i:Qu (W.isFn K (.ref f))
 F:X4 x q st
 k:JgL K f
def FM.M (z:FM K C x q st f fd):JgS x f:=⟨z.a,z.i,z.k⟩
def fm_in (a:Jg0 (W.findIn K (.ref C) x) f)(i:Qu (W.isFn K (.ref f)))(l:J8 f (JhS oc od (JhC x q st (cG st) (ap st) .none kV doc pm an cdv ct) osl))(c:Jjr K cdv q)(k:JgL K f):FM K C x q st f (JhC x q st (cG st) (ap st) .none kV doc pm an cdv ct):=⟨a,i,uq l c k,k⟩
abbrev Bd (x q:Str)(st:Stmt)(ps:List Str)(us:List Value):Prop:=∀kV doc pm an cdv ct,JjH (JhM (JhC x q st (cG st) (ap st) .none kV doc pm an cdv ct) us) (ps.zip us)
def Fun.b1 (F:X4 x q st)(h:∀a,Bd x q st [p] [a]):JiA fd [p]:=F.binds λkV doc pm an cdv ct us b=>by rcases us with _ | ⟨_,_ | _⟩ <;> first | exact h _ kV doc pm an cdv ct | cases b
def Fun.b2 (F:X4 x q st)(h:∀a b,Bd x q st [p,p2] [a,b]):JiA fd [p,p2]:=F.binds λkV doc pm an cdv ct us c=>by rcases us with _ | ⟨_,_ | ⟨_,_ | _⟩⟩ <;> first | exact h _ _ kV doc pm an cdv ct | cases c
def Fun.b3 (F:X4 x q st)(h:∀a b c,Bd x q st [p,p2,p3] [a,b,c]):JiA fd [p,p2,p3]:=F.binds λkV doc pm an cdv ct us d=>by rcases us with _ | ⟨_,_ | ⟨_,_ | ⟨_,_ | _⟩⟩⟩ <;> first | exact h _ _ _ kV doc pm an cdv ct | cases d
def Fun.b4 (F:X4 x q st)(h:∀a b c d,Bd x q st [p,p2,p3,p4] [a,b,c,d]):JiA fd [p,p2,p3,p4]:=F.binds λkV doc pm an cdv ct us e=>by rcases us with _ | ⟨_,_ | ⟨_,_ | ⟨_,_ | ⟨_,_ | _⟩⟩⟩⟩ <;> first | exact h _ _ _ _ kV doc pm an cdv ct | cases e
def Fun.b5 (F:X4 x q st)(h:∀a b c d e,Bd x q st [p,p2,p3,p4,p5] [a,b,c,d,e]):JiA fd [p,p2,p3,p4,p5]:=F.binds λkV doc pm an cdv ct us g=>by rcases us with _ | ⟨_,_ | ⟨_,_ | ⟨_,_ | ⟨_,_ | ⟨_,_ | _⟩⟩⟩⟩⟩ <;> first | exact h _ _ _ _ _ kV doc pm an cdv ct | cases g
def Fun.top (F:X4 x q st)(h:∀a,Bd x q st [p] [a]):∀s v,BindsTo s fd (Jew [v]) [(p,v)]:=λs v=>by obtain⟨oc,od,kV,doc,pm,an,cdv,ct,osl,rfl,c,b⟩:=F.ex;exact .of_eq (h v kV doc pm an cdv ct)
end
end L2
namespace W54
open PySem L2
noncomputable def top (i:Nat):Stmt:=PySem.Challenge.pw_yesorno_k54_plain_search.main.body.getD i (Je0 0 0 0 0)
abbrev s_init:Stmt:=V1 1 0
abbrev s_head:Stmt:=V1 1 1
abbrev s_together:Stmt:=V1 1 2
abbrev s_merge:Stmt:=V1 1 3
abbrev s_given_links:Stmt:=top 2
abbrev s_alike_links:Stmt:=top 3
abbrev s_links:Stmt:=top 4
abbrev s_groups_of:Stmt:=top 5
abbrev s_heads:Stmt:=top 6
abbrev nP:Stmt:=top 31
abbrev s_steps_of:Stmt:=top 33
abbrev s_way:Stmt:=top 34
abbrev s_part_pairs:Stmt:=top 35
abbrev s_ways:Stmt:=top 36
abbrev lg:Stmt:=top 38
abbrev lu:Stmt:=top 39
abbrev nQ:Stmt:=top 40
abbrev lB:Stmt:=top 41
abbrev nU:Stmt:=top 42
structure TxG (K)(mg:Str→Option Value)(C):Prop where
 cl:Cls K C
 nL:cK K C "least"
 nG:cK K C "gathered"
 min:Vo "min"
 max:Vo "max"
 range:Vo "range"
structure Txt (K)(mg:Str→Option Value):Prop where
 len:Vo "len"
 list:Vo "list"
 range:Vo "range"
 isinstance:Vo "isinstance"
 int:Vo "int"
 bool:Vo "bool"
 min:Vo "min"
 max:Vo "max"
 tuple:Vo "tuple"
 enumerate:Vo "enumerate"
 zip:Vo "zip"
 sorted:Vo "sorted"
 dict:Vo "dict"
 ib:Xa (W.kitOne K (.type "int") (.type "bool")) false
inductive nV (C):Sp|m{vs H Q E9} (g dx):vs=Vt g→Jcr g []→(∀H' ld gd,(∀b o,b≠g→Jlr o→Vw b o)→Vn ld→Vn gd→ld≠gd→Vw g (JH [("least",.ref ld),("gathered",.ref gd)])→JiX ld []→JiX gd []→Jb7 H')→nV C vs H Q E9
def AY:Xn ["self"] ["self"] s_init:=fsc
def ok_init (F:X4 "__init__" "Groups.__init__" s_init)(T:TxG K mg C):Jea ["self"] (nV C):=by
 refine F.ok AY (λvs H Q E h=>?_) (λcdv A outer s H vs Q E G h=>?_)
 ·obtain⟨g,dx,rfl,_⟩:=h;rfl
 obtain⟨g,dx,rfl,y,q⟩:=h;refine VP (Jh0 (JfD gP) (JfD gP));try dsimp only [Cx.nox,Cx.wish,ag]
 refine λld d=>?_;have x:=bX y d;obtain⟨j,D,t,n⟩:=nwH d (.dK []);rw[D];have p:=t _ _ y;have B:=t;refine Jk2 _ g C dx _ p T.cl T.nL (by decide);have c:(XQ j g (JiE ld [])) g=some (JH [("least",.ref ld)]):=af;have i:(XQ j g (JiE ld [])) ld=some (.dK []):=by rw[JaI x];exact n
 have k2:∀b o,b≠g→Jlr o→(XQ j g (JiE ld [])) b=some o:=λb o k h=>by rw[ai k];exact B b o h
 have r:∀b,(XQ j g (JiE ld [])) b=none→Vn b:=λb h=>by
  cases e:H b with
  | none=>rfl
  | some o =>
   by_cases z:b=g
   ·rw[z,c]at h;cases h
   ·rw[k2 b o z e]at h;cases h
 generalize XQ j g (JiE ld [])=I at c i k2 r;refine λgd a=>?_;have v:=bX c a;have u:=bX i a;refine Jk2 _ g C dx _ (by rw[ai v];exact c) T.cl T.nG (by show Jfi 1;decide);refine q _ ld gd (λb o k h=>?_) d (r gd a) u af (by rw[JaI x,ai u];exact i) (by rw[JaI v];exact af);have l:b≠gd:=λz=>by rw[z,r gd a]at h;cases h
 rw[ai k,ai l];exact k2 b o k h
inductive jP (C):Sp|m{vs H Q E9} (g ld gd) (t) (N b) (hd) (av):vs=JbQ g t→Jji H C g N b→VI (hd t) H→jP C vs H Q E9
def AZ:Jjt (JL "term") "term" s_head:=fsc
def ok_head (F:X4 "head" "Groups.head" s_head)(T:TxG K mg C):Jea (JL "term") (jP C):=by
 refine F.ok AZ (λvs H Q E h=>?_) (λcdv A outer s H vs Q E d h=>?_)
 ·obtain⟨g,ld,gd,t,N,b,e,l,rfl,_⟩:=h;rfl
 obtain⟨g,ld,gd,t,N,b,e,l,rfl,G,q⟩:=h;have c:=dv d;obtain⟨dx,kl,kg,j,a,r,i,p,o,n⟩:=G.ex;refine VP (Qj (jB c (Vl 0) (pv 1) (pv 1) (Jgk rfl)));(try dsimp only [Cx.nox,Cx.wish,ag]);refine⟨_,rfl,g,C,dx,_,_,rfl,j,T.cl,T.nL,rfl,ld,rfl,Jd0 kl a,_,rfl,_,rfl,_,bU.k (k:=Sum.inl t) a,?_⟩;rw[i];exact q
inductive nW (C):Sp|m{vs H Q E9} (g ld gd) (t u) (N b) (hd) (av):vs=Jer g t u→Jji H C g N b→XR (decide (hd t=hd u)) H→nW C vs H Q E9
def A0:Xn (VW "one") (VW "one") s_together:=fsc
def decV (x y):decide (JjG x y)=decide (x=y):=JeD (λz=>by injection z) (λz=>by rw[z])
def ok_together (F:X4 "together" "Groups.together" s_together)(T:TxG K mg C)(M:JgS "head" fH)(j:JcA 1 fH dH "term" (jP C))(i:JiB dH "term"):Jdo 2 (VW "one") (nW C):=by
 refine F.ok A0 (λvs H Q E h=>?_) (λcdv A outer s H vs Q E d h=>?_)
 ·obtain⟨g,ld,gd,t,u,N,b,a,c,rfl,_⟩:=h;rfl
 obtain⟨g,ld,gd,t,u,N,b,a,c,rfl,G,q⟩:=h;obtain⟨dx,kl,kg,e,r,p,o,n,l,k⟩:=G.ex;refine VP (Qj (iw ck (JeW 0 M j d i 1) (JeW 0 M j d i 2)));(try dsimp only [Cx.nox,Cx.wish,ag]);refine⟨_,rfl,g,dx,_,rfl,e,rfl,_,rfl,g,ld,gd,t,N,b,a,c,rfl,G,_,rfl,g,dx,_,rfl,e,rfl,_,rfl,g,ld,gd,u,N,b,a,c,rfl,G,rfl,?_⟩;rw[decV];exact q
inductive lC (C):Sp|m{vs H Q E9} (g ld gd) (t u) (N b) (hd) (av):vs=Jer g t u→Jji H C g N b→(0≤t∧t < (N:Int))→(0≤u∧u < (N:Int))→N≤100→b≤1000→(∀a∈av,H a≠none)→(∀H',Jfo H'→Jjh H' C g N (b+1) (mrg hd t u)→Jb7 H')→lC C vs H Q E9
def lD:Xn ["self","one","other","low","high","moved","term"] (VW "one") s_merge:=fsc
def nX (h:n≤200000):Ju n:=by rw[sizeLine_eq];lia
def iK (h:n≤200000):JaH n:=by rw[sizeLine_eq];lia
def merge3 (T:TxG K mg C){cdv:Value}{A:Around}{outer:List Env}{s:Shared}{H0:Hp}{E:XK}(hr:JiU 1 "Groups.merge" s_merge f cdv) :
  ∃z,PSs (Jfk CX0 P w K mg ["self","one","other","low","high","moved","term"] "Groups.merge" (ap s_merge) f cdv A s H0 E).nox ((cG s_merge).drop 3) z ∧
   ∀D H g ld gd t u N b d av,Jjh H C g N b d→(0≤t∧t < (N:Int))→(0≤u∧u < (N:Int))→N≤100→b≤1000→JfE t u≠hiF (d t) (d u)→(∀a∈av,H a≠none)→(∀H' σ',Jfo H'→Jjh H' C g N (b+1) (mrg d t u)→D.nx σ' H') →
    z D [Ja g,Jb t,Jb u,Jb (JfE t u),Jb (hiF (d t) (d u)),none,none] H:=by
 have hu:=dv hr;refine VP (QO (i:=5) lD.nd (jB hu (Vl 0) (pv 4) (Jkh 4) (Jgk rfl)) (Jgh (Jd7 5) (i:=6) lD.nd (gO hu (Vl 0) (pv 6) (pv 3) rfl)) (ak (gO hu (Vl 0) (pv 3) (Jgt jx (jB hu (Vl 0) (pv 3) (Jkh 3) (Jgk rfl)) 5) rfl)));try dsimp only [Cx.nox,Cx.wish,ag]
 rintro D H g ld gd t u N b d av G ht Y N100 M e hav q;obtain⟨dx,kl,kg,h1,h2,h3,h4,h5,h6,h7⟩:=G.ex;have bN:b * N≤100000:=Nat.mul_le_mul M N100;obtain⟨mh,k1,k2,X⟩:=h5 _ (G.h.hi_id t u);obtain⟨ml,l1,l2,U⟩:=h5 _ (G.h.lo_id t u);have tN:=G.h.in' ht;have uN:=G.h.in' Y;have lh:=lohi (d t) (d u);have mhl:=vv G.h (x:=hiF (d t) (d u)) (by lia) k1 k2;have mll:=vv G.h (x:=JfE t u) (by lia) l1 l2;have R:=cq h1 h2 (by intro z;cases z);have ngg:=cq h1 h3 (by intro z;cases z);refine Jll _ g C dx _ _ rfl h1 T.cl T.nG rfl gd rfl (Jd0 kg h3) _ rfl _ rfl lS1 (λl hl=>?_);obtain⟨H1,eN,B,n1⟩:=QB hl (Jgr (hiF (d t) (d u)));rw[eN];obtain⟨I,eam,r⟩:∃I,(Vm kg (hiF (d t) (d u))).getD (.ref l)=.ref I∧H1 I=some (.lst (mh.map V.int)):=by
  rcases X with ⟨X,k4⟩ | ⟨a,X,k4,_⟩
  ·rw[X];refine Vg l ?_;rw[k4];exact n1
  ·rw[X];exact Vg a (B _ _ k4)
 refine VP (bU.k (k:=Sum.inl (hiF (d t) (d u))) (B _ _ h3));rw[eam];have h11:=B _ _ h1;have h21:=B _ _ h2;have h31:=B _ _ h3;have J:=cq r h21 (by intro z;cases z);refine JbA _ I (QI _ r) (Jh2 cH (λi σ H'=>Ex2 λ v6 j=>An5 (σ=[Ja g,Jb t,Jb u,Jb (JfE t u),Jb (hiF (d t) (d u)),Ja I,v6]) (cb ld H1 H') (JiX ld j) (j.length≤kl.length+i) (∀x:Int,(Vm j x).getD (.int x)=.int (if x∈mh.take i then JfE t u else d x))) (λi σ H' h=>by obtain⟨_,_,_,n,_⟩:=h;exact SqL.of (n _ _ J r)) ⟨none,kl,rfl,cb.refl _ _,h21,nRq _,λx=>by simpa using h4 x⟩)
 ·rintro i σ H2 x H3 hi ⟨v6,j,rfl,n,F,ll,hv⟩ ⟨rfl,hx⟩;obtain⟨k,hk,rfl⟩:=cM (JcY _ (n _ _ J r));rw[lM]at hi;refine⟨_,rfl,_,rfl,g,C,dx,_,_,rfl,n _ _ R h11,T.cl,T.nL,rfl,_,rfl,ld,_,rfl,eT.k (k:=Sum.inl k) F (iK (by lia)),_,_,rfl,n.trans (Jgu _),af,?_,λx=>?_⟩
  ·have:=kJ j (Sum.inl k) (.int (JfE t u));show(Jam j k (.int (JfE t u))).length≤_;lia
  ·rw[gM,bb hk];by_cases z:x=k
   ·subst z;rw[if_pos rfl,if_pos (Xb List.mem_cons_self)];rfl
   ·rw[if_neg (λw=>z (by injection w)),hv];congr 1;by_cases w:x∈mh.take i
    ·rw[if_pos w,if_pos (Qc w)]
    ·rw[if_neg w,if_neg (λy=>by
      rcases mPq y with y | y
      ·exact w y
      ·exact z (mSq y))]
 ·rintro σ H2 ⟨v6,j,rfl,n,F,ll,hv⟩;rw[lM]at ll;rw[lM,Jbu _]at hv;have h12:=n _ _ R h11;have L:=n _ _ (Ne.symm G.ne) h31;have ham2:=n _ _ J r;refine Jll _ g C dx _ _ rfl h12 T.cl T.nG rfl gd rfl (Jd0 kg L) _ rfl _ rfl lS1 (λW hl2'=>?_);obtain⟨H3,eN,O,n3⟩:=QB hl2' (Jgr (JfE t u));rw[eN];obtain⟨al,eal,hal⟩:∃al,(Vm kg (JfE t u)).getD (.ref W)=.ref al∧H3 al=some (.lst (ml.map V.int)):=by
   rcases U with ⟨U,Q⟩ | ⟨a,U,Q,_⟩
   ·rw[U];refine Vg W ?_;rw[Q];exact n3
   ·rw[U];have na:=cq Q h2 (by intro z;cases z);exact Vg a (O _ _ (n _ _ na (B _ _ Q)))
  refine VP (bU.k (k:=Sum.inl (JfE t u)) (O _ _ L));rw[eal];refine Jfs _ al I _ _ rfl hal (O _ _ ham2) (nX (by rw[lM,lM];lia)) (λp Z=>?_);rw[←mAq];obtain⟨H4,eN,s4,n4⟩:=QB Z ((ml++mh).map V.int);rw[eN];have v:=O.trans s4;have h14:=v _ _ h12;have h34:=v _ _ L;have hl4:=v _ _ F;have npg:=cq n4 h34 (by intro z;cases z);refine⟨_,rfl,g,C,dx,_,_,rfl,h14,T.cl,T.nG,rfl,_,rfl,gd,_,rfl,eT.k (k:=Sum.inl (JfE t u)) h34 (iK (by lia)),?_⟩;refine q _ _ ?_ ?_
  ·intro b' o' nb1 nb2 hb;rw[ai nb2];exact v _ _ (n _ _ nb1 (B _ _ hb))
  ·have Q:j.length≤(b+1) * N:=by rw[Nat.add_mul,Nat.one_mul];lia
   refine GO.merged (kl:=j) (kg:=kg) (p:=p) (ml:=ml) (mh:=mh) (dx:=dx) G.h G.ne ht Y e (by rw[ai ngg];exact h14) (by rw[ai G.ne];exact hl4) af hv (λx hx=>?_) l1 l2 k1 k2 (by rw[ai npg];exact n4) Q (by lia) (λz=>?_)
   ·obtain⟨ms,m1,m2,S⟩:=h5 x hx;refine Jkw ms m1 m2;rcases S with S | ⟨a,S,m4,m5⟩
    ·exact .inl S
    ·have na:=cq m4 h2 (by intro z;cases z);have ng:=cq m4 h3 (by intro z;cases z);exact .inr ⟨a,S,(by rw[ai ng];exact v _ _ (n _ _ na (B _ _ m4))),m5⟩
   ·cases eo:H p with
    | none=>exact hav p z eo
    | some o =>
     by_cases c:p=ld
     ·rw[c,O _ _ F]at Z;cases Z
     ·rw[O _ _ (n _ _ c (B _ _ eo))]at Z;cases Z
def ok_merge (F:X4 "merge" "Groups.merge" s_merge)(T:TxG K mg C)(M:JgS "head" fH)(o:JcA 1 fH dH "term" (jP C))(n:JiB dH "term"):Jdo 2 (VW "one") (lC C):=by
 refine F.ok lD (λvs H Q E h=>?_) (λcdv A outer s H vs Q E j h=>?_)
 ·obtain⟨g,ld,gd,t,u,N,b,a,k,rfl,_⟩:=h;rfl
 obtain⟨g,ld,gd,t,u,N,b,a,k,rfl,G,z,p,d,c,r,q⟩:=h;obtain⟨dx,kl,kg,l,U,S,R,O,L,J⟩:=G.ex;have W:=Nat.mul_le_mul c d;obtain⟨D,v,y⟩:=merge3 (P:=P) (w:=w) (base:=base) (f:=f) (outer:=outer) (H0:=H) (E:=E) T j;refine VP (JeU (i:=3) lD.nd (Jw (xR rfl) T.min PyProof.Rows.Boot.min (Xv (JeW 0 M o j n 1) (JeW 0 M o j n 2))) (i:=4) lD.nd (Jw (tI rfl) T.max PyProof.Rows.Boot.max (Xv (JeW 0 M o j n 1) (JeW 0 M o j n 2))) (ad (ah (JaS ck 3 (pv 4)) (ak xM)
   aZ)
  v));try dsimp only [Cx.nox,Cx.wish,ag]
 refine⟨_,rfl,g,dx,_,rfl,l,rfl,_,rfl,g,ld,gd,t,N,b,a,k,rfl,G,_,rfl,g,dx,_,rfl,l,rfl,_,rfl,g,ld,gd,u,N,b,a,k,rfl,G,_,_,rfl,?_⟩;refine⟨_,rfl,g,dx,_,rfl,l,rfl,_,rfl,g,ld,gd,t,N,b,a,k,rfl,G,_,rfl,g,dx,_,rfl,l,rfl,_,rfl,g,ld,gd,u,N,b,a,k,rfl,G,_,_,rfl,?_⟩;refine JeX _ rfl _ _ rfl ?_;show if decide (JjG (loF (a t) (a u)) (hiF (a t) (a u)))=true then _ else _
 rw[decV];by_cases e:loF (a t) (a u)=hiF (a t) (a u)
 ·rw[dTq e];refine b_ (q H (λ_ _ _ _ h=>h) ?_);rw[vp e];exact G.mono (Nat.le_succ _)
 rw[dFq e];exact bK (y _ H g ld gd t u N b a k G z p d c e r λH' x s' B=>q H' s' B)
inductive qg (K)(C):Sp|m{vs H Q E9} (a) (xs) (ls) (N):vs=Vt a→Ja6 a→Jdf (ls.map dL)→InN N ls→N≤100→ls.length≤1000→(∀H' g ld gd,Xj H→Vn ld→Vn gd→Jjg H' C g N ls.length (hdL ls) []→Jbq g)→qg K C vs H Q E9
def qh:Xn ["links","groups","link"] ["links"] s_groups_of:=fsc
def ok_groups_of (F:X4 "groups_of" "groups_of" s_groups_of)(T:TxG K mg C)(MK:Mk K C fI)(mC:mg "Groups"=Ja C)(Bi:JE 1 fI dI ["self"] (nV C))(bi:JiA dI ["self"])(M:JgS "merge" fM)(Bm:JE 2 fM dM (VW "one") (lC C))(bm:Ji7 dM):Jdo 3 ["links"] (qg K C):=by
 refine F.ok qh (λvs H Q E h=>?_) (λcdv A outer s H vs Q E Y h=>?_)
 ·obtain⟨a,xs,ls,N,rfl,_⟩:=h;rfl
 obtain⟨a,xs,ls,N,rfl,R,hL,hN,v,J,q⟩:=h;have xl:Q8 ls.length:=by rw[←hL.length,lM]
 refine VP (JkU (i:=1) qh.nd (mE MK Bi Y rfl mC bi .nil ay) (QZ (Jd7 0) (i:=2) qh.nd (JbD 1 M Bm Y bm (Ji5 2 2))) 1);try dsimp only [Cx.nox,Cx.wish,ag]
 intro g dx X I nex;have D:∀b o,Jlr o→(JdJ g g) b=some o:=λb o h=>by rw[ai (λe=>by rw[e,X]at h;cases h),ai (λe=>by rw[e,I]at h;cases h)];exact h
 have u:=af (H:=QT dx g) (a:=g) (o:=JH []);have S:∀b,(JdJ g g) b=none→Vn b:=λb h=>by
  cases e:H b with
  | none=>rfl
  | some o=>rw[D b o e]at h;cases h
 generalize JdJ g g=H0 at D u S;refine JC g dx u (λH1 ld gd k1 nl G ne O L r=>XE rfl);have W:JhU H1:=λb o h=>k1 b o (λe=>by rw[e,X]at h;cases h) (D b o h);have G1:Jjg H1 C g N 0 (λt=>t) []:=⟨Hd.zero N,ne,dx,[],[],O,L,r,λt=>rfl,λx _=>JjE [x] (λt=>by simp) (Jh8 rfl),Nat.zero_le _,Nat.zero_le _⟩;have k:=S ld nl;have c:=S gd G;refine Jc_ _ a _ (W.seq R) (Jh2 (cH (xs:=xs)) (λi z H'=>∃B,An3 (z=[Ja a,Ja g,B]) (Xj H) (Jjg H' C g N i (hdL (ls.take i)) [])) (λi z H' h=>by obtain⟨_,_,d,_⟩:=h;exact d.seq R) (Q1 none W G1))
 ·rintro i z H2 x H3 hi ⟨B,rfl,d,y⟩ ⟨rfl,hx⟩;obtain⟨l,p,Z,rfl,hp⟩:=jK hL (hx _ (d.seq R));have n:=d.tup hp;obtain⟨U,kl,kg,e1,_⟩:=id y.ex;have b:=hN l (mO Z);have a0:Jjo l.1 l.2.1 l.2.2 0=some (.int l.1):=Jd8 (j:=0);have a1:Jjo l.1 l.2.1 l.2.2 1=some (.int l.2.1):=Jd8 (j:=1);refine⟨_,rfl,g,U,_,rfl,e1,rfl,_,rfl,p,_,_,_,rfl,rfl,n,a0,_,rfl,p,_,_,_,rfl,rfl,n,a1,g,ld,gd,l.1,l.2.1,N,i,_,[],rfl,y,b.1,b.2,v,by lia,(λa ha=>nomatch ha),λH4 s4 G4=>?_⟩;refine Q1 _ (d.ofG k c s4) ?_;rw[bb Z,ic];exact G4
 ·rintro z H2 ⟨B,rfl,d,y⟩;rw[xl,List.take_length]at y;exact V2 (q H2 g ld gd d k c y)
noncomputable def lE (ls:List Lk)(n:Nat):List Int:=(List.range n).map λi:Nat=>JeB (i:Int)
def A1 (ls)(n):lE ls (n+1)=lE ls n++[JeB (n:Int)]:=by unfold lE;rw[List.range_succ,mAq];rfl
inductive sp_heads (K):Sp|m{vs H Q E9} (a) (n) (xs) (ls) (N):vs=Jde (n:Int) a→Ja6 a→Jdf (ls.map dL)→InN N ls→N≤100→ls.length≤1000→n≤1000→(∀H' l,Xj H→Vn l→Vx l ((lE ls n).map V.int)→Jbq l)→sp_heads K vs H Q E9
def vR:Xn ["many","links","groups"] ["many","links"] s_heads:=fsc
def ok_heads (F:X4 "heads" "heads" s_heads)(T:TxG K mg C)(o:Jie 3 "groups_of" fG dG ["links"] (qg K C))(M:JgS "head" fH)(Y:JcA 1 fH dH "term" (jP C))(W:JiB dH "term"):Jdo 4 ["many","links"] (sp_heads K):=by
 refine F.ok vR (λvs H Q E h=>?_) (λcdv A outer s H vs Q E z h=>?_)
 ·obtain⟨a,n,xs,ls,N,rfl,_⟩:=h;rfl
 obtain⟨a,n,xs,ls,N,rfl,O,S,R,k,d,p,q⟩:=h;have r:aX 1 _:=z.mono (by decide);refine VP (Jg2 (az (i:=2) vR.nd rfl (Or.inr rfl) (Jlu o.ok z o.m o.kp o.b 1)) (Js (N':=JkH "term") (ix:=[2]) rfl rfl rfl (λJ=>Jc0 (sc:=ap s_heads) J) rfl rfl (λj i h=>match j,h with | 0,h=>by cases h;exact Jbz _ | n+1,h=>by simp at h) (Jhu T.range 0) (λ_ _ _ _=>(JeW 1 M Y r W 0))));try dsimp only [Cx.nox,Cx.wish,ag]
 refine JcH _ a xs ls N rfl O S R k d (λX g ld gd y _ _ G=>?_);refine Jhs _ rfl _ rfl (λD u=>JhJ uH (λi ys H'=>Xj X∧ys=(lE ls i).map V.int) (λ_ _ _ _=>trivial) u ?_ ?_)
 ·rintro i ys v x Z B t e ⟨l,rfl⟩ ⟨rfl,rfl⟩;have L:i < n:=by have:i < ((n:Int)).toNat:=B;lia
  have I:=G.same l;obtain⟨dx,kl,kg,U,_⟩:=id I.ex;refine Jll _ g dx _ rfl U rfl _ rfl g ld gd _ N _ _ _ rfl I (Ja0 (JcZ _) B t e (l.upd u));rw[A1,mAq];show _++Jga (JeB (0+(i:Int)))=_;rw[Int.zero_add];rfl
 ·rintro ys v e ⟨l,rfl⟩;have c:=e;rw[Int.toNat_natCast]at c;exact q v D (y.trans l) (y.free u) c
inductive qj (K)(C):Sp|m{vs H Q E9} (a g ld gd) (ys) (gs) (ts):vs=JbP a g→JX a ys→JQ (gs.map dP) ys→vJ ts.length gs→Je7 H C g ld gd 0 [] []→Jcj 100→gs.length≤1000→(∀H' fl ls zs,Jfo H'→Vn fl→Vx fl zs→Jk3 (ls.map dL)→Je7 H' C g ld gd ls.length ls [fl]→Jiu ls→Jc7 gs ls→Jbq fl)→qj K C vs H Q E9
def nY:Xn ["given","groups","found","number","pair"] (JkH "given") s_given_links:=fsc
def ok_given_links (F:X4 "given_links" "given_links" s_given_links)(T:TxG K mg C)(TE:Vo "enumerate")(MT:JgS "together" fT)(Bt:JE 2 fT dT' (VW "one") (nW C))(bt:Ji7 dT')(MM:JgS "merge" fM)(Bm:JE 2 fM dM (VW "one") (lC C))(bm:Ji7 dM):Jdo 3 (JkH "given") (qj K C):=by
 refine F.ok nY (λvs H Q E h=>?_) (λcdv A outer s H vs Q E hr h=>?_)
 ·obtain⟨a,g,ld,gd,ys,Z,ts,rfl,_⟩:=h;rfl
 obtain⟨a,g,ld,gd,ys,Z,ts,rfl,hS,hL,hP,G,N100,g1000,q⟩:=h;have yl:Jfl Z.length:=by rw[←hL.length,lM]
 refine VP (JkU (i:=2) nY.nd (ba ac) (JZ (m_ rfl TE (Vi 0)) (kj rfl (JhE (i:=3) nY.nd (JhE (i:=4) nY.nd ki))) (ak (ah (ju (gD (Jbs 1 MT Bt hr bt (Ji5 4 4)))) (ad (aY (Jbs 1 MM Bm hr bm (Ji5 4 4))) (JfS 2 (Jkg (aa (QA 4) (Jfx (QA 4) 3)))))
     aZ))) 2);try dsimp only [Cx.nox,Cx.wish,ag]
 refine JeR (λU D=>?_);obtain⟨H1,eN,sN,n1⟩:=QB D [];rw[eN];have s1:Jfo H1:=sN.g;have G1:=(G.avoid D).same sN;refine Jc_ _ a _ (Jh3 s1) (Jh2 mZ (λi σ H'=>Ex4 λ v3 v4 ls zs=>An7 (σ=[Ja a,Ja g,Ja U,v3,v4]) (Jfo H') (Vx U zs) (Jk3 (ls.map dL)) (Je7 H' C g ld gd ls.length ls [U]) (Jit Z ls) ((∀j p,j < i→Z[j]?=some p→JeB p.1=JeB p.2))) (λi σ H' h=>by obtain⟨_,_,_,_,_,R,_⟩:=h;exact Jh3 R) ⟨none,none,[],[],rfl,s1,n1,aj.nil,G1,bu.nil _ _,(λj p S=>VB S _)⟩)
 ·rintro i σ H2 x H3 hi ⟨v3,v4,ls,zs,rfl,R,N,o,G2,R2,g2⟩ ⟨t,y,rfl,ht,rfl,hy⟩;obtain⟨d,p,B,rfl,hp⟩:=p_ hL (hy _ (Jh3 R));obtain⟨H3,eN,v,n3⟩:=Ja3 ht (Jde i p);rw[eN];have s3:=R.trans v.g;have O:=G2.same v;have M:=v _ _ N;have J:=QC v.kt _ o;have n:=(G.ktG s3).sq hp;have b:=hP d (mO B);have a0:Jfe d.1 d.2 0=some (.int d.1):=aJ rfl;have a1:Jfe d.1 d.2 1=some (.int d.2):=aJ rfl;have ll:=R2.len;obtain⟨dx,kl,kg,e1,_⟩:=id O.ex;refine⟨t,_,rfl,SqT.of n3,rfl,_,_,rfl,_,_,rfl,rfl,?_⟩;refine⟨_,rfl,g,dx,_,rfl,e1,rfl,_,rfl,p,_,_,_,rfl,rfl,n,a0,_,rfl,p,_,_,_,rfl,rfl,n,a1,g,ld,gd,d.1,d.2,_,_,_,_,rfl,O,_,rfl,?_⟩;by_cases c:JeB d.1=hdL ls d.2
  ·rw[dTq c];refine bK ⟨_,_,ls,zs,rfl,s3,M,J,O,R2,λj r S k=>?_⟩
   ·by_cases z:j=i
    ·subst z;cases B.symm.trans k;exact c
    ·exact g2 j r (by lia) k
  ·rw[dFq c];refine b_ ⟨_,rfl,g,dx,_,rfl,e1,rfl,_,rfl,p,_,_,_,rfl,rfl,n,a0,_,rfl,p,_,_,_,rfl,rfl,n,a1,g,ld,gd,d.1,d.2,_,_,_,_,rfl,O,b.1,b.2,N100,by lia,(λz hz=>by cases mSq hz;rw[M];exact λe=>nomatch e),λH4 s4 G4=>?_⟩;have s34:=s3.trans s4;have X:=O.lstG s4 M;have Y:=QC (O.ktG s4) _ J;have W:=(O.ktG s4).sq n;refine⟨_,rfl,JcJ X,_,rfl,p,_,_,_,rfl,rfl,W,a0,_,rfl,p,_,_,_,rfl,rfl,W,a1,_,rfl,lS3,λu hu=>?_⟩;obtain⟨H5,eN,s5,n5⟩:=Ja3 hu (Jbt d.1 d.2 i);rw[eN];have G5:=G4.same s5;have s35:=s34.trans (s5.g);have L:=s5 _ _ X;have I:=QC s5.kt _ Y;have zl:Jhl ls.length:=by rw[←I.length,lM]
   refine⟨U,_,_,rfl,rfl,L,cY (by lia),_,_,ls++[(d.1,d.2,(i:Int))],zs++Vt u,rfl,s35.grow D,af,?_,?_,R2.snoc ⟨b.1,b.2,c,Jo (by show(0:Int)≤(i:Int);lia) (by rw[Int.toNat_natCast];exact B)⟩,λj r S k=>?_⟩
   ·rw[mAq];have kt:=aL.lst (ys:=zs++Vt u) L;exact aj.append (QC kt _ I) (aj.one (nF (Jlm n5)))
   ·rw[ic,lAq];exact G5.putL List.mem_cons_self L
   ·by_cases z:j=i
    ·subst z;cases B.symm.trans k;exact vu _ _ (Xb List.mem_cons_self)
    ·exact nD _ (g2 j r (by lia) k)
 ·rintro σ H2 ⟨v3,v4,ls,zs,rfl,R,N,o,G2,R2,g2⟩;rw[yl]at g2;refine V2 (q H2 U ls zs R D N o G2 R2 λp hp=>?_);obtain⟨j,S⟩:=List.mem_iff_getElem?.mp hp;exact g2 j p (gEq S).1 S
inductive qk (K)(C):Sp|m{vs H Q E9} (a g ld gd) (xs) (gs) (ts) (ls) (av):vs=JbP a g→Ja6 a→J_ dTm xs→Je7 H C g ld gd ls.length ls av→(∀z∈av,H z≠none)→(∀t∈ts,t.2.length≤100)→Jcj 100→Jiu ls→(∀H' fl ms zs,Jfo H'→Vn fl→Vx fl zs→Jk3 (ms.map dL)→Je7 H' C g ld gd (ls++ms).length (ls++ms) av→Jiu (ls++ms)→(ms=[]→Jfu ts ls)→Jbq fl)→qk K C vs H Q E9
def ji:Xn ["terms","groups","noted","found","number","term","sign","first"] (JkH "terms") s_alike_links:=fsc
def ok_alike_links (F:X4 "alike_links" "alike_links" s_alike_links)(T:TxG K mg C)(TE:Vo "enumerate")(TT:Vo "tuple")(MH:JgS "head" fH)(Bh:JcA 1 fH dH "term" (jP C))(bh:JiB dH "term")(MT:JgS "together" fT)(Bt:JE 2 fT dT' (VW "one") (nW C))(bt:Ji7 dT')(MM:JgS "merge" fM)(Bm:JE 2 fM dM (VW "one") (lC C))(bm:Ji7 dM):Jdo 3 (JkH "terms") (qk K C):=by
 refine F.ok ji (λvs H Q E h=>?_) (λcdv A outer s H vs Q E hr h=>?_)
 ·obtain⟨a,g,ld,gd,xs,gs,ts,ls,av,rfl,_⟩:=h;rfl
 obtain⟨a,g,ld,gd,xs,gs,ts,ls,av,rfl,hS,hL,G,hav,t100,N100,R,q⟩:=h;have hu:=yM hr;have hr1:aX 1 _:=hr.mono (by decide);have xl:Q8 ts.length:=by rw[←hL.length,lM]
 refine VP (Jco (i:=2) ji.nd gP (JkU (i:=3) ji.nd (ba ac) (JZ (m_ rfl TE (Vi 0)) (kj rfl (JhE (i:=4) ji.nd (JhE (i:=5) ji.nd ki))) (JeU (i:=6) ji.nd (cu (Jg3 5 (QY iZ rfl TT (Xf (Js (N':=JkH "part") (ix:=[1]) rfl rfl rfl (λok=>JeL (sc:=ap s_alike_links)) rfl rfl (λj i h=>match j,h with | 0,h=>by cases h;exact Jbz _ | n+1,h=>by simp at h) (gc (QA 5)) (λ_ _ _ _=>(JeW 1 MH Bh hr1 bh 0))))))) (i:=7) ji.nd (Aq hu (pv 2) (Jcn 6 4)) (ak (ah (ju (gD (Jbs 1 MT Bt hr bt (Jcn 7 4)))) (ad (aY (Jbs 1 MM Bm hr bm (Jcn 7 4))) (JfS 3 (Jkg (Va 7 (JdZ 4 (Jck ae))))))
     aZ)))) 3));try dsimp only [Cx.nox,Cx.wish,ag]
 refine λB hnd=>?_;obtain⟨H0,W,s0,n0⟩:=nwH hnd (.dK []);rw[W];have d0:SD P w H0 B []:=Jo n0 rfl;refine JeR (λM hfl=>?_);have hfl0:=s0.free hfl;obtain⟨H1,W,s01,n1⟩:=QB hfl [];rw[W];have s1:Jfo H1:=(s0.trans s01).g;have G1:=((G.same s0).avoid hfl).same s01;have d1:=d0.to λo z=>s01 _ _ z;obtain⟨dx0,kl0,kg0,e10,e20,e30,_⟩:=id G.ex;have ndl:=Ne.symm (bX e20 hnd);have ndg:=Ne.symm (bX e30 hnd);have ndf:B≠M:=λe=>(e ▸ d1).nol _ n1;have avl:∀ {H':Hp},Jfo H'→(∃zs,Vx M zs)→(∃dx kl kg,Vw g (JH [("least",.ref ld),("gathered",.ref gd)])∧JiX ld kl∧JiX gd kg)→∀z∈M :: av,H' z≠none:=by
  rintro H' s' ⟨zs,hz⟩ ⟨dx,kl,kg,_,e2,e3⟩ z hz';rcases List.mem_cons.mp hz' with rfl | hz'
  ·rw[hz];exact λe=>nomatch e
  ·by_cases c1:z=ld
   ·rw[c1,e2];exact λe=>nomatch e
   ·by_cases c2:z=gd
    ·rw[c2,e3];exact λe=>nomatch e
    ·cases eo:H z with
     | none=>exact absurd eo (hav z hz')
     | some o=>rw[s' z o c1 c2 eo];exact λe=>nomatch e
 refine Jc_ _ a _ (Jh3 s1) (Jh2 mZ (λi σ H'=>Ex7 λ v4 v5 v6 v7 b (zs:List V) (kvs:List SE)=>An11 (σ=[Ja a,Ja g,Ja B,Ja M,v4,v5,v6,v7]) (Jfo H') (Vx M zs) (Jk3 (b.map dL)) (Je7 H' C g ld gd (ls++b).length (ls++b) (M :: av)) (Jiu (ls++b)) (JkG P w H' B) (JdT i) ((∀e∈kvs,gk K H' e.1 e.2.1)) (nN ts (hdL (ls++b)) i kvs) ((b=[]→qa ts (hdL ls) i kvs))) (λi σ H' h=>by obtain⟨_,_,_,_,_,_,_,_,s2,_⟩:=h;exact Jh3 s2) ⟨none,none,none,none,[],[],[],rfl,s1,n1,aj.nil,by rw[List.append_nil];exact G1,by rw[List.append_nil];exact R,d1,nRq _,(λe d=>nomatch d),(λe d=>nomatch d),(λ_ j t hj=>VB hj _)⟩)
 ·rintro i σ H2 x H3 hi ⟨v4,v5,v6,v7,b,zs,kvs,rfl,s2,hf2,U,G2,R2,D2,l2,sg2,N2,A2⟩ ⟨t,y,rfl,ht,rfl,hy⟩;obtain⟨v,p,pq,N,rfl,hp,hpq⟩:=tm_at hL (hy _ (Jh3 s2));obtain⟨H3,W,s23,n3⟩:=Ja3 ht (Jde i p);rw[W];have k23:=(G.ktG s2).trans s23.kt;have hp3:=k23.sq hp;have S:=k23.sq hpq;have a0:atI [V.str v.1,V.ref pq] 0=some (.str v.1):=Jd8 (j:=0);have a1:atI [V.str v.1,V.ref pq] 1=some (.ref pq):=Jd8 (j:=1);have lt:=t100 v (mO N);refine⟨t,_,rfl,SqT.of n3,rfl,_,_,rfl,_,_,rfl,rfl,?_⟩;refine⟨_,rfl,p,_,_,_,rfl,rfl,hp3,a0,_,rfl,p,_,_,_,rfl,rfl,hp3,a1,pq,rfl,Jgo S,λD hD=>JhJ fz (λj ys H'=>Xj H3∧ys=((v.2.take j).map (hdL (ls++b))).map V.int) (λj ys H' ⟨s4,_⟩=>s4.tup S) hD ?_ ?_⟩
  ·rintro j ys H4 x H5 hj hly hDs ⟨s4,rfl⟩ ⟨rfl,hx⟩;obtain⟨n,hn,rfl⟩:=Jjk _ (s4.tup S);have G4:=(G2.same s23).same s4;obtain⟨dx,kl,kg,e1,_⟩:=id G4.ex;rw[lM]at hj;refine Jll _ g dx _ rfl e1 rfl _ rfl g ld gd n _ _ _ _ rfl G4 (Ja0 (bsz _ (by rw[lM];lia)) (by rw[lM];exact hj) hly hDs (s4.upd hD));rw[bb hn,mAq,mAq];rfl
  rintro ys H4 hDs ⟨s4,rfl⟩;rw[lM,Jbu _]at hDs;refine XA D _ (Jfz hDs (λu hu'=>?_));obtain⟨H5,W,s45,n5⟩:=Ja3 hu' ((v.2.map (hdL (ls++b))).map V.int);rw[W];refine⟨lS2,λsg hsg=>?_⟩;obtain⟨X,W,s56,n6⟩:=Ja3 hsg (JgY v.1 u);rw[W];have n65:=s56 _ _ n5;have L:ao H2 X:=((s23.trans s4).trans s45).trans s56;have Z:Jfo X:=s2.trans L.g;have G6:=G2.same L;have hf6:=L _ _ hf2;have I:=QC L.kt _ U;have D6:JkG P w X B:=D2.to λo z=>L _ _ z;have Y:∀e∈kvs,gk K X e.1 e.2.1:=λe d=>(sg2 e d).keep L.kt;have sgn6:gk K X (Jen v (ls++b)) sg:=⟨u,SqT.of n6,by show Vv X u (((v.2.map (hdL (ls++b))).map Sum.inl).map kV);rw[List.map_map];exact SqT.of n65⟩
  have Hh:=vr R2.inn;have idm:(v.2.map (hdL (ls++b))).map (hdL (ls++b))=v.2.map (hdL (ls++b)):=by rw[List.map_map];exact List.map_congr_left λz _=>Hh.idem z
  have iN:Jar i:=by rw[←xl];exact hi
  have zl:Jhl b.length:=by rw[←I.length,lM]
  have ll:=R2.len;rw[lAq]at ll;obtain⟨dx,kl,kg,e1,e2,e3,_⟩:=id G6.ex;refine⟨_,rfl,XA B kvs D6,_,rfl,_,rfl,B,sg,Jen v (ls++b),.int i,kvs,rfl,rfl,D6,cY (by lia),Y,sgn6,?_⟩;cases ha:Je3 (Jen v (ls++b)) with
  | none =>
   refine Jx rfl ?_;have G7:Je7 (upd X B (ig P w B (kvs++[(Jen v (ls++b),sg,.int i)]))) C g ld gd (ls++b).length (ls++b) (M :: av):=G6.put (.inr D6.nol) (λz=>D6.noi (z ▸ e1)) ndl ndg;have kt:=aL.sd (o:=ig P w B (kvs++[(Jen v (ls++b),sg,.int i)])) D6;have D7:SD P w (upd X B (ig P w B (kvs++[(Jen v (ls++b),sg,.int i)]))) B (kvs++[(Jen v (ls++b),sg,.int i)]):=.inr af;have sH7:Jfo (upd X B (ig P w B (kvs++[(Jen v (ls++b),sg,.int i)]))):=Z.grow hnd;have hf7:(upd X B (ig P w B (kvs++[(Jen v (ls++b),sg,.int i)]))) M=some (.lst zs):=by rw[JaI ndf];exact hf6
   obtain⟨dx7,kl7,kg7,e17,_⟩:=id G7.ex;refine⟨_,rfl,g,dx7,_,rfl,e17,rfl,_,rfl,_,rfl,g,ld,gd,i,i,_,_,_,_,rfl,G7,_,rfl,?_⟩;rw[dTq (show hdL (ls++b) (i:Int)=hdL (ls++b) (i:Int) from rfl)];refine bK ⟨_,_,_,_,b,zs,_,rfl,sH7,hf7,QC kt _ I,G7,R2,D7,?_,λe d=>?_,λe d=>?_,λem j t' hj O=>?_⟩
   ·rw[lAq];show kvs.length+1≤i+1;lia
   ·rcases mPq d with d | d
    ·exact(Y e d).keep kt
    ·cases mSq d;exact sgn6.keep kt
   ·rcases mPq d with d | d
    ·obtain⟨j,t',es,z1,z2,z3⟩:=N2 e d;exact⟨j,t',es,z1,by lia,z3⟩
    ·cases mSq d;exact Jdr i v _ (by lia) N rfl idm
   ·subst em;rw[List.append_nil]at ha;rw[List.append_nil];by_cases c:j=i
    ·subst c;cases N.symm.trans O;exact Jr _ _ (Ay ha) rfl
    ·obtain⟨e,k,z1,z2,z3⟩:=A2 rfl j t' (by lia) O;exact⟨e,k,Ax (k2:=Jen v ls) z1,z2,z3⟩
  | some e =>
   refine .inl (Vg e ?_);obtain⟨em,ek⟩:=Aw ha;obtain⟨j,tj,es,z1,z2,z3,z4,z5⟩:=N2 e em;rw[z1];refine⟨_,rfl,g,dx,_,rfl,e1,rfl,_,rfl,_,rfl,g,ld,gd,j,i,_,_,_,_,rfl,G6,_,rfl,?_⟩;by_cases c:hdL (ls++b) (j:Int)=hdL (ls++b) (i:Int)
   ·rw[dTq c];refine bK ⟨_,_,_,_,b,zs,kvs,rfl,Z,hf6,I,G6,R2,D6,by lia,Y,(λe d=>by obtain⟨j,t',es,z1,z2,z3⟩:=N2 e d;exact⟨j,t',es,z1,by lia,z3⟩),λem' k t' hk O=>?_⟩
    ·by_cases c2:k=i
     ·subst c2;cases N.symm.trans O;subst em';rw[List.append_nil]at ha c;exact⟨e,j,ha,z1,c⟩
     ·exact A2 em' k t' (by lia) O
   ·rw[dFq c];have b1:(0:Int)≤(j:Int)∧(j:Int) < (ts.length:Int):=by lia
    have b2:(0:Int)≤(i:Int)∧(i:Int) < (ts.length:Int):=by lia
    refine b_ ⟨_,rfl,g,dx,_,rfl,e1,rfl,_,rfl,_,rfl,g,ld,gd,j,i,_,_,_,_,rfl,G6,b1,b2,N100,by rw[lAq];lia,avl Z (Jgo hf6) ⟨_,_,_,e1,e2,e3⟩,λH7 s7 G7=>?_⟩;have sH7:=Z.trans s7;have hf7:=G6.lstG s7 hf6;have has7:=QC (G6.ktG s7) _ I;have D7:JkG P w H7 B:=D6.to λo z=>s7 _ _ ndl ndg z;have sg7:∀e∈kvs,gk K H7 e.1 e.2.1:=λe d=>(Y e d).keep (G6.ktG s7);refine Jcb _ (JcJ hf7) _ rfl _ rfl _ rfl lS3 (λr hr'=>?_);obtain⟨H8,W,J,n8⟩:=Ja3 hr' (Jbt j i (-1));rw[W];have G8:=G7.same J;have sH8:=sH7.trans (J.g (ld:=ld) (gd:=gd));have hf8:=J _ _ hf7;have has8:=QC J.kt _ has7;have D8:JkG P w H8 B:=D7.to λo z=>J _ _ z;have sg8:∀e∈kvs,gk K H8 e.1 e.2.1:=λe d=>(sg7 e d).keep J.kt;have kt:=aL.lst (ys:=zs++Vt r) hf8;have al:jN ts (hdL (ls++b)) (j:Int) (i:Int):=by
     refine⟨tj,v,by rw[Int.toNat_natCast];exact z3,by rw[Int.toNat_natCast];exact N,?_,?_⟩
     ·have:=JiH (z4.symm.trans ek);exact this
     ·have h2:es.map Sum.inl=(v.2.map (hdL (ls++b))).map Sum.inl:=JiI (z4.symm.trans ek);rw[←z5,vK h2];exact idm
    have R8:Jiu (ls++(b++[((j:Int),(i:Int),(-1:Int))])):=by rw[←List.append_assoc];exact R2.snoc ⟨b1,b2,c,Jx rfl al⟩
    refine⟨M,_,_,rfl,rfl,hf8,cY (by lia),_,_,_,_,b++[((j:Int),(i:Int),(-1:Int))],zs++Vt r,kvs,rfl,sH8.grow hfl0,af,?_,?_,R8,D8.to λo z=>by rw[ai ndf];exact z,by lia,λe d=>(sg8 e d).keep kt,?_,λz=>Jv z⟩
    ·rw[mAq];exact aj.append (QC kt _ has8) (aj.one (nF (l:=((j:Int),(i:Int),(-1:Int))) (Jlm n8)))
    ·rw[←List.append_assoc,ic,lAq];exact G8.putL List.mem_cons_self hf8
    ·rw[←List.append_assoc];exact N2.more _ (by lia)
 ·rintro σ H2 ⟨v4,v5,v6,v7,b,zs,kvs,rfl,s2,hf2,U,G2,R2,D2,l2,sg2,N2,A2⟩;rw[xl]at A2;exact V2 (q H2 M b zs s2 hfl0 hf2 U (G2.sub λz hz=>Xd hz) R2 λz=>(A2 z).closed)
inductive sp_links (K):Sp|m{vs H Q E9} (a ga) (xs ys) (gs) (ts):vs=JbP a ga→Ja6 a→J_ dTm xs→JX ga ys→JQ (gs.map dP) ys→vJ ts.length gs→(∀t∈ts,t.2.length≤100)→Jcj 100→gs.length≤1000→(∀H' l ls zs,Xj H→Vn l→Vx l zs→Jk3 (ls.map dL)→Jiu ls→Jc7 gs ls→Jfu ts ls→Jbq l)→sp_links K vs H Q E9
def lF:Xn ["terms","given","groups","found","more"] ["terms","given"] s_links:=fsc
def ok_links (F:X4 "links" "links" s_links)(TL:Vo "len")(MK:Mk K C fI)(mC:mg "Groups"=Ja C)(Bi:JE 1 fI dI ["self"] (nV C))(bi:JiA dI ["self"])(I:Jie 3 "given_links" fG dG (JkH "given") (qj K C))(p:Jie 3 "alike_links" fA dA (JkH "terms") (qk K C)):Jdo 4 ["terms","given"] (sp_links K):=by
 refine F.ok lF (λvs H Q E h=>?_) (λcdv A outer s H vs Q E hr h=>?_)
 ·obtain⟨a,ga,xs,ys,O,ts,rfl,_⟩:=h;rfl
 obtain⟨a,ga,xs,ys,O,ts,rfl,hS,hL,hSg,hLg,hP,J,B,U,q⟩:=h;have hr2:aX 2 _:=hr.mono (by decide);refine VP (Jco (i:=2) lF.nd (mE MK Bi hr2 rfl mC bi .nil ay) (JeU (i:=3) lF.nd (Jda I.ok hr I.m I.kp I.b 1 2) (i:=4) lF.nd (Jda p.ok hr p.m p.kp p.b 0 2) (ad (Ja9 (Jk0 (Jw bf TL bLq (Vi 4))) (Jh0 (aY (Vc PySem.F.slot_list_extend PySem.F.type_list_extend uo (pv 3) (Vi 4))) (Xm (i:=4) lF.nd (Jda p.ok hr p.m p.kp p.b 0 2)))) (Jbm 3))));try dsimp only [Cx.nox,Cx.wish,ag]
 intro g dx ng ndx nex;have s0:∀b o,Jlr o→(JdJ g g) b=some o:=λb o h=>by rw[ai (λe=>by rw[e,ng]at h;cases h),ai (λe=>by rw[e,ndx]at h;cases h)];exact h
 have hg0:=af (H:=QT dx g) (a:=g) (o:=JH []);have f0:∀b,(JdJ g g) b=none→Vn b:=λb h=>by
  cases e:H b with
  | none=>rfl
  | some o=>rw[s0 b o e]at h;cases h
 generalize JdJ g g=H0 at s0 hg0 f0;refine JC g dx hg0 (λH1 ld gd k1 nl ngd ne hg1 hl1 hgd1=>XE rfl);have s1:JhU H1:=λb o h=>k1 b o (λe=>by rw[e,ng]at h;cases h) (s0 b o h);have G1:Je7 H1 C g ld gd 0 [] []:=⟨Hd.zero _,ne,dx,[],[],hg1,hl1,hgd1,λt=>rfl,λx _=>JjE [x] (λt=>by show t∈[x]↔t=x;simp) (Jh8 rfl),Nat.zero_le _,Nat.zero_le _⟩;have S:=f0 ld nl;have r:=f0 gd ngd;refine⟨_,rfl,_,rfl,ga,g,ld,gd,ys,O,ts,rfl,s1.seq hSg,XT s1.kt _ hLg,hP,G1,B,U,λH2 n d zs s2 hfl M has2 G2 R2 g2=>?_⟩;have R:=s1.ofG S r s2;refine⟨_,rfl,_,rfl,a,g,ld,gd,xs,O,ts,d,[n],rfl,R.seq hS,JhH R.kt _ hL,G2,(λz hz=>by cases mSq hz;rw[M];exact λe=>nomatch e),J,B,R2,λH3 ml j k s3 hml Y has3 G3 R3 c3=>?_⟩;have sH3:=R.ofG S r s3;have L:=s1.free hfl;refine Qk (λm σ H'=>Ex5 λ ml d j zs k=>An11 (σ=[Ja a,Ja ga,Ja g,Ja n,Ja ml]) (m=ts.length+1 - d.length) (Xj H) (Vx n zs) (Jk3 (d.map dL)) (Vx ml k) (Jgw (j.map dL) k) (Je7 H' C g ld gd (d++j).length (d++j) [n]) (Jit O (d++j)) (Jc7 O (d++j)) ((j=[]→Jfu ts d))) ⟨_,ml,d,j,zs,k,rfl,rfl,sH3,G2.lstG s3 M,QC (G2.ktG s3) _ has2,Y,has3,G3,R3,g2.more _,c3⟩
 rintro m σ W ⟨ml,d,j,zs,k,rfl,rfl,s4,u,y,Z,v,G4,R4,g4,c4⟩;have wl:k.length=j.length:=by rw[←v.length,lM]
 have zl:Jhl d.length:=by rw[←y.length,lM]
 have ll:=R4.len;rw[lAq]at ll;refine JkY _ ml _ (Qg Z) _ _ _ rfl ?_;by_cases c:j=[]
 ·subst c;rw[List.length_nil]at wl;rw[List.append_nil]at G4 R4 g4;rw[show decide ((k.length:Int) > 0)=false by rw[wl];rfl];exact bK (V2 (q W n d zs s4 L u y R4 g4 (c4 rfl)))
 have mp:0 < j.length:=List.length_pos_iff.mpr c;rw[show decide ((k.length:Int) > 0)=true from dTq (by lia)];refine b_ (Qk (λX H'=>Ex3 λ G l D=>An10 (X=[Ja a,Ja ga,Ja g,Ja n,Ja G]) (Xj H) (Vx n (zs++k)) (Jgw ((d++j).map dL) (zs++k)) (Vx G D) (Jgw (l.map dL) D) (Je7 H' C g ld gd ((d++j)++l).length ((d++j)++l) [n]) (Jit O ((d++j)++l)) (Jc7 O ((d++j)++l)) ((l=[]→Jfu ts (d++j)))) ?_)
 ·rintro X H' ⟨G,l,D,rfl,z1,z2,z3,z4,z5,z6,z7,z8,z9⟩;refine⟨_,?_,G,d++j,l,zs++k,D,rfl,rfl,z1,z2,z3,z4,z5,z6,z7,z8,z9⟩;rw[lAq];lia
 refine⟨_,rfl,JcJ u,_,rfl,n,ml,zs,k,rfl,rfl,u,Z,nX (by lia),?_⟩;have kt:=aL.lst (ys:=zs++k) u;have s5:JhU (Qa W n (zs++k)):=s4.upd L;have G5:Je7 (Qa W n (zs++k)) C g ld gd (d++j).length (d++j) [n]:=G4.putL List.mem_cons_self u;have n5:=af (H:=W) (a:=n) (o:=.lst (zs++k));have N:Jy (Qa W n (zs++k)) ((d++j).map dL) (zs++k):=by rw[mAq];exact aj.append (QC kt _ y) (QC kt _ v)
 generalize Qa W n (zs++k)=H5 at s5 G5 n5 N;refine⟨_,rfl,_,rfl,a,g,ld,gd,xs,O,ts,d++j,[n],rfl,s5.seq hS,JhH s5.kt _ hL,G5,(λz hz=>by cases mSq hz;rw[n5];exact λe=>nomatch e),J,B,R4,λH6 ml6 ms6 ws6 s6 hml6 T has6 G6 R6 c6=>?_⟩;exact⟨ml6,ms6,ws6,rfl,s5.ofG S r s6,G5.lstG s6 n5,QC (G5.ktG s6) _ N,T,has6,G6,R6,g4.more _,c6⟩
noncomputable def e_ (ts:List Tm)(c:Int→Int)(a b:Int):Bool:=match ts[a.toNat]?,ts[b.toNat]? with
 | some t,some u=>decide (t.1=u.1)&&decide (t.2.map c=u.2.map c)
 | _,_=>false
def Forest (L:List Lk):Prop:=∀i l,L[i]?=some l→Jat i l.1≠Jat i l.2.1
def Cut (L:List Lk)(q:Nat)(c:Int→Bool):Prop:=∀i l,L[i]?=some l→(if i=q then c l.1≠c l.2.1 else c l.1=c l.2.1)
def take_link {L:List Lk}{i j:Nat}{l:Lk}(h:L[j]?=some l)(a:j < i):Jat i l.1=hdL (L.take i) l.2.1 :=
 vu _ l (mO (by rw[List.getElem?_take,if_pos a];exact h))
def nZ {L:List Lk}(F:Forest L){q:Nat}{g:Lk}(k:L[q]?=some g):∀n,q+1+n≤L.length→∃c,Cut (L.take (q+1+n)) q c
 | 0,_=>by
  refine⟨λt=>decide (Jat q t=Jat q g.1),λi l a=>?_⟩;rw[List.getElem?_take]at a;split at a
  ·rename_i d;split
   ·rename_i e;subst e;cases k.symm.trans a;have:=F i g k;lia
   ·rename_i e;dsimp only;rw[take_link a (show i < q by lia)]
  ·cases a
 | n+1,h=>by
  obtain⟨c,u⟩:=nZ F k n (by lia);have d:q+1+n < L.length:=by lia
  obtain⟨r,j⟩:∃r,L[q+1+n]?=some r:=Jgp d;have b:∀i l,L[i]?=some l→i < q+1+n→(if i=q then c l.1≠c l.2.1 else c l.1=c l.2.1):=λi l a d=>u i l (by rw[List.getElem?_take,if_pos d];exact a)
  by_cases e:c r.1=c r.2.1
  ·refine⟨c,λi l a=>?_⟩;rw[List.getElem?_take]at a;split at a
   ·rename_i f;by_cases p:i=q+1+n
    ·lia
    ·exact b i l a (by lia)
   ·cases a
  ·refine⟨λt=>if Jat (q+1+n) t=Jat (q+1+n) r.2.1 then !c t else c t,λi l a=>?_⟩
   rw[List.getElem?_take]at a;split at a
   ·rename_i f;by_cases p:i=q+1+n
    ·subst p;cases j.symm.trans a;rw[if_neg (by lia)];dsimp only;rw[if_pos rfl,if_neg (F _ _ j)];revert e;cases c r.1 <;> cases c r.2.1 <;> simp
    ·have o:=b i l a (by lia);have s:=take_link a (show i < q+1+n by lia);dsimp only;rw[s];by_cases z:Jat (q+1+n) l.2.1=hdL (L.take (q+1+n)) r.2.1
     ·rw[if_pos z,if_pos z];lia
     ·rw[if_neg z,if_neg z];exact o
   ·cases a
def cut_at (F:Forest L){q:Nat}(a:Je5 q):∃c,Cut L q c:=by obtain⟨c,h⟩:=nZ F (gG a) (L.length - (q+1)) (by lia);rw[show q+1+(L.length - (q+1))=L.length by lia,List.take_length]at h;exact⟨c,h⟩
def same_cls (c:Int→α){S:List Lk}(h:∀l∈S,c l.1=c l.2.1){t u:Int}(e:hdL S t=hdL S u):c t=c u :=
 ((vt (λx=>c x=c u) S (λl a=>by rw[h l a]) t u e).mpr rfl)
structure dX (L:List Lk)(π:List Nat)(x y):Prop where
 inn:∀q∈π,Je5 q
 walk:∀(c:Int→Int),(∀q∈π,∀l,L[q]?=some l→c l.1=c l.2.1)→c x=c y
 cut:∀q∈π,∀c:Int→Bool,Cut L q c→c x≠c y
def dX.nil (L)(x):dX L [] x x:=⟨by simp,λ_ _=>rfl,by simp⟩
def dX.step (h:dX L π x y)(k:L[p]?=some l)(hz:(l.1=y∧l.2.1=z)∨(l.2.1=y∧l.1=z))(u:p∉π):dX L (π++[p]) x z:=by
 have v:=(gEq k).1;refine⟨λq j=>?_,λc g=>?_,λq j c g=>?_⟩
 ·rcases mPq j with a | a
  ·exact h.inn q a
  ·rw[mSq a];exact v
 ·have i:=h.walk c λq j l A=>g q (Qc j) l A;have d:=g p (Xb (List.mem_singleton.mpr rfl)) l k;lia
 ·by_cases o:q=p
  ·subst o;have i:=h.walk (λt=>if Qu (c t) then 1 else 0) λr f w n=>by have:=g r w n;lia
   have d:=g q l k;lia
  ·have f:q∈π:=by
    rcases mPq j with a | a
    ·exact a
    ·exact absurd (mSq a) o
   have i:=h.cut q f c g;have d:=g p l k;lia
def dX.below (F:Forest L){b:List Nat}{x y:Int}{k:Nat}(h:dX L b x y)(e:Jat k x=Jat k y):∀q∈b,q < k:=λq d=>by
 refine Decidable.byContradiction λn=>?_;obtain⟨c,f⟩:=cut_at F (h.inn q d);refine h.cut q d c f (same_cls c (λl g=>?_) e);obtain⟨i,a⟩:=List.mem_iff_getElem?.mp g;rw[List.getElem?_take]at a;split at a
 ·have:=f i l a;rw[if_neg (by lia)]at this;exact this
 ·cases a
noncomputable def pairsF (ts:List Tm)(l:Lk):List (Int × Int):=if l.2.2=-1 then(match ts[l.1.toNat]?,ts[l.2.1.toNat]? with | some t,some u=>t.2.zip u.2 | _,_=>[]) else []
def vS:∀ {d c:List Int},d.map hd=c.map hd→∀p∈d.zip c,hd p.1=hd p.2
 | [],_,_,p,h=>by simp at h
 | _ :: _,[],h,_,_=>by simp at h
 | a :: d,b :: c,h,p,f=>by
  rw[List.map_cons,List.map_cons]at h;injection h with i g;rw[List.zip_cons_cons]at f;rcases List.mem_cons.mp f with e | e
  ·rw[e];exact i
  ·exact vS g p e
def eq_map_zip:∀ {d c:List Int},d.length=c.length→(∀p∈d.zip c,hd p.1=hd p.2)→d.map hd=c.map hd
 | [],[],_,_=>rfl
 | a :: d,b :: c,h,e=>by rw[List.map_cons,List.map_cons,e (a,b) (by rw[List.zip_cons_cons];exact List.mem_cons_self),eq_map_zip (by simpa using h) λp q=>e p (by rw[List.zip_cons_cons];exact Xd q)]
def pairs_joined (R:Jiu L){k:Nat}{l:Lk}(c:L[k]?=some l):∀p∈Jbv l,Jat k p.1=hdL (L.take k) p.2:=λp b=>by
 unfold pairsF at b;split at b
 ·rename_i e;rcases(R k l c).how with ⟨a,_⟩ | ⟨_,t,u,e1,e2,_,e4⟩
  ·lia
  ·rw[e1,e2]at b;exact vS e4 p b
 ·simp at b
structure Needs (ts)(L:List Lk)(x y)(M:List Nat):Prop where
 inn:∀q∈M,Je5 q
 top:∃π,dX L π x y∧∀q∈π,q∈M
 all:∀p∈M,∀l,L[p]?=some l→∀ab∈Jbv l,∃π,dX L π ab.1 ab.2∧∀q∈π,q∈M
noncomputable def atP (L:List Lk)(M:List Nat):List Lk:=M.map λq=>L.getD q (0,0,0)
def getD_at {L:List Lk}{q:Nat}{l:Lk}(h:L[q]?=some l):L.getD q (0,0,0)=l:=by rw[List.getD_eq_getElem?_getD,h];rfl
def mem_atP {L:List Lk}{M:List Nat}{q:Nat}{l:Lk}(a:q∈M)(h:L[q]?=some l):l∈atP L M:=Xk q a (getD_at h)
def of_atP {L:List Lk}{M:List Nat}(c:∀q∈M,Je5 q){l:Lk}(h:l∈atP L M):∃q∈M,L[q]?=some l:=by obtain⟨q,a,e⟩:=List.mem_map.mp h;have b:=gG (c q a);rw[getD_at b]at e;exact⟨q,a,by rw[b,e]⟩
noncomputable def nbr1 (L:List Lk)(t:Int)(i:Nat):List (Int × Int):=match L[i]? with
 | some l=>(if l.1=t then [(l.2.1,(i:Int))] else [])++(if l.2.1=t then [(l.1,(i:Int))] else [])
 | none=>[]
noncomputable def nbr (L:List Lk)(n:Nat)(t:Int):List (Int × Int):=(List.range n).flatMap (nbr1 L t)
def A3 (L)(n)(t):nbr L (n+1) t=nbr L n t++nbr1 L t n:=by unfold nbr;rw[List.range_succ,List.flatMap_append,List.flatMap_cons,List.flatMap_nil,List.append_nil]
def A4 (h:(u,p)∈nbr L n t):∃(i:Nat) (l:Lk),p=(i:Int)∧L[i]?=some l∧((l.1=t∧l.2.1=u)∨(l.2.1=t∧l.1=u)):=by
 obtain⟨i,_,b⟩:=List.mem_flatMap.mp h;unfold nbr1 at b;cases e:L[i]? with
 | none=>rw[e]at b;simp at b
 | some l =>
  rw[e]at b;refine Qk i l;rcases mPq b with a | a
  ·by_cases c:l.1=t
   ·rw[if_pos c]at a;have:=mSq a;lia
   ·rw[if_neg c]at a;simp at a
  ·by_cases c:l.2.1=t
   ·rw[if_pos c]at a;have:=mSq a;lia
   ·rw[if_neg c]at a;simp at a
def A5 (a:i < n)(h:L[i]?=some l):(l.2.1,(i:Int))∈nbr L n l.1∧(l.1,(i:Int))∈nbr L n l.2.1:=by
 constructor
 ·refine List.mem_flatMap.mpr (Jfy i a);unfold nbr1;rw[h];dsimp only;rw[if_pos rfl];exact List.mem_append_left _ (List.mem_singleton.mpr rfl)
 ·refine List.mem_flatMap.mpr (Jfy i a);unfold nbr1;rw[h];exact Xb (by rw[if_pos rfl];exact List.mem_singleton.mpr rfl)
structure StD (K)(H0 H:Hp)(d)(kvs)(N:Int→List (Int × Int))(b):Prop where
 hd:Jdp d
 nd:JfV d
 len:JdT b
 big:∀t,(N t).length≤b
 at_:∀t,(Qn (Jgj t)∧N t=[])∨∃l xs,Jgj t=Ja l∧Jc2 l∧JfV l∧l≠d∧Jdf ((N t).map dP)
 inj:∀t u l,Jgj t=Ja l→Jgj u=Ja l→t=u
 same:ao H0 H
def StD.step (S:StD K H0 H d kvs N b)(same:Xj H0)(A:JiX d kvs')(q:kvs'.length≤b+1)(y:aL H H')
  (r:Jan kvs' k=Ja l)(z:Vx l xs')(w:JfV l)(ld:l≠d)(s:Jgw ((N k++[(u,i)]).map dP) xs')(c:∀t,t≠k→Jan kvs' t=Jgj t)
  (kl:∀t p ys,t≠k→Jgj t=Ja p→VH p ys→Vx p ys∧p≠l):StD K H0 H' d kvs' (λt=>if t=k then N t++[(u,i)] else N t) (b+1):=by
 refine⟨A,S.nd,q,λt=>?_,λt=>?_,λt v l2 g f=>?_,same⟩
 ·have:=S.big t;split
  ·rw[lAq];show _+1≤_;lia
  ·lia
 ·by_cases e:t=k
  ·subst e;refine .inr ⟨l,xs',r,z,w,ld,?_⟩;rw[if_pos rfl];exact s
  ·rw[if_neg e,c t e];rcases S.at_ t with a | ⟨l2,ys,h,o,D,C,B⟩
   ·exact .inl a
   ·exact .inr ⟨l2,ys,h,(kl t l2 ys e h o).1,D,C,XT y _ B⟩
 ·by_cases n:t=k
  ·by_cases j:v=k
   ·rw[n,j]
   ·subst n;rw[r]at g;cases g;rw[c v j]at f;rcases S.at_ v with a | ⟨x,ys,h,o,_⟩
    ·rw[a.1]at f;cases f
    ·rw[h]at f;cases f;exact absurd rfl (kl v _ ys j h o).2
  ·by_cases j:v=k
   ·subst j;rw[r]at f;cases f;rw[c t n]at g;rcases S.at_ t with a | ⟨x,ys,h,o,_⟩
    ·rw[a.1]at g;cases g
    ·rw[h]at g;cases g;exact absurd rfl (kl t _ ys n h o).2
   ·rw[c t n]at g;rw[c v j]at f;exact S.inj t v l2 g f
def StD.old (S:StD K H0 H d kvs N b)(A:Vn e)(y:(X_ H e) p=none)
  (r:Jgj k=Ja l)(q:Jc2 l)(g:Jdf ((N k).map dP))(h:JfV l)(ld:l≠d) :
  StD K H0 (Qa (Jkm (X_ H e) p u i) l (xs++Vt p)) d kvs (λt=>if t=k then N t++[(u,i)] else N t) (b+1):=by
 have s:JhU (X_ H e):=QL A;have c:Jcm H (X_ H e) p (JO u i):=s.trans (QL y);have f:=af (H:=X_ H e) (a:=p) (o:=Jgx u i);generalize Jkm (X_ H e) p u i=D at c f;have n:JdY H D l (xs++Vt p):=c.kt.trans (aL.lst (c _ _ q));have v:p≠l:=λz=>by rw[z,c _ _ q]at f;cases f
 refine S.step (S.same.trans c |>.upd h) (by rw[ai ld.symm];exact c _ _ S.hd) (by have:=S.len;lia) n r (af ..) h ld ?_ (λ_ _=>rfl) λt w ys x C B=>?_
 ·rw[mAq];refine aj.append (XT n _ g) (Qv (Jgy (by rw[ai v];exact f) Has.int (Qv Has.int)))
 ·have j:w≠l:=λz=>x (S.inj t k l (z ▸ C) r);exact⟨by rw[ai j];exact c _ _ B,j⟩
def StD.new (S:StD K H0 H d kvs N b)(h:Vn e)(C:(Jd2 (X_ H e) d kvs k e) p=none)
  (Q:Qn (Jgj k))(J:N k=[]) :
  StD K H0 (Qa (Jkm (Jd2 (X_ H e) d kvs k e) p u i) e (Vt p)) d (JaA kvs k e) (λt=>if t=k then N t++[(u,i)] else N t) (b+1):=by
 have v:e≠d:=λz=>by rw[z,S.hd]at h;cases h
 have j:JfV e:=by
  cases z:H0 e with
  | none=>rfl
  | some o=>rw[S.same _ _ z]at h;cases h
 have r:cb d H (Jd2 (X_ H e) d kvs k e):=((QL h).x d).trans (Jgu _);have A:=r.kt S.hd;have F:=af (H:=X_ H e) (a:=d) (o:=.dK (JaA kvs k e));have E:(Jd2 (X_ H e) d kvs k e) e=some (.lst []):=by rw[ai v,af]
 generalize Jd2 (X_ H e) d kvs k e=s at C r A F E;have f:Jcm s s p (JO u i):=QL C;have g:=af (H:=s) (a:=p) (o:=Jgx u i);generalize Jkm s p u i=G at f g;have D:=f _ _ E;have O:p≠e:=λz=>by rw[z,D]at g;cases g
 have P:JdY H G e (Vt p):=(A.trans f.kt).trans (aL.lst D);have I:JjV H0 G e (Vt p):=λc o n=>by
  have M:c≠d:=λz=>by rw[z,S.nd]at n;cases n
  have g:c≠e:=λz=>by rw[z,j]at n;cases n
  rw[ai g];exact f _ _ (r _ _ M (S.same _ _ n))
 refine S.step I (by rw[ai v.symm];exact f _ _ F) (by have:=kG kvs (Sum.inl k) (.ref e);have:=S.len;lia) P (by rw[gM,if_pos rfl]) (af ..) j v ?_ (λt B=>by rw[gM,if_neg (λz=>B (Sum.inl.inj z))]) λt y ys B R q=>?_
 ·rw[J];exact .cons (Jgy (by rw[ai O];exact g) Has.int (Qv Has.int)) .nil
 ·have w:y≠e:=λz=>by rw[z,h]at q;cases q
  have L:y≠d:=λz=>by rw[z,S.hd]at q;cases q
  exact⟨by rw[ai w];exact f _ _ (r _ _ L q),w⟩
def vT (S:StD K H0 H d kvs N b)(A:b≤1000)(a:Vn e)
  (q:∀l xs H' f,Xj H0→Vx l xs→Jha b→(∀p u i,JbK p→StD K H0 (Qa (Jkm H' p u i) l (xs++Vt p)) d f (λt=>if t=k then N t++[(u,i)] else N t) (b+1))→Jbq l) :
  kY (.ref d) (Jde k e) (X_ H e) Q:=by
 have r:e≠d:=λz=>by rw[z,S.hd]at a;cases a
 refine JjJ d (.inl k) (.ref e) kvs rfl (by rw[ai r.symm];exact S.hd) (iK (by have:=S.len;lia)) ?_;rcases S.at_ k with ⟨g,h⟩ | ⟨l,xs,g,h,y,x,s⟩
 ·refine Jx g (q e [] _ _ (λc o n=>?_) (by rw[ai r,af]) (Nat.zero_le _) λp u i j=>S.new a j g h);have v:c≠d:=λz=>by rw[z,S.nd]at n;cases n
  rw[ai v];exact aq a _ _ _ (S.same _ _ n)
 ·have w:Jha b:=by have:=s.length;rw[lM]at this;have:=S.big k;lia
  exact .inl (Jlc g (q l xs _ kvs (S.same.trans (QL a)) (aq a _ _ _ h) w λp u i j=>S.old a j g h s y x))
inductive qm (K):Sp|m{vs H Q E9} (a) (ys) (L):vs=Vt a→JX a ys→JQ (L.map dL) ys→L.length≤100→(∀H' d kvs,StD K H H' d kvs (nbr L L.length) (2 * L.length)→Jbq d)→qm K vs H Q E9
def n_:Xn ["links","steps","place","link"] ["links"] s_steps_of:=fsc
def ok_steps_of (F:X4 "steps_of" "steps_of" s_steps_of)(T:Jh4 K):Jea ["links"] (qm K):=by
 refine F.ok n_ (λvs H Q E h=>?_) (λcdv A outer s H vs Q E hr h=>?_)
 ·obtain⟨a,ys,L,rfl,_⟩:=h;rfl
 obtain⟨a,ys,L,rfl,X,hL,L100,q⟩:=h;have yl:Jfl L.length:=by rw[←hL.length,lM]
 refine VP (JkU (i:=1) n_.nd gP (JZ (m_ rfl T.enumerate (Vi 0)) (kj rfl (JhE (i:=2) n_.nd (JhE (i:=3) n_.nd ki))) (ad (JfR (kZ (pv 1) (Jg3 3 (ba ac))) (Jkg (Jfx (QA 3) 2))) (JfQ (kZ (pv 1) (Jg3 3 (ba ac))) (Jkg (Jfx (QA 3) 2))))) 1);try dsimp only [Cx.nox,Cx.wish,ag]
 intro d hd;have Y:StD K H (Xe H d []) d [] (nbr L 0) 0:=⟨af ..,hd,nRq _,λt=>nRq _,λt=>Jh8 rfl,λt u l h1=>(by cases h1),QL hd⟩;generalize Xe H d []=H1 at Y;refine Jc_ _ a _ (Y.same.seq X) (Jh2 mZ (λi D H'=>Ex3 λ O N kvs=>D=[Ja a,Ja d,O,N]∧StD K H H' d kvs (nbr L i) (2 * i)) (λi D H' h=>by obtain⟨_,_,_,_,S⟩:=h;exact S.same.seq X) (Jr none none [] Y))
 ·rintro i D B x H3 hi ⟨O,N,kvs,rfl,S⟩ ⟨t,y,rfl,ht,rfl,hy⟩;obtain⟨l,p,hl,rfl,G⟩:=jK hL (hy _ (S.same.seq X));have b:Jcm B B t (Jde i p):=QL ht;have M:StD K H (Vh B t (Jde i p)) d kvs (nbr L i) (2 * i):=⟨b _ _ S.hd,S.nd,S.len,S.big,λu=>by
   rcases S.at_ u with a | ⟨l2,ys,I,a2,a3,a4,a5⟩
   ·exact .inl a
   ·exact .inr ⟨l2,ys,I,b _ _ a2,a3,a4,XT b.kt _ a5⟩,S.inj,S.same.trans b⟩
  have U:=af (H:=B) (a:=t) (o:=.tup (Jde i p));generalize Vh B t (Jde i p)=H3 at M U;have a0:Jjo l.1 l.2.1 l.2.2 0=some (.int l.1):=aJ rfl;have I:Jjo l.1 l.2.1 l.2.2 1=some (.int l.2.1):=aJ rfl;refine⟨t,_,rfl,SqT.of U,rfl,_,_,rfl,_,_,rfl,rfl,?_⟩;have i100:i < 100:=by lia
  refine⟨_,rfl,XA d _ M.hd,_,rfl,p,_,_,_,rfl,rfl,M.same.tup G,a0,lS0,λe he=>?_⟩;refine vT M (by lia) he λl1 xs H4 Z s4 v x4 k4=>?_;refine⟨JcJ v,_,rfl,p,_,_,_,rfl,rfl,s4.tup G,I,_,rfl,lS2,λR n=>JeX l1 _ _ (by rw[ai (λz=>by rw[←z,v]at n;cases n)];exact v) (iK (by lia)) ?_⟩;have J:=k4 R l.2.1 i n;generalize Qa (Jkm H4 R l.2.1 i) l1 (xs++Vt R)=H5 at J;refine⟨_,rfl,XA d _ J.hd,_,rfl,p,_,_,_,rfl,rfl,J.same.tup G,I,lS0,λe2 W=>?_⟩;refine vT J (by lia) W λl2 xs2 H6 C s6 r x6 k6=>?_;refine⟨JcJ r,_,rfl,p,_,_,_,rfl,rfl,s6.tup G,a0,_,rfl,lS2,λp7 k=>JeX l2 _ _ (by rw[ai (λz=>by rw[←z,r]at k;cases k)];exact r) (iK (by lia)) ?_⟩;have S7:=k6 p7 l.1 i k;refine Jr _ _ C ?_;have e:(λt=>if t=l.2.1 then(if t=l.1 then nbr L i t++[(l.2.1,(i:Int))] else nbr L i t)++[(l.1,(i:Int))] else(if t=l.1 then nbr L i t++[(l.2.1,(i:Int))] else nbr L i t))=nbr L (i+1):=by
   funext t;rw[A3];unfold nbr1;rw[hl];dsimp only;by_cases g:t=l.1
   ·by_cases c:t=l.2.1
    ·rw[if_pos c,if_pos g,if_pos g.symm,if_pos c.symm,List.append_assoc]
    ·rw[if_neg c,if_pos g,if_pos g.symm,if_neg (λz=>c z.symm),List.append_nil]
   ·by_cases c:t=l.2.1
    ·rw[if_pos c,if_neg g,if_neg (λz=>g z.symm),if_pos c.symm,List.nil_append]
    ·rw[if_neg c,if_neg g,if_neg (λz=>g z.symm),if_neg (λz=>c z.symm),List.append_nil,List.append_nil]
  rw[e]at S7;exact S7
 rintro D B ⟨O,N,kvs,rfl,S⟩;refine V2 (q B d kvs ?_);rw[yl]at S;exact S
noncomputable def plV (a:List Nat):List V:=a.map λq:Nat=>V.int (q:Int)
def StR (K:W.Frag)(H:Hp)(d:Addr)(N:Int→List (Int × Int)):Prop:=∃kvs,Jdp d∧∀t,(N t).length≤1000∧((Qn (Jgj t)∧N t=[])∨∃l xs,Jgj t=Ja l∧Jc2 l∧Jdf ((N t).map dP))
def StR.same (h:StR K H d N)(s:Xj H):StR K H' d N:=by
 obtain⟨kvs,c,b⟩:=h;refine⟨kvs,s _ _ c,λt=>XE ((b t).1)⟩;rcases(b t).2 with a | ⟨l,xs,a1,a2,a3⟩
 ·exact .inl a
 ·exact Je_ l xs a1 (s _ _ a2) (XT s.kt _ a3)
def StD.r (S:StD K H0 H d kvs N b)(c:b≤1000):StR K H d N:=⟨kvs,S.hd,λt=>⟨Nat.le_trans (S.big t) c,by
 rcases S.at_ t with a | ⟨l,xs,g,f,_,_,e⟩
 ·exact .inl a
 ·exact Je_ l xs g f e⟩⟩
structure eH (K)(H0 H)(fd wl)(L)(n:Nat)(x)(kf)(F W:List Int):Prop where
 same:ao H0 H
 hf:VR fd kf
 hw:VH wl (W.map V.int)
 keys:kf.map (·.1)=F.map Sum.inl
 nd:F.Nodup
 inn:∀t∈F,0≤t∧t < (n)
 st:x∈F
 sub:∀t∈W,t∈F
 wb:W.length≤2 * F.length
 val:∀t v,Xa (Jan kf t) v→∃p π,Xy v p∧X9 p (plV π)∧dX L π x t∧π.length < F.length∧∀q∈π,∀l,L[q]?=some l→l.1∈F∧l.2.1∈F
def eH.len (S:eH K H0 H fd wl L n x kf F W):F.length≤n:=fZ n S.nd S.inn
def eH.to (S:eH K H0 H fd wl L n x kf F W)(s:JhU H2):eH K H0 H2 fd wl L n x kf F W :=
 ⟨S.same.trans s,s _ _ S.hf,s _ _ S.hw,S.keys,S.nd,S.inn,S.st,S.sub,S.wb,λt v h=>let ⟨p,π,a,b,c⟩:=S.val t v h;⟨p,π,a,s.tup b,c⟩⟩
def eH.add (S:eH K H0 H fd wl L n x kf F W)(nf:JfV fd)(z:JfV wl)
  (j:u∉F)(y:0≤u∧u < (n:Int))(A:X9 pc (plV π))(P:dX L π x u)(pl:π.length≤F.length)(D:∀q∈π,∀l,L[q]?=some l→l.1∈F++[u]∧l.2.1∈F++[u]) :
  eH K H0 (Qa (Jd2 H fd kf u pc) wl (W.map V.int++Jgr u)) fd wl L n x (JaA kf u pc) (F++[u]) (W++[u]):=by
 have g:fd≠wl:=λe=>by have:=S.hf;rw[e,S.hw]at this;cases this
 have s:cb fd H (Jd2 H fd kf u pc):=Jgu _;have w:(Jd2 H fd kf u pc) wl=some (.lst (W.map V.int)):=by rw[ai g.symm];exact S.hw
 have i:JdY H (Jd2 H fd kf u pc) wl (W.map V.int++Jgr u):=(s.kt S.hf).trans (aL.lst w);have keys:(JaA kf u pc).map (·.1)=(F++[u]).map Sum.inl:=by have:=vw S.keys u (.ref pc);unfold addK at this;rw[if_neg j]at this;exact this
 refine⟨(S.same.upd nf).upd z,by rw[ai g,af],by rw[af,mAq];rfl,keys,?_,?_,Qc S.st,?_,?_,?_⟩
 ·refine JkQ S.nd (λa C b B=>?_);rw[mSq B];exact λe=>j (e ▸ C)
 ·intro t f;rcases mPq f with a | a
  ·exact S.inn t a
  ·rw[mSq a];exact y
 ·intro t f;rcases mPq f with a | a
  ·exact List.mem_append_left _ (S.sub t a)
  ·exact List.mem_append_right _ a
 ·have:=S.wb;rw[lAq,lAq];lia
 ·intro t v h;rw[gM]at h;split at h
  ·rename_i e;cases h;cases Sum.inl.inj e;exact⟨pc,π,rfl,i.sq A,P,by rw[lAq];show _ < _+1;lia,D⟩
  ·obtain⟨p,r,a,b,c,d,e⟩:=S.val t v h;exact⟨p,r,a,i.sq b,c,by rw[lAq];lia,λq k l o=>⟨Qc (e q k l o).1,Qc (e q k l o).2⟩⟩
inductive qo (K):Sp|m{vs H Q E9} (d) (x y) (L) (n):vs=Jer d x y→StR K H d (nbr L L.length)→InN n L→n≤100→(0≤x∧x < (n:Int))→(0≤y∧y < (n:Int))→Jh5 x=Jh5 y→(∀H' p π,Xj H→Vv H' p (plV π)→dX L π x y→π.length < n→Jbq p)→qo K vs H Q E9
def lG:Xn ["steps","one","other","found","waiting","term","step"] ["steps","one","other"] s_way:=fsc
abbrev NWy:List Str:=["steps","one","other","found","waiting","term","step"]
def gv:PSs X st (λ_ _ _=>False):=λ_ _ _ _ _ _ h=>h.elim
def A6 (T:Jh4 K){cdv:Value}{A:Around}{outer:List Env}{s:Shared}{H0:Hp}{E:XK}{k:Nat}(N:JiU k "way" s_way f cdv) :
  ∃t,Jlf (Jfk CX0 P w K mg NWy "way" (ap s_way) f cdv A s H0 E).nox ((cG s_way).drop 3)∧∀Q H H' d fd b x y L n j F W q o,eH K H H' fd b L n x j F W→(0≤x∧x < (n:Int))→(0≤y∧y < (n:Int))→n≤100→(y∈F∨∀t∈F,∀D∈Jhj L t,D.1∈F) →
   hdL L x=Jh5 y→(∀H' p a,Xj H→Vv H' p (plV a)→dX L a x y→a.length < n→Jbq p) →
   t { nx:=λ_ H'=>Q .non H',rt:=Q } [Ja d,Jb x,Jb y,Ja fd,Ja b,q,o] H':=by
 have B:=dv N;refine VP (Jg2 (ah (Jiv B (pv 2) (pv 3))
   gv
   aZ) (iC B (pv 3) (pv 2) (λ_ _=>rfl)));try dsimp only [Cx.nox,Cx.wish,ag]
 intro Q H H' d fd b x y L n j F W q o S Z Y r X U G;refine Jcb _ _ rfl fd _ rfl (bU.k (k:=.inl y) S.hf) _ rfl ?_;rw[jL S.keys y];by_cases c:y∈F
 ·rw[dTq c];have hs:(Jan j y).isSome=true:=by rw[jL S.keys y];exact dTq c
  obtain⟨v,u⟩:=Option.isSome_iff_exists.mp hs;obtain⟨p,a,rfl,O,PO,pl,_⟩:=S.val y v u;have fl:=S.len;have g:=bU.k (k:=.inl y) S.hf;rw[u]at g;exact bK ⟨_,rfl,_,rfl,fd,_,rfl,g,G H' p a S.same O PO (by lia)⟩
 ·rw[dFq c];have I:Jh5 x≠hdL L y:=λe=>by
   rcases X with z | z
   ·exact c z
   ·refine c ((vt (λt=>t∈F) L (λl R=>?_) x y e).mp S.st);obtain⟨i,C⟩:=List.mem_iff_getElem?.mp R;obtain⟨M,J⟩:=A5 (gEq C).1 C;exact⟨λh=>z _ h (l.2.1,(i:Int)) M,λh=>z _ h (l.1,(i:Int)) J⟩
  exact(I U).elim
def ok_way (F:X4 "way" "way" s_way)(T:Jh4 K):Jea ["steps","one","other"] (qo K):=by
 refine F.ok lG (λvs H Q E h=>?_) (λcdv A outer s H vs Q E hr h=>?_)
 ·obtain⟨d,x,y,L,n,rfl,_⟩:=h;rfl
 obtain⟨d,x,y,L,n,rfl,hSt,hN,n100,hx,hy,ej,qY⟩:=h;have I:=dv hr;obtain⟨tt,ht,tq⟩:=A6 (base:=base) (cdv:=cdv) (outer:=outer) T hr;refine VP (JeU (i:=3) lG.nd (pe_d1 (pv 1) (cu ac)) (i:=4) lG.nd (Jkh 1) (ad (Ja9 (JdH (Jk0 (Jcu 4)) (Jiv I (pv 2) (pv 3))) (Jco (i:=5) lG.nd (JfM pC (pv 4)) (ak (Jgh (cC (jB I (pv 0) (pv 5) (ba ac) (Jgk rfl))) (i:=6) lG.nd (ah (Jiv I (QA 6) (pv 3)) (ad (gO I (pv 3) (QA 6) (aw AG (iC I (pv 3) (pv 5) (λ_ _=>rfl)) (cu (Jhq 6))) rfl) (JfS 4 (Jhq 6)))
       aZ)))))
  ht));try dsimp only [Cx.nox,Cx.wish,ag]
 intro fd hfd;refine Q1 _ lS0 (λM N=>Q1 (.inl x) ?_ ?_)
 ·rw[ai (λe=>by rw[←e,af]at N;cases N),af]
 have nfd:fd≠M:=λe=>by rw[←e,af]at N;cases N
 have npt:Vn M:=by have h0:=N;rw[ai nfd.symm]at h0;exact h0
 have s1:JhU (Xe (Vh (Xe H fd []) M []) fd [(.inl x,.ref M)]):=((QL hfd).upd npt).upd hfd;have f1:=af (H:=Vh (Xe H fd []) M []) (a:=fd) (o:=.dK [(.inl x,.ref M)]);have t1:(Xe (Vh (Xe H fd []) M []) fd [(.inl x,.ref M)]) M=some (.tup []):=by rw[ai nfd.symm,af]
 generalize Xe (Vh (Xe H fd []) M []) fd [(.inl x,.ref M)]=H1 at s1 f1 t1;refine Q1 _ lS1 (λC hwl=>?_);have nwl:=s1.free hwl;have S0:eH K H (Qa H1 C (Jgr x)) fd C L n x [(.inl x,.ref M)] [x] [x]:=by
  have s2:JjV H1 H1 C (Jgr x):=QL hwl;refine⟨s1.trans s2,s2 _ _ f1,af ..,rfl,by simp,λt ht=>by rw[mSq ht];exact hx,List.mem_cons_self,λt ht=>ht,by simp,λt v h=>?_⟩;by_cases e:(Sum.inl x:Key)=.inl t
  ·rw[eD e]at h;cases h;cases Sum.inl.inj e;exact⟨M,[],rfl,SqT.of (s2 _ _ t1),dX.nil L x,by simp,λq hq=>by simp at hq⟩
  ·rw[ee e]at h;cases h
 generalize Qa H1 C (Jgr x)=H2 at S0;clear s1 f1 t1 hwl N
 let Cl:List Int→List Int→Prop:=λF W=>∀t∈F,t∉W→∀B∈Jhj L t,B.1∈F
 refine Qk (λm σ H'=>Ex5 λ v5 Z kf F W=>An4 (σ=[Ja d,Jb x,Jb y,Ja fd,Ja C,v5,Z]) (eH K H H' fd C L n x kf F W) (Cl F W) (m=2 * (n - F.length)+W.length)) ⟨_,none,none,_,[x],[x],rfl,S0,(λt ht hn=>absurd ht hn),rfl⟩
 rintro m σ H3 ⟨v5,Z,kf,F,W,rfl,S,cl,rfl⟩;have inF:∀ {H' kf F W},eH K H H' fd C L n x kf F W→∀u,(Jan kf u).isSome=decide (u∈F):=λS u=>jL S.keys u;refine JkY _ C _ (Qg S.hw) _ _ _ rfl ?_;by_cases cW:W=[]
 ·subst cW;exact bK (bK (tq Q H H3 d fd C x y L n kf F [] v5 Z S hx hy n100 (.inr λt ht B D=>cl t ht (by simp) B D) ej qY))
 have wp:0 < W.length:=List.length_pos_iff.mpr cW;rw[show decide ((((W.map V.int).length:Nat):Int) > 0)=true from dTq (by rw[lM];lia)];refine b_ (Jcb _ _ rfl fd _ rfl (bU.k (k:=.inl y) S.hf) _ rfl ?_);rw[inF S y];by_cases cy:y∈F
 ·rw[dTq cy];exact bK (tq Q H H3 d fd C x y L n kf F W v5 Z S hx hy n100 (.inl cy) ej qY)
 rw[dFq cy];refine b_ (Qk (λσ' H'=>Ex5 λ v5 Z R (Y W':List Int)=>An4 (σ'=[Ja d,Jb x,Jb y,Ja fd,Ja C,v5,Z]) (eH K H H' fd C L n x R Y W') (Cl Y W') (2 * (n - Y.length)+W'.length < 2 * (n - F.length)+W.length)) ?_)
 ·rintro σ' H' ⟨v5',v6',R,Y,W',rfl,a,b,c⟩;exact⟨_,c,v5',v6',R,Y,W',rfl,a,b,rfl⟩
 obtain⟨O,t,rfl⟩:∃O t,W=O++[t]:=⟨W.dropLast,W.getLast cW,(List.dropLast_concat_getLast cW).symm⟩;have tF:t∈F:=S.sub t (by simp);refine Jef _ (JcJ S.hw) C _ (.int t) rfl S.hw ?_ ?_
 ·rw[mAq,lAq,List.getElem?_append_right (by show _≤_+1 - 1;lia)];show [V.int t][_]?=_;rw[show(O.map V.int).length+([t].map V.int).length - 1 - (O.map V.int).length=0 by show _+1 - 1 - _=0;lia];rfl
 have ew:((O++[t]).map V.int).dropLast=O.map V.int:=by rw[mAq];simp
 rw[ew];have nwf:fd≠C:=λe=>by have:=S.hf;rw[e,S.hw]at this;cases this
 have S1:eH K H (Qa H3 C (O.map V.int)) fd C L n x kf F O:=⟨S.same.upd nwl,by rw[ai nwf];exact S.hf,af ..,S.keys,S.nd,S.inn,S.st,λu I=>S.sub u (Qc I),by have:=S.wb;rw[lAq]at this;lia,λu v h=>let ⟨p,π,a,b,c⟩:=S.val u v h;⟨p,π,a,(aL.lst S.hw).sq b,c⟩⟩;generalize Qa H3 C (O.map V.int)=H4 at S1;obtain⟨kst,hst,stAt⟩:=hSt.same S1.same;refine⟨_,rfl,d,rfl,Jd0 _ hst,_,rfl,lS0,λe he=>VP (bU.k (k:=.inl t) (aq he _ _ _ hst))⟩;have s5:ao H4 (X_ H4 e):=QL he;have S5:=S1.to s5;obtain⟨lv,xs,elv,hlv,hxs,nlw,nlf⟩:∃lv xs,(Jan kst t).getD (.ref e)=.ref lv∧(X_ H4 e) lv=Jj6 xs∧Jy (X_ H4 e) ((Jhj L t).map dP) xs∧lv≠C∧lv≠fd:=by
  rcases(stAt t).2 with ⟨a1,a2⟩ | ⟨l,xs,a1,a2,a3⟩
  ·rw[a1,a2];exact⟨e,[],rfl,af ..,aj.nil,(λz=>by rw[z,S1.hw]at he;cases he),(λz=>by rw[z,S1.hf]at he;cases he)⟩
  ·rw[a1];obtain⟨_,hst0,stAt0⟩:=hSt;cases (S1.same _ _ hst0).symm.trans hst;rcases(stAt0 t).2 with ⟨b1,_⟩ | ⟨l',xs',b1,b2,_⟩
   ·rw[a1]at b1;cases b1
   ·cases a1.symm.trans b1;exact⟨l,xs,rfl,s5 _ _ a2,XT s5.kt _ a3,(λz=>by rw[z,nwl]at b2;cases b2),(λz=>by rw[z,hfd]at b2;cases b2)⟩
 rw[elv];have big:=(stAt t).1;generalize X_ H4 e=H5 at s5 S5 hlv hxs;have xl:xs.length=(Jhj L t).length:=by rw[←hxs.length,lM]
 refine Jkp lv _ hlv (Jh2 cH (λi σ H'=>Ex4 λ(Z:Option V) (R:List (Key × V)) (Y W':List Int)=>An8 (σ=[Ja d,Jb x,Jb y,Ja fd,Ja C,Jb t,Z]) (eH K H H' fd C L n x R Y W') (bq fd C H5 H') ((∀u∈F,u∈Y)) ((∀u∈O,u∈W')) ((∀u∈Y,u∈F∨u∈W')) ((∀j B,j < i→(Jhj L t)[j]?=some B→B.1∈Y)) (2 * (n - Y.length)+W'.length≤2 * (n - F.length)+O.length)) (λi σ H' h=>by obtain⟨_,_,_,_,_,_,sg,_⟩:=h;exact SqL.of (sg _ _ nlf nlw hlv)) ⟨Z,kf,F,O,rfl,S5,Jln _,(λ_ h=>h),(λ_ h=>h),(λ_ h=>.inl h),(λj B hj=>VB hj _),nRq _⟩)
 ·rintro i σ H7 z H6 hi ⟨Z,G,F6,W6,rfl,S6,J,f6,w6,fw6,n6,m6⟩ ⟨rfl,hz⟩;obtain⟨B,p,D,rfl,hp5⟩:=p_ hxs (hz _ (SqL.of (J _ _ nlf nlw hlv)));have hp:Vv H6 p (JO B.1 B.2):=by
   rcases hp5 with a | a
   ·rcases a with a | ⟨o,a⟩
    ·exact .inl (.inl (J _ _ (λe=>by rw[e,S5.hf]at a;cases a) (λe=>by rw[e,S5.hw]at a;cases a) a))
    ·exact .inl (Jx o (J _ _ (λe=>by rw[e,S5.hf]at a;cases a) (λe=>by rw[e,S5.hw]at a;cases a) a))
   ·exact .inr a
  have a0:Jfe B.1 B.2 0=some (.int B.1):=Jd8 (j:=0);have a1:Jfe B.1 B.2 1=some (.int B.2):=Jd8 (j:=1);refine⟨_,rfl,p,_,_,_,rfl,rfl,hp,a0,_,rfl,fd,_,rfl,bU.k (k:=.inl B.1) S6.hf,_,rfl,?_⟩;rw[inF S6 B.1];by_cases c:B.1∈F6
  ·rw[dTq c];refine bK ⟨_,G,F6,W6,rfl,S6,J,f6,w6,fw6,λj r hj U=>?_,m6⟩;by_cases z:j=i
   ·subst z;cases D.symm.trans U;exact c
   ·exact n6 j r (by lia) U
  rw[dFq c];have tF6:t∈F6:=f6 t tF;have hs:(Jan G t).isSome=true:=by rw[inF S6 t];exact dTq tF6
  obtain⟨v,hv⟩:=Option.isSome_iff_exists.mp hs;obtain⟨pt2,π,rfl,hpt2,PO,pl,X⟩:=S6.val t v hv;have g:=bU.k (k:=.inl t) S6.hf;rw[hv]at g;obtain⟨i',l,ei',hl,hor⟩:=A4 (mO D);have fl6:=S6.len;refine b_ ⟨_,rfl,_,rfl,fd,_,rfl,g,_,rfl,p,_,_,_,rfl,rfl,hp,a1,lS1,λq8 hq8=>⟨pt2,q8,_,_,rfl,rfl,((QL hq8).tup hpt2),SqT.of (af ..),?_,λH9 pc s9 hpc=>?_⟩⟩
  ·unfold plV;rw[lM];exact nX (by show _+1≤_;lia)
  have s69:ao H6 H9:=(QL hq8).trans s9;have S9:=S6.to s69;have ep:plV π++Jga B.2=plV (π++[i']):=by unfold plV;rw[mAq,ei'];rfl
  rw[ep]at hpc;have ub:0≤B.1∧B.1 < (n:Int):=by
   have:=hN l (mO hl);lia
  have np:i'∉π:=λhm=>by
   have:=X i' hm l hl;lia
  have PO2:=PO.step hl hor np;refine⟨_,rfl,_,rfl,p,_,_,_,rfl,rfl,s69.tup hp,a0,fd,_,rfl,.inl ⟨_,.inl B.1,S9.hf,rfl,iK (by rw[vz S9.keys];lia),rfl⟩,?_⟩;have S10:=S9.add hfd nwl c ub hpc PO2 (by rw[lAq];show _+1≤_;lia) λq hq m hm=>by
   rcases mPq hq with a | a
   ·exact⟨Qc (X q a m hm).1,Qc (X q a m hm).2⟩
   ·rw[mSq a,hl]at hm;cases hm;rcases hor with ⟨b1,b2⟩ | ⟨b1,b2⟩
    ·exact⟨Qc (b1 ▸ tF6),Xb (by rw[b2];simp)⟩
    ·exact⟨Xb (by rw[b2];simp),Qc (b1 ▸ tF6)⟩
  have sg10:bq fd C H5 (Qa (Jd2 H9 fd G B.1 pc) C (W6.map V.int++Jgr B.1)):=((J.trans s69.g).trans (bq.put1 _ _)).trans (bq.put2 _ _);have hpk:Vv (Jd2 H9 fd G B.1 pc) p (JO B.1 B.2):=(cb.kt (Jgu _) S9.hf).sq (s69.tup hp);have hwk:(Jd2 H9 fd G B.1 pc) C=some (.lst (W6.map V.int)):=by rw[ai nwf.symm];exact S9.hw
  refine Jll _ (JcJ hwk) _ rfl p _ _ _ rfl rfl hpk a0 C _ _ rfl rfl hwk (iK (by rw[lM];have:=S9.wb;lia)) ?_;refine⟨_,_,F6++[B.1],W6++[B.1],rfl,S10,sg10,λu I=>Qc (f6 u I),λu I=>Qc (w6 u I),λu I=>?_,λj r hj U=>?_,?_⟩
  ·rcases mPq I with a | a
   ·rcases fw6 u a with b | b
    ·exact .inl b
    ·exact .inr (Qc b)
   ·exact .inr (Xb a)
  ·by_cases z:j=i
   ·subst z;cases D.symm.trans U;exact List.mem_append_right _ (by simp)
   ·exact List.mem_append_left _ (n6 j r (by lia) U)
  ·have:=S10.len;rw[lAq]at this;rw[lAq,lAq];lia
 rintro σ H6 ⟨v6',G,F6,W6,rfl,S6,J,f6,w6,fw6,n6,m6⟩;refine JjJ _ _ G F6 W6 S6 (λu I hn B D=>?_) (by rw[lAq];show _ < _+(_+1);lia);by_cases eu:u=t
 ·subst eu;obtain⟨j,hj⟩:=List.mem_iff_getElem?.mp D;exact n6 j B (by rw[xl];exact(gEq hj).1) hj
 ·have uF:u∈F:=(fw6 u I).resolve_right hn;refine f6 _ (cl u uF (λh=>?_) B D);rcases mPq h with a | a
  ·exact hn (w6 u a)
  ·exact eu (mSq a)
def vU:∀ {c d:List Int} {ps:List Addr},c.length=d.length→ps.length=c.length→(∀(j:Nat) x y,(c.map V.int)[j]?=some x→(d.map V.int)[j]?=some y→∃p,ps[j]?=some p∧X9 p [x,y])→JQ ((c.zip d).map dP) (ps.map V.ref)
 | [],[],[],_,_,_=>aj.nil
 | a :: c,b :: d,p :: ps,n,l,g=>by rw[List.zip_cons_cons,List.map_cons,List.map_cons];obtain⟨o,e,k⟩:=g 0 (.int a) (.int b) rfl rfl;cases e;exact .cons (QQ k Has.int (Qv Has.int)) (vU (by simpa using n) (by simpa using l) λj x y i h=>g (j+1) x y i h)
inductive qp (K):Sp|m{vs H Q E9} (tl lp) (xs) (ts) (l):vs=JbP tl lp→Ja6 tl→J_ dTm xs→X9 lp (Jbt l.1 l.2.1 l.2.2)→(0≤l.1∧l.1 < (ts.length:Int))→(0≤l.2.1∧l.2.1 < (ts.length:Int))→(l.2.2=-1→∀t u,ts[l.1.toNat]?=some t→ts[l.2.1.toNat]?=some u→t.2.length=u.2.length)→(∀H' r zs,Xj H→Vn r→Vx r zs→Jk3 ((Jbv l).map dP)→Jbq r)→qp K vs H Q E9
def A7:Xn ["terms","link"] ["terms","link"] s_part_pairs:=fsc
def ok_pairs (F:X4 "part_pairs" "part_pairs" s_part_pairs)(T:Jh4 K):Jea ["terms","link"] (qp K):=by
 refine F.ok A7 (λvs H Q E h=>?_) (λcdv A outer s H vs Q E b h=>?_)
 ·obtain⟨o,n,xs,ts,l,rfl,_⟩:=h;rfl
 obtain⟨o,n,xs,ts,l,rfl,S,U,d,R,O,e,q⟩:=h;refine VP (Jg2 (ah (ax gf (QA 1) (Jck ae)) (Qj (ba ac))
   aZ) (AW rfl rfl T.zip rfl T.list (Xv (ar aA (JfU 0 1) ae) (ar aA (JfU 0 1) ae))));try dsimp only [Cx.nox,Cx.wish,ag]
 have a0:Jjo l.1 l.2.1 l.2.2 0=some (.int l.1):=aJ rfl;have a1:Jjo l.1 l.2.1 l.2.2 1=some (.int l.2.1):=aJ rfl;have a2:Jjo l.1 l.2.1 l.2.2 2=some (.int l.2.2):=aJ rfl;refine⟨_,rfl,n,_,_,_,rfl,rfl,d,a2,_,rfl,rfl,_,rfl,?_⟩;rw[kW];by_cases c:l.2.2=-1
 case neg =>
  rw[dFq c];refine b_ (JeR (λr b=>q _ r [] (QL b) b (af ..) ?_));unfold pairsF;rw[if_neg c];rfl
 rw[dTq c];have xl:Q8 ts.length:=by rw[←U.length,lM]
 obtain⟨t,I⟩:∃t,ts[l.1.toNat]?=some t:=Jgp (show Jar l.1.toNat by lia);obtain⟨u,G⟩:∃u,ts[l.2.1.toNat]?=some u:=Jgp (show Jar l.2.1.toNat by lia);have a:∀ {k:Int} {t:Tm},0≤k→k < (ts.length:Int)→ts[k.toNat]?=some t→∃p i,atI xs k=Ja p∧X9 p (JgY t.1 i)∧SqT K H i (t.2.map V.int):=λ{k t} k0 k1 Z=>by
  have M:JdO k.toNat:=by lia
  have ek:k=(k.toNat:Int):=by lia
  have g:=aJ (gG M);rw[←ek]at g;obtain⟨t',p,i,x,ev,d,B⟩:=tm_at U (gG M);cases Z.symm.trans x;rw[ev]at g;exact⟨p,i,g,d,B⟩
 obtain⟨Y,q1,L,D,z⟩:=a R.1 R.2 I;obtain⟨X,v,J,C,y⟩:=a O.1 O.2 G;have c1:atI [V.str t.1,V.ref q1] 1=some (.ref q1):=aJ rfl;have d1:atI [V.str u.1,V.ref v] 1=some (.ref v):=aJ rfl;have N:=e c t u I G;refine bK ⟨_,rfl,_,rfl,n,_,_,_,rfl,rfl,d,a0,o,_,_,_,rfl,rfl,S,L,Y,_,_,_,rfl,rfl,D,c1,_,rfl,_,rfl,n,_,_,_,rfl,rfl,d,a1,o,_,_,_,rfl,rfl,S,J,X,_,_,_,rfl,rfl,C,d1,?_⟩;refine⟨q1,v,_,_,rfl,z,y,by rw[lM,lM,N],λH2 r ps b W g h3 h4=>q H2 r _ W b g ?_⟩;unfold pairsF;rw[if_pos c,I,G];exact vU N (by rw[h4,lM]) h3
def Src (ts:List Tm)(L:List Lk)(x y:Int)(M:List Nat)(a:Int × Int):Prop:=a=(x,y)∨∃p∈M,∃l,L[p]?=some l∧a∈Jbv l
def Src.mono (h:Src ts L x y M pr)(b:∀q∈M,q∈M'):Src ts L x y M' pr:=h.imp id λ⟨p,a,r⟩=>⟨p,b p a,r⟩
structure fv (K)(H0 H)(nd wl)(ts)(L:List Lk)(x y)(kn)(M:List Nat)(Wq:List (Int × Int))(ws)(cur):Prop where
 same:ao H0 H
 hn:VR nd kn
 hw:VH wl ws
 has:JQ (Wq.map dP) ws
 keys:kn.map (·.1)=(M.map λq:Nat=>(q:Int)).map Sum.inl
 ndp:M.Nodup
 inn:∀q∈M,Je5 q
 wb:Wq.length≤1+3 * M.length
 ok:∀pr∈Wq,Src ts L x y M pr
 cov:∀pr,Src ts L x y M pr→pr∈Wq∨some pr=cur∨∃π,dX L π pr.1 pr.2∧∀q∈π,q∈M
def nat_nodup_len:∀n {M:List Nat},M.Nodup→(∀q∈M,q < n)→M.length≤n:=λn M i g=>by
 have:=fZ n (xs:=M.map λq:Nat=>(q:Int)) (List.pairwise_map.mpr (i.imp λ{a b} h e=>h (by lia))) λx c=>by obtain⟨q,d,rfl⟩:=List.mem_map.mp c;have:=g q d;lia
 rwa [lM]at this
def fv.len (S:fv K H0 H nd wl ts L x y kn M Wq ws cur):M.length≤L.length:=nat_nodup_len _ S.ndp S.inn
def fv.to (S:fv K H0 H nd wl ts L x y kn M Wq ws cur)(s:JhU H2):fv K H0 H2 nd wl ts L x y kn M Wq ws cur :=
 ⟨S.same.trans s,s _ _ S.hn,s _ _ S.hw,XT s.kt _ S.has,S.keys,S.ndp,S.inn,S.wb,S.ok,S.cov⟩
def lI {M:List Nat}{q:Nat}:((q:Int)∈M.map λq:Nat=>(q:Int))↔q∈M:=⟨λh=>by
 obtain⟨r,a,e⟩:=List.mem_map.mp h;have:r=q:=by lia
 exact this ▸ a,λh=>Jho q h⟩
def fv.add {H0 H o:Hp}{d g:Addr}{ts:List Tm}{L:List Lk}{x y:Int}{r:List (Key × V)}{M:List Nat}{A:List (Int × Int)}{s zs:List V}{n:Option (Int × Int)}{q:Nat}{l:Lk}(S:fv K H0 H d g ts L x y r M A s n)
  (N:JfV d)(J:JfV g)(D:q∉M)(v:L[q]?=some l)(X:(Jbv l).length≤3)(u:ao (Xe H d (QU r (q:Int) (.bl true))) o)(hz:Jy o ((Jbv l).map dP) zs) :
  fv K H0 (Qa o g (s++zs)) d g ts L x y (QU r (q:Int) (.bl true)) (M++[q]) (A++Jbv l) (s++zs) n:=by
 have E:d≠g:=λe=>by have:=S.hn;rw[e,S.hw]at this;cases this
 have C:cb d H (Xe H d (QU r (q:Int) (.bl true))):=Jgu _;have Q:=(C.kt S.hn).trans u.kt;have I:=u _ _ (C _ _ E.symm S.hw);have O:=u _ _ (af ..);have k2:JdY o o g (s++zs):=aL.lst I;have F:∀p∈M,p∈M++[q]:=λp k=>Qc k;have keys:(QU r (q:Int) (.bl true)).map (·.1)=((M++[q]).map λq:Nat=>(q:Int)).map Sum.inl:=by have:=vw S.keys (q:Int) (.bl true);unfold addK at this;rw[if_neg (λh=>D (lI.mp h))]at this;rw[this];simp
 refine⟨((S.same.upd N).trans u).upd J,by rw[ai E];exact O,af ..,?_,keys,?_,?_,?_,?_,?_⟩
 ·rw[mAq];exact aj.append (XT (Q.trans k2) _ S.has) (XT k2 _ hz)
 ·refine JkQ S.ndp (λa T b R=>?_);rw[mSq R];exact λe=>D (e ▸ T)
 ·intro p k;rcases mPq k with h | h
  ·exact S.inn p h
  ·rw[mSq h];exact(gEq v).1
 ·have:=S.wb;rw[lAq,lAq];show _≤1+3 * (_+1);lia
 ·intro c i;rcases mPq i with h | h
  ·exact(S.ok c h).mono F
  ·exact .inr ⟨q,by simp,l,v,h⟩
 ·intro c i;have t:Src ts L x y M c→c∈A++Jbv l∨some c=n∨∃B,dX L B c.1 c.2∧∀p∈B,p∈M++[q]:=λh=>by
   rcases S.cov c h with h | h | ⟨G,W,U⟩
   ·exact .inl (Qc h)
   ·exact .inr (.inl h)
   ·exact JbF ⟨G,W,λp k=>F p (U p k)⟩
  rcases i with h | ⟨p,k,m,j,h⟩
  ·exact t (.inl h)
  ·rcases mPq k with z | z
   ·exact t (Je_ p z m j h)
   ·rw[mSq z,v]at j;cases j;exact .inl (Xb h)
def TmB (ts:List Tm):Prop:=∀t∈ts,t.2.length≤3∧∀x∈t.2,0≤x∧x < (ts.length:Int)
inductive sp_ways (K):Sp|m{vs H Q E9} (tl la) (x y) (xs ys) (ts) (gs) (L):vs=[.ref tl,.ref la,.int x,.int y]→Ja6 tl→J_ dTm xs→JX la ys→JQ (L.map dL) ys→TmB ts→Jiu L→Jcj 60→(0≤x∧x < (ts.length:Int))→(0≤y∧y < (ts.length:Int))→Jh5 x=Jh5 y→(∀H' r M rs,Xj H→Vn r→Vx r rs→Jgw ((atP L M).map dL) rs→Needs ts L x y M→M.Pairwise (· < ·)→Jbq r)→sp_ways K vs H Q E9
def jQ:Xn ["terms","links","one","other","steps","needed","waiting","pair","place"] ["terms","links","one","other"] s_ways:=fsc
def A8 {M:List Nat}{c:List Int}(i:c.Perm (M.map λq:Nat=>(q:Int)))(k:c.Pairwise (·≤·))(l:M.Nodup):∃j:List Nat,c=j.map (λq:Nat=>(q:Int))∧(∀q,q∈j↔q∈M)∧j.Pairwise (· < ·):=by
 have d:∀z∈c,0≤z:=λz hz=>by obtain⟨q,_,rfl⟩:=List.mem_map.mp (i.mem_iff.mp hz);lia
 have e:c=(c.map Int.toNat).map λq:Nat=>(q:Int):=by
  rw[List.map_map]
  conv=>lhs;rw[←List.map_id c]
  refine List.map_congr_left λz hz=>?_;have:=d z hz;show z=(z.toNat:Int);lia
 have g:=i.nodup_iff.mpr (List.pairwise_map.mpr (l.imp λ{a b} h e=>h (by lia)));refine Jkw (c.map Int.toNat) e (λq=>?_)
 ·rw[←lI (M:=M),←i.mem_iff,←lI,←e]
 ·refine List.pairwise_map.mpr ?_;have n:c.Pairwise (· < ·):=by have:=k.and g;exact this.imp λ{a b} h=>by have:=h.1;have:=h.2;lia
  refine List.Pairwise.imp_of_mem ?_ n;intro a b p o h;have:=d a p;have:=d b o;lia
def pairs3 (a:TmB ts)(l):(Jbv l).length≤3:=by
 unfold pairsF;split
 ·split
  ·rename_i t u b c;rw[List.length_zip];have:=(a _ (mO b)).1;lia
  ·exact Nat.zero_le _
 ·exact Nat.zero_le _
def A9 (d:TmB ts){l:Lk}{c:Int × Int}(h:c∈Jbv l):(0≤c.1∧c.1 < (ts.length:Int))∧0≤c.2∧c.2 < (ts.length:Int):=by
 unfold pairsF at h;split at h
 ·split at h
  ·rename_i t u g e;obtain⟨a,b⟩:=List.of_mem_zip h;exact⟨(d _ (mO g)).2 _ a,(d _ (mO e)).2 _ b⟩
  ·simp at h
 ·simp at h
def ok_ways (F:X4 "ways" "ways" s_ways)(T:Jh4 K)(Bs:Jif "steps_of" fS dS ["links"] (qm K))(Bw:Jif "way" fW dW ["steps","one","other"] (qo K))(Bp:Jif "part_pairs" fP dP' ["terms","link"] (qp K)):Jdo 2 ["terms","links","one","other"] (sp_ways K):=by
 refine F.ok jQ (λvs H Q E h=>?_) (λcdv A outer s H vs Q E hr h=>?_)
 ·obtain⟨tl,la,x,y,xs,ys,ts,gs,L,rfl,_⟩:=h;rfl
 obtain⟨tl,la,x,y,xs,ys,ts,gs,L,rfl,hT,hL,hS,hY,hW,R,t60,hx,hy,ej,qY⟩:=h;have hu:=dv hr;refine VP (JeU (i:=4) jQ.nd (Jlu Bs.ok hr Bs.m Bs.kp Bs.b 1) (i:=5) jQ.nd gP (QO (i:=6) jQ.nd (ba (Jkg (Jcn 2 3))) (Ja9 (Jk0 (Jcu 6)) (Jco (i:=7) jQ.nd (JfM pC (pv 6)) (ak (Jgh (gc (Jc3 Bw.ok hr Bw.m Bw.kp Bw.b 4 (Ji5 7 7))) (i:=8) jQ.nd (ah (Jiv hu (pv 8) (pv 5)) (ad (gO hu (pv 5) (pv 8) dk rfl) (XS (Vc PySem.F.slot_list_extend PySem.F.type_list_extend uo (pv 6) (Xf (JdM Bp.ok hr Bp.m Bp.kp Bp.b 0 (Ji3 1 8))))))
       aZ))))) (Qj (Js (N':=["place","links"]) (ix:=[1]) rfl rfl rfl (λok=>JeL (sc:=ap s_ways)) rfl rfl (λj i h=>match j,h with | 0,h=>by cases h;exact Jbz _ | n+1,h=>by simp at h) (cC (Jbw (AJ rfl) T.sorted (Vi 5))) (λ_ _ _ _=>(JbS (r:=gJ K) a_ 1 (pv 0)))))));try dsimp only [Cx.nox,Cx.wish,ag]
 have yl:Jfl L.length:=by rw[←hY.length,lM]
 have L60:L.length≤60:=Nat.le_trans R.len t60;refine⟨_,rfl,la,ys,L,rfl,hS,hY,by lia,λH1 sd kst W=>?_⟩;intro v hnd;have s2:ao H1 (Xe H1 v []):=QL hnd;refine JbA _ _ lS2 (λpp hpp=>⟨lS1,λd hwl=>?_⟩);have s3:Jcm (Xe H1 v []) (Xe H1 v []) pp (JO x y):=QL hpp;have s4:=JdV hwl (Vt pp);have sA:=(s2.trans s3).trans s4;have St:=(W.r (by lia)).same sA;have nnd:=W.same.free hnd;have nwl:=(W.same.trans (s2.trans s3)).free hwl;have S0:fv K H (Qa (Jkm (Xe H1 v []) pp x y) d (Vt pp)) v d ts L x y [] [] [(x,y)] (Vt pp) none :=
  ⟨W.same.trans sA,s4 _ _ (s3 _ _ (af ..)),af ..,Qv (Jgy (s4 _ _ (af ..)) Has.int (Qv Has.int)),rfl,by simp,by simp,by simp,λB h=>.inl (mSq h),λB h=>.inl (by
   rcases h with h | ⟨p,hp,_⟩
   ·rw[h];simp
   ·simp at hp)⟩
 have nw1:Qn (H1 d):=(s2.trans s3).free hwl;generalize eHA:Qa (Jkm (Xe H1 v []) pp x y) d (Vt pp)=HA at sA St S0;have ktG:∀ {H'},bq v d HA H'→aL HA H':=λ{H'} O b us z=>by
  have nb1:b≠v:=λe=>by rw[e]at z;rcases z with z | ⟨o,z⟩ <;> (rw[S0.hn]at z;cases z)
  have Z:b≠d:=λe=>by rw[e]at z;rcases z with z | ⟨o,z⟩ <;> (rw[S0.hw]at z;cases z)
  rcases z with z | ⟨o,z⟩
  ·exact .inl (O _ _ nb1 Z z)
  ·exact .inr ⟨o,O _ _ nb1 Z z⟩
 have stOf:∀ {H'},bq v d HA H'→StR K H' sd (nbr L L.length):=λ{H'} O=>by
  refine⟨kst,O _ _ (λe=>?_) (λe=>?_) (sA _ _ W.hd),λt=>XE (Nat.le_trans (W.big t) (by lia))⟩
  ·have:=W.hd;rw[e,hnd]at this;cases this
  ·have:=W.hd;rw[e,nw1]at this;cases this
  ·rcases W.at_ t with a | ⟨l,us,a1,a2,_,_,a3⟩
   ·exact .inl a
   ·exact Je_ l us a1 (O _ _ (λe=>by rw[e,hnd]at a2;cases a2) (λe=>by rw[e,nw1]at a2;cases a2) (sA _ _ a2)) (XT (sA.kt.trans (ktG O)) _ a3)
 refine Qk (λm σ H'=>Ex6 λ(v7 v8:Option V) (kn:List (Key × V)) (M:List Nat) (Wq:List (Int × Int)) (N:List V)=>An4 (σ=[Ja tl,Ja la,Jb x,Jb y,Ja sd,Ja v,Ja d,v7,v8]) (fv K H H' v d ts L x y kn M Wq N none) (bq v d HA H') (m=4 * (L.length - M.length)+Wq.length)) ⟨_,none,none,_,_,_,_,rfl,S0,Jln _,rfl⟩
 rintro m σ H3 ⟨v7,v8,kn,M,Wq,N,rfl,S,O,rfl⟩;have wl3:N.length=Wq.length:=by rw[←S.has.length,lM]
 have ml:=S.len;have wb:=S.wb;refine JkY _ d _ (Qg S.hw) _ _ _ rfl ?_;by_cases cW:Wq=[]
 ·-- all are found
  subst cW;rw[show decide (((N.length:Nat):Int) > 0)=false from dFq (by rw[wl3];simp)];have nope:∀B,Src ts L x y M B→∃π,dX L π B.1 B.2∧∀q∈π,q∈M:=λB h=>by
   rcases S.cov B h with z | z | z
   ·simp at z
   ·cases z
   ·exact z
  obtain⟨π0,P0,sub0⟩:=nope (x,y) (.inl rfl);have ND:Needs ts L x y M:=⟨S.inn,⟨π0,P0,sub0⟩,λp hp l hl ab hab=>nope ab (Je_ p hp l hl hab)⟩;have ek:kn.map (λkv=>kV kv.1)=(M.map λq:Nat=>(q:Int)).map V.int:=zW S.keys;refine bK ⟨_,rfl,v,kn,_,rfl,S.hn,ek,by rw[lM];lia,λso ms hso pm pw=>?_⟩;obtain⟨I,rfl,mm,lt⟩:=A8 pm pw S.ndp;have ml':I.length≤L.length:=nat_nodup_len _ (lt.imp λh=>Nat.ne_of_lt h) λq G=>S.inn q ((mm q).mp G);have ND':Needs ts L x y I:=⟨λq G=>ND.inn q ((mm q).mp G),⟨π0,P0,λq G=>(mm q).mpr (sub0 q G)⟩,λp hp l hl ab hab=>by obtain⟨π,h1,h2⟩:=ND.all p ((mm p).mp hp) l hl ab hab;exact⟨π,h1,λq G=>(mm q).mpr (h2 q G)⟩⟩
  obtain⟨H4,eN,s4,n4⟩:=QB hso ((I.map λq:Nat=>(q:Int)).map V.int);rw[eN];have sH4:=S.same.trans s4;refine Jkp so _ n4 (λD hD=>d_ cH (λj us H'=>Xj H4∧Jgw (((atP L I).take j).map dL) us) (λj us H' ⟨s1,_⟩=>s1.seq (SqL.of n4)) ⟨QL hD,aj.nil⟩ ?_ ?_)
  ·rintro j us H8 z H5 hj hly hDs ⟨s5,hus⟩ ⟨rfl,hz⟩;obtain⟨n,hn,rfl⟩:=cM (hz _ (s5.seq (SqL.of n4)));rw[List.getElem?_map]at hn;obtain⟨q,G,rfl⟩:=Option.map_eq_some_iff.mp hn;have ql:=ND'.inn q (mO G);have hlq:=gG ql;have at1:atI ys (q:Int)=some (ys[q]'(by lia)):=aJ (gG (by lia));obtain⟨l,p,el,ep,hp⟩:=jK (QC sH4.kt _ hY) (gG (show q < ys.length by lia));rw[ep]at at1;refine JdB _ _ rfl la _ _ _ (s5.seq (sH4.seq hS)) at1 (Ja0 (bsz _ (by simp;lia)) hj hly hDs (s5.upd hD));have hal:(atP L I)[j]?=some l:=by unfold atP;rw[List.getElem?_map,G];exact JeZ (getD_at el)
   rw[bb hal,mAq];have kt5:JdY H5 H5 D (us++Vt p):=aL.lst hDs;exact aj.append (QC kt5 _ hus) (Qv (nF (kt5.sq (s5.tup hp))))
  rintro us H5 hDs ⟨s5,hus⟩;refine qY H5 D I us (sH4.trans s5) (sH4.free hD) hDs ?_ ND' lt;rw[lM,lM,tO (by unfold atP;rw[lM];exact nRq _)]at hus;exact hus
 have wp:0 < Wq.length:=List.length_pos_iff.mpr cW;rw[show decide (((N.length:Nat):Int) > 0)=true from dTq (by lia)];refine b_ (Qk (λσ' H'=>Ex6 λ(v7 v8:Option V) (kn':List (Key × V)) (I:List Nat) (Wq':List (Int × Int)) (X:List V)=>An4 (σ'=[Ja tl,Ja la,Jb x,Jb y,Ja sd,Ja v,Ja d,v7,v8]) (fv K H H' v d ts L x y kn' I Wq' X none) (bq v d HA H') (4 * (L.length - I.length)+Wq'.length < 4 * (L.length - M.length)+Wq.length)) ?_)
 ·rintro σ' H' ⟨v7',v8',kn',I,Wq',X,rfl,a,b,c⟩;exact⟨_,c,v7',v8',kn',I,Wq',X,rfl,a,b,rfl⟩
 obtain⟨W0,B,rfl⟩:∃W0 B,Wq=W0++[B]:=⟨Wq.dropLast,Wq.getLast cW,(List.dropLast_concat_getLast cW).symm⟩;have lw:N.length=W0.length+1:=by rw[wl3,lAq];rfl
 have ew:=gG (show W0.length < N.length by lia);obtain⟨pr',p,hpr,ev,hp⟩:=p_ S.has ew;have e0:B=pr':=by simpa using hpr
 subst e0;refine Jef _ (JcJ S.hw) d _ _ rfl S.hw (by rw[show N.length - 1=W0.length by lia];exact ew.trans (JeZ ev)) ?_;have hdl:Jy H3 (W0.map dP) N.dropLast:=by have:=aj.take W0.length S.has;rw[←List.map_take,List.take_left]at this;rw[List.dropLast_eq_take,show N.length - 1=W0.length by lia];exact this
 have nwf:v≠d:=λe=>by have:=S.hn;rw[e,S.hw]at this;cases this
 have sc0:Src ts L x y M B:=S.ok B (by simp);have W:fv K H (Jjq H3 d) v d ts L x y kn M W0 N.dropLast (some B) :=
  ⟨S.same.upd nwl,by rw[ai nwf];exact S.hn,af ..,XT (aL.lst S.hw) _ hdl,S.keys,S.ndp,S.inn,by have:=S.wb;rw[lAq]at this;lia,λq G=>S.ok q (Qc G),λq G=>by
   rcases S.cov q G with z | z | z
   ·rcases mPq z with z | z
    ·exact .inl z
    ·exact .inr (.inl (JeZ (mSq z)))
   ·cases z
   ·exact JbF z⟩
 have sg1:bq v d HA (Jjq H3 d):=O.trans (bq.put2 _ _);have hp4:Vv (Jjq H3 d) p (JO B.1 B.2):=(aL.lst S.hw).sq hp;generalize Jjq H3 d=H4 at W sg1 hp4;have a0:Jfe B.1 B.2 0=some (.int B.1):=Jd8 (j:=0);have a1:Jfe B.1 B.2 1=some (.int B.2):=Jd8 (j:=1);have pin:(0≤B.1∧B.1 < (ts.length:Int))∧0≤B.2∧B.2 < (ts.length:Int):=by
  rcases sc0 with z | ⟨q,G,l,hl,z⟩
  ·rw[z];exact⟨hx,hy⟩
  ·exact A9 hW z
 refine⟨_,rfl,_,rfl,p,_,_,_,rfl,rfl,hp4,a0,_,rfl,p,_,_,_,rfl,rfl,hp4,a1,sd,B.1,B.2,L,ts.length,rfl,stOf sg1,R.inn,by lia,pin.1,pin.2,?_,λH5 pw π s5 hpw PO _=>?_⟩
 ·rcases sc0 with z | ⟨q,G,l,hl,z⟩
  ·rw[z];exact ej
  ·have:=nD (L.drop q) (pairs_joined R hl B z);rwa [List.take_append_drop]at this
 have S5:=W.to s5;have sg5:bq v d HA H5:=sg1.trans s5.g;clear hp4;have xk:plV π=(π.map λq:Nat=>(q:Int)).map V.int:=by unfold plV;rw[List.map_map];rfl
 have ktH:∀ {H6},bq v d H5 H6→aL H5 H6:=λ{H'} O b us z=>by
  have nb1:b≠v:=λe=>by rw[e]at z;rcases z with z | ⟨o,z⟩ <;> (rw[S5.hn]at z;cases z)
  have Z:b≠d:=λe=>by rw[e]at z;rcases z with z | ⟨o,z⟩ <;> (rw[S5.hw]at z;cases z)
  rcases z with z | ⟨o,z⟩
  ·exact .inl (O _ _ nb1 Z z)
  ·exact Jx o (O _ _ nb1 Z z)
 refine Q1 pw (Jgo hpw) (Jh2 fz (λj σ H'=>Ex5 λ(v8:Option V) (kn':List (Key × V)) (I:List Nat) (W':List (Int × Int)) (X:List V)=>An6 (σ=[Ja tl,Ja la,Jb x,Jb y,Ja sd,Ja v,Ja d,Ja p,v8]) (fv K H H' v d ts L x y kn' I W' X (some B)) (bq v d H5 H') ((∀q∈M,q∈I)) ((∀i q,i < j→π[i]?=some q→q∈I)) (4 * (L.length - I.length)+W'.length≤4 * (L.length - M.length)+W0.length)) (λi σ H' h=>by obtain⟨_,_,_,_,_,_,_,O,_⟩:=h;exact(ktH O).sq hpw) ⟨v8,kn,M,W0,_,rfl,S5,Jln _,(λ_ h=>h),(λi q hi=>VB hi _),nRq _⟩)
 ·rintro i σ H7 z H6 hi ⟨v8,kn6,M6,W6,J,rfl,C,Y,m6,n6,b6⟩ ⟨rfl,hz⟩;have hz:=hz _ ((ktH Y).sq hpw);rw[xk]at hz;obtain⟨n,hn,rfl⟩:=cM hz;rw[List.getElem?_map]at hn;obtain⟨q,G,rfl⟩:=Option.map_eq_some_iff.mp hn;refine Jcb _ _ rfl v _ rfl (bU.k (k:=.inl (q:Int)) C.hn) _ rfl ?_;rw[jL C.keys];have up:∀ {M7:List Nat},(∀r∈M6,r∈M7)→q∈M7→∀j r,j < i+1→π[j]?=some r→r∈M7:=λh1 h2 j r hj U=>by
   by_cases z:j=i
   ·subst z;cases G.symm.trans U;exact h2
   ·exact h1 r (n6 j r (by lia) U)
  by_cases c:q∈M6
  ·rw[dTq (lI.mpr c)];exact bK ⟨_,kn6,M6,W6,J,rfl,C,Y,m6,up (λ_ h=>h) c,b6⟩
  rw[dFq (λh=>c (lI.mp h))];have ql:=PO.inn q (mO G);have hYq:=gG (show q < ys.length by lia);have ml6:=C.len;have wb6:=C.wb;obtain⟨l,lp,hl,el,hlp0⟩:=jK hY hYq;have at1:atI ys (q:Int)=some (.ref lp):=aJ (hYq.trans (JeZ el));have wl6:J.length=W6.length:=by rw[←C.has.length,lM]
  have hw7:(Xe H6 v (QU kn6 (q:Int) (.bl true))) d=some (.lst J):=by rw[ai nwf.symm];exact C.hw
  have sH7:JhU (Xe H6 v (QU kn6 (q:Int) (.bl true))):=C.same.upd nnd;have lin:=R.inn l (mO hl);refine b_ ⟨_,rfl,_,rfl,v,_,rfl,.inl ⟨_,.inl (q:Int),C.hn,rfl,iK (by rw[vz C.keys,lM];lia),rfl⟩,?_⟩;refine⟨_,rfl,JcJ hw7,_,rfl,_,rfl,_,rfl,la,_,_,_,rfl,rfl,sH7.seq hS,at1,tl,lp,xs,ts,l,rfl,sH7.seq hT,JhH sH7.kt _ hL,sH7.tup hlp0,lin.1,lin.2,λhm t u ht hu'=>?_,λH8 r zs8 s8 hr8 h8 hz8=>?_⟩
  ·rcases(R q l hl).how with ⟨a,_⟩ | ⟨_,t',u',t1,t2,t3,t4⟩
   ·lia
   ·cases ht.symm.trans t1;cases hu'.symm.trans t2;have:=Jad t4;simpa using this
  have p3:=pairs3 hW l;have zl:zs8.length=(Jbv l).length:=by rw[←hz8.length,lM]
  refine⟨d,r,J,zs8,rfl,rfl,s8 _ _ hw7,h8,nX (n:=J.length+zs8.length) (by lia),?_⟩;have S9:=C.add nnd nwl c hl p3 s8 hz8;have ml9:=S9.len;rw[lAq]at ml9;have ml9:M6.length+1≤L.length:=ml9;refine⟨_,_,M6++[q],W6++Jbv l,_,rfl,S9,((Y.trans (bq.put1 _ _)).trans s8.g).trans (bq.put2 _ _),λr U=>Qc (m6 r U),up (λr h=>Qc h) (by simp),?_⟩;rw[lAq,lAq];show 4 * (L.length - (M6.length+1))+_≤_;lia
 rintro σ H6 ⟨v8',kn6,M6,W6,J,rfl,C,Y,m6,n6,b6⟩;refine⟨_,_,kn6,M6,W6,J,rfl,⟨C.same,C.hn,C.hw,C.has,C.keys,C.ndp,C.inn,C.wb,C.ok,λq G=>?_⟩,sg5.trans Y,by rw[lAq];show _ < _+(_+1);lia⟩;rcases C.cov q G with z | z | z
 ·exact .inl z
 ·cases z;refine JbF ⟨π,PO,λr U=>?_⟩;obtain⟨j,hj⟩:=List.mem_iff_getElem?.mp U;exact n6 j r (by rw[xk,lM,lM];exact(gEq hj).1) hj
 ·exact JbF z
end W54
namespace K54
open PySem L2
noncomputable def top (i:Nat):Stmt:=PySem.Challenge.pw_yesorno_k54_plain_search.main.body.getD i (Je0 0 0 0 0)
abbrev s_given_links:Stmt:=top 2
abbrev s_alike_links:Stmt:=top 3
abbrev s_links:Stmt:=top 4
abbrev s_groups_of:Stmt:=top 5
abbrev s_heads:Stmt:=top 6
abbrev qr:Stmt:=top 24
abbrev qt:Stmt:=top 25
abbrev qu:Stmt:=top 26
abbrev qv:Stmt:=top 27
abbrev qw:Stmt:=top 28
abbrev qx:Stmt:=V1 29 0
abbrev qy:Stmt:=V1 29 1
abbrev qz:Stmt:=V1 29 2
abbrev sAdd:Stmt:=V1 29 3
abbrev qA:Stmt:=V1 29 4
abbrev qB:Stmt:=V1 29 5
abbrev sRow:Stmt:=V1 29 6
abbrev nP:Stmt:=top 31
abbrev s_steps_of:Stmt:=top 33
abbrev s_way:Stmt:=top 34
abbrev s_part_pairs:Stmt:=top 35
abbrev s_ways:Stmt:=top 36
abbrev lg:Stmt:=top 38
abbrev lu:Stmt:=top 39
abbrev nQ:Stmt:=top 40
abbrev lB:Stmt:=top 41
abbrev nU:Stmt:=top 42
abbrev s_levels:Stmt:=top 44
abbrev s_part_levels:Stmt:=top 46
abbrev s_is_replaced:Stmt:=top 47
abbrev s_learnt:Stmt:=top 48
abbrev vV:Stmt:=V1 50 0
abbrev vW:Stmt:=V1 50 1
abbrev vX:Stmt:=V1 50 2
abbrev vY:Stmt:=V1 50 3
abbrev vZ:Stmt:=V1 50 4
abbrev v_:Stmt:=V1 50 5
abbrev wa:Stmt:=V1 50 6
abbrev we:Stmt:=V1 50 7
abbrev wh:Stmt:=V1 50 8
abbrev wj:Stmt:=V1 50 9
abbrev wm:Stmt:=V1 50 10
abbrev wo:Stmt:=V1 50 11
abbrev jR:Stmt:=top 51
abbrev sCell:Stmt:=top 53
abbrev qC:Stmt:=top 54
abbrev qD:Stmt:=top 55
abbrev oa:Stmt:=top 56
abbrev qG:Stmt:=top 57
abbrev jS:Stmt:=top 58
abbrev lJ:Stmt:=top 59
abbrev oe:Stmt:=top 60
abbrev lK:Stmt:=top 61
abbrev qH:Stmt:=top 62
abbrev qI:Stmt:=top 63
abbrev qJ:Stmt:=top 64
abbrev og:Stmt:=top 65
abbrev lL:Stmt:=top 66
abbrev jT:Stmt:=top 67
abbrev abc:Str:="abcdefghijklmnopqrstuvwxyz"
noncomputable def isL (c:Str):Bool:=!(Builtin.Str.occurrences abc c 0 abc.length 1).isEmpty
noncomputable def gQ (z:Str):List Bool:=z.cps.toList.map λc=>isL ⟨#[c]⟩
noncomputable def oh:List V:=[.str "or",.str "and",.str "not",.str "never",.str "always",.str "then",.str "as",.str "unlike"]
noncomputable def oj (z:Str):Bool:=decide (0 < (z.length:Int))&&(gQ z).all id
noncomputable def gR (z:Str):Bool:=oj z&&(decide ((z.length:Int)≤8)&&!inV (.str z) oh)
def sz (n)(h:n≤1000):Ju n:=VX h
def A_:Qu (oh.all gh):=by rfl
def wq (z):(gQ z).length=z.length:=by simp [gQ,Str.length]
def Ba (a:z.cps[i]?=some ch):(gQ z).take (i+1)=(gQ z).take i++[isL ⟨#[ch]⟩]:=by
 have b:(gQ z)[i]?=some (isL ⟨#[ch]⟩):=by unfold gQ;rw[List.getElem?_map,Array.getElem?_toList,a];rfl
 rw[List.take_add_one,b];rfl
abbrev Tm:=Str × List Int
noncomputable def dT (t:Tm):Dt:=.tup (JgX t.1 (.tup (t.2.map Dt.int)))
def om:∀ns:List Int,Qu (hI (ns.map Dt.int))
 | []=>by rfl
 | n :: ns=>by simp only[List.map_cons,hI,nob,Bool.true_and];exact om ns
def qK:∀ns:List Int,Jc9 (ns.map Dt.int)
 | []=>by rfl
 | n :: ns=>by simp only[List.map_cons,bz,nol,Bool.true_and];exact qK ns
def jk:∀ns:List Int,cx (ns.map Dt.int)=0
 | []=>by rfl
 | n :: ns=>by simp only[List.map_cons,cx,dep,jk ns];rfl
def wu (t):Qu (nob (dT t)):=by simp only[dT,nob,hI,om,Bool.and_self]
def wx (t):JeT (dT t):=by simp only[dT,nol,bz,qK,Bool.and_self]
def dep_dT (t):dep (dT t)=2:=by simp only[dT,dep,cx,jk];rfl
def ik:∀T:List Tm,Jc9 (T.map dT)
 | []=>by rfl
 | t :: T=>by simp only[List.map_cons,bz,wx,Bool.true_and];exact ik T
def wy:∀T:List Tm,cx (T.map dT)≤2
 | []=>by simp [cx]
 | t :: T=>by have h:=wy T;simp only[List.map_cons,cx,dep_dT];lia
def Bb (h:Dt.int a=Dt.int b):a=b:=by cases h;rfl
def wz:∀ {d c:List Int},d.map Dt.int=c.map Dt.int→d=c
 | [],[],_=>rfl
 | [],b :: c,h=>by cases h
 | a :: d,[],h=>by cases h
 | a :: d,b :: c,h=>by rw[List.map_cons,List.map_cons]at h;injection h with f e;rw[Bb f,wz e]
def dT_inj (h:dT a=dT b):a=b:=by obtain⟨n,ps⟩:=a;obtain⟨m,e⟩:=b;injection h with h;injection h with d c;injection d with d;injection c with c _;injection c with c;have g:n=m:=d;have f:ps=e:=wz c;rw[g,f]
def peq_dT (a b):peq (dT a) (dT b)=decide (a=b):=by
 by_cases h:a=b
 ·subst h;rw[kC,dTq rfl]
 ·rw[dFq h];cases e:peq (dT a) (dT b) with
  | false=>rfl
  | true=>exact absurd (dT_inj (ux _ _ (wu a) (wu b) e)) h
def wA [BEq α][LawfulBEq α]{c:α→Dt}(i:∀a b,Jiy (c a) (c b)↔a=b)(T:List α)(t:α):((T.map c).any λd=>peq d (c t))=decide (t∈T):=by
 rw[Bool.eq_iff_iff,List.any_eq_true];constructor
 ·rintro ⟨d,g,e⟩;obtain⟨u,f,rfl⟩:=List.mem_map.mp g;rw[i]at e;rw[←e];exact dTq f
 ·intro h;exact⟨c t,Jho t (oDq h),kC _⟩
def iff_dT (a b):Jiy (dT a) (dT b)↔a=b:=by rw[peq_dT];exact decide_eq_true_iff
inductive At where
 | plain (z:Str)
 | same (a b:Int)
 deriving DecidableEq
noncomputable def dA:At→Dt
 | .plain z=>.tup (JiF z)
 | .same a b=>Jjw a b
def iL (t):JeT (dA t):=by cases t <;> simp only[dA,nol,bz,Bool.and_self]
def wB (t):dep (dA t)=1:=by cases t <;> simp only[dA,dep,cx] <;> rfl
noncomputable def dR (r:List Int):Dt:=.tup (r.map Dt.int)
def iM (r):JeT (dR r):=by simp only[dR,nol,qK]
def eJ {c:Type}{b:c→Dt}(d:∀a,JeT (b a)):∀T:List c,Jc9 (T.map b)
 | []=>by rfl
 | t :: T=>by simp only[List.map_cons,bz,d,Bool.true_and];exact eJ d T
def qL {c:Type}{b:c→Dt}{n:Nat}(d:∀a,dep (b a)≤n):∀T:List c,cx (T.map b)≤n
 | []=>by simp [cx]
 | t :: T=>by have h:=qL d T;have:=d t;simp only[List.map_cons,cx];lia
def kTA:¬(("terms":Str)="atoms"):=by decide +kernel
def kTR:¬(("terms":Str)="rows"):=by decide +kernel
def kAR:¬(("atoms":Str)="rows"):=by decide +kernel
noncomputable def eK (a c b:Addr):List (Str × V):=JfJ "rows" b (JfJ "atoms" c (JfJ "terms" a []))
def fb (a c b):(eK a c b).lookup ("terms":Str)=some (.ref a):=by rfl
def fc (b a c):(eK b a c).lookup ("atoms":Str)=some (.ref a):=by rfl
def lN (b c a):(eK b c a).lookup ("rows":Str)=some (.ref a):=by rfl
def jm (a f b){m:Str}(e:¬m="rows")(d:¬m="atoms")(c:¬m="terms"):(eK a f b).lookup m=none:=by
 unfold eK;rw[ko,if_neg e,ko,if_neg d,ko,if_neg c]
 rfl
def Fr1 (H H':Hp)(z:Addr):Prop:=∀b o,Jlr o→b≠z→Vw b o
def Fr1.of_same (s:Xj H):Jhk H z:=λb o e _=>s b o e
def Fr1.trans (a:Fr1 H H1 z)(b:Fr1 H1 H2 z):Fr1 H H2 z:=λc o e n=>b c o (a c o e n) n
def Fr1.keepT (f:Jhk H z)(h:Jc2 z):aL H H':=λb ys q=>by
 rcases q with q | ⟨o,q⟩
 ·exact .inl (f b _ q (cq q h (λe=>by cases e)))
 ·exact Jx o (f b _ q (cq q h (λe=>by cases e)))
structure bD (K)(C)(H:Hp)(p tl al rl)(T:List Tm)(As:List At)(Rs:JB Int):Prop where
 ob:∃dx,Jcr p (eK tl al rl)
 tm:∃xs,Jc2 tl∧Jkr dT
 am:∃xs,Jc2 al∧Jdf (As.map dA)
 rm:∃xs,Jc2 rl∧Jdg dR
 na:al≠tl
 nr:rl≠tl
 nx:rl≠al
def bD.keep {K:W.Frag}{C:Addr}{H H':Hp}{p a d b z:Addr}{T:List Tm}{As:List At}{Rs:List (List Int)}{zs:List V}(h:Jk_ a d b)(f:Jhk H z)(hz:VH z zs)(l:z≠a)(k:z≠d)(j:z≠b):Jk8 H' a d b:=by obtain⟨⟨dx,g⟩,⟨xs,v,u⟩,⟨ys,t,s⟩,⟨i,r,q⟩,o,n,c⟩:=h;exact⟨⟨dx,f _ _ g (cq g hz (λe=>by cases e))⟩,⟨xs,f _ _ v l.symm,u.keep (f.keepT hz) (ik T)⟩,⟨ys,f _ _ t k.symm,s.keep (f.keepT hz) (eJ iL As)⟩,⟨i,f _ _ r j.symm,q.keep (f.keepT hz) (eJ iM Rs)⟩,o,n,c⟩
def bD.same {K:W.Frag}{C:Addr}{H H':Hp}{p b d c:Addr}{T:List Tm}{As:List At}{Rs:List (List Int)}(h:Jk_ b d c)(s:Xj H):Jk8 H' b d c:=by obtain⟨⟨dx,q⟩,⟨xs,o,n⟩,⟨ys,l,k⟩,⟨e,j,i⟩,g,f,a⟩:=h;exact⟨⟨dx,s _ _ q⟩,⟨xs,s _ _ o,n.keep (.of_same s) (ik T)⟩,⟨ys,s _ _ l,k.keep (.of_same s) (eJ iL As)⟩,⟨e,s _ _ j,i.keep (.of_same s) (eJ iM Rs)⟩,g,f,a⟩
def bD.setT {K:W.Frag}{C:Addr}{H:Hp}{p a k c:Addr}{T l:List Tm}{As:List At}{Rs:List (List Int)}{us:List V}(h:Jk_ a k c)(hs:Jy (JkL a us) (l.map dT) us):Jk7 (JkL a us) a k c l:=by obtain⟨⟨dx,j⟩,⟨xs,i,t⟩,⟨ys,s,r⟩,⟨n,q,o⟩,g,f,b⟩:=h;have d:JdY H H a us:=aL.lst i;exact⟨⟨dx,by rw[ai (cq j i (λe=>by cases e))];exact j⟩,⟨us,af,hs⟩,⟨ys,by rw[ai g];exact s,r.keep d (eJ iL As)⟩,⟨n,by rw[ai f];exact q,o.keep d (eJ iM Rs)⟩,g,f,b⟩
def bD.setA {K:W.Frag}{C:Addr}{H:Hp}{p d b f:Addr}{T:List Tm}{As c:List At}{Rs:List (List Int)}{us:List V}(h:Jk_ d b f)(hs:Jy (JkL b us) (c.map dA) us):JiO K C (JkL b us) p d b f T c:=by obtain⟨⟨dx,k⟩,⟨xs,s,r⟩,⟨ys,j,t⟩,⟨l,q,o⟩,i,n,a⟩:=h;have g:JdY H H b us:=aL.lst j;exact⟨⟨dx,by rw[ai (cq k j (λe=>by cases e))];exact k⟩,⟨xs,by rw[ai i.symm];exact s,r.keep g (ik T)⟩,⟨us,af,hs⟩,⟨l,by rw[ai a];exact q,o.keep g (eJ iM Rs)⟩,i,n,a⟩
def bD.setR {K:W.Frag}{C:Addr}{H:Hp}{p d k a:Addr}{T:List Tm}{As:List At}{Rs c:List (List Int)}{us:List V}(h:Jk_ d k a)(hs:Jy (JkL a us) (c.map dR) us):bD K C (JkL a us) p d k a T As c:=by obtain⟨⟨dx,j⟩,⟨xs,r,q⟩,⟨ys,o,n⟩,⟨s,i,t⟩,l,g,b⟩:=h;have f:JdY H H a us:=aL.lst i;exact⟨⟨dx,by rw[ai (cq j i (λe=>by cases e))];exact j⟩,⟨xs,by rw[ai g.symm];exact r,q.keep f (ik T)⟩,⟨ys,by rw[ai b.symm];exact o,n.keep f (eJ iL As)⟩,⟨us,af,hs⟩,l,g,b⟩
def SqI (K:W.Frag)(H:Hp)(q:Addr)(ps:List Int):Prop:=JdK q∨JdL q
def SqI.same (h:SqI K H q ps)(s:Xj H):SqI K H' q ps:=h.elim (λz=>.inl (s.seq z)) λz=>.inr ((aL.of_same s).sq z)
inductive qM:Sp|m{vs H Q E9} (z):vs=[.str z]→JjI 1000→(∀H',Xj H→XR (oj z) H')→qM vs H Q E9
inductive qO:Sp|m{vs H Q E9} (z):vs=[.str z]→JjI 1000→(∀H',Xj H→XR (gR z) H')→qO vs H Q E9
inductive oo:Sp|m{vs H Q E9} (z):vs=[.str z]→JjI 1000→Qu (gR z)→(∀H',Xj H→Jb7 H')→oo vs H Q E9
inductive jU (K):Sp|m{vs H Q E9} (a tl) (m) (xs) (ds) (d):vs=Jb6 a tl m→JcO K d a→Jc2 tl→Jdf ds→cx ds≤50→(ds.length:Int) < m→m≤1000→(Qu (ds.any λe=>peq e d)→∀j:Nat,j < ds.length→VI (j:Int) H)→(¬Qu (ds.any λe=>peq e d)→VI (ds.length:Nat) (JkL tl (xs++Vt a)))→jU K vs H Q E9
inductive qP (C):Sp|m{vs H Q E9} (p dx):vs=Vt p→Jcr p []→(∀tl al rl H',Vn tl→Vn al→Vn rl→al≠tl→rl≠tl→rl≠al→Vw p (JH (eK tl al rl))→Vx tl []→Vx al []→Vx rl []→(∀b o,Jlr o→b≠p→Vw b o)→Jb7 H')→qP C vs H Q E9
inductive oq (K)(C):Sp|m{vs H Q E9} (p tl al rl) (T) (As) (Rs) (n):vs=JbQ p n→Jlb rl→0≤n→n < (T.length:Int)→Jb7 H→oq K C vs H Q E9
inductive qR (K)(C):Sp|m{vs H Q E9} (p tl al rl) (T) (As) (Rs) (n):vs=JbQ p n→Jlb rl→n≠0→-(As.length:Int)≤n→n≤(As.length:Int)→Jb7 H→qR K C vs H Q E9
def il (h:Vn p)(o):JhU (JiW p):=λb u q=>by rw[Jj1 h];exact q
structure Txt (K)(mg:Str→Option Value)(aK C):Prop where
 small:∃t,Xa (mg "SMALL_LETTERS") (.str abc t)
 longest:∃t,JlL "LONGEST_NAME" 8
 parts:∃t,JlL "MOST_TERM_PARTS" 3
 terms:∃t,JlL "MOST_TERMS" 60
 atoms:∃t,JlL "MOST_ATOMS" 40
 rparts:∃t,JlL "MOST_ROW_PARTS" 20
 rows:∃t,JlL "MOST_ROWS" 200
 kept:mg "KEPT_WORDS"=Ja aK
 tup:∀H,X9 aK oh
 len:Vo "len"
 all:Vo "all"
 range:Vo "range"
 isi:Vo "isinstance"
 bool:Vo "bool"
 tuple:Vo "tuple"
 abs:Vo "abs"
 cl:Cls K C
 nT:cK K C "terms"
 nA:cK K C "atoms"
 nR:cK K C "rows"
def jn (a:aX k A):A.units+64 < cLine:=a.units
def scIW:Xn ["text"] ["text"] qr:=fsc
def Bc (F:X4 "is_word" "is_word" qr)(T:Jb4 C):Jea ["text"] qM:=by
 obtain⟨p,n⟩:=T.small;refine F.ok scIW (λvs H Q E h=>?_) (λcdv A outer s H vs Q E r h=>?_)
 ·obtain⟨z,rfl,_⟩:=h;rfl
 obtain⟨z,rfl,hz,q⟩:=h;refine VP (Qj (pb (iw eC (Q6 uh (Vi 0)) ae) (sX (Jw (yF rfl) T.all PyProof.Rows.Boot.all (Xf (Js (N':=["letter"]) (ix:=[]) rfl rfl rfl (λ_=>⟨[],XV (by decide +kernel)⟩) rfl rfl (λj i h=>by simp at h) (pi_str (pv 0)) (λB u e g=>iw xQ (pv 0) (gY (v:=.str abc) rfl n (Xr _)) rfl)))))))
 refine Jfr _ z rfl (sz _ hz) _ _ rfl rfl _ rfl ?_;refine aQ (λc=>?_) (λc=>?_)
 ·refine JkN _ z (λD k=>Qk (λi m ys H'=>m=z.length - i∧i≤z.length∧ys=((gQ z).take i).map V.bl∧H'=JkL D ys) (JkN z.length (Nat.zero_le _) rfl));rintro i m ys H' ⟨rfl,t,rfl,rfl⟩;refine XE af;by_cases a:i < z.length
  ·refine Jx a (λx o y=>?_);obtain⟨rfl,ch,d,rfl⟩:=y;have l:=Ba d;refine⟨_,rfl,_,_,rfl,rfl,af,?_,z.length - (i+1),by lia,rfl,a,?_,oY⟩
   ·rw[lM,List.length_take,wq];exact Nat.lt_of_le_of_lt (Jkz (Nat.min_le_right _ _)) (by decide)
   ·rw[l,mAq];rfl
  ·have b:i=z.length:=by lia
   subst b;refine .inl ⟨nRq _,D,gQ z,rfl,SqL.of (by rw[af,tO (by rw[wq];exact nRq _)]),?_⟩;have:=q _ (il k (.lst (((gQ z).take z.length).map V.bl)));unfold oj at this;rw[c,Bool.true_and]at this;exact this
 ·have:=q H (ao.refl H);unfold oj at this;lia
def scIN:Xn ["word"] ["word"] qt:=fsc
def Be (F:X4 "is_name" "is_name" qt)(T:Jb4 C)(G:JE 1 g gd ["text"] qM)(l:JiA gd ["text"])(i:JgL K g)(e:mg "is_word"=Ja g) :
  aD P w K mg base CX0 2 f fd ["word"] qO:=by
 obtain⟨n,k⟩:=T.longest;refine F.ok scIN (λvs H Q E h=>?_) (λcdv A outer s H vs Q E j h=>?_)
 ·obtain⟨z,rfl,_⟩:=h;rfl
 obtain⟨z,rfl,hz,q⟩:=h;refine VP (Qj (pb (Jlu G j e i l 0) (pb (iw op_le (Q6 uh (Vi 0)) (gY (v:=.int 8) rfl k (Xr _))) (sX (iw ug (pv 0) (gY (v:=.ref aK) rfl T.kept rfl) rfl)))))
 refine JbA _ z hz (λa b=>V2 ?_);refine aQ (λc=>?_) (λc=>?_)
 ·refine Jfr _ z rfl (sz _ hz) _ _ rfl rfl _ rfl ?_;refine aQ (λd=>?_) (λd=>?_)
  ·refine⟨_,rfl,aK,oh,rfl,.inr (T.tup a),rfl,A_,?_⟩;have:=q a b;unfold gR at this;lia
  ·have:=q a b;unfold gR at this;lia
 ·have:=q a b;unfold gR at this;lia
def scAN:Xn ["word"] ["word"] qu:=fsc
def gv:PSs X st (λ_ _ _=>False):=λ_ _ _ _ _ _ h=>h.elim
def Bf (F:X4 "ask_name" "ask_name" qu)(G:Jie 2 "is_name" g gd ["word"] qO):Jdo 3 ["word"] oo:=by
 refine F.ok scAN (λvs H Q E h=>?_) (λcdv A outer s H vs Q E c h=>?_)
 ·obtain⟨z,rfl,_⟩:=h;rfl
 obtain⟨z,rfl,hz,d,h⟩:=h;refine VP (ak (ah (ju (gD (Jlu G.ok c G.m G.kp G.b 0))) gv aZ))
 try dsimp only [Cx.nox,Cx.wish,ag]
 refine JbA _ z hz (λe a=>V2 ?_);rw[d];exact bK (h e a)
def scPl:Xn ["thing","things","most"] ["thing","things","most"] qw:=fsc
def Bg (F:X4 "place_of" "place_of" qw)(T:Jb4 C):Jea ["thing","things","most"] (jU K):=by
 refine F.ok scPl (λvs H Q E h=>?_) (λcdv A outer s H vs Q E y h=>?_)
 ·obtain⟨a,i,m,xs,b,d,rfl,_⟩:=h;rfl
 obtain⟨a,i,m,xs,b,d,rfl,r,k,hs,t,J,I,o,n⟩:=h;have q:=jn y;have l:=hs.length.symm;refine VP (ad (ah (ax (uB q) (pv 0) (pv 1) rfl) (Qj (Vc PySem.F.slot_list_index PySem.F.type_list_index (uD q) (pv 1) (Vi 0))) aZ) (Jeq (ah (ax my (Jcu 1) (pv 2)) gv aZ) (JfR (pv 1) (Vi 0)) (Jc8 hC (Jcu 1))))
 try dsimp only [Cx.nox,Cx.wish,ag]
 refine⟨_,rfl,_,rfl,i,xs,b,d,rfl,Qg k,hs,r,Jq t,_,rfl,?_⟩;refine aQ (λc=>?_) (λc=>?_)
 ·have v:=c;have g:=List.findIdx_lt_length_of_exists (let ⟨x,o,n⟩:=List.any_eq_true.mp v;⟨x,o,n⟩);refine⟨_,rfl,JcJ k,_,rfl,i,xs,b,_,d,b.findIdx (λe=>peq e d),rfl,rfl,k,hs,r,Jq t,Jlc (gG g) (List.findIdx_getElem (w:=g)),λj M G D=>?_,o v _ g⟩;obtain⟨L,B⟩:=gEq D;have z:=List.not_of_lt_findIdx G;rw[B]at z;exact z
 ·refine⟨_,rfl,i,xs,rfl,Qg k,_,rfl,_,_,rfl,rfl,_,rfl,aQ (λu=>?_) (λu=>?_)⟩
  ·lia
  ·refine JkY _ (JcJ k) _ i xs _ k (cY (by lia)) ?_;refine Jcb _ i _ rfl (Qg af) _ _ rfl rfl ?_;have e:(((xs++[V.ref a]).length:Nat):Int) - 1=(b.length:Nat):=by rw[lAq,l];simp
   rw[e];exact n c
def scI:Xn ["self"] ["self"] qx:=fsc
def ok_init (F:X4 "__init__" "Problem.__init__" qx)(T:Jb4 C):Jea ["self"] (qP C):=by
 refine F.ok scI (λvs H Q E h=>?_) (λcdv A outer s H vs Q E D h=>?_)
 ·obtain⟨p,dx,rfl,_⟩:=h;rfl
 obtain⟨p,dx,rfl,y,k⟩:=h;refine VP (Vd (Jj3 ac) (Jj3 ac) (ak (Jj3 ac)));refine JeR (λl u=>?_);have c:=bX y u;refine Jk2 _ p C dx [] (by rw[ai c];exact y) T.cl T.nT (by decide);refine JeR (λi d=>?_);have j:i≠p:=λz=>by rw[z,af]at d;cases d
 have q:i≠l:=λz=>by rw[z,ai c.symm,af]at d;cases d
 have B:Vn i:=by rw[ai j,ai q]at d;exact d
 refine Jk2 _ p C dx _ (by rw[ai j.symm,af]) T.cl T.nA (by show Jfi 1;decide);refine JeR (λg a=>?_);have n:g≠p:=λz=>by rw[z,af]at a;cases a
 have t:g≠i:=λz=>by rw[z,ai j,af]at a;cases a
 have r:g≠l:=λz=>by rw[z,ai c.symm,ai q.symm,ai c.symm,af]at a;cases a
 have x:Vn g:=by rw[ai n,ai t,ai n,ai r]at a;exact a
 refine Jk2 _ p C dx _ (by rw[ai n.symm,af]) T.cl T.nR (by show Jfi 2;decide);refine k l i g _ u B x q r t af ?_ ?_ ?_ λb o e v=>?_
 ·rw[ai c.symm,ai r.symm,ai c.symm,ai q.symm,ai c.symm,af]
 ·rw[ai j,ai t.symm,ai j,af]
 ·rw[ai n,af]
 ·rw[ai v,Jbd e x,ai v,Jbd e B,ai v,Jbd e u];exact e
def scAT:Jjt (JL "number") "number" qy:=fsc
def Bj (F:X4 "ask_term" "Problem.ask_term" qy)(T:Jb4 C):Jea (JL "number") (oq K C):=by
 refine F.ok scAT (λvs H Q E h=>?_) (λcdv A outer s H vs Q E l h=>?_)
 ·obtain⟨p,a,j,e,T,As,Rs,n,rfl,_⟩:=h;rfl
 obtain⟨p,a,j,e,k,As,Rs,n,rfl,S,q,o,h⟩:=h;obtain⟨⟨dx,g⟩,⟨xs,i,hs⟩,_⟩:=id S;have b:Q8 k.length:=by rw[←hs.length,lM]
 refine VP (ak (ah (Ji2 (JaS iV 1 ae) (JaS my 1 (Jct 0))) gv aZ))
 try dsimp only [Cx.nox,Cx.wish,ag]
 refine JjJ _ rfl _ _ rfl _ rfl (aQ (λc=>?_) (λc=>⟨_,rfl,_,rfl,p,C,dx,_,_,rfl,g,T.cl,T.nT,fb _ _ _,a,xs,rfl,Qg i,_,_,rfl,rfl,_,rfl,aQ (λd=>?_) (λd=>h)⟩))
 ·have:=oDq c;lia
 ·lia
def scAP:Jjt (JL "part") "part" qz:=fsc
def Bk (F:X4 "ask_part" "Problem.ask_part" qz)(T:Jb4 C):Jea (JL "part") (qR K C):=by
 refine F.ok scAP (λvs H Q E h=>?_) (λcdv A outer s H vs Q E o h=>?_)
 ·obtain⟨p,g,e,i,T,As,Rs,n,rfl,_⟩:=h;rfl
 obtain⟨p,g,e,i,t,As,Rs,n,rfl,S,j,r,q,h⟩:=h;obtain⟨⟨dx,k⟩,_,⟨xs,l,hs⟩,_⟩:=id S;have b:Q8 As.length:=by rw[←hs.length,lM]
 refine VP (ak (ah (Ji2 (JaS ck 1 ae) (ax eC (Jcz mD T.abs (Vi 1)) (Jct 0))) gv aZ))
 try dsimp only [Cx.nox,Cx.wish,ag]
 refine Jgf _ _ (aQ (λc=>?_) (λc=>⟨_,rfl,n,rfl,_,rfl,p,C,dx,_,_,rfl,k,T.cl,T.nA,fc _ _ _,e,xs,rfl,Qg l,_,_,rfl,rfl,_,rfl,aQ (λd=>?_) (λd=>h)⟩))
 ·lia
 ·have z:=oDq d
  split at z <;> lia
def Fr2 (H H':Hp)(z y:Addr):Prop:=∀b o,Jlr o→b≠z→b≠y→Vw b o
def Fr2.of1 (f:Jhk H z):Jks z y:=λb o e n _=>f b o e n
def Fr2.of_same (s:Xj H):Jks z y:=λb o e _ _=>s b o e
def Fr2.trans (a:Fr2 H H1 z y)(b:Fr2 H1 H2 z y):Fr2 H H2 z y:=λc o e n m=>b c o (a c o e n m) n m
noncomputable def cv:List Int→List Int→List Int
 | acc,[]=>acc
 | acc,p :: ps=>cv (if p∈acc then acc else acc++[p]) ps
inductive lO (K)(C):Sp|m{vs H Q E9} (p tl al rl) (T) (As) (Rs) (z):vs=JbO p (.str z)→Jlb rl→JjI 1000→Qu (gR z)→JjN 40→(∀H' more (j:Nat),JiO K C H' p tl al rl T (As++more)→Jks al rl→more=[]∧Jlo 1∨more=[.plain z]→JjX (j:Int))→lO K C vs H Q E9
inductive ou (K)(C):Sp|m{vs H Q E9} (p tl al rl) (T) (As) (Rs) (a b):vs=Jer p a b→Jlb rl→(0≤a∧a < (T.length:Int))→(0≤b∧b < (T.length:Int))→JjN 40→(∀H' more (j:Nat),JiO K C H' p tl al rl T (As++more)→Jks al rl→more=[]∧Jlo 1∨more=[.same a b]→JjX (j:Int))→ou K C vs H Q E9
inductive jV (K)(C):Sp|m{vs H Q E9} (p tl al rl q) (T) (As) (Rs) (ps):vs=JbP p q→Jlb rl→JdK q→Jbp 20→(∀n∈ps,n≠0∧-(As.length:Int)≤n∧n≤(As.length:Int))→Rs.length < 200→(∀H' (j:Nat),bD K C H' p tl al rl T As (Rs++[cv [] ps])→Jks al rl→JjX (j:Int))→jV K C vs H Q E9
inductive qS (K):Sp|m{vs H Q E9} (q) (ps):vs=Vt q→JdK q→Jbp 1000→(∀H' l,Xj H→J1 l ((cv [] ps).map V.int)→Jbq l)→qS K vs H Q E9
def Bl (a b):peq (.int a) (.int b)=decide (a=b):=by rfl
def q1 {Q:VK}{n:Nat}{H:Hp}(h:VI ((n+1:Nat):Int) H):VI ((n:Int)+1) H:=h
def qT:∀ps acc,(cv acc ps).length≤acc.length+ps.length
 | [],acc=>by simp [cv]
 | p :: ps,acc=>by
  unfold cv;have h:=qT ps (if p∈acc then acc else acc++[p])
  split at h <;> simp only[lAq,List.length_cons,lS,List.length_nil]at h ⊢ <;> split <;> simp_all <;> lia
def Bn {ps:List Int}{i:Nat}{k:Int}:∀ {acc:List Int},ps[i]?=some k→JaT acc (i+1)=if k∈JaT acc i then JaT acc i else JaT acc i++[k]:=by
 induction ps generalizing i with
 | nil=>intro acc h;simp at h
 | cons p ps a =>
  intro acc h;cases i with
  | zero =>
   simp at h;subst h;rfl
  | succ i =>
   simp only[List.take_succ_cons,cv];exact a (by simpa using h)
def wC (S:Jlb rl)(f:JcO K (dA t) a)(g:JjN 40)
  (k:∀H' more (j:Nat),JiO K C H' p tl al rl T (As++more)→Jhk H al→more=[]∧Jlo 1∨more=[t]→JjX (j:Int)):jU K (Jb6 a al 40) H Q E:=by
 obtain⟨xs,d,hs⟩:=id S.am;refine⟨a,al,40,xs,As.map dA,dA t,rfl,f,d,hs,Jq (qL (λa=>by rw[wB];exact nRq _) As),by rw[lM];lia,by decide,λh j i=>?_,λh=>?_⟩
 ·rw[lM]at i;exact k H [] j (by rw[List.append_nil];exact S) (λb o e _=>e) (Jh8 (by lia))
 ·have c:JdY H H al (xs++Vt a):=aL.lst d;refine k _ [t] _ (S.setA ?_) (λb o e l=>by rw[ai l];exact e) (.inr rfl);rw[mAq];exact(hs.keep c (eJ iL As)).append (aj.one (f.keep c (iL t)))
def scP:Jjt (JL "name") "name" qA:=fsc
def Bo {f N M:Addr}{q O dP:FuncData}(F:Fun K "add_plain" "Problem.add_plain" qA f q)(T:Jb4 C)(g:Jie 3 "ask_name" N O ["word"] oo)(e:Jif "place_of" M dP ["thing","things","most"] (jU K)) :
  aD P w K mg base CX0 4 f q (JL "name") (lO K C):=by
 obtain⟨u,n⟩:=T.atoms;refine F.ok scP (λvs H Q E h=>?_) (λcdv A outer s H vs Q E o h=>?_)
 ·obtain⟨p,t,R,B,T,As,Rs,z,rfl,_⟩:=h;rfl
 obtain⟨p,t,R,B,X,As,Rs,z,rfl,S,lo,G,k,h⟩:=h;have l:aX 1 _:=o.mono (by decide);refine VP (Jg2 (aY (Jlu g.ok o g.m g.kp g.b 1)) (Jc8 cD (Jlt e.ok l e.m e.kp e.b (JcI (cu (Jfx bZ 1)) (Vl 0) (gY (v:=.int 40) rfl n (Xr _))))))
 try dsimp only [Cx.nox,Cx.wish,ag]
 refine⟨_,rfl,z,rfl,lo,G,λW y=>Q1 _ lS2 (λa J=>?_)⟩;have c:=y.trans (il J (.tup (JiF z)));have r:=S.same c;obtain⟨⟨dx,D⟩,_⟩:=id r;have I:Has K (Vh W a (JiF z)) (dA (.plain z)) (.ref a):=Jgy af (by rfl) (Qv (by rfl));exact JcH _ p C dx _ _ rfl D T.cl T.nA (fc _ _ _) (wC r I k λH' d j U L m=>Jr _ _ rfl (q1 (h H' d (j+1) U ((Fr2.of_same c).trans (Fr2.of1 L)) m)))
def scSm:Xn ["self","one","other","turned"] (VW "one") qB:=fsc
def Bq {f fT fP:Addr}{fd D dP:FuncData}(F:X4 "add_same" "Problem.add_same" qB)(T:Jb4 C)(GT:JcA 1 fT D "number" (oq K C))(bT:JiB D "number")(W:JgS "ask_term" fT)(J:Jif "place_of" fP dP ["thing","things","most"] (jU K)) :
  aD P w K mg base CX0 4 f fd (VW "one") (ou K C):=by
 obtain⟨t40,U⟩:=T.atoms;refine F.ok scSm (λvs H Q E h=>?_) (λcdv A outer s H vs Q E hr h=>?_)
 ·obtain⟨p,G,q,I,T,As,Rs,a,b,rfl,_⟩:=h;rfl
 obtain⟨p,G,q,I,T',As,Rs,a,b,rfl,S,Y,X,L,h⟩:=h;have Z:=jn hr;have k:aX 1 _:=hr.mono (by decide);refine VP (Vd (aY (JeW 0 W GT k bT 1)) (aY (JeW 0 W GT k bT 2)) (QO (i:=3) scSm.nd (cu (aa bZ (Jcn 2 1))) (ah (ax (uB Z) (pv 3) (Vl 0) rfl) (Qj (Jc8 cD (Vc PySem.F.slot_list_index PySem.F.type_list_index (uD Z) (Vl 0) (Vi 3)))) aZ) (Qj (Jc8 cD (Jlt J.ok k J.m J.kp J.b (JcI (cu (aa bZ (Jcn 1 2))) (Vl 0) (gY (v:=.int 40) rfl U (Xr _))))))))
 try dsimp only [Cx.nox,Cx.wish,ag]
 obtain⟨⟨dx,B⟩,_,⟨xs,N,hs⟩,_⟩:=id S;have no:=jm G q I (m:="ask_term") (by decide +kernel) (by decide +kernel) (by decide +kernel);refine⟨_,rfl,p,dx,_,rfl,B,no,_,rfl,p,G,q,I,T',As,Rs,a,rfl,S,Y.1,Y.2,?_⟩;refine⟨_,rfl,p,dx,_,rfl,B,no,_,rfl,p,G,q,I,T',As,Rs,b,rfl,S,X.1,X.2,?_⟩;refine JbA _ _ lS3 (λu M=>?_);have dt:∀ {H:Hp} {u:Addr} {x y:Int},JaK u (Jet x y)→Has K H (dA (.same x y)) (.ref u):=λe=>Jgy e (by rfl) (Je6 (by rfl) (by rfl));have d:=il M (Jjw b a);have R:=dt (af (H:=H) (a:=u) (o:=Jjw b a));generalize Vh H u (Jet b a)=H1 at d R;have S1:=S.same d;have t:=hs.keep (.of_same d) (eJ iL As);have dp:cx (As.map dA)≤60:=Jq (qL (λa=>by rw[wB];exact nRq _) As);refine⟨_,rfl,_,rfl,p,C,dx,_,_,rfl,d _ _ B,T.cl,T.nA,fc _ _ _,q,xs,As.map dA,dA (.same b a),rfl,Qg (d _ _ N),t,R,dp,_,rfl,aQ (λc=>?_) (λc=>?_)⟩
 ·have c':=c;have l:=List.findIdx_lt_length_of_exists (let ⟨x,h1,h2⟩:=List.any_eq_true.mp c';⟨x,h1,h2⟩);refine⟨_,rfl,p,C,dx,_,_,rfl,d _ _ B,T.cl,T.nA,fc _ _ _,JcJ (d _ _ N),_,rfl,q,xs,As.map dA,_,dA (.same b a),_,rfl,rfl,d _ _ N,t,R,dp,Jlc (gG l) (List.findIdx_getElem (w:=l)),λm dm g1 g2=>?_,_,_,rfl,rfl,q1 (h H1 [] _ (by rw[List.append_nil];exact S1) (Fr2.of_same d) (Jh8 (by rw[lM]at l;lia)))⟩;obtain⟨h3,h4⟩:=gEq g2;have z:=List.not_of_lt_findIdx g1;rw[h4]at z;exact z
 ·refine JbA _ _ lS3 (λv hv=>?_);have g:=d.trans (il hv (Jjw a b));have O:=dt (af (H:=H1) (a:=v) (o:=Jjw a b));have S2:=S.same g;exact JcH _ p C dx _ _ rfl (g _ _ B) T.cl T.nA (fc _ _ _) (wC S2 O L λH' r j S' fr m=>Jr _ _ rfl (q1 (h H' r (j+1) S' ((Fr2.of_same g).trans (Fr2.of1 fr)) m)))
inductive lP (K)(C):Sp|m{vs H Q E9} (p tl al rl q) (T) (As) (Rs) (n) (ps):vs=[.ref p,.str n,.ref q]→Jlb rl→JdL q→n.length≤1000→Qu (gR n)→Jbp 3→(∀i∈ps,0≤i∧i < (T.length:Int))→T.length < 60→(∀H' more j,Jk7 H' tl al rl (T++more)→Jhk H tl→more=[]∧(n,ps)∈T∨more=[(n,ps)]→j < (T++more).length→JjX (j:Int))→lP K C vs H Q E9
def scA:Xn ["self","name","parts","part"] (QW "name" "parts") sAdd:=fsc
def qU {ps:List Int}{i:Nat}{x:V}(h:(ps.map V.int)[i]?=some x):∃k,ps[i]?=some k∧x=.int k:=by
 rw[List.getElem?_map]at h;cases e:ps[i]? with
 | none=>rw[e]at h;cases h
 | some k =>
  rw[e]at h;exact Vg k ((Option.some.inj h).symm)
def ok_add {f fN fT fP:Addr}{fd dN y dP:FuncData}(F:X4 "add_term" "Problem.add_term" sAdd)(T:Jb4 C)(J:Jie 3 "ask_name" fN dN ["word"] oo)
  (GT:JcA 1 fT y "number" (oq K C))(bT:JiB y "number")(mT:JgS "ask_term" fT)(I:Jif "place_of" fP dP ["thing","things","most"] (jU K)):Jdo 4 (QW "name" "parts") (lP K C):=by
 obtain⟨t3,e3⟩:=T.parts;obtain⟨t60,U⟩:=T.terms;refine F.ok scA (λvs H Q E h=>?_) (λcdv A outer s H vs Q E hr h=>?_)
 ·obtain⟨p,D,al,rl,q,T,As,Rs,n,ps,rfl,_⟩:=h;rfl
 obtain⟨p,D,al,rl,q,G,As,Rs,n,ps,rfl,S,hq,lo,hn,h3,hp,len,h⟩:=h;have t:aX 1 _:=hr.mono (by decide);refine VP (ad (aY (Jlu J.ok hr J.m J.kp J.b 1)) (Jeq (ah (ax eC (Jcu 2) (gY (v:=.int 3) rfl e3 (Xr _))) gv aZ) (QZ (gc (pv 2)) (i:=3) scA.nd (JbD 0 mT GT t bT (Vi 3))) (Jlt I.ok t I.m I.kp I.b (JcI (cu (JdZ 1 (QY iZ rfl T.tuple (Vi 2)))) (Vl 0) (gY (v:=.int 60) rfl U (Xr _))))))
 try dsimp only [Cx.nox,Cx.wish,ag]
 refine⟨_,rfl,n,rfl,lo,hn,λH1 L=>?_⟩;have S1:=S.same L;have d:=L.tup hq;have hl1:(ps.map V.int).length=ps.length:=lM _;refine JkY _ q _ (.inr d) _ _ _ rfl (aQ (λc=>?_) (λc=>?_))
 ·lia
 obtain⟨⟨dx,ho⟩,_⟩:=id S1;refine Jc_ _ q _ d (Jh2 fz (λi B g=>g=H1∧∃z,B=[Ja p,Jg_ n,Ja q,z]) (λi B g h=>by obtain⟨e,_⟩:=h;exact by rw[e];exact d) (Ja4 rfl _))
 ·rintro i B H8 x g hi ⟨rfl,z,rfl⟩ ⟨rfl,hx⟩;obtain⟨k,ek,rfl⟩:=qU (hx _ d);have Z:=hp k (mO ek);exact⟨_,rfl,p,dx,_,rfl,ho,JaG _ _ _,_,rfl,p,D,al,rl,G,As,Rs,k,rfl,S1,Z.1,Z.2,rfl,_,rfl⟩
 ·rintro B g ⟨rfl,z,rfl⟩;refine Jdr _ rfl _ q _ rfl (.inr ⟨d,lS2,λa ha=>?_⟩);have l:=L.trans (il ha (.tup (JgY n q)));have O:Has K (Vh g a (JgY n q)) (dT (n,ps)) (.ref a):=Jgy af (by rfl) (Qv (JiJ (l.tup hq) ps));generalize Vh g a (JgY n q)=Y at l O;have X:=S.same l;obtain⟨⟨W,M⟩,⟨xs,u,r⟩,_⟩:=id X;refine⟨_,rfl,p,C,W,_,_,rfl,M,T.cl,T.nT,fb _ _ _,a,D,60,xs,G.map dT,dT (n,ps),rfl,O,u,r,Jq (wy G),by rw[lM];lia,by decide,λN j hj=>?_,λN=>?_⟩
  ·rw[wA iff_dT,decide_eq_true_eq]at N;rw[lM]at hj;exact h Y [] j (by rw[List.append_nil];exact X) (Fr1.of_same l) (Jh8 N) (by rw[List.append_nil];exact hj)
  ·rw[lM];have kt:JdY Y Y D (xs++Vt a):=aL.lst u;refine h _ [(n,ps)] _ (X.setT ?_) (λb o e R=>by rw[ai R];exact l b o e) (.inr rfl) (by rw[lAq];exact Nat.lt_succ_self _);rw[mAq];exact(r.keep kt (ik G)).append (aj.one (O.keep kt (wx _)))
def Br (a b):Jiy (.int a) (.int b)↔a=b:=by rw[Bl];exact decide_eq_true_iff
def scO:Xn ["parts","kept","part"] ["parts"] qv:=fsc
def Bu {f:Addr}{G:FuncData}(F:Fun K "once_each" "once_each" qv f G)(T:Jb4 C):JE 1 f G ["parts"] (qS K):=by
 refine F.ok scO (λvs H Q E h=>?_) (λcdv A outer s H vs Q E M h=>?_)
 ·obtain⟨q,ps,rfl,_⟩:=h;rfl
 obtain⟨q,ps,rfl,y,I,k⟩:=h;have L:=jn M;refine VP (QO (i:=1) scO.nd (ba ac) (Jgh (Jd7 0) (i:=2) scO.nd (ah (ax (yL L) (pv 2) (pv 1) rfl) (JfS 1 (Vi 2)) aZ)) (Qj (QY iZ rfl T.tuple (Vi 1))))
 refine JeR (λl D=>?_);have B:JhU (X_ H l):=il D _;refine Jc_ _ q _ (B.seq y) (Jh2 cH (λi r p=>JhU p∧(∃z,r=[Ja q,Ja l,z])∧Qb (p l) ((JaT [] i).map V.int)) (λi r p h=>by obtain⟨e,_⟩:=h;exact e.seq y) ⟨B,Xr _,af⟩)
 ·rintro i r R x p O ⟨d,⟨z,rfl⟩,a⟩ ⟨rfl,J⟩;obtain⟨j,N,rfl⟩:=qU (J _ (d.seq y));have u:=Bn (acc:=[]) N;have g:((JaT [] i).map V.int).length < sizeLine:=by rw[lM];have:=qT (ps.take i) [];rw[List.length_take,List.length_nil]at this;exact Nat.lt_of_le_of_lt (show _≤1000 by lia) (by decide)
  refine⟨_,rfl,_,rfl,l,_,(JaT [] i).map Dt.int,.int j,rfl,Qg a,aj.ints _,by rfl,by rw[jk];decide,_,rfl,?_⟩;have v:=wA Br (JaT [] i) j;by_cases t:j∈cv [] (ps.take i)
  ·rw[dTq t]at v;refine Ja_ (λc=>absurd (show Qu (!((JaT [] i).map Dt.int).any λd'=>peq d' (.int j)) from c) (by rw[v];decide));rw[if_pos t]at u;exact⟨d,Xr _,by rw[u];exact a⟩
  ·rw[dFq t]at v;refine VQ (λc=>Jke (show Qu (!((JaT [] i).map Dt.int).any λd'=>peq d' (.int j)) by rw[v];rfl));rw[if_neg t]at u;refine JkY _ (JcJ a) _ l _ _ a g ?_;refine Qk (λb o e=>by rw[Jbd e D];exact d b o e) (Xr _);rw[u,mAq,af];rfl
 ·rintro r p ⟨d,⟨z,rfl⟩,a⟩;rw[lM,List.take_length]at a;refine Jge _ l _ (Jfz a (λl2 n=>k _ l2 (d.trans (il n _)) af))
def scRw:Jjt (QW "parts" "part") "parts" sRow:=fsc
def ok_row {f fP fO:Addr}{Z dP dO:FuncData}(F:Fun K "add_row" "Problem.add_row" sRow f Z)(T:Jb4 C)(GP:JcA 1 fP dP "part" (qR K C))(bP:JiB dP "part")(mP:JgS "ask_part" fP)
  (GO:Jif "once_each" fO dO ["parts"] (qS K)):JcA 2 f Z "parts" (jV K C):=by
 obtain⟨t20,M⟩:=T.rparts;obtain⟨R,k⟩:=T.rows;refine F.ok scRw (λvs H Q E h=>?_) (λcdv A outer s H vs Q E Y h=>?_)
 ·obtain⟨p,y,O,a,q,T,As,Rs,ps,rfl,_⟩:=h;rfl
 obtain⟨p,y,O,a,q,T',As,Rs,ps,rfl,S,d,len,D,U,h⟩:=h;refine VP (Vd (QZ (Jd7 1) (i:=2) scRw.nd (JbD 0 mP GP Y bP (Vi 2))) (ah (ax eC (Jcu 1) (gY (v:=.int 20) rfl M (Xr _))) gv aZ) (Jeq (ah (ax my (Jct 0) (gY (v:=.int 200) rfl k (Xr _))) gv aZ) (JfR (Vl 0) (Xf (Jlu GO.ok Y GO.m GO.kp GO.b 1))) (Jc8 hC (Jct 0))))
 try dsimp only [Cx.nox,Cx.wish,ag]
 obtain⟨⟨dx,I⟩,_,_,⟨xs,L,hs⟩,_⟩:=id S;have j:Q8 Rs.length:=by rw[←hs.length,lM]
 have hpl:(ps.map V.int).length=ps.length:=lM _;refine Jc_ _ q _ d (Jh2 cH (λi n u=>u=H∧∃z,n=[Ja p,Ja q,z]) (λi n u h=>by obtain⟨e,_⟩:=h;exact by rw[e];exact d) (Ja4 rfl _))
 ·rintro i n H8 x u hi ⟨rfl,z,rfl⟩ ⟨rfl,hx⟩;obtain⟨X,ek,rfl⟩:=qU (hx _ d);have B:=D X (mO ek);exact⟨_,rfl,p,dx,_,rfl,I,JaG _ _ _,_,rfl,p,y,O,a,T',As,Rs,X,rfl,S,B.1,B.2.1,B.2.2,rfl,_,rfl⟩
 rintro n u ⟨rfl,z,rfl⟩;refine JkY _ q _ (.inl d) _ _ _ rfl (Ja_ (λc=>?_))
 ·lia
 refine⟨_,rfl,p,C,dx,_,_,rfl,I,T.cl,T.nR,lN _ _ _,a,xs,rfl,Qg L,_,_,rfl,rfl,_,rfl,Ja_ (λc2=>?_)⟩
 ·lia
 refine Jll _ p C dx _ _ rfl I T.cl T.nR (lN _ _ _) (JcJ L) _ rfl q ps rfl d (by lia) (λt l r J=>?_);have g:=r _ _ L;have hd:Has K t (dR (cv [] ps)) (.ref l):=JiJ (SqT.of J) _;have W:JdY t t a (xs++Vt l):=aL.lst g;have S3:bD K C (Qa t a (xs++Vt l)) p y O a T' As (Rs++[cv [] ps]):=(S.same r).setR (by rw[mAq];exact((hs.keep (.of_same r) (eJ iM Rs)).keep W (eJ iM Rs)).append (aj.one (hd.keep W (iM _))))
 obtain⟨⟨N,G⟩,_⟩:=id S3;refine JeX a xs _ g (cY (by lia)) ?_;refine Jll _ p C N _ _ rfl G T.cl T.nR (lN _ _ _) a _ rfl (Qg af) _ _ rfl rfl ?_;have en:(((xs++[V.ref l]).length:Nat):Int) - 1=(Rs.length:Nat):=by rw[lAq,j];simp
 rw[en];exact h _ _ S3 λb o e _ n2=>by rw[ai n2];exact r b o e
def cS (a){b:Int}(h:0 < b):0≤a % b∧a % b < b:=⟨Int.emod_nonneg _ (by lia),Int.emod_lt_of_pos _ h⟩
def made (f:Vn x)(d:Vn dx)(c:dx≠x)(r:(JkZ x) tl=none)(q:(JkZ x) al=none)
  (p:(JkZ x) rl=none)(i:al≠tl)(h:rl≠tl)(g:rl≠al)(n:Xa (H1 x) (JH (eK tl al rl)))(k2:Qb (H1 tl) [])(l:Qb (H1 al) [])(k:Qb (H1 rl) [])
  (j:∀b o,(JkZ x) b=some o→b≠x→Xa (H1 b) o):bD K C H1 x tl al rl [] [] []∧JhU H1∧Vn tl∧Vn al∧Vn rl:=by have a:JhU (JkZ x):=(il d _).trans (il (by rw[ai c.symm];exact f) _);exact⟨⟨⟨dx,n⟩,⟨[],k2,.nil⟩,⟨[],l,.nil⟩,⟨[],k,.nil⟩,i,h,g⟩,λb o e=>j b o (a _ _ e) (bX e f),a.free r,a.free q,a.free p⟩
structure Own (P)(w)(K)(mg)(base)(C)(fI fA fQ fS)(dI dA' dQ dS):Prop where
 I:JE 1 fI dI ["self"] (qP C)
 bI:JiA dI ["self"]
 mI:Mk K C fI
 gI:mg "Problem"=Ja C
 A:JE 4 fA dA' (QW "name" "parts") (lP K C)
 bA:JiA dA' (QW "name" "parts")
 mA:JgS "add_term" fA
 Q:JcA 4 fQ dQ "name" (lO K C)
 bQ:JiB dQ "name"
 mQ:JgS "add_plain" fQ
 S:JE 4 fS dS (VW "one") (ou K C)
 bS:Ji7 dS
 mS:JgS "add_same" fS
def bD.lenA (S:Jlb rl):∃dx xs,Jcr p (eK tl al rl)∧Jc2 al∧Q8 As.length:=by obtain⟨⟨dx,c⟩,_,⟨xs,b,a⟩,_⟩:=S;exact⟨dx,xs,c,b,by rw[←a.length,lM]⟩
def ov (a c b):(eK a c b).lookup ("add_term":Str)=none:=JaG _ _ _
def qV (a c b):(eK a c b).lookup ("add_plain":Str)=none:=JaG _ _ _
def ox (a c b):(eK a c b).lookup ("add_same":Str)=none:=JaG _ _ _
def qW (a c b):(eK a c b).lookup ("add_row":Str)=none:=JaG _ _ _
noncomputable def tG (T:List Tm)(a:Int):Tm:=T.getD a.toNat ("",[])
noncomputable def smF (As:List At)(k:Int):Option (Int × Int):=if 1≤k∧k≤(As.length:Int) then(match As.getD (k - 1).toNat (.plain "") with | .same a b=>some (a,b) | .plain _=>none) else none
noncomputable def e_ (f:Int→Int)(T:List Tm)(a b:Int):Bool:=decide ((tG T a).1=(tG T b).1)&&(decide ((tG T a).2.length=(tG T b).2.length)&&((tG T a).2.zip (tG T b).2).all λc=>decide (f c.1=f c.2))
noncomputable def bO (f:Int→Int)(As:List At)(p:Int):Bool:=match JY p with | some q=>decide (f q.1=f q.2) | none=>false
noncomputable def rtm (f:Int→Int)(a b:Int):Int→Int:=λt=>if f t=f a then f b else f t
def InR (n:Nat)(x:Int):Prop:=0≤x∧x < (n:Int)
structure Dom (T:List Tm)(As:List At):Prop where
 tm:∀t∈T,∀q∈t.2,Vq q
 am:∀x y,At.same x y∈As→Vq x∧Vq y
def LkIn (n m:Nat)(l:Lk):Prop:=JkI l.1∧JkI l.2.1∧0≤l.2.2∧l.2.2≤(m:Int)
def jW (h:Vq a):T[a.toNat]?=some (tG T a)∧tG T a∈T:=by
 obtain⟨h0,b⟩:=h;have e:T[a.toNat]?=some (tG T a):=by unfold tG;rw[List.getD_eq_getElem?_getD,gG (by lia)];rfl
 exact⟨e,mO e⟩
def qX (h0:1≤k)(c:k≤(As.length:Int)):∃a,As[(k - 1).toNat]?=some a∧a∈As∧JY k=(match a with | .same x y=>some (x,y) | .plain _=>none):=by
 have b:(k - 1).toNat < As.length:=by lia
 refine Jkw (As[(k - 1).toNat]) (gG b) (List.getElem_mem b);unfold smF;rw[if_pos ⟨h0,c⟩,List.getD_eq_getElem?_getD,gG b];rfl
def lQ (D:Jjp T){k:Int}{x y:Int}(h:JaL k (x,y)):Vq x∧InR T.length y:=by
 unfold smF at h;split at h
 ·rename_i e;have d:(k - 1).toNat < As.length:=by lia
  rw[List.getD_eq_getElem?_getD,gG d]at h;have c:=List.getElem_mem d;change (match As[(k - 1).toNat] with | .same a b=>some (a,b) | .plain _=>none)=some (x,y) at h
  generalize As[(k - 1).toNat]=a at h c;cases a with
  | plain z=>cases h
  | same u v =>
   cases h;exact D.am _ _ c
 ·cases h
def fe (n:Nat)(f g:Int→Int):Prop:=∀t u,JkI t→JkI u→(f t=f u↔g t=g u)
def fe.dec (h:fe n f g){t u:Int}(b:JkI t)(a:JkI u):decide (f t=f u)=decide (g t=g u):=decide_eq_decide.mpr (h t u b a)
def Bv {d c:Type}{xs:List d}{ys:List c}{p:d × c}(h:p∈xs.zip ys):p.1∈xs∧p.2∈ys:=List.of_mem_zip h
def qZ {T:List Tm}{As:List At}(D:Jjp T){f g:Int→Int}(h:fe T.length f g){a b:Int}(n:Vq a)(l:Vq b):e_ f T a b=e_ g T a b:=by
 unfold e_;congr 2;have d:∀(zs:List (Int × Int)),(∀p∈zs,Vq p.1∧Vq p.2)→(zs.all λc=>decide (f c.1=f c.2))=zs.all λc=>decide (g c.1=g c.2):=λzs=>by
  induction zs with
  | nil=>intro _;rfl
  | cons z zs k =>
   intro hz;rw[List.all_cons,List.all_cons,k λp e=>hz p (Xd e),h.dec (hz z (by simp)).1 (hz z (by simp)).2]
 refine d _ λp e=>?_;obtain⟨j,i⟩:=Bv e;exact⟨D.tm _ (jW n).2 _ j,D.tm _ (jW l).2 _ i⟩
def Bx:rtm f a b t=rtm f a b u↔f t=f u∨(f t=f a∧f u=f b)∨(f t=f b∧f u=f a):=by
 unfold rtm;lia
def By (h:fe n f g){a b:Int}(i:JkI a)(e:JkI b):fe n (mrg f a b) (rtm g a b):=λt u d c=>by rw[nC,Bx,h t u d c,h t a d i,h u b c e,h t b d e,h u a c i]
def q_ {H:Hp}{T:List Tm}{xs:List V}{i:Nat}{x:V}(h:Jkr dT)(e:xs[i]?=some x):∃t q r,T[i]?=some t∧Jed q∧X9 q (JgY t.1 r)∧SqT K H r (t.2.map V.int):=by
 obtain⟨d,a,c⟩:=h.get e;rw[List.getElem?_map]at a;cases q:T[i]? with
 | none=>rw[q]at a;cases a
 | some t =>
  rw[q]at a;cases a;simp only[dT,Has,aj]at c;obtain⟨p,ys,rfl,f,j,l,rfl,rfl,g,k,rfl,⟨r,zs,rfl,b,hz⟩,rfl⟩:=c;rw[jb hz]at b;exact⟨t,p,r,rfl,rfl,f,b⟩
def rg {H:Hp}{As:List At}{xs:List V}{i:Nat}{x:V}(h:Jdf (As.map dA))(e:xs[i]?=some x):∃a,As[i]?=some a∧Has K H (dA a) x:=by
 obtain⟨d,b,c⟩:=h.get e;rw[List.getElem?_map]at b;cases q:As[i]? with
 | none=>rw[q]at b;cases b
 | some t =>
  rw[q]at b;cases b;exact Vg t c
def Bz {H:Hp}{Rs:List (List Int)}{xs:List V}{i:Nat}{x:V}(h:Jdg dR)(e:xs[i]?=some x):∃r q,Rs[i]?=some r∧Jed q∧SqT K H q (r.map V.int):=by
 obtain⟨d,b,c⟩:=h.get e;rw[List.getElem?_map]at b;cases q:Rs[i]? with
 | none=>rw[q]at b;cases b
 | some t =>
  rw[q]at b;cases b;simp only[dR,Has]at c;obtain⟨a,xs,rfl,hs,f⟩:=c;rw[jb f]at hs;exact Jr t a rfl hs
def ri (h:J9 K (dA (.plain z)) x):∃q,Jed q∧SqT K H q (JiF z):=by unfold dA at h;simp only[Has,aj]at h;obtain⟨a,xs,rfl,hs,v,r,rfl,rfl,b,c,rfl,rfl,rfl⟩:=h;exact Vg a hs
def rj (h:J9 K (dA (.same a b)) x):∃q,Jed q∧SqT K H q (Jet a b):=by unfold dA at h;simp only[Has,aj]at h;obtain⟨q,xs,rfl,hs,v,r,rfl,rfl,d,f,rfl,rfl,c,e,rfl,rfl,rfl⟩:=h;exact Vg q hs
def jX (h0:0≤i)(b:i < (xs.length:Int)):∃x,xs[i.toNat]?=some x∧atI xs i=some x:=by
 have a:JdO i.toNat:=by lia
 have e:i=(i.toNat:Int):=by lia
 have q:=aJ (gG a);rw[←e]at q;exact Jlc (gG a) q
def SmQ (K:W.Frag)(As:List At)(k:Int)(H:Hp)(Q:VK):Prop:=(Qn (JY k)→∀H',Xj H→Jb7 H')∧∀x y,JaL k (x,y)→∀H' a,Xj H→Vv H' a (JO x y)→Jbq a
inductive jY (K)(C):Sp|m{vs H Q E9} (p tl al rl) (T) (As) (Rs) (k):vs=JbQ p k→Jlb rl→SmQ K As k H Q→jY K C vs H Q E9
def wD:Xn ["problem","number","atom"] (VY "number") nP:=fsc
def BB (F:X4 "sameness" "sameness" nP)(T:Jb4 C):Jea (VY "number") (jY K C):=by
 refine F.ok wD (λvs H Q E h=>?_) (λcdv A outer s H vs Q E R h=>?_)
 ·obtain⟨p,G,n,I,N,As,Rs,k,rfl,_⟩:=h;rfl
 obtain⟨p,G,n,I,N,As,Rs,k,rfl,S,g,q1⟩:=h;obtain⟨⟨dx,o⟩,_,⟨ys,r,t⟩,_⟩:=id S;have O:Jfl As.length:=by rw[←t.length,lM]
 refine VP (Jeq (ah (Ji2 (JaS iV 1 ae) (JaS eC 1 (Jct 0))) (Qj eL)
   aZ) (Xm (i:=2) wD.nd (ar a_ (Vl 0) (Q_ hC 1))) (iu (ax ck (QA 2) bZ) (ky tZ (pv 2) (kx ae) ku) eL))
 try dsimp only [Cx.nox,Cx.wish,ag]
 refine JjJ _ rfl _ _ rfl _ rfl (aQ (λc=>b_ ?_) (λc=>⟨_,rfl,_,rfl,p,C,dx,_,_,rfl,o,T.cl,T.nA,fc _ _ _,n,ys,rfl,Qg r,_,_,rfl,rfl,_,rfl,aQ (λl=>?_) (λl=>?_)⟩))
 ·have M:=oDq c;exact g (by unfold smF;rw[if_neg (by lia)]) H (ao.refl H)
 ·exact g (by unfold smF;rw[if_neg (by lia)]) H (ao.refl H)
 ·obtain⟨a,L,U,v⟩:=qX (As:=As) (k:=k) (by lia) (by lia);obtain⟨x,D,B⟩:=jX (xs:=ys) (i:=k - 1) (by lia) (by lia);obtain⟨Y,u,d⟩:=rg t D;rw[L]at u;cases u;refine⟨_,rfl,p,C,dx,_,_,rfl,o,T.cl,T.nA,fc _ _ _,_,rfl,_,_,rfl,rfl,n,_,_,_,rfl,rfl,SqL.of r,B,?_⟩;cases a with
  | plain z =>
   obtain⟨q,rfl,e⟩:=ri d;refine⟨_,rfl,q,_,_,_,rfl,rfl,e,aJ rfl,rfl,_,rfl,aQ (λc=>?_) (λc=>?_)⟩
   ·exact absurd (oDq c) (by decide +kernel)
   ·exact g v H (ao.refl H)
  | same x y =>
   obtain⟨q,rfl,e⟩:=rj d;refine⟨_,rfl,q,_,_,_,rfl,rfl,e,aJ rfl,rfl,_,rfl,aQ (λc=>?_) (λc=>?_)⟩
   ·refine⟨_,rfl,_,rfl,q,_,rfl,e,(by show ¬(1=0∧_);lia),λb J=>?_⟩;exact q1 x y v _ b (QL J) (SqT.of af)
   ·exact Jke (dTq rfl)
def iD (k):∀ps:List Int,inV (.int k) (ps.map V.int)=decide (k∈ps)
 | []=>by rfl
 | p :: ps=>by
  have a:=iD k ps;unfold inV at a ⊢;rw[List.map_cons,List.any_cons,a];by_cases h:k=p
  ·subst h;simp [eqV]
  ·have:¬p=k:=λz=>h z.symm;simp [eqV,h,this]
def wF:∀ps:List Int,(ps.map V.int).all gh=true
 | []=>rfl
 | p :: ps=>by rw[List.map_cons,List.all_cons,wF ps];rfl
def SeqJ (J:It)(ps:List Int)(H:Hp):Prop:=∃b:Hp→Prop,Wk J ps.length b∧(∀H',Xj H→b H')∧∀i H' x a,Xj H→JgQ H' x a→a=H'∧∃k,ps[i]?=some k∧Jhz x k
def BI (b:JdK a):SeqJ (Itl K a) ps H:=by
 refine Jkw (λH'=>Xt H' a (ps.map V.int)) ?_ (λH' s=>s.seq b)
 ·have:=cH (K:=K) (a:=a) (xs:=ps.map V.int);rw[lM]at this;exact this
 ·rintro i H' x d s ⟨rfl,c⟩;exact Jbe (cM (c _ (s.seq b)))
def BM (b:JdL a):SeqJ (Itt K a) ps H:=by
 refine Jkw (λH'=>Vv H' a (ps.map V.int)) ?_ (λH' s=>s.tup b)
 ·have:=fz (K:=K) (a:=a) (xs:=ps.map V.int);rw[lM]at this;exact this
 ·rintro i H' x d s ⟨rfl,c⟩;exact Jbe (cM (c _ (s.tup b)))
def iSeqI (K:W.Frag)(d:TE):L2.TI:=λc H R=>d c H λx b=>∃a ps,Jed a∧SqI K b a ps∧∀J,SeqJ J ps b→R J b
def rk (y:QG l tl):PI X tg l (iSeqI X.K tl):=by
 intro d s r H R I h;refine thn (y d s r H _ I h) λv c ⟨x,k,i,u,q1⟩=>?_;obtain⟨a,ps,rfl,g,q⟩:=q1;cases u;have n:∀b∈[c.heap.objs.size],de X d k b:=λb z=>by
  have e:b=c.heap.objs.size:=by simpa using z
  subst e;exact i.fpOk (nRq _) (i.hok.fresh (nRq _))
 rcases g with g | g
 ·obtain⟨j,t,p,hz⟩:=i.list g;refine Jax p.isList;exact⟨c.heap.objs.size,[c.heap.objs.size],_,_,k,rfl,i.kept (t':=c.toks) λb o e=>XX e,sY a _,Ji0 (Heap.get?_push_size _ rfl),n,q _ (BI g)⟩
 ·obtain⟨j,t,p,hz⟩:=i.tuple g;refine Jf5 (show c.heap.IsTuple a j.toArray from p);exact⟨c.heap.objs.size,[c.heap.objs.size],_,_,k,rfl,i.kept (t':=c.toks) λb o e=>XX e,sZ a _,Ji0 (Heap.get?_push_size _ rfl),n,q _ (BM g)⟩
noncomputable def rf (rs:List Int)(t:Int):Int:=rs.getD t.toNat 0
def eA {rs:List Int}{t:Int}(h:Jdt t):atI (rs.map V.int) t=some (.int (Jfv t)):=by
 obtain⟨h0,a⟩:=h;have e:t=(t.toNat:Int):=by lia
 have:rs[t.toNat]?=some (Jfv t):=by unfold rf;rw[List.getD_eq_getElem?_getD,gG (by lia)];rfl
 have q:=uG this;rw[←e]at q;exact q
noncomputable def ip (rs:List Int)(a b:Int):List Int:=rs.map λh=>if h=Jfv a then Jfv b else h
def BN (rs)(a b):(ip rs a b).length=rs.length:=by unfold ip;rw[lM]
def wG (h:Jdt t):rf (ip rs a b) t=rtm (rf rs) a b t:=by
 obtain⟨h0,c⟩:=h;have:rs[t.toNat]?=some (Jfv t):=by unfold rf;rw[List.getD_eq_getElem?_getD,gG (by lia)];rfl
 show(ip rs a b).getD t.toNat 0=_;unfold ip;rw[List.getD_eq_getElem?_getD,List.getElem?_map,this];rfl
inductive rn (K):Sp|m{vs H Q E9} (r) (rs) (a b):vs=Jer r a b→JX r (rs.map V.int)→Jdt a→Jdt b→rs.length≤1000→(∀H' l,Xj H→Vn l→Vx l ((ip rs a b).map V.int)→Jbq l)→rn K vs H Q E9
def BQ:Xn ["_law_roots","_law_one","_law_other"] ["_law_roots","_law_one","_law_other"] oe:=fsc
def BR (F:X4 "_law_merged" "_law_merged" oe):Jea ["_law_roots","_law_one","_law_other"] (rn K):=by
 refine F.ok BQ (λvs H Q E h=>?_) (λcdv A outer s H vs Q E J h=>?_)
 ·obtain⟨r,rs,a,b,rfl,_⟩:=h;rfl
 obtain⟨r,rs,a,b,rfl,o,I,G,d,q⟩:=h;refine VP (Qj (Js (N':=["_law_head","_law_roots","_law_other","_law_one"]) (ix:=[0,2,1]) rfl rfl rfl (λy=>Jc0 (sc:=ap oe) y) rfl rfl (λj i h=>match j,h with | 0,h=>by cases h;exact Jbz _ | 1,h=>by cases h;exact Jbz _ | 2,h=>by cases h;exact Jbz _ | n+3,h=>by simp at h) (Jd7 0) (λ_ _ _ _=>(iu (JaS ck 0 (JbS (r:=gJ K) a_ 1 (pv 3))) (JbS (r:=gJ K) a_ 1 (pv 2)) (pv 0)))))
 try dsimp only [Cx.nox,Cx.wish,ag]
 refine Jc_ _ r _ o (λD p=>JhJ cH (λi us H'=>Xj H∧us=(((rs.take i).map λh=>if h=Jfv a then Jfv b else h)).map V.int) (λi us H' ⟨g,_⟩=>g.seq o) p ?_ ?_)
 ·rintro i us L z x v l e ⟨g,rfl⟩ ⟨rfl,B⟩;obtain⟨k,u,rfl⟩:=cM (B _ (g.seq o));refine⟨_,rfl,_,rfl,_,rfl,r,_,_,_,rfl,rfl,g.seq o,eA I,rfl,_,rfl,aQ (λc=>?_) (λc=>?_)⟩
  ·have t:k=rf rs a:=by have:=oDq c;injection this
   refine JdB _ _ rfl r _ _ _ (g.seq o) (eA G) (Jf2 _ (by rw[lM];exact d) v l e (g.upd p));rw[bb u,mAq,mAq];simp only[List.map_cons,List.map_nil,if_pos t]
  ·have t:¬k=rf rs a:=λz=>c (by rw[z];exact dTq rfl);refine V2 (Jf2 _ (by rw[lM];exact d) v l e (g.upd p));rw[bb u,mAq,mAq];simp only[List.map_cons,List.map_nil,if_neg t]
 rintro us x e ⟨g,rfl⟩;rw[lM,Jbu _]at e;exact q x D g p e
def BU (xs ys:List Int):c_ (xs.map Dt.int) (ys.map Dt.int)=decide (xs=ys):=by
 by_cases h:xs=ys
 ·subst h;rw[dTq rfl];exact mM _
 ·rw[dFq h,Bool.eq_false_iff];intro z;have:=mU _ _ (om xs) (om ys) z;exact h (List.map_inj_right (λa b e=>by injection e) |>.mp this)
def oy (g:Int→Int):∀(xs ys:List Int),Q8 ys.length→decide (xs.map g=ys.map g)=(xs.zip ys).all λa=>decide (g a.1=g a.2)
 | [],[],_=>rfl
 | [],_ :: _,h=>by cases h
 | _ :: _,[],h=>by cases h
 | x :: xs,y :: ys,h=>by
  have b:=oy g xs ys (by simpa using h);rw[List.zip_cons_cons,List.all_cons,←b];by_cases c:g x=g y
  ·by_cases d:xs.map g=ys.map g
   ·simp [c,d]
   ·simp [c,d]
  ·simp [c]
inductive rq (K):Sp|m{vs H Q E9} (tl r) (xs) (T) (rs) (a b):vs=[.ref tl,.ref r,.int a,.int b]→Ja6 tl→Jkr dT→(∀t∈T,∀q∈t.2,Vq q)→(∀t∈T,t.2.length≤1000)→JX r (rs.map V.int)→JiQ T.length→Vq a→Vq b→(∀H',Xj H→XR (e_ (rf rs) T a b) H')→rq K vs H Q E9
def rr:Xn ["_law_terms","_law_roots","_law_one","_law_other","_law_first","_law_second"] ["_law_terms","_law_roots","_law_one","_law_other"] lK:=fsc
def BV (F:X4 "_law_alike" "_law_alike" lK)(T:Jb4 C):Jea ["_law_terms","_law_roots","_law_one","_law_other"] (rq K):=by
 refine F.ok rr (λvs H Q E h=>?_) (λcdv A outer s H vs Q E hr h=>?_)
 ·obtain⟨O,r,xs,N,rs,a,b,rfl,_⟩:=h;rfl
 obtain⟨O,r,xs,N,rs,a,b,rfl,ht,hT,dm,g,hR,rl,S,R,q⟩:=h;have hu:=jn hr;have xl:Q8 N.length:=by rw[←hT.length,lM]
 refine VP (JeU (i:=4) rr.nd (Ji3 0 2) (i:=5) rr.nd (Ji3 0 3) (Jg2 (ah (Ji2 (ax gf (QA 4) (QA 5)) (ax gf (Jcs (Jhq 4)) (Jcs (Jhq 5)))) (Qj dk)
   aZ) (iw (pF hu) (Js (N':=["_law_part","_law_roots"]) (ix:=[1]) rfl rfl rfl (λX=>Jc0 (sc:=ap lK) X) rfl rfl (λj i h=>match j,h with | 0,h=>by cases h;exact Jbz _ | n+1,h=>by simp at h) (gc (QA 4)) (λ_ _ _ _=>(JbS (r:=gJ K) a_ 1 (pv 0)))) (Js (N':=["_law_part","_law_roots"]) (ix:=[1]) rfl rfl rfl (λX=>Jc0 (sc:=ap lK) X) rfl rfl (λj i h=>match j,h with | 0,h=>by cases h;exact Jbz _ | n+1,h=>by simp at h) (gc (QA 5)) (λ_ _ _ _=>(JbS (r:=gJ K) a_ 1 (pv 0)))) rfl)))
 try dsimp only [Cx.nox,Cx.wish,ag]
 obtain⟨x,x1,x2⟩:=jX S.1 (by rw[xl];exact S.2);obtain⟨y,y1,y2⟩:=jX R.1 (by rw[xl];exact R.2);obtain⟨t,W,ra,ta,rfl,ha,o⟩:=q_ hT x1;obtain⟨u,U,rb,ua,rfl,hb,l⟩:=q_ hT y1;have et:tG N a=t:=by have:=(jW S).1;rw[ta]at this;cases this;rfl
 have eu:tG N b=u:=by have:=(jW R).1;rw[ua]at this;cases this;rfl
 have tm:=mO ta;have um:=mO ua;unfold e_ at q;rw[et,eu]at q;refine JdB _ _ rfl O _ _ _ ht x2 ?_;refine JdB _ _ rfl O _ _ _ ht y2 ?_;have a0:∀z r,atI [V.str z,V.ref r] 0=some (.str z):=λz r=>aJ rfl;have M:∀z r,atI [V.str z,V.ref r] 1=some (.ref r):=λz r=>aJ rfl;refine⟨_,rfl,W,_,_,_,rfl,rfl,ha,a0 _ _,_,rfl,U,_,_,_,rfl,rfl,hb,a0 _ _,rfl,_,rfl,aQ (λc=>b_ ?_) (λc=>⟨_,rfl,W,_,_,_,rfl,rfl,ha,M _ _,ra,_,rfl,.inr o,_,rfl,U,_,_,_,rfl,rfl,hb,M _ _,rb,_,rfl,.inr l,rfl,_,rfl,aQ (λc2=>?_) (λc2=>?_)⟩)⟩
 ·have:=q H (ao.refl H);rw[dFq (λz:t.1=u.1=>by rw[z]at c;simp at c)]at this;exact this
 ·have:=q H (ao.refl H);rw[dFq (p:=t.2.length=u.2.length) (λz=>by simp [z]at c2)]at this;rw[Bool.false_and,Bool.and_false]at this;exact this
 have n1:t.1=u.1:=by lia
 have n2:t.2.length=u.2.length:=by apply Classical.byContradiction;intro z;exact c2 (by simp;lia)
 rw[dTq n1,dTq n2,Bool.true_and,Bool.true_and,←oy (rf rs) _ _ n2]at q;refine⟨_,rfl,W,_,_,_,rfl,rfl,ha,M _ _,ra,rfl,Jgo o,λD hD=>JhJ fz (λi us H'=>Xj H∧us=((t.2.take i).map (rf rs)).map V.int) (λi us H' ⟨e,_⟩=>e.tup o) hD ?_ ?_⟩
 ·rintro i us H8 z H4 Z I v ⟨e,rfl⟩ ⟨rfl,Y⟩;obtain⟨k,J,rfl⟩:=cM (Y _ (e.tup o));have G:=dm t tm k (mO J);refine JdB _ _ rfl r _ _ _ (e.seq hR) (eA (by rw[rl];exact G)) (Jf2 _ (by rw[lM];exact g t tm) Z I v (e.upd hD));rw[bb J,mAq,mAq];rfl
 rintro us H4 v ⟨e,rfl⟩;rw[lM,Jbu _]at v;refine⟨_,rfl,U,_,_,_,rfl,rfl,e.tup hb,M _ _,rb,rfl,Jgo (e.tup l),λD2 L=>JhJ fz (λi us H'=>Xj H4∧us=((u.2.take i).map (rf rs)).map V.int) (λi us H' ⟨B,_⟩=>B.tup (e.tup l)) L ?_ ?_⟩
 ·rintro i us H8 z H5 Z I d ⟨B,rfl⟩ ⟨rfl,Y⟩;obtain⟨k,J,rfl⟩:=cM (Y _ (B.tup (e.tup l)));have G:=dm u um k (mO J);refine JdB _ _ rfl r _ _ _ (B.seq (e.seq hR)) (eA (by rw[rl];exact G)) (Jf2 _ (by rw[lM];exact g u um) Z I d (B.upd L));rw[bb J,mAq,mAq];rfl
 rintro us H5 d ⟨B,rfl⟩;rw[lM,Jbu _]at d;refine⟨_,_,JfC (B _ _ v) _,JfC d _,(by simp only[dep,jk];decide),?_⟩;show XR (c_ ((t.2.map (rf rs)).map Dt.int) ((u.2.map (rf rs)).map Dt.int)) H5;rw[BU];exact q H5 (e.trans B)
def l0 (a:Lk):Jjo a.1 a.2.1 a.2.2 0=some (.int a.1):=aJ rfl
def l1 (a:Lk):Jjo a.1 a.2.1 a.2.2 1=some (.int a.2.1):=aJ rfl
def l2 (a:Lk):Jjo a.1 a.2.1 a.2.2 2=some (.int a.2.2):=aJ rfl
structure PrD (K)(C)(H)(p tl al rl)(T)(As)(Rs):Prop where
 pr:Jlb rl
 dm:Jjp T
 t3:∀t∈T,t.2.length≤3
 tN:JjO 100
def PrD.same (h:JhG H)(s:Xj H):JhG H':=⟨h.pr.same s,h.dm,h.t3,h.tN⟩
def PIn (m:Nat)(p:Int):Prop:=p≠0∧-(m:Int)≤p∧p≤(m:Int)
noncomputable def gx (n:Nat):List Int:=(List.range n).map λi:Nat=>(i:Int)
def wH (h:JkI t):rf (gx n) t=t:=by obtain⟨h0,a⟩:=h;unfold rf gx;rw[List.getD_eq_getElem?_getD,List.getElem?_map,List.getElem?_range (by lia)];show(t.toNat:Int)=t;lia
def oz (n):(gx n).length=n:=by simp [gx]
def BX {H:Hp}{As:List At}{ys:List V}{k:Int}(d:JQ (As.map dA) ys)(h:Jb9 k):∃x a,Jdl ys ((if k < 0 then -k else k) - 1) x∧a∈As∧J9 K (dA a) x∧As[((k.natAbs:Int) - 1).toNat]?=some a:=by
 obtain⟨p,o,n⟩:=h;have l:Jfl As.length:=by rw[←d.length,lM]
 have b:(if k < 0 then -k else k)=(k.natAbs:Int):=by split <;> lia
 obtain⟨x,j,g⟩:=jX (xs:=ys) (i:=(k.natAbs:Int) - 1) (by lia) (by lia);obtain⟨a,e,c⟩:=rg d j;exact⟨x,a,by rw[b];exact g,mO e,c,e⟩
noncomputable def apF:At→Option (Int × Int)
 | .same x y=>some (x,y)
 | .plain _=>none
def wI (a:Int→Int)(T:List Tm)(As:List At)(ps:List Int):Prop:=(∀k∈ps,k < 0→∀x y,JaL (-k) (x,y)→a x=a y)∧∀i j:Nat,j < i→i < T.length→Qu (e_ a T (i:Int) (j:Int))→a (i:Int)=a (j:Int)
def wJ (b:Int→Int)(T:List Tm)(As:List At)(ps:List Int)(a:Lk):Prop:=LkIn T.length As.length a∧b a.1≠b a.2.1∧((0 < a.2.2∧-a.2.2∈ps∧JaL a.2.2 (a.1,a.2.1))∨(a.2.2=0∧Qu (e_ b T a.1 a.2.1)))
inductive rz (K)(C):Sp|m{vs H Q E9} (p tl al rl q r) (T) (As) (Rs) (ps rs):vs=[.ref p,.ref q,.ref r]→JhG H→SqI K H q ps→(∀k∈ps,Jb9 k)→JX r (rs.map V.int)→JiQ T.length→(wI (rf rs) T As ps→∀H',Xj H→Jb7 H')→(∀H' l lk,Xj H→Vv H' l (Jbt lk.1 lk.2.1 lk.2.2)→wJ (rf rs) T As ps lk→Jbq l)→rz K C vs H Q E9
def lU:Xn ["_law_problem","_law_parts","_law_roots","_law_part","_law_atom","_law_one","_law_other"] (Jj2 "_law_roots") qH:=fsc
def BY (F:X4 "_law_next" "_law_next" qH)(T:Jb4 C)(o:Vo "range")(Z:Vo "abs")(BA:Jif "_law_alike" fA dA' ["_law_terms","_law_roots","_law_one","_law_other"] (rq K)):Jdo 2 (Jj2 "_law_roots") (rz K C):=by
 refine F.ok lU (λvs H Q E h=>?_) (λcdv A outer s H vs Q E hr h=>?_)
 ·obtain⟨p,tl,al,rl,q,r,U,As,Rs,ps,rs,rfl,_⟩:=h;rfl
 obtain⟨p,tl,al,rl,q,r,U,As,Rs,ps,rs,rfl,S,hq,pin,hR,D,q0,q1⟩:=h;refine VP (Jeq (QZ (rk (pv 1)) (i:=3) lU.nd (Jco (i:=4) lU.nd (ar a_ (Vl 0) (Jc8 hC (Jcz mD Z (Vi 3)))) (ak (ah (Ja2 (JaS iV 3 ae) (fg (ax ck (QA 4) bZ) (fx (ax gf (JfU 2 4) (JfU 2 4))))) (Qj (cu (JcI (QA 4) (QA 4) (Jdq 3))))
     aZ)))) (Jgh (Jhi o (Xf (Jcu 2))) (i:=5) lU.nd (Jgh (Jhu o 5) (i:=6) lU.nd (ah (JdH (ax gf (Ji3 2 5) (Ji3 2 6)) (gD (Jlt BA.ok hr BA.m BA.kp BA.b (aa (Vl 0) (Va 2 (Jcn 5 6)))))) (Qj (cu (Va 5 (JdZ 6 ae))))
       aZ))) eL)
 try dsimp only [Cx.nox,Cx.wish,ag]
 obtain⟨⟨dx,ho⟩,⟨ts,ht,hT⟩,⟨ys,ha,hA⟩,_⟩:=id S.pr;have tN:=S.tN;refine⟨_,rfl,q,ps,rfl,hq,λJ ⟨Ok,W,ok,yl'⟩=>Jh2 W (λi u H'=>Ex2 λ Y X=>An3 (u=[Ja p,Ja q,Ja r,Y,X,none,none]) (H'=H) (∀j k,j < i→ps[j]?=some k→k < 0→∀x y,JaL (-k) (x,y)→Jfv x=Jfv y)) (λi u H' h=>by obtain⟨_,_,_,e,_⟩:=h;exact e ▸ ok _ (ao.refl _)) (Jr none none rfl (λj k G=>VB G _))⟩
 ·rintro i u H9 x H3 hi ⟨Y,X,rfl,rfl,M⟩ yy;obtain⟨rfl,k,hk,rfl⟩:=yl' _ _ _ _ (ao.refl _) yy;have pk:=pin k (mO hk);obtain⟨x,a,x2,am,hax,xa⟩:=BX hA pk;have N:(k < 0→∀x y,JaL (-k) (x,y)→Jfv x=Jfv y)→∀j k,j < i+1→ps[j]?=some k→k < 0→∀x y,JaL (-k) (x,y)→Jfv x=rf rs y:=λz j k' G hk'=>by
   by_cases e:j=i
   ·subst e;cases hk.symm.trans hk';exact z
   ·exact M j k' (by lia) hk'
  have sm:k < 0→JY (-k)=apF a:=λc=>by obtain⟨p0,p1,p2⟩:=pk;obtain⟨a',e1,_,e3⟩:=qX (As:=As) (k:=-k) (by lia) (by lia);rw[show(-k - 1).toNat=((k.natAbs:Int) - 1).toNat by lia,xa]at e1;cases e1;exact e3.trans (by cases a <;> rfl)
  refine⟨_,rfl,p,C,dx,_,_,rfl,ho,T.cl,T.nA,fc _ _ _,_,rfl,_,rfl,_,_,rfl,rfl,al,_,_,_,rfl,rfl,SqL.of ha,x2,?_⟩;refine JjJ _ rfl _ _ rfl _ rfl (aQ (λc=>?_) (λc=>bK (Jr _ _ rfl (N λz=>Jke (dTq z)))));have c':=oDq c;cases a with
  | plain z =>
   obtain⟨L,rfl,d⟩:=ri hax;exact⟨_,rfl,L,_,_,_,rfl,rfl,d,aJ rfl,rfl,_,rfl,aQ (λc=>JdW (oDq c)) (λc=>bK (Jr _ _ rfl (N λz x y e=>by rw[sm z]at e;cases e)))⟩
  | same x y =>
   obtain⟨L,rfl,d⟩:=rj hax;obtain⟨in1,in2⟩:=S.dm.am x y am;have i1:=in1;have i2:=in2;rw[←D]at i1 i2;refine⟨_,rfl,L,_,_,_,rfl,rfl,d,aJ rfl,rfl,_,rfl,aQ (λc=>⟨_,rfl,_,rfl,L,_,_,_,rfl,rfl,d,aJ rfl,r,_,_,_,rfl,rfl,hR,eA i1,_,rfl,_,rfl,L,_,_,_,rfl,rfl,d,aJ rfl,r,_,_,_,rfl,rfl,hR,eA i2,rfl,_,rfl,aQ (λR=>?_) (λR=>Jr _ _ rfl (N λz x' y' e=>?_))⟩) (λc=>Jke (dTq rfl))⟩
   rotate_left
   ·rw[sm z]at e;cases e;lia
   refine⟨_,rfl,L,_,_,_,rfl,rfl,d,aJ rfl,_,rfl,L,_,_,_,rfl,rfl,d,aJ rfl,_,rfl,_,rfl,lS3,λl hl=>?_⟩;obtain⟨p0,p1,p2⟩:=pk;rw[kW]at R;exact q1 _ l (x,y,-k) (QL hl) (SqT.of af) ⟨⟨in1,in2,by lia,by lia⟩,(λw=>by have w:=w;rw[dTq w]at R;cases R),.inl ⟨by lia,by rw[Int.neg_neg];exact mO hk,sm c'⟩⟩
 ·rintro u H2 ⟨Y,X,rfl,rfl,M⟩;have g1:∀k∈ps,k < 0→∀x y,JaL (-k) (x,y)→Jfv x=rf rs y:=λk hk=>by obtain⟨j,G⟩:=List.mem_iff_getElem?.mp hk;exact M j k (gEq G).1 G
  refine JlE _ r _ (.inl hR) _ (by lia) (by rw[lM];lia) (fj (λi u H'=>Ex2 λ v5 I=>An3 (u=[Ja p,Ja q,Ja r,Y,X,v5,I]) (Xj H2) (∀a b:Nat,b < a→a < i→Qu (e_ (rf rs) U (a:Int) (b:Int))→Jfv (a:Int)=Jfv (b:Int))) (JC none none (ao.refl _) (λa b _ ha=>VB ha _)) ?_ ?_)
  ·rintro i u H3 hi ⟨v5,I,rfl,s3,g⟩;rw[Int.toNat_natCast,lM]at hi;refine Jc5 _ rfl _ rfl (by show(0:Int)+(i:Nat) < 2 ^ 62;lia) (fj (λj u H'=>∃I,An3 (u=[Ja p,Ja q,Ja r,Y,X,Jb (0+(i:Int)),I]) (Xj H2) (∀b:Nat,b < j→Qu (e_ (rf rs) U (i:Int) (b:Int))→Jfv (i:Int)=Jfv (b:Int))) (Q1 _ s3 (λb hb=>VB hb _)) ?_ ?_)
   ·rintro j u H4 G ⟨I,rfl,B,v⟩;have nb:(Qu (e_ (rf rs) U (0+(i:Int)) (0+(j:Int)))→Jfv (0+(i:Int))=Jfv (0+(j:Int)))→∀b:Nat,b < j+1→Qu (e_ (rf rs) U (i:Int) (b:Int))→Jfv (i:Int)=rf rs (b:Int):=λz b hb=>by
     rw[Int.zero_add,Int.zero_add]at z;by_cases e:b=j
     ·subst e;exact z
     ·exact v b (by lia)
    have ii:Jdt (0+(i:Int)):=X0 (by lia);have jj:Jdt (0+(j:Int)):=X0 (by lia);have O:=B.seq hR;refine⟨_,rfl,_,rfl,r,_,_,_,rfl,rfl,O,eA ii,_,rfl,_,rfl,r,_,_,_,rfl,rfl,O,eA jj,rfl,_,rfl,aQ (λc=>?_) (λc=>bK (Q1 _ B (nb λ_=>by lia)))⟩;rw[D]at ii jj;refine⟨_,rfl,p,C,dx,_,_,rfl,B _ _ ho,T.cl,T.nT,fb _ _ _,_,rfl,_,rfl,_,rfl,tl,r,ts,U,rs,_,_,rfl,SqL.of (B _ _ ht),hT.keep B.kt (ik _),S.dm.tm,(λt ht=>Jq (S.t3 t ht)),O,D,ii,jj,λH5 s5=>V2 (aQ (λc2=>?_) (λc2=>Q1 _ (B.trans s5) (nb λz=>Jd5 c2)))⟩;refine JbA _ _ lS3 (λl hl=>?_);exact q1 _ l (0+(i:Int),0+(j:Int),0) ((B.trans s5).trans (QL hl)) (SqT.of af) ⟨⟨ii,jj,by show(0:Int)≤0;lia,by show(0:Int)≤_;lia⟩,(λw=>by lia),Jx rfl c2⟩
   ·rintro u H4 ⟨I,rfl,B,v⟩;refine JC _ _ B (λa b hb ha=>?_);by_cases e:a=i
    ·subst e;exact v b (by lia)
    ·exact g a b hb (by lia)
  ·rintro u H3 ⟨v5,I,rfl,s3,g⟩;rw[Int.toNat_natCast,lM,D]at g;exact q0 ⟨g1,λi j G hi=>g i j G hi⟩ H3 s3
def InR.mono (h:JkI x)(l:n≤m):InR m x:=⟨h.1,by have:=h.2;lia⟩
def Dom.snocT (D:Jjp T){z:Str}{ps:List Int}(h:∀i∈ps,Vq i):Jjp (T++[(z,ps)]):=by
 have l:T.length≤(T++[(z,ps)]).length:=by rw[lAq];lia
 refine⟨λt c q a=>?_,λx y b=>⟨(D.am x y b).1.mono l,(D.am x y b).2.mono l⟩⟩;rcases mPq c with h' | h'
 ·exact(D.tm t h' q a).mono l
 ·rw[mSq h']at a;exact(h q a).mono l
def Dom.snocA (D:Jjp T){a:At}(h:∀x y,a=.same x y→Vq x∧Vq y):Dom T (As++[a]):=by
 refine⟨D.tm,λx y b=>?_⟩;rcases mPq b with h' | h'
 ·exact D.am x y h'
 ·exact h x y (mSq h').symm
def dom0:Dom [] []:=⟨λ_ h=>(nomatch h),λ_ _ h=>(nomatch h)⟩
def oA (S:JhG H)(l:JdL q)(hz:Qu (gR z))(b:JjI 1000)(e:Jbp 3)(c:∀i∈ps,Vq i)(n:T.length < 60)
  (out:∀H' a k,Jht H' (T++a)→Jhk H tl→a.length≤1→k < (T++a).length→((z,ps)∉T→a=[(z,ps)])→JjX (k:Nat)):lP K C [.ref p,.str z,.ref q] H Q E:=by
 refine⟨p,tl,al,rl,q,T,As,Rs,z,ps,rfl,S.pr,l,b,hz,e,c,n,λH' a k g f m kl=>?_⟩;have d:Jjp (T++a)∧∀t∈T++a,t.2.length≤3:=by
  rcases m with ⟨rfl,_⟩ | rfl
  ·rw[List.append_nil];exact⟨S.dm,S.t3⟩
  ·exact⟨S.dm.snocT c,λt j=>(mPq j).elim (S.t3 t) λh'=>by rw[mSq h'];exact e⟩
 have ml:a.length≤1:=by rcases m with ⟨rfl,_⟩ | rfl <;> simp
 exact out H' a k ⟨g,d.1,d.2,by rw[lAq];lia⟩ f ml kl λh=>m.resolve_left λz=>h z.2
def PrD.more {H H':Hp}{p b e c:Addr}{T:List Tm}{As a:List At}{Rs:List (List Int)}{t:At}(S:Jgz K C H p b e c T)(d:JiO K C H' p b e c T (As++a))(h:∀x y,t=.same x y→Vq x∧Vq y)(m:a=[]∧Jlo 1∨a=[t]):PrD K C H' p b e c T (As++a) Rs∧a.length≤1∧1≤(As++a).length:=by
 rcases m with ⟨rfl,f⟩ | rfl
 ·rw[List.append_nil]at d ⊢;exact⟨⟨d,S.dm,S.t3,S.tN⟩,Nat.zero_le _,f⟩
 ·exact⟨⟨d,S.dm.snocA h,S.t3,S.tN⟩,nRq _,by rw[lAq];exact Nat.le_add_left _ _⟩
def oB {H:Hp}{p e d c:Addr}{T:List Tm}{As:List At}{Rs:List (List Int)}{z:Str}{Q:VK}{E:XK}(S:Jgz K C H p e d c T)(hz:Qu (gR z))(b:JjI 1000)(i:JjN 40)
  (out:∀H' a k,PrD K C H' p e d c T (As++a) Rs→Jks d c→a.length≤1→1≤(As++a).length→JjX (k:Nat)):lO K C (JbO p (.str z)) H Q E :=
 ⟨p,e,d,c,T,As,Rs,z,rfl,S.pr,b,hz,i,λH' a k g f m=>let h:=S.more (t:=.plain z) g (λx y h=>nomatch h) m;out H' a k h.1 f h.2.1 h.2.2⟩
def oC {H:Hp}{p g e d:Addr}{T:List Tm}{As:List At}{Rs:List (List Int)}{a b:Int}{Q:VK}{E:XK}(S:Jgz K C H p g e d T)(j:Vq a)(i:Vq b)(n:JjN 40)
  (out:∀H' c k,PrD K C H' p g e d T (As++c) Rs→Jks e d→c.length≤1→1≤(As++c).length→JjX (k:Nat)):ou K C (Jer p a b) H Q E :=
 ⟨p,g,e,d,T,As,Rs,a,b,rfl,S.pr,j,i,n,λH' c k l f m=>let h:=S.more l (λx y h=>by cases h;exact⟨j,i⟩) m;out H' c k h.1 f h.2.1 h.2.2⟩
def Fr1.after (f:Jhk H1 z)(s:JhU H1):Jhk H z:=λb o e n=>f b o (s b o e) n
def Fr1.fresh (f:Jhk H1 z)(s:JhU H1)(h:Vn z):Xj H:=λb o e=>f b o (s b o e) (bX e h)
def Fr2.fresh (f:JeF H1 z y)(s:JhU H1)(h:Vn z)(h':Vn y):Xj H:=λb o e=>f b o (s b o e) (bX e h) (bX e h')
def madeD (p:Vn x)(d:Vn dx)(c:dx≠x)(s:(JkZ x) tl=none)(r:(JkZ x) al=none)
  (q:(JkZ x) rl=none)(i:al≠tl)(g:rl≠tl)(f:rl≠al)(n:Xa (H1 x) (JH (eK tl al rl)))(k2:Qb (H1 tl) [])(l:Qb (H1 al) [])(k:Qb (H1 rl) [])
  (j:∀b o,(JkZ x) b=some o→b≠x→Xa (H1 b) o):PrD K C H1 x tl al rl [] [] []∧JhU H1∧Vn tl∧Vn al∧Vn rl:=by obtain⟨a,e,t,v,u⟩:=made p d c s r q i g f n k2 l k j;exact⟨⟨a,dom0,λ_ h=>(nomatch h),by decide⟩,e,t,v,u⟩
inductive jZ (K):Sp|m{vs H Q E9} (a) (ns:List Int) (k):vs=JbQ a k→Jir a→Jfh 1000→0≤k→k≤1000→(∀i:Int,VI i H)→jZ K vs H Q E9
abbrev wK:Stmt:=sCell
def BZ:Xn (JaZ "_law_k") (JaZ "_law_k") wK:=fsc
def B0 (F:X4 "_law_cell_at" "_law_cell_at" wK)(T:Jb4 C):Jea (JaZ "_law_k") (jZ K):=by
 refine F.ok BZ (λvs H Q E h=>?_) (λcdv A outer s H vs Q E n h=>?_)
 ·obtain⟨a,ns,k,rfl,_⟩:=h;rfl
 obtain⟨a,ns,k,rfl,b,d,l,j,q⟩:=h;refine VP (Jg2 (ah (Jfg (Jcu 0)) (Jbm 1)
   aZ) (aw cD (JfT 0 (Xs bx 1 (Jcu 0))) (aw iU ae (Xs cF 1 (Jcu 0)))))
 try dsimp only [Cx.nox,Cx.wish,ag]
 refine⟨_,rfl,a,_,rfl,.inl b,rfl,_,rfl,aQ (λc=>V2 (q k)) (λc=>?_)⟩;have e:0 < (((ns.map V.int).length:Nat):Int):=by have:¬(((ns.map V.int).length:Nat):Int)=0:=λz=>c (by rw[z];exact dTq rfl);lia
 have m:=cS k e;have g:Jh7 (((ns.map V.int).length:Nat):Int):=by rw[lM];lia
 have i:InR ns.length (k % (((ns.map V.int).length:Nat):Int)):=by rw[lM]at m ⊢;exact m
 refine⟨_,rfl,_,rfl,_,rfl,a,_,rfl,.inl b,_,_,rfl,rfl,e,a,_,_,_,rfl,rfl,b,eA i,_,rfl,_,rfl,a,_,rfl,.inl b,_,_,rfl,rfl,⟨e,g⟩,_,_,rfl,rfl,.inl (Vk (by decide)),_,_,rfl,rfl,q _⟩
def lV (z:Str):Prop:=Qu (gR z)∧JjI 1000
noncomputable def nm4 (r:Int):Str:=if r=0 then "a" else if r=1 then "b" else if r=2 then "abc" else "abd"
def wL (h0:0≤i)(a:i < 4):Jdl [V.str "a",V.str "b",V.str "abc",V.str "abd"] i (.str (nm4 i))∧lV (nm4 i):=by
 have:i=0∨i=1∨i=2∨i=3:=by lia
 rcases this with rfl | rfl | rfl | rfl <;> exact⟨rfl,by decide +kernel,by decide +kernel⟩
def B1 (h0:0≤i)(g:i < 4)(d:0≤j)(c:j < 4)(e:nm4 i=nm4 j):i=j:=by
 have b:i=0∨i=1∨i=2∨i=3:=by lia
 have a:j=0∨j=1∨j=2∨j=3:=by lia
 rcases b with rfl | rfl | rfl | rfl <;> rcases a with rfl | rfl | rfl | rfl <;> first | rfl | exact JdW e
def ff_at (h0:0≤i)(a:i < 4):∃z,Jdl [V.str "f",V.str "f",V.str "ffa",V.str "ffb"] i (.str z)∧lV z:=by
 have:i=0∨i=1∨i=2∨i=3:=by lia
 rcases this with rfl | rfl | rfl | rfl <;> exact JgE _
def f2_at (h0:0≤i)(a:i < 2):∃z,Jdl [V.str "f",V.str "ffa"] i (.str z)∧lV z:=by
 have:i=0∨i=1:=by lia
 rcases this with rfl | rfl <;> exact JgE _
def pq_at (h0:0≤i)(a:i < 3):∃z,Jdl [V.str "p",V.str "q",V.str "a"] i (.str z)∧lV z:=by
 have:i=0∨i=1∨i=2:=by lia
 rcases this with rfl | rfl | rfl <;> exact JgE _
def B2 (h0:0≤i)(a:i < 5):∃n:Int,Jdl [V.int 1,V.int 1,V.int 1,V.int 2,V.int 3] i (.int n)∧(n=1∨n=2∨n=3):=by
 have:i=0∨i=1∨i=2∨i=3∨i=4:=by lia
 rcases this with rfl | rfl | rfl | rfl | rfl <;> exact V2 (by decide)
inductive rA (K)(C):Sp|m{vs H Q E9} (p tl al rl) (T) (As) (Rs) (c):vs=JbQ p c→JhG H→T.length < 60→(∀H' more k,Jht H' (T++more)→Jhk H tl→more.length≤1→1≤(T++more).length→JjX (k:Nat))→rA K C vs H Q E9
def oD:Xn ["_law_problem","_law_cell","_law_many","_law_rest","_law_parts"] (JJ "_law_cell") qC:=fsc
def B3 (F:X4 "_law_term_by" "_law_term_by" qC)(T:Jb4 C)(G:Own P w K mg base C fI fA fQ fS dI dA' dQ dS):Jdo 5 (JJ "_law_cell") (rA K C):=by
 refine F.ok oD (λvs H Q E h=>?_) (λcdv A outer s H vs Q E hr h=>?_)
 ·obtain⟨p,tl,al,rl,j,As,Rs,c,rfl,_⟩:=h;rfl
 obtain⟨p,tl,al,rl,j,As,Rs,c,rfl,S,I,q⟩:=h;refine VP (Jco (i:=2) oD.nd (Jct 0) (Vd (ah (Ji2 (JaS iV 2 ae) (JiD bx 1)) (Qj (Jbs 0 G.mA G.A hr G.bA (Xv (Jjy (aa bZ (JcI bZ bZ bZ)) 1) (cu ac))))
   aZ) (Xm (i:=3) oD.nd (Jg4 1)) (Jco (i:=4) oD.nd (cu (JcI (Xs bx 3 (pv 2)) (Jgt bx (Xs cF 3 (pv 2)) 2) (Jgt bx (Jgt cF (Xs cF 3 (pv 2)) 2) 2))) (Qj (Jbs 0 G.mA G.A hr G.bA (Xv (Jjy (aa bZ (JcI bZ bZ bZ)) 1) (ky u_ (pv 4) ku (kx (Jjy (aa ae (aa ae (JcI ae ae ae))) 1)))))))))
 try dsimp only [Cx.nox,Cx.wish,ag]
 obtain⟨⟨dx,ho⟩,⟨ts,ht,hT⟩,_⟩:=id S.pr;have D:ts.length=j.length:=by rw[←hT.length,lM]
 have W:=cS (c / 5) (show(0:Int) < 4 by decide);have b5:=cS (c / 20) (show(0:Int) < 5 by decide);refine⟨_,rfl,p,C,dx,_,_,rfl,ho,T.cl,T.nT,fb _ _ _,tl,_,rfl,Qg ht,?_⟩;refine JjJ _ rfl _ _ rfl _ rfl (aQ (λc1=>b_ ?_) (λc1=>JlE _ _ _ rfl (by show(0:Int) < 5;decide) _ rfl (aQ (λc2=>?_) (λc2=>?_))))
 rotate_left 2
 ·have g:0 < (ts.length:Int):=by lia
  have x:Jh7 (ts.length:Int):=by lia
  have t:=cS (c / 100) g;have R:=cS (c / 100 / (ts.length:Int)) g;have m3:=cS (c / 100 / (ts.length:Int) / (ts.length:Int)) g;rw[D]at t R m3;obtain⟨z,hz,g1,g2⟩:=ff_at W.1 W.2;obtain⟨n,hn,n3⟩:=B2 b5.1 b5.2;refine⟨_,rfl,_,_,rfl,rfl,Vk (by decide),?_⟩;refine⟨_,rfl,_,rfl,_,_,rfl,rfl,g,_,rfl,_,rfl,_,_,rfl,rfl,⟨g,x⟩,_,rfl,_,_,rfl,rfl,g,_,rfl,_,rfl,_,_,rfl,rfl,⟨g,x⟩,_,rfl,_,_,rfl,rfl,⟨g,x⟩,_,rfl,_,_,rfl,rfl,g,lS3,λb hb=>?_⟩;rw[D];have u:=aq hb (.tup (Jbt (c / 100 % (j.length:Int)) (c / 100 / (j.length:Int) % (j.length:Int)) (c / 100 / (j.length:Int) / (j.length:Int) % (j.length:Int))));have v:=af (H:=H) (a:=b) (o:=.tup (Jbt (c / 100 % (j.length:Int)) (c / 100 / (j.length:Int) % (j.length:Int)) (c / 100 / (j.length:Int) / (j.length:Int) % (j.length:Int))));generalize c / 100 % (j.length:Int)=N at t u v ⊢;generalize c / 100 / (j.length:Int) % (j.length:Int)=Y at R u v ⊢;generalize c / 100 / (j.length:Int) / (j.length:Int) % (j.length:Int)=x3 at m3 u v ⊢;generalize Vh H b (Jbt N Y x3)=H1 at u v ⊢;refine⟨_,rfl,p,dx,_,rfl,u _ _ ho,ov _ _ _,lS4,λl hl=>?_⟩;obtain⟨H2,M,J,n2⟩:=QB hl [V.str "f",V.str "f",V.str "ffa",V.str "ffb"];rw[M];have O:=u.trans J;have k2:=J _ _ v;refine⟨_,rfl,_,_,rfl,rfl,Vk (by decide),_,_,rfl,rfl,(by show(0:Int) < 4;decide),l,_,_,_,rfl,rfl,SqL.of n2,hz,_,rfl,(by show Ju 5;decide),λe he=>?_⟩;obtain⟨H3,M,J,n3'⟩:=QB he [V.int 1,V.int 1,V.int 1,V.int 2,V.int 3];rw[M];have Z:=O.trans J;have U:=J _ _ k2;refine⟨_,rfl,_,_,rfl,rfl,Vk (by decide),_,_,rfl,rfl,(by show(0:Int) < 5;decide),e,_,_,_,rfl,rfl,SqL.of n3',hn,_,rfl,?_⟩;have B:∀X d (ps:List Int),JhU X→Vv X d (ps.map V.int)→Jbp 3→(∀i∈ps,InR j.length i)→lP K C [.ref p,.str z,.ref d] X Q E0:=λX d ps s4 L l3 hps =>
   oA (S.same s4) L g1 g2 l3 hps I (λH' r k pr f t kl _=>q H' r k pr (f.after s4) t (by lia))
  rcases n3 with rfl | rfl | rfl
  ·exact .inl (JjL b _ (SqT.of U) (by show ¬(0=0∧(1:Nat)=3);lia) (λd L=>B _ d [N] (Z.trans (QL L)) (SqT.of af) (by show 1≤3;decide) (λi y=>by rw[mSq y];exact t)))
  ·exact .inl (JjL b _ (SqT.of U) (by show ¬(0=0∧(2:Nat)=3);lia) (λd L=>B _ d [N,Y] (Z.trans (QL L)) (SqT.of af) (by show 2≤3;decide) (λi y=>by
    simp only[List.mem_cons,List.not_mem_nil,or_false]at y;rcases y with rfl | rfl
    ·exact t
    ·exact R)))
  ·exact .inr (JjL b _ (SqT.of U) (by show(0=0∧(3:Nat)=3);exact Xr rfl) (B _ b [N,Y,x3] Z (SqT.of U) (by show 3≤3;decide) (λi y=>by
    simp only[List.mem_cons,List.not_mem_nil,or_false]at y;rcases y with rfl | rfl | rfl
    ·exact t
    ·exact R
    ·exact m3)))
 all_goals
  obtain⟨hz,g1,g2⟩:=wL W.1 W.2;refine⟨_,rfl,p,dx,_,rfl,ho,ov _ _ _,lS4,λl hl=>?_⟩;obtain⟨H1,M,u,v⟩:=QB hl [V.str "a",V.str "b",V.str "abc",V.str "abd"];rw[M];refine⟨_,rfl,_,_,rfl,rfl,Vk (by decide),_,_,rfl,rfl,(by show(0:Int) < 4;decide),l,_,_,_,rfl,rfl,SqL.of v,hz,lS0,λe he=>?_⟩;have O:=u.trans (aq he (.tup []));exact oA (S.same O) (SqT.of af) g1 g2 (ps:=[]) (by show 0≤3;decide) (λ_ h=>nomatch h) I (λH' r k pr f t kl _=>q H' r k pr (f.after O) t (by lia))
inductive rB (K)(C):Sp|m{vs H Q E9} (p tl al rl) (T) (As) (Rs) (a c):vs=Jer p a c→JhG H→Vq a→(∀H' k,Xj H→Vq k→JjX k)→rB K C vs H Q E9
def rC:Xn ["_law_problem","_law_one","_law_cell","_law_many","_law_kin"] (JkW "_law_one") oa:=fsc
def wM {H:Hp}{T:List Tm}{xs:List V}{a:Int}(b:Jkr dT)(h:Vq a):∃q z r,atI xs a=Ja q∧SqT K H q (JgY z r):=by
 have c:Q8 T.length:=by rw[←b.length,lM]
 obtain⟨x,e,d⟩:=jX h.1 (by rw[c];exact h.2);obtain⟨t,j,g,n,rfl,l,k⟩:=q_ b e;exact⟨j,t.1,g,d,l⟩
def B4 (F:X4 "_law_other_by" "_law_other_by" oa)(T:Jb4 C)(o:Vo "range"):Jea (JkW "_law_one") (rB K C):=by
 refine F.ok rC (λvs H Q E h=>?_) (λcdv A outer s H vs Q E hr h=>?_)
 ·obtain⟨p,N,al,rl,R,As,Rs,a,c,rfl,_⟩:=h;rfl
 obtain⟨p,N,al,rl,R,As,Rs,a,c,rfl,S,z,q⟩:=h;have hu:=jn hr;refine VP (Jco (i:=3) rC.nd (Jct 0) (Jeq (uw (i:=4) (N':=["_law_k","_law_one","_law_problem"]) (ix:=[1,0]) rC.nd rfl (Or.inl rfl) rfl rfl (by decide +kernel) (by decide +kernel) rfl (λok=>JeL (sc:=ap oa)) (by decide +kernel) rfl rfl (λj i h=>match j,h with | 0,h=>by cases h;exact Jbz _ | 1,h=>by cases h;exact Jbz _ | n+2,h=>by simp at h) (Jhu o 3) (λ_ _ _ _=>(JdH (ax ck (ar (r:=du K) aA (ar (r:=gJ K) a_ (qd K rfl (pv 2) rfl) (pv 0)) ae) (ar (r:=du K) aA (ar (r:=gJ K) a_ (qd K rfl (pv 2) rfl) (pv 1)) ae)) (JaS gf 0 (pv 1)))) (λ_ _ _ _=>(pv 0))) (ah (JdH (JiD bx 2) (ax (op_neD hu) (pv 4) (ba ac) rfl)) (Qj (JfT 4 (aw bx (Jg4 2) (Jcu 4))))
   aZ) (Jgt bx (Xs cD 1 (Jg4 2)) 3)))
 try dsimp only [Cx.nox,Cx.wish,ag]
 obtain⟨⟨dx,ho⟩,⟨ts,Z,hT⟩,_⟩:=id S.pr;have U:ts.length=R.length:=by rw[←hT.length,lM]
 have tN:=S.tN;have b:0 < (ts.length:Int):=by have h1:=z.1;have h2:=z.2;lia
 refine⟨_,rfl,p,C,dx,_,_,rfl,ho,T.cl,T.nT,fb _ _ _,N,_,rfl,Qg Z,?_⟩;refine Jc5 _ rfl _ rfl (by show(ts.length:Int) < 2 ^ 62;lia) (λD hD=>gi uH (λi us H'=>Xj H∧∃ks:List Int,us=ks.map V.int∧(∀k∈ks,InR R.length k)) (λ_ _ _ _=>trivial) (XA (QL hD) [] (λ_ h=>nomatch h)) ?_ ?_)
 ·rintro i us H8 x H2 O v d ⟨g,ks,rfl,B⟩ ⟨rfl,rfl⟩;rw[Int.toNat_natCast]at O;have G:InR R.length (0+(i:Int)):=X0 (by lia);have M:=hT.keep g.kt (ik _);obtain⟨q1,z1,r1,a1,a2⟩:=wM M G;obtain⟨q2,z2,r2,a3,a4⟩:=wM M z;have J:=g _ _ ho;have I:=SqL.of (K:=K) (g _ _ Z);refine⟨_,rfl,p,C,dx,_,_,rfl,J,T.cl,T.nT,fb _ _ _,_,rfl,N,_,_,_,rfl,rfl,I,a1,q1,_,_,_,rfl,rfl,a2,aJ rfl,_,rfl,p,C,dx,_,_,rfl,J,T.cl,T.nT,fb _ _ _,_,rfl,N,_,_,_,rfl,rfl,I,a3,q2,_,_,_,rfl,rfl,a4,aJ rfl,rfl,_,rfl,aQ (λ_=>JeX _ rfl _ _ rfl (aQ (λ_=>V2 (cz (sz _ (by rw[Int.toNat_natCast];lia)) (by rw[Int.toNat_natCast];exact O) v d ⟨g.upd hD,ks++[0+(i:Int)],by rw[mAq];rfl,λk L=>?_⟩)) (λ_=>fV (by rw[Int.toNat_natCast];exact O) v d (XA g ks B)))) (λ_=>bK (fV (by rw[Int.toNat_natCast];exact O) v d (XA g ks B)))⟩;rcases mPq L with h | h
  ·exact B k h
  ·rw[mSq h];exact G
 rintro us H2 d ⟨g,ks,rfl,B⟩;have t:∀H',Xj H→Q (.int ((a+c / 2) % (ts.length:Int))) H':=λH' s'=>q H' _ s' (by have:=cS (a+c / 2) b;rw[U]at this ⊢;exact this);refine JlE _ _ _ rfl (by show(0:Int) < 2;decide) _ rfl (aQ (λ_=>Q1 _ lS0 (λl hl=>?_)) (λ_=>bK (Jll _ _ rfl _ _ rfl rfl (Vk (by decide)) _ _ rfl rfl _ rfl _ _ rfl rfl b (t H2 g))));obtain⟨H3,eN,X,n3⟩:=QB hl [];rw[eN];have Y:=g.trans X;have y:=X _ _ d;refine⟨.lst (ks.map Dt.int),.lst [],JfC y _,Jaj n3 aj.nil,(by simp only[dep,jk];decide),_,rfl,?_⟩;by_cases L:ks=[]
 ·subst L;exact bK (Jll _ _ rfl _ _ rfl rfl (Vk (by decide)) _ _ rfl rfl _ rfl _ _ rfl rfl b (t H3 Y))
 ·have e:Q9 (peq (.lst (ks.map Dt.int)) (.lst [])):=by
   cases ks with
   | nil=>exact JbT L
   | cons x xs=>rfl
  rw[e];have u:0 < (((ks.map V.int).length:Nat):Int):=by rw[lM];have:=List.length_pos_iff.mpr L;lia
  have m:=cS (c / 2) u;have W:InR ks.length (c / 2 % (((ks.map V.int).length:Nat):Int)):=by rw[lM]at m ⊢;exact m
  refine b_ ⟨_,rfl,_,rfl,_,_,rfl,rfl,Vk (by decide),_,rfl,D,_,rfl,Qg y,_,_,rfl,rfl,u,D,_,_,_,rfl,rfl,SqL.of y,eA W,q H3 _ Y (B _ ?_)⟩;unfold rf;rw[List.getD_eq_getElem?_getD,gG (by have h2:=W.2;lia)];exact List.getElem_mem _
noncomputable def wv (c:Int)(i:Nat):List Tm:=(List.range i).map λj:Nat=>((nm4 ((0+(j:Int)+c / 3) % 4),[]):Tm)
def wN (c)(i):(wv c i).length=i:=by simp [wv]
def B5 (c)(i):wv c (i+1)=wv c i++[(nm4 ((0+(i:Int)+c / 3) % 4),[])]:=by unfold wv;rw[List.range_succ,mAq];rfl
def wv_new (h:i < 4):(nm4 ((0+(i:Int)+c / 3) % 4),([]:List Int))∉wv c i:=λz=>by obtain⟨j,g,e⟩:=List.mem_map.mp z;have d:=List.mem_range.mp g;have k:=(Prod.mk.inj e).1;have b:=cS (0+(j:Int)+c / 3) (show(0:Int) < 4 by decide);have a:=cS (0+(i:Int)+c / 3) (show(0:Int) < 4 by decide);have:=B1 b.1 b.2 a.1 a.2 k;lia
inductive rD (K)(C):Sp|m{vs H Q E9} (a) (ns:List Int) (fs):vs=JbQ a fs→Jir a→Jfh 1000→0≤fs→fs≤100→(∀H' p tl al rl T As,Xj H→Vn p→Vn tl→Vn al→Vn rl→XY K C H' p tl al rl T []→1≤T.length→JjO 20→Jep 7→Jbq p)→rD K C vs H Q E9
def gy:Xn ["_law_script","_law_first","_law_cell","_law_problem","_law_many","_law_k","_law_tops","_law_turn"] (JaZ "_law_first") qD:=fsc
def PrD.keep (S:JhG H)(f:Jhk H z)(hz:VH z zs)(c:z≠tl)(b:z≠al)(a:z≠rl):JhG H':=⟨S.pr.keep f hz c b a,S.dm,S.t3,S.tN⟩
def rE (h0:0≤i)(a:i < 2):∃k,Jdl (Jfd x y) i (.int k)∧(k=x∨k=y):=by
 have:i=0∨i=1:=by lia
 rcases this with rfl | rfl
 ·exact Vg x (.inl rfl)
 ·exact Vg y (.inr rfl)
def oE (h:InR ns.length t):rf ns t∈ns:=by unfold rf;rw[List.getD_eq_getElem?_getD,gG (by have b:=h.1;have a:=h.2;lia)];exact List.getElem_mem _
def ixN_of (h:JkI i):ixN n i=some i.toNat:=by unfold ixN;rw[if_pos h.1,if_pos h.2]
def B6 (F:X4 "_law_woven" "_law_woven" qD)(T:Jb4 C)(mlist:Vo "list")(r:Vo "range")(G:Own P w K mg base C fI fA fQ fS dI dA' dQ dS)(U:Jig fC dC (JaZ "_law_k") (jZ K)):Jdo 5 (JaZ "_law_first") (rD K C):=by
 refine F.ok gy (λvs H Q E h=>?_) (λcdv A outer s H vs Q E hr h=>?_)
 ·obtain⟨a,ns,fs,rfl,_⟩:=h;rfl
 obtain⟨a,ns,fs,rfl,hS,J,f0,f1,Q0⟩:=h;have hr1:aX 1 _:=hr.mono (by decide);have hr2:aX 2 _:=hr.mono (by decide);refine VP (JeU (i:=2) gy.nd (Jda U.ok hr1 U.m U.kp U.b 0 1) (i:=3) gy.nd (mE G.mI G.I hr2 rfl G.gI G.bI .nil ay) (Jco (i:=4) gy.nd (aw cD ae (Q_ bx 2)) (Vd (QZ (Jhu r 4) (i:=5) gy.nd (JbD 3 G.mA G.A hr G.bA (Xv (Jjx (aa bZ (JcI bZ bZ bZ)) (JeM (Xs cD 5 (Jg4 2)))) (cu ac)))) (Xm (i:=6) gy.nd (Jcy (vo rfl) rfl mlist (Xf (vn rfl r (Vi 4))))) (ad (Jgh (Jhi r (Xf (aw cD ae (Jg5 2)))) (i:=7) gy.nd (Jgh (Jhu r 4) (i:=5) gy.nd (ps_asg (Jbs 3 G.mA G.A hr G.bA (Xv (Jjy (Xv bZ bZ) 2) (cu (Xf (Ji3 6 5))))) (pg_sub (pv 6) (pv 5) yt)))) (Vd (QZ (Jhi r (Xf (Q_ hC 4))) (i:=5) gy.nd (Jco (i:=2) gy.nd (JdM U.ok hr1 U.m U.kp U.b 0 (Jgt cD (Q_ cD 1) 5)) (JbD 3 G.mS G.S hr G.bS (Xv (Jjx (JdZ 5 (Q_ cD 5)) (Q_ bx 2)) (Jjx (Jfx (Q_ cD 5) 5) (Q_ bx 2)))))) (aY (Jbs 3 G.mS G.S hr G.bS (Xv (Qz a_ 6) (JfT 6 (Q_ hC 4))))) (Jco (i:=2) gy.nd (JdM U.ok hr1 U.m U.kp U.b 0 (Q_ cD 1)) (Vd (ah (JiD bx 2) (JbD 3 G.mS G.S hr G.bS (Xv (Jgt bx (Jg4 2) 4) (JfT 6 (Jgt bx (Jg4 2) 4))))
   aZ) (ah (JiD bx 2) (JbD 3 G.mQ G.Q hr G.bQ (Xf (Jjy (JcI bZ bZ bZ) 2)))
   aZ) (Jbm 3))))))))
 try dsimp only [Cx.nox,Cx.wish,ag]
 refine JcH _ _ rfl a ns fs rfl hS J f0 (by lia) (λc=>?_);intro p dx np ndx nex;refine JC p dx af (λtl al rl H1 ht ha hrr na nr nx k1 k2 k3 k4 k5=>XE rfl);obtain⟨S1,s1,ft,fa,fr⟩:=madeD (K:=K) (C:=C) np ndx nex ht ha hrr na nr nx k1 k2 k3 k4 k5;refine Jfr _ _ _ rfl rfl (by show(0:Int) < 3;decide) _ _ rfl rfl ?_;refine⟨_,rfl,_,rfl,(by show -(2 ^ 62)≤2+c % 3;lia),(by show 2+c % 3 < 2 ^ 62;lia),fj (lo:=0) (n:=(2+c % 3).toNat) (λi D H'=>∃R,An3 (D=[Ja a,Jb fs,Jb c,Ja p,Jb (2+c % 3),R,none,none]) (Xj H) (PrD K C H' p tl al rl (wv c i) [] [])) (Q1 none s1 S1) ?_ ?_⟩
 ·rintro i D H2 hi ⟨R,rfl,s2,S2⟩;have hi4:i < 4:=by lia
  obtain⟨⟨dx2,ho2⟩,_⟩:=id S2.pr;have b4:=cS (0+(i:Int)+c / 3) (show(0:Int) < 4 by decide);obtain⟨hz,g1,g2⟩:=wL b4.1 b4.2;refine⟨_,rfl,p,dx2,_,rfl,ho2,ov _ _ _,lS4,λl hl=>?_⟩;obtain⟨H3,eN,s3,n3⟩:=QB hl [V.str "a",V.str "b",V.str "abc",V.str "abd"];rw[eN];refine⟨_,rfl,_,rfl,_,_,rfl,rfl,Vk (by decide),_,_,rfl,rfl,_,_,rfl,rfl,(by show(0:Int) < 4;decide),l,_,_,_,rfl,rfl,SqL.of n3,hz,lS0,λe he=>?_⟩;have s4:=s3.trans (aq he (.tup []));dsimp only [iX];refine oA (S2.same s4) (SqT.of af) g1 g2 (ps:=[]) (by show 0≤3;decide) (λ_ h=>nomatch h) (by rw[wN];lia) (λH' d k X f m1 kl hn=>Q1 _ (f.fresh (s2.trans s4) ft) ?_);rw[B5,←hn (wv_new hi4)];exact X
 rintro D H2 ⟨R,rfl,s2,S2⟩;have wl:=wN c (2+c % 3).toNat;generalize wv c (2+c % 3).toNat=T0 at S2 wl;refine JkN _ _ (λr0 hr0=>?_);obtain⟨H3,eN,sN,n3⟩:=nwH hr0 (.rng 0 (2+c % 3));rw[eN];have s3:=s2.trans sN;have S3:=S2.same sN;refine Jhs r0 _ rfl n3 (λu Z=>?_);have e0:(((List.range (2+c % 3).toNat).map λi:Nat=>(i:Int)).map V.int)=(gx (2+c % 3).toNat).map V.int:=rfl;rw[e0];obtain⟨⟨dx3,ho3⟩,⟨_,ht3,_⟩,⟨_,ha3,_⟩,⟨_,hr3,_⟩,_⟩:=id S3.pr;have ntl:u≠tl:=(bX ht3 Z).symm;have nal:u≠al:=(bX ha3 Z).symm;have nrl:u≠rl:=(bX hr3 Z).symm;have ftp:Vn u:=s3.free Z;obtain⟨H4,eN,sN,n4⟩:=QB Z ((gx (2+c % 3).toNat).map V.int);rw[eN];have s4:=s3.trans sN;have S4:=S3.same sN;have b2:=cS (c / 12) (show(0:Int) < 2 by decide);have rin:∀k∈gx (2+c % 3).toNat,InR T0.length k:=λk hk=>by unfold gx at hk;obtain⟨j,hj,rfl⟩:=List.mem_map.mp hk;have:=List.mem_range.mp hj;exact X0 (by lia)
 refine Jll _ _ _ rfl rfl (Vk (by decide)) _ _ rfl rfl (by show(0:Int) < 2;decide) _ _ rfl rfl _ rfl (by show -(2 ^ 62)≤1+c / 12 % 2;lia) (by show 1+c / 12 % 2 < 2 ^ 62;lia) (fj (lo:=0) (n:=(1+c / 12 % 2).toNat) (λi D H'=>Ex4 λ(R v7:Option V) (v:List Tm) (us:List Int)=>An8 (D=[Ja a,Jb fs,Jb c,Ja p,Jb (2+c % 3),R,Ja u,v7]) (Xj H) (PrD K C H' p tl al rl v [] []) (Vx u (us.map V.int)) (us.length=(2+c % 3).toNat) ((∀k∈us,InR v.length k)) (2+c % 3≤(v.length:Int)) (v.length≤4+4 * i)) ⟨R,none,T0,_,rfl,s4,S4,n4,by rw[oz],rin,by lia,by lia⟩ ?_ ?_)
 ·rintro i D H5 hi ⟨v5',v7,v,us,rfl,s5,S5,Y,ul,W,t1,t2⟩;refine⟨_,rfl,_,rfl,(by show -(2 ^ 62)≤2+c % 3;lia),(by show 2+c % 3 < 2 ^ 62;lia),fj (lo:=0) (n:=(2+c % 3).toNat) (λj D H'=>Ex3 λ(R:Option V) (v:List Tm) (us:List Int)=>An8 (D=[Ja a,Jb fs,Jb c,Ja p,Jb (2+c % 3),R,Ja u,Jb (0+((i:Nat):Int))]) (Xj H) (PrD K C H' p tl al rl v [] []) (Vx u (us.map V.int)) (us.length=(2+c % 3).toNat) ((∀k∈us,InR v.length k)) (2+c % 3≤(v.length:Int)) (v.length≤4+4 * i+j)) ⟨v5',v,us,rfl,s5,S5,Y,ul,W,t1,by lia⟩ ?_ ?_⟩
  ·rintro j D H6 hj ⟨v5'',T6,B,rfl,s6,S6,q,ul6,L,t16,t26⟩;obtain⟨⟨dx6,ho6⟩,_⟩:=id S6.pr;have b6:=cS (c / 24) (show(0:Int) < 2 by decide);obtain⟨z,hz,g1,g2⟩:=f2_at b6.1 b6.2;have jin:InR B.length (0+((j:Nat):Int)):=X0 (by lia);refine⟨_,rfl,p,dx6,_,rfl,ho6,ov _ _ _,lS2,λl hl=>?_⟩;obtain⟨H7,eN,s7,n7⟩:=QB hl [V.str "f",V.str "ffa"];rw[eN];refine⟨_,rfl,_,_,rfl,rfl,Vk (by decide),_,_,rfl,rfl,(by show(0:Int) < 2;decide),l,_,_,_,rfl,rfl,SqL.of n7,hz,_,rfl,_,rfl,u,_,_,_,rfl,rfl,SqL.of (s7 _ _ q),eA jin,lS1,λe he=>?_⟩;have M:=s7.trans (aq he (.tup (Jgr (rf B (0+((j:Nat):Int))))));dsimp only [iX];refine oA (S6.same M) (SqT.of af) g1 g2 (ps:=[rf B (0+((j:Nat):Int))]) (by show 1≤3;decide) (λk hk=>by rw[mSq hk];exact L _ (oE jin)) (by lia) (λH' d k X f m1 kl hn=>?_);have htp9:H' u=some (.lst (B.map V.int)):=f _ _ (M _ _ q) ntl;refine JdB _ _ rfl u _ _ _ htp9 (by rw[lM];exact ixN_of jin) ?_;have fr9:Fr1 H' (Qa H' u ((B.map V.int).set (0+((j:Nat):Int)).toNat (.int ((k:Nat):Int)))) u:=λb o h n=>by rw[ai n];exact h
   have tl9:T6.length≤(T6++d).length:=by rw[lAq];lia
   refine⟨_,T6++d,B.set (0+((j:Nat):Int)).toNat ((k:Nat):Int),rfl,(f.fresh (s6.trans M) ft).upd ftp,X.keep fr9 htp9 ntl nal nrl,by rw[af,List.map_set],by rw[List.length_set];exact ul6,λx hx=>?_,by lia,by rw[lAq];lia⟩;rcases List.mem_or_eq_of_mem_set hx with h | h
   ·exact(L x h).mono tl9
   ·rw[h];exact X0 (by lia)
  ·rintro D H6 ⟨v5'',T6,B,rfl,s6,S6,q,ul6,L,t16,t26⟩;exact⟨_,_,T6,B,rfl,s6,S6,q,ul6,L,t16,by lia⟩
 rintro D H5 ⟨v5',v7,v,us,rfl,s5,S5,Y,ul,W,t1,t2⟩;have t12:v.length≤12:=by lia
 refine JlE _ _ _ rfl _ (by show -(2 ^ 62)≤2+c % 3 - 1;lia) (by show 2+c % 3 - 1 < 2 ^ 62;lia) (fj (lo:=0) (n:=(2+c % 3 - 1).toNat) (λi D H'=>Ex3 λ(c2:Int) (R:Option V) (As:List At)=>An5 (D=[Ja a,Jb fs,Jb c2,Ja p,Jb (2+c % 3),R,Ja u,v7]) (Xj H) (XY K C H' p tl al rl v []) (Vx u (us.map V.int)) (Jep i)) (Jdr c _ [] s5 S5 Y (nRq _)) ?_ ?_)
 ·rintro i D H6 hi ⟨c2,R,As,rfl,s6,S6,q,al6⟩;refine⟨_,rfl,_,rfl,_,_,rfl,rfl,_,rfl,_,_,rfl,rfl,a,ns,_,rfl,s6.seq hS,J,(by show 0≤fs+1+(0+((i:Nat):Int));lia),(by show fs+1+(0+((i:Nat):Int))≤1000;lia),λc3=>?_⟩;obtain⟨⟨dx6,ho6⟩,_⟩:=id S6.pr;have b6:=cS c3 (show(0:Int) < 2 by decide);obtain⟨x1,hx1,ex1⟩:=rE (x:=0+((i:Nat):Int)) (y:=0+((i:Nat):Int)+1) b6.1 b6.2;obtain⟨x2,hx2,ex2⟩:=rE (x:=0+((i:Nat):Int)+1) (y:=0+((i:Nat):Int)) b6.1 b6.2;refine⟨_,rfl,p,dx6,_,rfl,ho6,ox _ _ _,_,rfl,_,rfl,_,_,rfl,rfl,lS2,λl hl=>?_⟩;obtain⟨H7,eN,s7,n7⟩:=QB hl (Jfd (0+((i:Nat):Int)) (0+((i:Nat):Int)+1));rw[eN];refine⟨_,rfl,_,_,rfl,rfl,(by show(0:Int) < 2;decide),l,_,_,_,rfl,rfl,SqL.of n7,hx1,_,rfl,_,_,rfl,rfl,_,rfl,lS2,λe he=>?_⟩;obtain⟨O,eN,sN,n8⟩:=QB he (Jfd (0+((i:Nat):Int)+1) (0+((i:Nat):Int)));rw[eN];have M:=s7.trans sN;refine⟨_,rfl,_,_,rfl,rfl,(by show(0:Int) < 2;decide),e,_,_,_,rfl,rfl,SqL.of n8,hx2,oC (S6.same M) (X0 (by lia)) (X0 (by lia)) (by lia) (λH' d k X f m1 _=>?_)⟩;exact Jdr _ _ (As++d) (JhD (s6.trans M) fr) X (f _ _ (M _ _ q) nal nrl) (by rw[lAq];lia)
 rintro D H6 ⟨c2,R,As,rfl,s6,S6,q,al6⟩;have al4:Jep 4:=by lia
 obtain⟨⟨dx6,ho6⟩,_⟩:=id S6.pr;have i0:InR us.length 0:=Vk (by lia);have i1:InR us.length (2+c % 3 - 1):=X0 (by lia);refine⟨_,rfl,p,dx6,_,rfl,ho6,ox _ _ _,_,rfl,u,_,_,_,rfl,rfl,SqL.of q,eA i0,_,rfl,_,rfl,_,_,rfl,rfl,u,_,_,_,rfl,rfl,SqL.of q,eA i1,oC S6 (W _ (oE i0)) (W _ (oE i1)) (by lia) (λH7 d k S7 f7 m7 _=>?_)⟩;have s7:=f7.fresh s6 fa fr;have htp7:=f7 _ _ q nal nrl;refine⟨_,rfl,_,rfl,_,_,rfl,rfl,a,ns,_,rfl,s7.seq hS,J,(by show 0≤fs+5;lia),(by show fs+5≤1000;lia),λc3=>?_⟩;have al7:(As++d).length≤5:=by rw[lAq];lia
 generalize As++d=As7 at S7 al7;have fin:∀(O:Hp) (t:List At) (Dn:ir) (σ8:St),JhU O→PrD K C O p tl al rl v t []→t.length≤7→Q (.ref p) O:=λO t _ _ M S8 l8=>Q0 O p tl al rl v t M np ft fa fr S8 (by lia) (by lia) (by lia);have tail:∀(O:Hp) (t:List At),JhU O→PrD K C O p tl al rl v t []→t.length≤6→∀(z:Str) (l:Addr),lV z→∀H9,ao O H9→lO K C (JbO p (.str z)) H9 (λx H'=>Jbq p) E0:=λO t M S8 l8 z l g H9 s9=>oB (S8.same s9) g.1 g.2 (by lia) (λH' d k X f m1 _=>fin H' (t++d) ⟨λ_ _=>True,λ_ _=>True,λ_ _=>True,λ_ _=>True⟩ [] (JhD (M.trans s9) fr) X (by rw[lAq];lia));have b5:=cS (c3 / 5) (show(0:Int) < 3 by decide);obtain⟨z,hz,gz⟩:=pq_at b5.1 b5.2;have N:(0:Int) < 2+c % 3:=by lia
 have m1:=cS (c3 / 3) N;have m2:=cS (c3 / 12) N;have i3:InR v.length (c3 / 3 % (2+c % 3)):=⟨m1.1,by have:=m1.2;lia⟩;have i4:InR us.length (c3 / 12 % (2+c % 3)):=⟨m2.1,by have:=m2.2;lia⟩;obtain⟨⟨dx7,ho7⟩,_⟩:=id S7.pr;refine JlE _ _ _ rfl (by show(0:Int) < 3;decide) _ rfl (VQ (λ_=>?_))
 ·refine⟨_,rfl,p,dx7,_,rfl,ho7,ox _ _ _,_,rfl,_,_,rfl,rfl,Vk (by decide),_,rfl,_,_,rfl,rfl,N,_,rfl,_,rfl,_,_,rfl,rfl,Vk (by decide),_,rfl,_,_,rfl,rfl,N,u,_,_,_,rfl,rfl,SqL.of htp7,eA i4,oC S7 i3 (W _ (oE i4)) (by lia) (λO d k S8 f8 m8 _=>?_)⟩;have M:=f8.fresh s7 fa fr;have al8:(As7++d).length≤6:=by rw[lAq];lia
  obtain⟨⟨dx8,ho8⟩,_⟩:=id S8.pr;refine JlE _ _ _ rfl (by show(0:Int) < 5;decide) _ rfl (VQ (λ_=>V2 (fin O _ ⟨λ_ _=>True,λ_ _=>True,λ_ _=>True,λ_ _=>True⟩ [] M S8 (by lia))));refine⟨_,rfl,p,dx8,_,rfl,ho8,qV _ _ _,lS3,λl hl=>Jll _ _ _ rfl rfl (Vk (by decide)) _ _ rfl rfl (by show(0:Int) < 3;decide) l _ _ _ rfl rfl (SqL.of af) hz (oB (S8.same (QL hl)) gz.1 gz.2 (by lia) (λH' more' k X f m1 _=>V2 (fin H' _ ⟨λ_ _=>True,λ_ _=>True,λ_ _=>True,λ_ _=>True⟩ [] (JhD (M.trans (QL hl)) fr) X (by rw[lAq];lia))))⟩
 ·refine JlE _ _ _ rfl (by show(0:Int) < 5;decide) _ rfl (VQ (λ_=>V2 (fin H7 _ ⟨λ_ _=>True,λ_ _=>True,λ_ _=>True,λ_ _=>True⟩ [] s7 S7 (by lia))));refine⟨_,rfl,p,dx7,_,rfl,ho7,qV _ _ _,lS3,λl hl=>Jll _ _ _ rfl rfl (Vk (by decide)) _ _ rfl rfl (by show(0:Int) < 3;decide) l _ _ _ rfl rfl (SqL.of af) hz (oB (S7.same (QL hl)) gz.1 gz.2 (by lia) (λH' more' k X f m1 _=>V2 (fin H' _ ⟨λ_ _=>True,λ_ _=>True,λ_ _=>True,λ_ _=>True⟩ [] (JhD (s7.trans (QL hl)) fr) X (by rw[lAq];lia))))⟩
inductive rF (K)(C):Sp|m{vs H Q E9} (a) (ns:List Int) (fs tn an):vs=[.ref a,.int fs,.int tn,.int an]→Jir a→Jfh 1000→0≤fs→fs≤100→1≤tn→tn≤20→0≤an→an≤7→(∀H' p tl al rl T As,Xj H→Vn p→Vn tl→Vn al→Vn rl→XY K C H' p tl al rl T []→1≤T.length→JjO 20→Jep 7→Jbq p)→rF K C vs H Q E9
def j_:Xn ["_law_script","_law_first","_law_terms","_law_atoms","_law_problem","_law_k","_law_cell","_law_one"] ["_law_script","_law_first","_law_terms","_law_atoms"] qG:=fsc
def B7 (F:X4 "_law_problem_by" "_law_problem_by" qG)(T:Jb4 C)(e:Vo "range")(G:Own P w K mg base C fI fA fQ fS dI dA' dQ dS)(j:Jig fC dC (JaZ "_law_k") (jZ K))(BW:Jie 5 "_law_woven" fW dW (JaZ "_law_first") (rD K C))(BT:Jie 5 "_law_term_by" fT dT' (JJ "_law_cell") (rA K C))(BO:Jif "_law_other_by" fO dO (JkW "_law_one") (rB K C)):Jdo 6 ["_law_script","_law_first","_law_terms","_law_atoms"] (rF K C):=by
 refine F.ok j_ (λvs H Q E h=>?_) (λcdv A outer s H vs Q E U h=>?_)
 ·obtain⟨a,ns,v,u,J,rfl,_⟩:=h;rfl
 obtain⟨a,ns,v,u,J,rfl,Z,c,f0,f1,t0,t1,a0,a1,Q0⟩:=h;have q:aX 1 _:=U.mono (by decide);have hr2:aX 2 _:=U.mono (by decide);have R:aX 4 _:=U.mono (by decide);refine VP (Vd (ah (Jfg (JeM (JdM j.ok q j.m j.kp j.b 0 ae))) (Qj (Jda BW.ok U BW.m BW.kp BW.b 0 1))
   aZ) (Xm (i:=4) j_.nd (mE G.mI G.I hr2 rfl G.gI G.bI .nil ay)) (Vd (QZ (Jhu e 2) (i:=5) j_.nd (XS (JdM BT.ok U BT.m BT.kp BT.b 4 (JdM j.ok q j.m j.kp j.b 0 (Xs cD 1 (pv 5)))))) (QZ (Jhu e 3) (i:=5) j_.nd (JeU (i:=6) j_.nd (JdM j.ok q j.m j.kp j.b 0 (Jgt cD (Xs cD 1 (pv 2)) 5)) (i:=7) j_.nd (aw bx (Jg4 6) (Jct 4)) (ak (ah (JiD bx 6) (JbD 4 G.mQ G.Q R G.bQ (Xf (Jjy (JcI bZ bZ bZ) 6))) (JbD 4 G.mS G.S R G.bS (JdZ 7 (Jc3 BO.ok q BO.m BO.kp BO.b 4 (JdZ 7 (aw cF (Jg4 6) (Jct 4)))))))))) (Jbm 4)))
 try dsimp only [Cx.nox,Cx.wish,ag]
 refine Jcb _ a ns 5 rfl Z c (by decide) (by decide) (λc0=>JjJ _ _ rfl rfl (by show(0:Int) < 2;decide) _ rfl (VQ (λ_=>?_)))
 ·exact JcH _ _ rfl a ns v rfl Z c f0 f1 Q0
 intro p dx np ndx nex;refine JC p dx af (λB X M H1 ht ha hrr na nr nx k1 k2 k3 k4 k5=>XE rfl);obtain⟨S1,s1,ft,fa,fr⟩:=madeD np ndx nex ht ha hrr na nr nx k1 k2 k3 k4 k5;refine Jhs _ rfl _ rfl (fj (λi y H'=>Ex2 λ D g=>An5 (y=[Ja a,Jb v,Jb u,Jb J,Ja p,D,none,none]) (Xj H) (PrD K C H' p B X M g [] []) (g.length≤i) ((1≤i→1≤g.length))) ⟨none,[],rfl,s1,S1,nRq _,λh=>Jap h⟩ ?_ ?_)
 ·rintro i y H2 hi ⟨D,g,rfl,Y,S2,lT,pT⟩;refine Jll _ _ rfl _ rfl _ rfl _ _ rfl rfl a ns _ rfl (Y.seq Z) c (by lia) (by lia) (λW=>⟨p,B,X,M,g,[],[],W,rfl,S2,by lia,λH3 N k x f3 m3 l3=>?_⟩);exact⟨_,g++N,rfl,f3.fresh Y ft,x,by rw[lAq];lia,λ_=>l3⟩
 rintro y H2 ⟨D,g,rfl,Y,S2,lT,pT⟩;have lT1:=pT (by lia);refine Jhs _ rfl _ rfl (fj (λi y H'=>Ex4 λ D v6 v7 As=>An4 (y=[Ja a,Jb v,Jb u,Jb J,Ja p,D,v6,v7]) (Xj H) (XY K C H' p B X M g []) (Jep i)) ⟨D,none,none,[],rfl,Y,S2,nRq _⟩ ?_ ?_)
 ·rintro i y H3 hi ⟨v5',v6,v7,As,rfl,L,x,lA⟩;refine⟨_,rfl,_,rfl,_,rfl,_,_,rfl,rfl,_,rfl,_,_,rfl,rfl,a,ns,_,rfl,L.seq Z,c,(by lia),(by lia),λW=>?_⟩;obtain⟨⟨t,r⟩,⟨ts,O,hT3⟩,_⟩:=id x.pr;have tl':ts.length=g.length:=by rw[←hT3.length,lM]
  have o:0 < (ts.length:Int):=by lia
  have msm:Jh7 (ts.length:Int):=by lia
  have m1:=cS (W / 9) o;have i1:InR g.length (W / 9 % (ts.length:Int)):=by rw[←tl'];exact m1
  refine⟨_,rfl,_,_,rfl,rfl,Vk (by decide),_,rfl,p,C,t,_,_,rfl,r,T.cl,T.nT,fb _ _ _,B,_,rfl,Qg O,_,_,rfl,rfl,o,?_⟩;refine JlE _ _ _ rfl (by show(0:Int) < 9;decide) _ rfl (VQ (λ_=>?_))
  ·have b5:=cS (W / 9) (show(0:Int) < 3 by decide);obtain⟨z,hz,gz⟩:=pq_at b5.1 b5.2;exact⟨_,rfl,p,t,_,rfl,r,qV _ _ _,lS3,λl hl=>Jll _ _ _ rfl rfl (Vk (by decide)) _ _ rfl rfl (by show(0:Int) < 3;decide) l _ _ _ rfl rfl (SqL.of af) hz (oB (x.same (QL hl)) gz.1 gz.2 (by lia) (λH' d k pr f m1 _=>⟨_,_,_,As++d,rfl,JhD (L.trans (QL hl)) fr,pr,by rw[lAq];lia⟩))⟩
  ·exact⟨_,rfl,p,t,_,rfl,r,ox _ _ _,_,rfl,_,rfl,_,rfl,_,rfl,_,_,rfl,rfl,Vk (by decide),_,rfl,p,C,t,_,_,rfl,r,T.cl,T.nT,fb _ _ _,B,_,rfl,Qg O,_,_,rfl,rfl,⟨o,msm⟩,p,B,X,M,g,As,[],_,_,rfl,x,i1,λH4 k s4 kin=>oC (x.same s4) i1 kin (by lia) (λH' d k pr f m1 _=>⟨_,_,_,As++d,rfl,JhD (L.trans s4) fr,pr,by rw[lAq];lia⟩)⟩
 rintro y H3 ⟨v5',v6,v7,As,rfl,L,x,lA⟩;exact V2 (Q0 H3 p B X M g As L np ft fa fr x lT1 (by lia) (by lia))
noncomputable def hsF (As:List At)(ps:List Int):List Int:=ps.filter λk=>(JY k).isSome
noncomputable def gsF (As:List At)(ps:List Int):List (Int × Int):=ps.filterMap (smF As)
def lW (h:JaL k pr):1≤k∧k≤(As.length:Int):=by
 unfold smF at h;split at h
 ·assumption
 ·cases h
def oF:∀ {ps:List Int},(J0 ps).map (smF As)=(V7 ps).map some
 | []=>rfl
 | k :: ps=>by
  unfold hsF gsF;have a:=oF (As:=As) (ps:=ps);unfold hsF gsF at a;cases e:JY k with
  | none=>rw[List.filter_cons_of_neg (by rw[e];decide),List.filterMap_cons_none e];exact a
  | some b=>rw[List.filter_cons_of_pos (by rw[e];rfl),List.filterMap_cons_some e,List.map_cons,List.map_cons,a,e]
def wO:(J0 ps).length=(V7 ps).length:=by have:=Jad (oF (As:=As) (ps:=ps));simpa using this
def rG (h:k∈J0 ps):k∈ps∧∃c,JY k=some c:=by obtain⟨a,b⟩:=List.mem_filter.mp h;exact⟨a,Option.isSome_iff_exists.mp b⟩
def rH (h:pr∈V7 ps):∃k∈ps,JY k=some pr:=List.mem_filterMap.mp h
def gs_of (a:k∈ps)(e:JaL k pr):pr∈gsF As ps:=List.mem_filterMap.mpr ⟨k,a,e⟩
def gs_at {As:List At}{ps:List Int}{i:Nat}{a:Int × Int}(h:(V7 ps)[i]?=some a):∃k,(J0 ps)[i]?=some k∧JaL k a∧k∈ps:=by have e:=congrArg (λl=>l[i]?) (oF (As:=As) (ps:=ps));rw[List.getElem?_map,List.getElem?_map,h]at e;obtain⟨k,b,c⟩:=Option.map_eq_some_iff.mp e;exact⟨k,b,c,(rG (mO b)).1⟩
def rJ (n:Vq a)(l:Vq b):Qu (e_ f T a b)↔jN T f a b:=by
 obtain⟨k,_⟩:=jW n;obtain⟨j,_⟩:=jW l;unfold e_ jN;constructor
 ·intro h;rw[Bool.and_eq_true,Bool.and_eq_true]at h;obtain⟨e,d,c⟩:=h;refine⟨_,_,k,j,oDq e,?_⟩;rw[←oy f _ _ (oDq d)]at c;exact oDq c
 ·rintro ⟨t,u,e,d,c,i⟩;cases k.symm.trans e;cases j.symm.trans d;have g:(tG T a).2.length=(tG T b).2.length:=by have:=Jad i;simpa using this
  rw[Bool.and_eq_true,Bool.and_eq_true];exact⟨dTq c,dTq g,by rw[←oy f _ _ g];exact dTq i⟩
def wQ (h:∀x y,f x=f y→g x=g y):∀ {xs ys:List Int},xs.map f=ys.map f→xs.map g=ys.map g
 | [],[],_=>rfl
 | [],_ :: _,e=>by cases e
 | _ :: _,[],e=>by cases e
 | x :: xs,y :: ys,e=>by rw[List.map_cons,List.map_cons]at e ⊢;injection e with b a;rw[h x y b,wQ h a]
def min_of (R:bu T gs L){g:Int→Int}(G:eY gs g)(C:eX T g):∀x y,Jh5 x=Jh5 y→g x=g y:=by
 have f:∀n,∀l∈L.take n,g l.1=g l.2.1:=λn=>by
  induction n with
  | zero=>intro l d;simp at d
  | succ n j =>
   intro l d;obtain⟨i,c⟩:=List.mem_iff_getElem?.mp d;rw[List.getElem?_take]at c;split at c
   ·rename_i k;by_cases e:i < n
    ·exact j l (mO (by rw[List.getElem?_take,if_pos e];exact c))
    ·have e:i=n:=by lia
     subst e;rcases(R i l c).how with ⟨_,h⟩ | ⟨_,t,u,h1,h2,h3,h4⟩
     ·exact G _ (mO h)
     ·have:=C l.1.toNat l.2.1.toNat t u h1 h2 h3 (wQ (λx y e=>W54.same_cls g j e) h4);have a:=(R i l c).a;have b:=(R i l c).b;rw[show(l.1.toNat:Int)=l.1 by lia,show(l.2.1.toNat:Int)=l.2.1 by lia]at this;exact this
   ·cases c
 intro x y e;refine W54.same_cls g (λl d=>?_) e;exact f L.length l (by rw[List.take_length];exact d)
def B8 (R:bu T gs L)(h:0 < T.length):L.length < T.length:=by
 obtain⟨xs,k,i,f⟩:=R.his L.length (nRq _);rw[List.take_length]at f;have H:=vr R.inn;have g:∀x∈xs,1≤x:=λx d=>by
  obtain⟨⟨a,b⟩,c⟩:=f x d;by_cases e:x=0
  ·subst e;have n:=H.le 0;have l:=H.in' (a:=0) (X0 (by lia));lia
  ·lia
 have:=fZ (T.length - 1) (xs:=xs.map (· - 1)) (List.pairwise_map.mpr (i.imp λ{a b} h e=>h (by lia))) λy j=>by obtain⟨x,d,rfl⟩:=List.mem_map.mp j;have:=g x d;have:=(f x d).1.2;lia
 rw[lM]at this;lia
def B9 (D:Jjp T)(A:fe T.length (hdL L) (rf rs))(N:wI (rf rs) T As (ps.map λk=>-k)):JlB ps L∧eX T (hdL L):=by
 refine⟨λp g=>?_,λa b t u i h n l=>?_⟩
 ·obtain⟨k,s,e⟩:=rH g;obtain⟨x,y⟩:=p;have:=lW e;obtain⟨ix,r⟩:=lQ D e;exact(A x y ix r).mpr (N.1 (-k) (Jho k s) (by lia) x y (by rw[Int.neg_neg];exact e))
 ·have la:=(gEq i).1;have q:=(gEq h).1;have f:Vq (a:Int):=X0 (by lia);have d:Vq (b:Int):=X0 (by lia);have j:jN T (hdL L) (a:Int) (b:Int):=⟨t,u,i,h,n,l⟩;have o:jN T (hdL L) (b:Int) (a:Int):=⟨u,t,h,i,n.symm,l.symm⟩;rcases Nat.lt_trichotomy a b with c | c | c
  ·have:=(rJ d f).mpr o;rw[qZ D A d f]at this;exact((A _ _ d f).mpr (N.2 b a c q this)).symm
  ·rw[c]
  ·have:=(rJ f d).mpr j;rw[qZ D A f d]at this;exact(A _ _ f d).mpr (N.2 a b c la this)
def B_ (A:fe n f (rf rs))(h:JiQ n)(g:JkI a)(e:JkI b):fe n (mrg f a b) (rf (ip rs a b)):=λt u d c=>by rw[wG (by rw[h];exact d),wG (by rw[h];exact c)];exact By A g e t u d c
def Ca (D:Jjp T)(A:fe T.length (hdL L) (rf rs))(h:JiQ T.length)(R:JdP T ps L)(N:wJ (rf rs) T As (ps.map λk=>-k) lk):∃l,JdP T ps (L++[l])∧fe T.length (hdL (L++[l])) (rf (ip rs lk.1 lk.2.1)):=by
 obtain⟨⟨b,a,_,_⟩,j,d⟩:=N;have c:Jh5 lk.1≠hdL L lk.2.1:=λe=>j ((A _ _ b a).mp e);have g:∀z,fe T.length (hdL (L++[(lk.1,lk.2.1,z)])) (rf (ip rs lk.1 lk.2.1)):=λz=>by rw[ic];exact B_ A h b a
 rcases d with ⟨_,n,e⟩ | ⟨_,e⟩
 ·obtain⟨k,f,p⟩:=List.mem_map.mp n;have:k=lk.2.2:=by lia
  rw[this]at f;obtain⟨i,o⟩:=List.mem_iff_getElem?.mp (gs_of f e);exact⟨(lk.1,lk.2.1,(i:Int)),R.snoc ⟨b,a,c,Jo (by show(0:Int)≤(i:Int);lia) (by show(V7 ps)[((i:Int)).toNat]?=_;rw[Int.toNat_natCast];exact o)⟩,g _⟩
 ·refine⟨(lk.1,lk.2.1,-1),R.snoc ⟨b,a,c,Jx rfl ?_⟩,g _⟩;rw[←qZ D A b a]at e;exact(rJ b a).mp e
def wR {As:List At}{ps:List Int}{i:Nat}{k:Int}(h:ps[i]?=some k):J0 (ps.take (i+1))=J0 (ps.take i)++(if(JY k).isSome=true then [k] else []):=by
 unfold hsF;rw[bb h,List.filter_append];congr 1;by_cases c:(JY k).isSome=true
 ·simp [c]
 ·simp [c]
noncomputable def ngF (ps:List Int):List Int:=(ps.filter λk=>decide (k < 0)).map λk=>-k
def oG {ps:List Int}{i:Nat}{k:Int}(h:ps[i]?=some k):JhI (i+1)=JhI i++(if k < 0 then [-k] else []):=by
 unfold ngF;rw[bb h,List.filter_append,mAq];congr 1;by_cases c:k < 0
 ·simp [c]
 ·simp [c]
def wU (ps):(ngF ps).length≤ps.length:=by unfold ngF;rw[lM];exact Jaf _
inductive oH (K)(C):Sp|m{vs H Q E9} (p tl al rl q) (T) (As) (Rs) (ps):vs=JbP p q→JhG H→SqI K H q ps→Jbp 1000→(∀H' l,Xj H→Vn l→Vx l ((J0 ps).map V.int)→Jbq l)→oH K C vs H Q E9
def Cb:Xn (VY "held") (VY "held") lg:=fsc
def Cc (F:X4 "held_same" "held_same" lg)(o:Jk4 fS dS (VY "number") (jY K C)):Jdo 2 (VY "held") (oH K C):=by
 refine F.ok Cb (λvs H Q E h=>?_) (λcdv A outer s H vs Q E T h=>?_)
 ·obtain⟨p,z,L,B,q,M,As,Rs,ps,rfl,_⟩:=h;rfl
 obtain⟨p,z,L,B,q,M,As,Rs,ps,rfl,S,U,t,X⟩:=h;refine VP (Qj (Q5 (N':=["part","problem"]) (ix:=[0]) rfl rfl rfl (λu=>Jc0 (sc:=ap lg) u) rfl rfl (λj i h=>match j,h with | 0,h=>by cases h;exact Jbz _ | n+1,h=>by simp at h) (rk (pv 1)) (λ_ _ _ _=>(ax mz (Jda o.ok T o.m o.kp o.b 1 0) eL)) (λ_ _ _ _=>(pv 0))))
 try dsimp only [Cx.nox,Cx.wish,ag]
 refine⟨_,rfl,q,ps,rfl,U,λJ ⟨Ok,W,u,r⟩ D v=>gi W (λi us H'=>Xj H∧us=(J0 (ps.take i)).map V.int) (λi us H' ⟨R,_⟩=>u _ R) (Jbn v) ?_ ?_⟩
 ·rintro i us H9 x N I l c ⟨d,rfl⟩ O;obtain⟨rfl,k,G,rfl⟩:=r _ _ _ _ d O;refine⟨_,rfl,_,rfl,p,z,L,B,M,As,Rs,k,rfl,(S.same d).pr,λe Y g=>?_,λx y e Y a g Z=>?_⟩
  ·refine XA rfl _ (bK (fV I l (g _ _ c) (XE (d.trans g))));rw[wR G,e];show _=(_++[]).map _;rw[List.append_nil]
  ·refine XA rfl _ (b_ (V2 (Jf2 _ (by lia) I l (g _ _ c) ((d.trans g).upd v))));rw[wR G,e,if_pos (show(some (x,y)).isSome=true from rfl),mAq];rfl
 ·rintro us N c ⟨d,rfl⟩;rw[Jbu _]at c;exact X N D d v c
inductive rK (K)(C):Sp|m{vs H Q E9} (p tl al rl q) (T) (As) (Rs) (ps):vs=JbP p q→JhG H→SqI K H q ps→Jbp 1000→(∀H' l us L,Xj H→Vx l us→Jgw (L.map dL) us→JdP T ps L→JlB ps L→Jfu T L→Jbq l)→rK K C vs H Q E9
def Cd:Xn (VY "held") (VY "held") lu:=fsc
def Ce (F:X4 "same_links" "same_links" lu)(T:Jb4 C)(J:Jk4 fS dS (VY "number") (jY K C))(N:Jie 2 "held_same" fH dH (VY "held") (oH K C))(M:Jie 4 "links" fL dL' ["terms","given"] (W54.sp_links K)):Jdo 5 (VY "held") (rK K C):=by
 refine F.ok Cd (λvs H Q E h=>?_) (λcdv A outer s H vs Q E Y h=>?_)
 ·obtain⟨p,B,al,O,q,I,As,Rs,ps,rfl,_⟩:=h;rfl
 obtain⟨p,B,al,O,q,I,As,Rs,ps,rfl,S,hq,d,Q0⟩:=h;have X:aX 1 _:=Y.mono (by decide);have W:aX 2 _:=Y.mono (by decide);obtain⟨⟨dx,ho⟩,⟨ts,ht,hT⟩,_⟩:=id S.pr;have hl:(J0 ps).length≤1000:=JiY _ d;refine VP (Qj (Jlt M.ok Y M.m M.kp M.b (Xv (Vl 0) (Js (N':=["part","problem"]) (ix:=[0]) rfl rfl rfl (λok=>JeL (sc:=ap lu)) rfl rfl (λj i h=>match j,h with | 0,h=>by cases h;exact Jbz _ | n+1,h=>by simp at h) (cC (Jda N.ok W N.m N.kp N.b 0 1)) (λ_ _ _ _=>(Jda J.ok X J.m J.kp J.b 1 0))))))
 try dsimp only [Cx.nox,Cx.wish,ag]
 refine⟨_,rfl,p,C,dx,_,_,rfl,ho,T.cl,T.nT,fb _ _ _,_,rfl,_,rfl,p,B,al,O,q,I,As,Rs,ps,rfl,S,hq,d,λH1 hl1 s1 _ h1=>?_⟩;refine Jkp hl1 _ h1 (λD hD=>d_ cH (λi us H'=>Xj H1∧Jgw (((V7 ps).take i).map dP) us) (λi us H' ⟨u,_⟩=>u.seq (SqL.of h1)) ⟨QL hD,aj.nil⟩ ?_ ?_)
 ·rintro i us H9 x H2 hi hly o ⟨u,g⟩ ⟨rfl,hx⟩;obtain⟨k,hk,rfl⟩:=Jjk _ (u.seq (SqL.of h1));obtain⟨_,⟨x,y⟩,e⟩:=rG (mO hk);have c:=s1.trans u;refine⟨_,rfl,_,rfl,p,B,al,O,I,As,Rs,k,rfl,(S.same c).pr,λz=>(by rw[e]at z;cases z),λx' y' z H3 a v ha=>?_⟩;rw[e]at z;cases z;have hg:(V7 ps)[i]?=some (x,y):=by
   have r:=congrArg (λl=>l[i]?) (oF (As:=As) (ps:=ps));rw[List.getElem?_map,List.getElem?_map,hk]at r;have r:some (JY k)=((V7 ps)[i]?).map some:=r;rw[e]at r;cases q:(V7 ps)[i]? with
   | none=>rw[q]at r;cases r
   | some pr=>rw[q]at r;cases r;rfl
  have kt:=aL.lst (ys:=us++Vt a) (v _ _ o);refine Jf2 _ (by rw[lM];exact hl) hi hly (v _ _ o) ((u.trans v).upd hD);rw[bb hg,mAq];exact Jac (XT (v.kt.trans kt) _ g) (QQ (kt.sq ha) Has.int (Qv Has.int))
 rintro us H2 o ⟨u,g⟩;rw[lM,wO,Jbu _]at g;have c:=s1.trans u;refine⟨B,D,ts,us,V7 ps,I,rfl,SqL.of (c _ _ ht),JhH c.kt _ hT,SqL.of o,g,λpr Z=>?_,(λt U=>Jq (S.t3 t U)),S.tN,by rw[←wO];exact hl,λH3 l L zs v _ h3 hL R G Cl=>Q0 H3 l zs L (c.trans v) h3 hL R G Cl⟩;obtain⟨k,_,e⟩:=rH Z;exact lQ S.dm e
inductive rL (K)(C):Sp|m{vs H Q E9} (p tl al rl q l) (T) (As) (Rs) (ps) (us) (L):vs=[.ref p,.ref q,.ref l]→JhG H→SqI K H q ps→ps.length < 64→JX l us→JQ (L.map dL) us→InN T.length L→L.length≤100→(∀ms:List Int,ms.Perm (ngF ps)→ms.Pairwise (·≤·)→((JkT L=[]→∀H',Xj H→Jb7 H')∧∀d r,JkT L=d :: r→∀H',Xj H→JjX d))→rL K C vs H Q E9
def oJ:Xn ["problem","held","found","least","atom","pair"] ["problem","held","found"] nQ:=fsc
def Cg (F:X4 "clashing_atom" "clashing_atom" nQ)(T:Jb4 C)(n:Vo "sorted")(R:Jk4 fS dS (VY "number") (jY K C))(U:Jie 4 "heads" fD dD ["many","links"] (W54.sp_heads K)):Jdo 5 ["problem","held","found"] (rL K C):=by
 refine F.ok oJ (λvs H Q E h=>?_) (λcdv A outer s H vs Q E hr h=>?_)
 ·obtain⟨p,tl,al,rl,q,l,I,As,Rs,ps,us,L,rfl,_⟩:=h;rfl
 obtain⟨p,tl,al,rl,q,l,I,As,Rs,ps,us,L,rfl,S,hq,p64,hS,hL,inn,l100,Q0⟩:=h;have hr1:aX 1 _:=hr.mono (by decide);obtain⟨⟨dx,ho⟩,⟨ts,ht,hT⟩,_⟩:=id S.pr;have tl':ts.length=I.length:=by rw[←hT.length,lM]
 have tN:=S.tN;refine VP (QO (i:=3) oJ.nd (Jlt U.ok hr U.m U.kp U.b (Jfx (Jct 0) 2)) (QZ (cC (Jbw qe n (Xf (Q5 (N':=["part"]) (ix:=[]) rfl rfl rfl (λ_=>⟨[],XV (by decide +kernel)⟩) rfl rfl (λj i h=>by simp at h) (rk (pv 1)) (λ_ _ _ _=>(JaS iV 0 ae)) (λ_ _ _ _=>(Jdq 0)))))) (i:=4) oJ.nd (Jco (i:=5) oJ.nd (Jda R.ok hr1 R.m R.kp R.b 0 4) (ak (ah (JdH (JaS mz 5 eL) (ax ck (JfU 3 5) (JfU 3 5))) (Jbm 4)
     aZ)))) (Qj eL))
 try dsimp only [Cx.nox,Cx.wish,ag]
 refine⟨_,rfl,p,C,dx,_,_,rfl,ho,T.cl,T.nT,fb _ _ _,tl,_,rfl,Qg ht,_,rfl,l,ts.length,us,L,I.length,rfl,hS,hL,inn,tN,by lia,by lia,λH1 O s1 _ h1=>?_⟩;have h1':H1 O=some (.lst ((hdsG (hdL L) I.length).map V.int)):=by rw[←tl'];exact h1
 refine⟨_,rfl,q,ps,rfl,hq.same s1,λJ ⟨Ok,W,ok,X⟩ D hD=>gi W (λi us H'=>Xj H1∧us=(JhI i).map V.int) (λi us H' ⟨N,_⟩=>ok _ N) (Jbn hD) ?_ ?_⟩
 ·rintro i us H9 x H3 hi G d ⟨o,rfl⟩ yy;obtain⟨rfl,k,r,rfl⟩:=X _ _ _ _ o yy;refine JjJ _ rfl _ _ rfl _ rfl (aQ (λc=>?_) (λc=>?_))
  ·refine JkN _ _ (Jf2 _ (by lia) hi G d (o.upd hD));rw[oG r,if_pos (oDq c),mAq];rfl
  ·refine fV hi G d (XE o);rw[oG r,if_neg (λz=>JfN z),List.append_nil]
 rintro vs H2 d ⟨N,rfl⟩;rw[Jbu _]at d;have nl:=wU ps;refine JjL D (ngF ps) (SqL.of d) (by lia) (λso B hso pm pw=>?_);obtain⟨H3,eN,o,n3⟩:=QB hso (B.map V.int);rw[eN];obtain⟨q0,q1⟩:=Q0 B pm pw;have v:=(s1.trans N).trans o;have h3:=(N.trans o) _ _ h1';refine Jkp so _ n3 (Jh2 cH (λi M H'=>Ex2 λ Z Y=>An3 (M=[Ja p,Ja q,Ja l,Ja O,Z,Y]) (Xj H3) ((B.take i).filter (Jju L)=[])) (λi M H' h=>by obtain⟨_,_,_,g,_⟩:=h;exact g.seq (SqL.of n3)) (JC none none (ao.refl _) rfl))
 ·rintro i M H9 x H4 hi ⟨Z,Y,rfl,g,no⟩ ⟨rfl,hx⟩;obtain⟨k,r,rfl⟩:=Jjk _ (g.seq (SqL.of n3));have u:=v.trans g;refine⟨_,rfl,_,rfl,p,tl,al,rl,I,As,Rs,k,rfl,(S.same u).pr,λe H5 t=>?_,λx y e H5 a t ha=>?_⟩
  ·refine Jgf _ _ (bK (bK (JC _ _ (g.trans t) ?_)));have:Q9 (bO (hdL L) As k):=by unfold bO;rw[e]
   rw[bb r,List.filter_append,no,List.filter_cons_of_neg (by rw[this];decide)];rfl
  ·obtain⟨ix,iy⟩:=lQ S.dm e;have sk:bO (hdL L) As k=decide (Jh5 x=Jh5 y):=by unfold bO;rw[e]
   have h5:=(g.trans t) _ _ h3;have b0:Jfe x y 0=some (.int x):=aJ rfl;have b1:Jfe x y 1=some (.int y):=aJ rfl;refine Jgf _ _ (b_ ⟨_,rfl,_,rfl,a,_,_,_,rfl,rfl,ha,b0,O,_,_,_,rfl,rfl,SqL.of h5,vM _ ix.1 ix.2,_,rfl,_,rfl,a,_,_,_,rfl,rfl,ha,b1,O,_,_,_,rfl,rfl,SqL.of h5,vM _ iy.1 iy.2,rfl,_,rfl,?_⟩);rw[kW,←sk];cases es:bO (hdL L) As k with
   | true =>
    refine b_ (V2 (q1 k ((B.drop (i+1)).filter (Jju L)) ?_ H5 (u.trans t)));obtain⟨lt,ek⟩:=gEq r
    conv=>lhs;rw[←JaP B,List.drop_eq_getElem_cons lt,ek]
    rw[List.filter_append,no,List.nil_append,List.filter_cons_of_pos es]
   | false =>
    refine bK (JC _ _ (g.trans t) ?_);rw[bb r,List.filter_append,no,List.filter_cons_of_neg (by rw[es];decide)];rfl
 ·rintro M H4 ⟨Z,Y,rfl,g,no⟩;rw[lM,List.take_length]at no;exact q0 no H4 (v.trans g)
noncomputable def mk1 (hs:List Int)(l:Lk):Lk:=(l.1,l.2.1,if l.2.2=-1 then 0 else hs.getD l.2.2.toNat 0)
noncomputable def ptF (d:Int)(B:List Lk):List Int:=d :: (B.filter λb=>decide (b.2.2 > 0)).map λb=>-b.2.2
def ka (K:W.Frag)(H:Hp)(a:Addr)(d:Int)(B:List Lk):Prop:=∃b c e,X9 a [.str "equal",.ref b,.ref c]∧X9 b ((ptF d B).map V.int)∧X9 c e∧JQ (B.map dL) e
def ka.same (h:ka K H a d B)(s:Xj H):ka K H' a d B:=by obtain⟨b,c,j,i,g,f,e⟩:=h;exact⟨b,c,j,s.tup i,s.tup g,s.tup f,QC s.kt _ e⟩
def wV {B:List Lk}{i:Nat}{b:Lk}(h:B[i]?=some b):((B.take (i+1)).filter λb=>decide (b.2.2 > 0)).map (λb=>-b.2.2)=((B.take i).filter λb=>decide (b.2.2 > 0)).map (λb=>-b.2.2)++(if b.2.2 > 0 then [-b.2.2] else []):=by
 rw[bb h,List.filter_append,mAq];congr 1;by_cases c:b.2.2 > 0
 ·simp [c]
 ·simp [c]
inductive rM (K)(C):Sp|m{vs H Q E9} (p tl al rl q l) (T) (As) (Rs) (ps) (us) (L) (d x y):vs=[.ref p,.ref q,.ref l,.int d]→JhG H→SqI K H q ps→Jbp 1000→JX l us→JQ (L.map dL) us→JdP T ps L→JjO 60→JaL d (x,y)→Jh5 x=Jh5 y→(∀H' a M,Xj H→ka K H' a d ((JaC L).map (JbB ps))→W54.Needs T L x y M→M.Pairwise (· < ·)→Jbq a)→rM K C vs H Q E9
def kb:Xn ["problem","held","found","atom","told","pair","needed","marked","parts"] ["problem","held","found","atom"] lB:=fsc
def Ci (F:X4 "equal_line" "equal_line" lB)(T:Jb4 C)(u:Vo "tuple")(BS:Jk4 fS dS (VY "number") (jY K C))(BH:Jie 2 "held_same" fH dH (VY "held") (oH K C))(BW:Jie 2 "ways" fW dW ["terms","links","one","other"] (W54.sp_ways K)):Jdo 3 ["problem","held","found","atom"] (rM K C):=by
 refine F.ok kb (λvs H Q E h=>?_) (λcdv A outer s H vs Q E hr h=>?_)
 ·obtain⟨p,tl,al,rl,q,l,T',As,Rs,ps,us,L,d,x,y,rfl,_⟩:=h;rfl
 obtain⟨p,tl,al,rl,q,l,T',As,Rs,ps,us,L,d,x,y,rfl,S,hq,p1000,hS,hL,R,t60,e,hj,Q0⟩:=h;have hr1:aX 1 _:=hr.mono (by decide);obtain⟨⟨dx,ho⟩,⟨ts,ht,hT⟩,_⟩:=id S.pr;have ll:=R.len;refine VP (Vd (az (i:=4) kb.nd rfl (Or.inr rfl) (Jda BH.ok hr BH.m BH.kp BH.b 0 1)) (Xm (i:=5) kb.nd (Jda BS.ok hr1 BS.m BS.kp BS.b 0 3)) (Jco (i:=6) kb.nd (Jlt BW.ok hr BW.m BW.kp BW.b (aa (Vl 0) (Va 2 (Ji5 5 5)))) (Jeq (yH (i:=7) (N':=["link","told"]) (ix:=[4]) kb.nd rfl (Or.inl rfl) rfl rfl (by decide +kernel) (by decide +kernel) rfl (λok=>JeL (sc:=ap lB)) (by decide +kernel) rfl rfl (λj i h=>match j,h with | 0,h=>by cases h;exact Jbz _ | n+1,h=>by simp at h) (Jd7 6) (λ_ _ _ _=>(cu (JcI (Jin (r:=du K) 0) (Jin (r:=du K) 0) (iu (ax ck (Jin (r:=du K) 0) (Jck ae)) ae (JbS (r:=gJ K) a_ 1 (Jin (r:=du K) 0))))))) (Xm (i:=8) kb.nd (aw jx (Jkh 3) (Q5 (N':=["link"]) (ix:=[]) rfl rfl rfl (λ_=>⟨[],XV (by decide +kernel)⟩) rfl rfl (λj i h=>by simp at h) (Jd7 7) (λ_ _ _ _=>(Jk0 (Jin (r:=du K) 0))) (λ_ _ _ _=>(JlI (r:=du K) 0))))) (cu (JcI bZ (QY iZ rfl u (Vi 8)) (QY iZ rfl u (Vi 7)))))))
 try dsimp only [Cx.nox,Cx.wish,ag]
 refine⟨_,rfl,_,rfl,p,tl,al,rl,q,T',As,Rs,ps,rfl,S,hq,p1000,λH1 tol s1 _ h1=>?_⟩;refine⟨_,rfl,_,rfl,p,tl,al,rl,T',As,Rs,d,rfl,(S.same s1).pr,λz=>(by rw[e]at z;cases z),λx' y' z H2 pa s2 hpa=>?_⟩;rw[e]at z;cases z;obtain⟨ix,iy⟩:=lQ S.dm e;have G:=s1.trans s2;have b0:Jfe x y 0=some (.int x):=Jd8 (j:=0);have b1:Jfe x y 1=some (.int y):=Jd8 (j:=1);refine⟨_,rfl,p,C,dx,_,_,rfl,G _ _ ho,T.cl,T.nT,fb _ _ _,_,rfl,_,rfl,pa,_,_,_,rfl,rfl,hpa,b0,_,rfl,pa,_,_,_,rfl,rfl,hpa,b1,tl,l,x,y,ts,us,T',V7 ps,L,rfl,SqL.of (G _ _ ht),JhH G.kt _ hT,G.seq hS,QC G.kt _ hL,(λt htt=>⟨S.t3 t htt,S.dm.tm t htt⟩),R,t60,ix,iy,hj,λH3 nl M rs s3 _ h3 hrs N lt=>?_⟩;have s03:=G.trans s3;have h1':=(s2.trans s3) _ _ h1;have rl':JiQ M.length:=by rw[←hrs.length,lM];unfold W54.atP;rw[lM]
 have ml:M.length≤L.length:=W54.nat_nodup_len _ (lt.imp λh=>Nat.ne_of_lt h) N.inn;have aml:(JaC L).length=M.length:=by unfold W54.atP;rw[lM]
 refine JbA _ nl (QI _ h3) (λD hD=>d_ cH (λi zs H'=>Xj H3∧Jk3 ((((JaC L).map (JbB ps)).take i).map dL)) (λi zs H' ⟨s4,_⟩=>Jkf h3) ⟨QL hD,aj.nil⟩ ?_ ?_)
 ·rintro i zs H9 z H4 hi X Y ⟨s4,I⟩ ⟨rfl,hz⟩;obtain⟨k,pk,hk,rfl,W⟩:=jK hrs (hz _ (Jkf h3));have v:=s4.tup W;have hmk:((JaC L).map (JbB ps))[i]?=some (mk1 (J0 ps) k):=by rw[List.getElem?_map,hk];rfl
  have fin:∀n,n=(mk1 (J0 ps) k).2.2→∀r,Qn (H4 r)→kF rs.length D (λi zs H'=>Xj H3∧Jk3 ((((JaC L).map (JbB ps)).take i).map dL)) i zs (.ref r) (Vh H4 r (Jbt k.1 k.2.1 n)):=λn en r g=>by obtain⟨H5,J,s5,n5⟩:=Ja3 g (Jbt k.1 k.2.1 n);rw[J];have kt:=aL.lst (ys:=zs++Vt r) (s5 _ _ Y);refine Jf2 _ (by lia) hi X (s5 _ _ Y) ((s4.trans s5).upd hD);rw[bb hmk,mAq];rw[en]at n5;exact Jac (QC (s5.kt.trans kt) _ I) (nF (l:=mk1 (J0 ps) k) (Jlm n5))
  refine⟨_,rfl,pk,_,_,_,rfl,rfl,v,l0 k,_,rfl,pk,_,_,_,rfl,rfl,v,l1 k,_,rfl,pk,_,_,_,rfl,rfl,v,l2 k,_,rfl,rfl,_,rfl,?_⟩;rw[kW];by_cases c:k.2.2=-1
  ·rw[dTq c];exact b_ ⟨lS3,λr g=>fin 0 (by unfold mk1;rw[if_pos c]) r g⟩
  ·rw[dFq c];obtain⟨qi,hqi,eqi⟩:=W54.of_atP N.inn (mO hk);rcases(R qi k eqi).how with ⟨k0,hg⟩ | ⟨z,_⟩
   ·obtain⟨m,hm,_,_⟩:=gs_at hg;have at1:atI ((J0 ps).map V.int) k.2.2=some (.int m):=by have:atI ((J0 ps).map V.int) (k.2.2.toNat:Int)=some (.int m):=aJ (by rw[List.getElem?_map,hm];rfl);rw[show(k.2.2.toNat:Int)=k.2.2 by lia]at this;exact this
    exact bK ⟨_,rfl,_,rfl,pk,_,_,_,rfl,rfl,v,l2 k,tol,_,_,_,rfl,rfl,Jkf h1',at1,lS3,λr g=>fin m (by unfold mk1;rw[if_neg c,List.getD_eq_getElem?_getD,hm];rfl) r g⟩
   ·exact Jd5 c
 rintro zs H4 Y ⟨s4,I⟩;rw[tO (by rw[lM,aml];lia)]at I;have zl:Jhl M.length:=by rw[←I.length,lM,lM,aml]
 generalize eB:(JaC L).map (JbB ps)=B at I;have bl:B.length=M.length:=by rw[←eB,lM,aml]
 have s04:=s03.trans s4;refine Q1 _ lS1 (λo ho'=>?_);obtain⟨H5,J,s5,n5⟩:=QB ho' (Jgr d);rw[J];have Z:=s5 _ _ Y;have hzs5:=QC s5.kt _ I;refine JbA _ D (QI _ Z) (λD2 hD2=>gi cH (λi vs H'=>Xj H5∧vs=(((B.take i).filter λb=>decide (b.2.2 > 0)).map λb=>-b.2.2).map V.int) (λi vs H' ⟨O,_⟩=>O.seq (SqL.of Z)) (Jbn hD2) ?_ ?_)
 ·rintro i vs H9 z H6 hi X a ⟨O,rfl⟩ ⟨rfl,hz⟩;obtain⟨k,pk,hk,rfl,W⟩:=jK hzs5 (hz _ (O.seq (SqL.of Z)));refine⟨_,rfl,pk,_,_,_,rfl,rfl,O.tup W,l2 k,_,_,rfl,rfl,_,rfl,aQ (λc=>?_) (λc=>?_)⟩
  ·refine JcH _ pk _ _ _ rfl rfl (O.tup W) (l2 k) _ rfl (Jf2 _ (by lia) hi X a (O.upd hD2));rw[wV hk,if_pos (oDq c),mAq];rfl
  ·refine fV hi X a (XE O);rw[wV hk,if_neg (λz=>JfN z),List.append_nil]
 rintro vs H6 a ⟨O,rfl⟩;rw[zl,←bl,List.take_length]at a;have fl:((B.filter λb=>decide (b.2.2 > 0)).map λb=>-b.2.2).length≤60:=by rw[lM];have:=List.length_filter_le (λb:Lk=>decide (b.2.2 > 0)) B;lia
 refine⟨o,D2,_,_,rfl,rfl,O _ _ n5,a,sz _ (by rw[lM];show 1+_≤1000;lia),λo7 ho7=>?_⟩;obtain⟨H7,J,s7,n7⟩:=QB ho7 (Jgr d++((B.filter λb=>decide (b.2.2 > 0)).map λb=>-b.2.2).map V.int);rw[J];have n7:H7 o7=some (.lst ((ptF d B).map V.int)):=n7;refine Jge _ o7 _ (Jfz n7 (λt8 ht8=>?_));obtain⟨H8,J,s8,n8⟩:=Ja3 ht8 ((ptF d B).map V.int);rw[J];have s58:=(O.trans s7).trans s8;refine Jge _ D _ (Jfz (s58 _ _ Z) (λt9 ht9=>?_));obtain⟨H9,J,s9,n9⟩:=Ja3 ht9 zs;rw[J];refine⟨lS3,λr g=>?_⟩;obtain⟨H10,J,U,n10⟩:=Ja3 g [.str "equal",.ref t8,.ref t9];rw[J];refine Q0 H10 r M (((s04.trans s5).trans s58).trans (s9.trans U)) ?_ N lt;rw[eB];exact⟨t8,t9,zs,SqT.of n10,SqT.of (U _ _ (s9 _ _ n8)),SqT.of (U _ _ n9),QC (s58.trans (s9.trans U)).kt _ hzs5⟩
inductive rO (K)(C):Sp|m{vs H Q E9} (p tl al rl q) (T) (As) (Rs) (ps):vs=JbP p q→JhG H→SqI K H q ps→ps.length < 64→JjO 60→(∀L (ms:List Int),JdP T ps L→JlB ps L→Jfu T L→ms.Perm (ngF ps)→ms.Pairwise (·≤·)→(JkT L=[]→∀H',Xj H→Jb7 H')∧∀d r x y M H' a,JkT L=d :: r→JaL d (x,y)→Jh5 x=Jh5 y→W54.Needs T L x y M→M.Pairwise (· < ·)→Xj H→ka K H' a d ((JaC L).map (JbB ps))→Jbq a)→rO K C vs H Q E9
def rP:Xn ["problem","held","found","atom"] (VY "held") nU:=fsc
def Cj (F:X4 "clash" "clash" nU)(B:Jie 5 "same_links" fL dL' (VY "held") (rK K C))(I:Jie 5 "clashing_atom" fA dA' ["problem","held","found"] (rL K C))(D:Jie 3 "equal_line" fE dE ["problem","held","found","atom"] (rM K C)):Jdo 6 (VY "held") (rO K C):=by
 refine F.ok rP (λvs H Q E h=>?_) (λcdv A outer s H vs Q E W h=>?_)
 ·obtain⟨p,n,u,t,q,v,As,Rs,ps,rfl,_⟩:=h;rfl
 obtain⟨p,n,u,t,q,v,As,Rs,ps,rfl,S,X,O,J,Q0⟩:=h;have U:aX 3 _:=W.mono (by decide);refine VP (Jco (i:=2) rP.nd (Jda B.ok W B.m B.kp B.b 0 1) (QO (i:=3) rP.nd (Jc3 I.ok W I.m I.kp I.b 0 (Jcn 1 2)) (ah (JaS pd 3 eL) (Qj eL)
   aZ) (Qj (Jc3 D.ok U D.m D.kp D.b 0 (Va 1 (Jcn 2 3))))))
 try dsimp only [Cx.nox,Cx.wish,ag]
 refine⟨_,rfl,_,rfl,p,n,u,t,q,v,As,Rs,ps,rfl,S,X,by lia,λH1 l us L o h1 hL R G Cl=>?_⟩;have ll:=R.len;refine⟨_,rfl,_,rfl,_,rfl,p,n,u,t,q,l,v,As,Rs,ps,us,L,rfl,S.same o,X.same o,O,SqL.of h1,hL,R.inn,by lia,λT pm Y=>⟨λe H2 j=>?_,λd r e H2 j=>?_⟩⟩
 ·exact Jgf _ _ (b_ ((Q0 L T R G Cl pm Y).1 e H2 (o.trans j)))
 ·refine Jgf _ _ (aQ (λc=>absurd (oDq c) (by intro z;cases z)) (λc=>?_));have k:=(List.mem_filter.mp (by rw[e];exact List.mem_cons_self:d∈T.filter (Jju L))).2;obtain⟨x,y,e1,e2⟩:∃x y,JaL d (x,y)∧Jh5 x=hdL L y:=by
   unfold bO at k;cases z:JY d with
   | none=>rw[z]at k;cases k
   | some Z=>rw[z]at k;exact XA Z.1 Z.2 (oDq k)
  have g:=o.trans j;exact⟨_,rfl,_,rfl,_,rfl,_,rfl,p,n,u,t,q,l,v,As,Rs,ps,us,L,d,x,y,rfl,S.same g,X.same g,by lia,SqL.of (j _ _ h1),QC j.kt _ hL,R,J,e1,e2,λH3 a M s3 hA N lt=>(Q0 L T R G Cl pm Y).2 d r x y M H3 a e e1 e2 N lt (g.trans s3) hA⟩
def rQ:∀As:List At,Jc9 (As.map dA)
 | []=>by rfl
 | .plain z :: As=>by simp [bz,dA,nol,rQ As]
 | .same a b :: As=>by simp [bz,dA,nol,rQ As]
def PIn.neg (h:PIn m p):PIn m (-p):=⟨by have:=h.1;lia,by have:=h.2.2;lia,by have:=h.2.1;lia⟩
inductive rR (K)(C):Sp|m{vs H Q E9} (p tl al rl q) (T) (As) (Rs) (ps):vs=JbP p q→JhG H→JdK q→(∀k∈ps,Jb9 k)→Jbp 1000→0 < T.length→(∀H' r rs L,Xj H→Vx r (rs.map V.int)→JiQ T.length→JdP T ps L→JlB ps L→Jfu T L→fe T.length (hdL L) (rf rs)→Jbq r)→rR K C vs H Q E9
def lX:Xn ["_law_problem","_law_held","_law_roots","_law_step","_law_bond"] (JJ "_law_held") qI:=fsc
def Ck (F:X4 "_law_joined_by" "_law_joined_by" qI)(T:Jb4 C)(J:Vo "list")(d:Vo "range")(W:Jie 2 "_law_next" fN dN (Jj2 "_law_roots") (rz K C))(X:Jif "_law_merged" fM dM ["_law_roots","_law_one","_law_other"] (rn K)):Jdo 3 (JJ "_law_held") (rR K C):=by
 refine F.ok lX (λvs H Q E h=>?_) (λcdv A outer s H vs Q E hr h=>?_)
 ·obtain⟨p,tl,al,rl,q,e,As,Rs,ps,rfl,_⟩:=h;rfl
 obtain⟨p,tl,al,rl,q,e,As,Rs,ps,rfl,S,hq,pin,I,t1,Q0⟩:=h;have hr1:aX 1 _:=hr.mono (by decide);refine VP (JkU (i:=2) lX.nd (Jcy (vo rfl) rfl J (Xf (vn rfl d (Xf (Jct 0))))) (QZ (Jhi d (Xf (Jcu 2))) (i:=3) lX.nd (QO (i:=4) lX.nd (Jc3 W.ok hr W.m W.kp W.b 0 (Jfx (Js (N':=["_law_part"]) (ix:=[]) rfl rfl rfl (λ_=>⟨[],XV (by decide +kernel)⟩) rfl rfl (λj i h=>by simp at h) (Jd7 1) (λ_ _ _ _=>(Jdq 0))) 2)) (ah (JaS pd 4 eL) (Jbm 2)
     aZ) (ak (Xm (i:=2) lX.nd (Jc3 X.ok hr1 X.m X.kp X.b 2 (Ji5 4 4)))))) 2)
 try dsimp only [Cx.nox,Cx.wish,ag]
 obtain⟨⟨dx,ho⟩,⟨ts,ht,hT⟩,_⟩:=id S.pr;have tl':ts.length=e.length:=by rw[←hT.length,lM]
 have tN:=S.tN;refine⟨_,rfl,p,C,dx,_,_,rfl,ho,T.cl,T.nT,fb _ _ _,tl,_,rfl,Qg ht,_,rfl,λr0 hr0=>?_⟩;obtain⟨H0,eN,s0,n0⟩:=nwH hr0 (.rng 0 (ts.length:Int));rw[eN];refine Jhs r0 _ rfl n0 (λr1 O=>?_);have e0:(((List.range ((ts.length:Int)).toNat).map λi:Nat=>(i:Int)).map V.int)=(gx e.length).map V.int:=by rw[Int.toNat_natCast,tl'];rfl
 rw[e0];obtain⟨H1,eN,sN,n1⟩:=QB O ((gx e.length).map V.int);rw[eN];have s1:=s0.trans sN;have ag0:fe e.length (hdL []) (rf (gx e.length)):=λt u ht hu=>by rw[wH ht,wH hu];rfl
 refine JlE _ r1 _ (Qg n1) _ (by lia) (by rw[lM,oz];lia) (fj (λi Z H'=>Ex5 λ r rs L v3 v4=>An7 (Z=[Ja p,Ja q,Ja r,v3,v4]) (Xj H) (Vx r (rs.map V.int)) (JiQ e.length) (JdP e ps L) (fe e.length (hdL L) (rf rs)) (L.length=i)) ⟨r1,_,[],none,none,rfl,s1,n1,oz _,bu.nil _ _,ag0,rfl⟩ ?_ ?_)
 ·rintro i Z H3 hi ⟨r,rs,L,v3,v4,rfl,N,o,a,R,Y,li⟩;refine Jdr _ rfl _ q rfl (Jgo (N.seq hq)) (λD hD=>JhJ cH (λi us H'=>Xj H3∧us=((ps.take i).map λk=>-k).map V.int) (λi us H' ⟨g,_⟩=>(N.trans g).seq hq) hD ?_ ?_)
  ·rintro j us H9 x H4 hj hly v ⟨g,rfl⟩ ⟨rfl,hx⟩;obtain⟨k,hk,rfl⟩:=Jjk _ ((N.trans g).seq hq);refine JkN _ _ (Jf2 _ (by rw[lM];exact I) hj hly v (g.upd hD));rw[bb hk,mAq,mAq];rfl
  rintro us H4 v ⟨g,rfl⟩;rw[lM,List.take_length]at v;have B:=N.trans g;refine Jll _ p tl al rl D r e As Rs (ps.map (λk=>-k)) rs rfl (S.same B) (Qg v) (λk hk=>by obtain⟨j,hj,rfl⟩:=List.mem_map.mp hk;exact(pin j hj).neg) (JdX _ _ o) a (λno H5 M=>?_) (λH5 b U M hb y=>?_)
  ·obtain⟨G,Cl⟩:=B9 S.dm Y no;exact Jgf _ _ (b_ (V2 (Q0 H5 r rs L (B.trans M) ((g.trans M) _ _ o) a R G Cl Y)))
  ·refine Jgf _ _ (aQ (λc=>absurd (oDq c) (by intro z;cases z)) (λc=>?_));obtain⟨l,R',Ag'⟩:=Ca S.dm Y a R y;refine⟨_,rfl,_,rfl,b,_,_,_,rfl,rfl,hb,l0 U,_,rfl,b,_,_,_,rfl,rfl,hb,l1 U,r,rs,U.1,U.2.1,rfl,SqL.of ((g.trans M) _ _ o),by rw[a];exact y.1.1,by rw[a];exact y.1.2.1,by lia,λH6 r6 s6 f6 hr6=>?_⟩;exact⟨r6,_,L++[l],_,_,rfl,(B.trans M).trans s6,hr6,by rw[BN];exact a,R',Ag',by rw[lAq,li];rfl⟩
 ·rintro Z H3 ⟨r,rs,L,v3,v4,rfl,N,o,a,R,Y,li⟩;rw[Int.toNat_natCast,lM,oz]at li;have:=B8 R t1;lia
def Cm {H:Hp}{T:List Tm}{As:List At}{ys:List V}{k:Int}{f:Int→Int}(D:Jjp T)(g:JQ (As.map dA) ys)(h0:1≤k)(p:k≤(As.length:Int)):∃x,Jdl ys (k - 1) x∧((∃z q,Jed q∧X9 q (JiF z)∧Q9 (bO f As k)∧Qn (JY k))∨∃a b q,Jed q∧X9 q (Jet a b)∧Vq a∧Vq b∧JaL k (a,b)∧bO f As k=decide (f a=f b)):=by
 have s:Jfl As.length:=by rw[←g.length,lM]
 obtain⟨x,l,j⟩:=jX (xs:=ys) (i:=k - 1) (by lia) (by lia);obtain⟨a,r,c⟩:=rg g l;obtain⟨u,h,t,d⟩:=qX h0 p;rw[r]at h;cases h;refine Qk x j;cases a with
 | plain z =>
  obtain⟨q,rfl,e⟩:=ri c;exact .inl (JjL z q e (by unfold bO;rw[d]) d)
 | same a b =>
  obtain⟨q,rfl,e⟩:=rj c;obtain⟨o,n⟩:=lQ D d;exact .inr ⟨a,b,q,rfl,e,o,n,d,by unfold bO;rw[d]⟩
inductive oK (K)(C):Sp|m{vs H Q E9} (p tl al rl q) (T) (As) (Rs) (ps):vs=JbP p q→JhG H→JdK q→(∀k∈ps,Jb9 k)→ps.length < 64→0 < T.length→(∀H' l (ms:List Int) L,Xj H→Vx l ((JkT L).map V.int)→ms.Perm (ngF ps)→ms.Pairwise (·≤·)→JdP T ps L→JlB ps L→Jfu T L→Jbq l)→oK K C vs H Q E9
def lY:Xn ["_law_problem","_law_held","_law_roots","_law_found","_law_part","_law_atom"] (JJ "_law_held") qJ:=fsc
def Cn (F:X4 "_law_denied" "_law_denied" qJ)(T:Jb4 C)(B:Vo "sorted")(BJ:Jie 3 "_law_joined_by" fJ dJ (JJ "_law_held") (rR K C)):Jdo 4 (JJ "_law_held") (oK K C):=by
 refine F.ok lY (λvs H Q E h=>?_) (λcdv A outer s H vs Q E hr h=>?_)
 ·obtain⟨p,tl,al,rl,q,T',As,Rs,ps,rfl,_⟩:=h;rfl
 obtain⟨p,tl,al,rl,q,T',As,Rs,ps,rfl,S,hq,Z,p64,t1,Q0⟩:=h;refine VP (JeU (i:=2) lY.nd (Jda BJ.ok hr BJ.m BJ.kp BJ.b 0 1) (i:=3) lY.nd (ba ac) (ad (QZ (cC (Jbw qe B (Xf (Q5 (N':=["_law_part"]) (ix:=[]) rfl rfl rfl (λ_=>⟨[],XV (by decide +kernel)⟩) rfl rfl (λj i h=>by simp at h) (Jd7 1) (λ_ _ _ _=>(JaS iV 0 ae)) (λ_ _ _ _=>(Jdq 0)))))) (i:=4) lY.nd (Jco (i:=5) lY.nd (ar a_ (Vl 0) (Q_ hC 4)) (ak (ah (JdH (ax ck (QA 5) bZ) (ax ck (JfU 2 5) (JfU 2 5))) (JfS 3 (Vi 4))
     aZ)))) (Jbm 3)))
 try dsimp only [Cx.nox,Cx.wish,ag]
 obtain⟨⟨dx,ho⟩,_,⟨ys,ha,hA⟩,_⟩:=id S.pr;refine⟨_,rfl,_,rfl,p,tl,al,rl,q,T',As,Rs,ps,rfl,S,hq,Z,by lia,t1,λH1 r rs L s1 h1 X R G Cl Ag=>?_⟩;refine JeR (λl hl=>?_);obtain⟨H2,eN,s2,n2⟩:=QB hl [];rw[eN];have nlr:=bX h1 hl;have lH:=s1.free hl;have v:=s1.trans s2;refine Jc_ _ q _ (v.seq hq) (λD hD=>gi cH (λi us H'=>Xj H2∧us=(JhI i).map V.int) (λi us H' ⟨u,_⟩=>(v.trans u).seq hq) (Jbn hD) ?_ ?_)
 ·rintro i us H9 x H3 hi hly n ⟨u,rfl⟩ ⟨rfl,hx⟩;obtain⟨k,U,rfl⟩:=Jjk _ ((v.trans u).seq hq);refine JjJ _ rfl _ _ rfl _ rfl (aQ (λc=>?_) (λc=>?_))
  ·refine JkN _ _ (Jf2 _ (by rw[lM];lia) hi hly n (u.upd hD));rw[oG U,if_pos (oDq c),mAq];rfl
  ·refine fV hi hly n (XE u);rw[oG U,if_neg (λz=>JfN z),List.append_nil]
 rintro us H3 n ⟨u,rfl⟩;rw[lM,List.take_length]at n;have nl:=wU ps;refine JjL D (ngF ps) (SqL.of n) (by lia) (λso O J pm pw=>?_);obtain⟨H4,eN,s4,n4⟩:=QB J (O.map V.int);rw[eN];have nso:so≠l:=λe=>by rw[e,u _ _ n2]at J;cases J
 have mlen:=pm.length_eq;have W:=(v.trans u).trans s4;have r4:=(s2.trans (u.trans s4)) _ _ h1;refine Jkp so _ n4 (Jh2 cH (λi σ H'=>Ex2 λ v4 v5=>An3 (σ=[Ja p,Ja q,Ja r,Ja l,v4,v5]) (cb l H4 H') (Vx l (((O.take i).filter (Jju L)).map V.int))) (λi σ H' h=>by obtain⟨_,_,_,t,_⟩:=h;exact SqL.of (t _ _ nso n4)) (JC none none (cb.refl _ _) ((u.trans s4) _ _ n2)))
 ·rintro i σ H9 x H5 hi ⟨v4,v5,rfl,t,I⟩ ⟨rfl,hx⟩;obtain⟨k,U,rfl⟩:=cM (JcY _ (t _ _ nso n4));have kin:1≤k∧k≤(As.length:Int):=by have:=pm.mem_iff.mp (mO U);obtain⟨k0,hk0,e⟩:=List.mem_map.mp this;obtain⟨m0,c0⟩:=List.mem_filter.mp hk0;have:=Z k0 m0;obtain⟨_,b1,b2⟩:=this;lia
  have d:JhU H5:=λb o N=>t b o (λe=>by rw[e,lH]at N;cases N) (W b o N);obtain⟨x,x2,M⟩:=Cm S.dm (hA.keep d.kt (rQ _)) kin.1 kin.2;have r5:=t _ _ nlr r4;refine⟨_,rfl,p,C,dx,_,_,rfl,d _ _ ho,T.cl,T.nA,fc _ _ _,_,rfl,_,_,rfl,rfl,al,_,_,_,rfl,rfl,SqL.of (d _ _ ha),x2,?_⟩;have y:Q9 (bO (hdL L) As k)→((O.take (i+1)).filter (Jju L))=(O.take i).filter (Jju L):=λe=>by rw[bb U,List.filter_append,List.filter_cons_of_neg (by rw[e];decide)];exact List.append_nil _
  rcases M with ⟨z,Y,rfl,g,sb,_⟩ | ⟨a,b,Y,rfl,g,ia,ib,_,sb⟩
  ·refine⟨_,rfl,Y,_,_,_,rfl,rfl,g,aJ rfl,rfl,_,rfl,aQ (λc=>JdW (oDq c)) (λc=>bK (JC _ _ t ?_))⟩;rw[y sb];exact I
  ·refine⟨_,rfl,Y,_,_,_,rfl,rfl,g,aJ rfl,rfl,_,rfl,aQ (λc=>?_) (λc=>Jke (dTq rfl))⟩;refine⟨_,rfl,_,rfl,Y,_,_,_,rfl,rfl,g,aJ rfl,r,_,_,_,rfl,rfl,SqL.of r5,eA (by rw[X];exact ia),_,rfl,_,rfl,Y,_,_,_,rfl,rfl,g,aJ rfl,r,_,_,_,rfl,rfl,SqL.of r5,eA (by rw[X];exact ib),rfl,_,rfl,?_⟩;rw[kW,←Ag.dec ia ib,←sb];cases es:bO (hdL L) As k with
   | false =>
    refine bK (JC _ _ t ?_);rw[y es];exact I
   | true =>
    refine b_ ⟨_,rfl,JcJ I,_,rfl,l,_,_,rfl,rfl,I,cY ?_,_,_,rfl,t.trans (Jgu _),?_⟩
    ·rw[lM];have:=List.length_filter_le (Jju L) (O.take i);rw[List.length_take]at this;lia
    ·rw[af,bb U,List.filter_append,List.filter_cons_of_pos es,mAq];rfl
 ·rintro σ H5 ⟨v4,v5,rfl,t,I⟩;rw[lM,List.take_length]at I;have d:JhU H5:=λb o N=>t b o (λe=>by rw[e,lH]at N;cases N) (W b o N);exact V2 (Q0 H5 l O L d I pm pw R G Cl)
def EqR (T:List Tm)(As:List At)(ps:List Int):Prop:=∀g:Int→Int,eX T g→(∀p∈ps,∀x y,JaL (-p) (x,y)→g x=g y)→∃d∈ps,Qu (bO g As d)
def wW (h:JaL d (x,y)):bO g As d=decide (g x=g y):=by unfold bO;rw[h]
def rS (h:Qu (bO g As d)):∃x y,JaL d (x,y)∧g x=g y:=by
 unfold bO at h;split at h
 ·rename_i q e;exact⟨q.1,q.2,e,oDq h⟩
 ·cases h
def Co (h:W54.Needs T L x y M)(R:bu T gs L){g:Int→Int}(C:eX T g)(f:∀q∈M,∀l,L[q]?=some l→l.2.2≠-1→g l.1=g l.2.1):g x=g y:=by
 have F:W54.Forest L:=λi l c=>(R i l c).new;have s:∀n q l,q < n→q∈M→L[q]?=some l→g l.1=g l.2.1:=by
  intro n
  induction n with
  | zero=>lia
  | succ n G =>
   intro q l o w c;by_cases e:l.2.2=-1
   ·rcases(R q l c).how with ⟨z,_⟩ | ⟨_,t,u,h1,h2,h3,h4⟩
    ·lia
    ·have B:=W54.pairs_joined R c;have D:t.2.length=u.2.length:=by have:=Jad h4;rwa [lM,lM]at this
     have:=C l.1.toNat l.2.1.toNat t u h1 h2 h3 (W54.eq_map_zip D λp H=>by
      have k:p∈W54.pairsF T l:=by unfold W54.pairsF;rw[if_pos e,h1,h2];exact H
      obtain⟨A,P,d⟩:=h.all q w l c p k;exact P.walk g λr j E v=>G r E (by have:=P.below F (B p k) r j;lia) (d r j) v)
     have a:=(R q l c).a;have b:=(R q l c).b;rwa [show(l.1.toNat:Int)=l.1 by lia,show(l.2.1.toNat:Int)=l.2.1 by lia]at this
   ·exact f q w l c e
 obtain⟨A,P,d⟩:=h.top;exact P.walk g λq o l c=>s (q+1) q l (Nat.lt_succ_self _) (d q o) c
def lZ (R:JdP T hs L){q:Nat}{l:Lk}(c:L[q]?=some l)(h:l.2.2≠-1):∃k,(J0 hs)[l.2.2.toNat]?=some k∧mk1 (J0 hs) l=(l.1,l.2.1,k)∧JaL k (l.1,l.2.1)∧k∈hs∧0 < k:=by
 rcases(R q l c).how with ⟨_,z⟩ | ⟨z,_⟩
 ·obtain⟨k,b,a,e⟩:=gs_at z;refine⟨k,b,?_,a,e,by have:=lW a;lia⟩;unfold mk1;rw[if_neg h,List.getD_eq_getElem?_getD,b];rfl
 ·exact Jd5 h
def rT (hs)(h:l.2.2=-1):(mk1 hs l).2.2=0:=by unfold mk1;rw[if_pos h]
def oM (R:JdP T hs L)(h:∀q∈M,Je5 q){p:Int}:p∈ptF d ((JaC L).map (JbB hs))↔p=d∨∃q∈M,∃l k,L[q]?=some l∧l.2.2≠-1∧(J0 hs)[l.2.2.toNat]?=some k∧JaL k (l.1,l.2.1)∧k∈hs∧0 < k∧p=-k:=by
 unfold ptF;rw[List.mem_cons,List.mem_map];refine or_congr Iff.rfl ⟨λ⟨b,j,e⟩=>?_,λ⟨q,i,l,k,a,g,o,s,r,n,e⟩=>?_⟩
 ·obtain⟨j,h0⟩:=List.mem_filter.mp j;have h0:=oDq h0;obtain⟨l,a,rfl⟩:=List.mem_map.mp j;obtain⟨q,i,a⟩:=W54.of_atP h a;have g:l.2.2≠-1:=λz=>by rw[rT _ z]at h0;exact Jap h0
  obtain⟨k,o,s,r,n,t⟩:=lZ R a g;exact⟨q,i,l,k,a,g,o,r,n,t,by rw[←e,s]⟩
 ·obtain⟨v,f,c,_⟩:=lZ R a g;rw[o]at f;injection f with u;subst u;exact Jlc (Xp (Jho l (W54.mem_atP i a)) (by rw[c];exact dTq n)) (by rw[c,e])
def Cp (R:JdP T hs L)(N:W54.Needs T L x y M)(f:JaL d (x,y)):JkJ T (ptF d ((JaC L).map (JbB hs))):=λg C h=>by refine Qk d ((oM R N.inn).mpr (.inl rfl));rw[wW f,decide_eq_true_eq];refine Co N R C λq e l b a=>?_;obtain⟨k,n,_,c,j,i⟩:=lZ R b a;exact h (-k) ((oM R N.inn).mpr (.inr ⟨q,e,l,k,b,a,n,c,j,i,rfl⟩)) _ _ (by rw[Int.neg_neg];exact c)
def Cq (R:JdP T hs L)(a:∀q∈M,Je5 q)(c:-d∈hs):∀p∈ptF d ((JaC L).map (JbB hs)),-p∈hs:=λp b=>by
 rcases(oM R a).mp b with rfl | ⟨q,_,l,k,_,_,_,_,h3,_,rfl⟩
 ·exact c
 ·rw[Int.neg_neg];exact h3
def Cr (R:JdP T hs L)(a:∀q∈M,Je5 q)(v:M.Pairwise (· < ·))(A:hs.Nodup)(S:0 < d):(ptF d ((JaC L).map (JbB hs))).Nodup:=by
 have H:=λp=>oM (p:=p) (d:=0) R a;refine List.nodup_cons.mpr (XE (λz=>?_))
 ·obtain⟨b,n,e⟩:=List.mem_map.mp z;have h0:=oDq (List.mem_filter.mp n).2;lia
 ·refine List.pairwise_map.mpr ?_;have w:(M.map λq=>mk1 (J0 hs) (L.getD q (0,0,0))).Pairwise λb c=>0 < b.2.2→0 < c.2.2→b.2.2≠c.2.2:=by
   refine List.pairwise_map.mpr (v.imp_of_mem λ{q r} u t D s o e=>?_);have i:=gG (a q u);have g:=gG (a r t);generalize L[q]'(a q u)=l at i;generalize L[r]'(a r t)=m at g;rw[W54.getD_at i]at s e;rw[W54.getD_at g]at o e;have C:l.2.2≠-1:=λz=>by rw[rT _ z]at s;lia
   have B:m.2.2≠-1:=λz=>by rw[rT _ z]at o;lia
   obtain⟨k,P,k2,E,_⟩:=lZ R i C;obtain⟨G,F,j,f,_⟩:=lZ R g B;rw[k2,j]at e;have e:=e;subst e;rw[E]at f;injection f with f;injection f with O N;have:=W54.take_link i D;rw[O,N]at this;exact(R r m g).new this
  have e:(JaC L).map (JbB hs)=M.map λq=>mk1 (J0 hs) (L.getD q (0,0,0)):=by unfold W54.atP;rw[List.map_map];rfl
  rw[e];refine(w.filter _).imp_of_mem λ{b c} n I h z=>?_;have K:=oDq (List.mem_filter.mp n).2;lia
def wX (G:JlB hs L)(C:Jfu T L){f:List Int}(i:f.Perm (ngF hs))(h:f.filter (Jju L)=[]):∀r,JkJ T r→∃p∈r,-p∉hs:=λr e=>Decidable.byContradiction λz=>by have a:∀p∈r,-p∈hs:=λp c=>Decidable.byContradiction λw=>z ⟨p,c,w⟩;obtain⟨d,k,g⟩:=e _ C λp c x y b=>G _ (gs_of (a p c) b);obtain⟨x,y,b,_⟩:=rS g;have:=lW b;have j:d∈ngF hs:=Xk (-d) (Jhp (a d k) (by lia)) (Int.neg_neg _);have:=Xp (i.mem_iff.mpr j) g;rw[h]at this;cases this
def Cs (R:JdP T hs L)(h:∀r,JkJ T r→∃p∈r,-p∉hs){i:List Int}(l:i.Perm (ngF hs)):i.filter (Jju L)=[]:=by
 rw[List.filter_eq_nil_iff];intro d s j;obtain⟨x,y,n,e⟩:=rS j;obtain⟨k,o,rfl⟩:=List.mem_map.mp (l.mem_iff.mp s);obtain⟨p,a,b⟩:=h (-k :: (J0 hs).map λk=>-k) λg C q=>Jlc List.mem_cons_self (by rw[wW n,decide_eq_true_eq];refine min_of R (λt a=>?_) C x y e;obtain⟨f,c,k2⟩:=rH a;exact q (-f) (Xd (Jho f (Xp c (by rw[k2];rfl)))) _ _ (by rw[Int.neg_neg];exact k2))
 rcases List.mem_cons.mp a with rfl | a
 ·rw[Int.neg_neg]at b;exact b (List.mem_filter.mp o).1
 ·obtain⟨f,c,rfl⟩:=List.mem_map.mp a;rw[Int.neg_neg]at b;exact b (rG c).1
def rV (q):∀ps acc,q∈cv acc ps→q∈acc∨q∈ps
 | [],acc,h=>.inl (by simpa [cv] using h)
 | p :: ps,acc,h=>by
  simp only[cv]at h;split at h
  ·rcases rV q ps _ h with h | h
   ·exact .inl h
   ·exact .inr (Xd h)
  ·rcases rV q ps _ h with h | h
   ·rcases mPq h with h | h
    ·exact .inl h
    ·exact .inr (by rw[mSq h];simp)
   ·exact .inr (Xd h)
def wY:∀ps acc,acc.Nodup→(cv acc ps).Nodup
 | [],_,h=>h
 | p :: ps,acc,h=>by
  rw[cv];refine wY ps _ ?_;split
  ·exact h
  ·rename_i c;refine VT h (JbW List.not_mem_nil List.nodup_nil) (λa e b d=>?_);rw[mSq d];rintro rfl;exact c e
def gA (m:Nat)(r:List Int):Prop:=(∀k∈r,PIn m k)∧JjP 20∧r.Nodup
def rW {H:Hp}{p d c b q:Addr}{T:List Tm}{As:List At}{Rs:List (List Int)}{ps:List Int}{Q:VK}{E:XK}(S:Jgz K C H p d c b T)(l:JdK q)(a:∀k∈ps,Jb9 k)(e:Jbp 20)(g:Rs.length < 200)
  (h:∀H' r v,XY K C H' p d c b T (Rs++[r])→Jks c b→JaM r→Q v H'):jV K C (JbP p q) H Q E:=by
 refine⟨p,d,c,b,q,T,As,Rs,ps,rfl,S.pr,l,e,a,g,λH' j i o=>h H' (cv [] ps) _ ⟨i,S.dm,S.t3,S.tN⟩ o ⟨λk n=>?_,?_,wY _ _ List.nodup_nil⟩⟩
 ·exact(rV k ps [] n).elim (λh=>nomatch h) (a k)
 ·have:=qT ps [];rw[List.length_nil]at this;lia
noncomputable def forB (s:Stmt):List Stmt:=match s with
 | .For _ _ b _ _=>b
 | _=>[]
abbrev NUn:List Str:=JbU "_law_cell" "_law_atom"
def rX:Xn NUn (JJ "_law_cell") jS:=fsc
abbrev unB:List Stmt:=forB ((cG jS).getD 0 (Je0 0 0 0 0))
def unit1 (T:Jb4 C)(R:JcA 2 fR dR' "parts" (jV K C))(O:JiB dR' "parts")(I:JgS "add_row" fR)
  {cdv:Value}{A:Around}{outer:List Env}{s:Shared}{H0:Hp}{E:XK}(n:JiU 2 "_law_units_added" jS f cdv) :
  ∃t,Jlf (Jfk CX0 P w K mg NUn "_law_units_added" (ap jS) f cdv A s H0 E).nox (unB.drop 1) ∧
   ∀D H p g d a q As Rs c k,Jgz K C H p g d a q→Jep 100→Rs.length < 200→1≤k→k≤(As.length:Int) →
    (∀H' u N,XY K C H' p g d a q (Rs++u)→Jks d a→(∀r∈u,JaM r)→u.length≤1→D.nx [Ja p,Jb N,Jb k] H')→t D [Ja p,Jb c,Jb k] H:=by
 refine VP (Jh0 (ah (JiD bx 1) (JbD 0 I R n O (Xf (ba (Xf (Jdq 2)))))
     aZ) (Xm (i:=1) rX.nd (Jg4 1)))
 try dsimp only [Cx.nox,Cx.wish,ag]
 intro D H p g d a q As Rs c k S W B U k2 z;refine JlE _ _ _ rfl (by show(0:Int) < 4;decide) _ rfl (VQ (λ_=>⟨_,rfl,_,_,rfl,rfl,Vk (by decide),z H [] _ (by rw[List.append_nil];exact S) (JcN _) (λr n=>nomatch n) (by decide)⟩));obtain⟨dx,J⟩:=S.pr.ob;refine⟨_,rfl,p,dx,_,rfl,J,qW _ _ _,_,rfl,_,rfl,lS1,λl L=>?_⟩;have y:=JdV L (Jga (-k));refine rW (ps:=[-k]) (S.same y) (SqL.of af) (λx j=>?_) (by simp) B λH' r v Q M h=>?_
 ·rw[mSq j];exact Jhe (by lia) (by lia)
 ·refine⟨_,rfl,_,_,rfl,rfl,Vk (by decide),z H' [r] _ Q (λb o e G F=>M _ _ (y _ _ e) G F) (λx j=>?_) (by simp)⟩;rw[mSq j];exact h
inductive rY (K)(C):Sp|m{vs H Q E9} (p tl al rl) (T) (As) (Rs) (c):vs=JbQ p c→JhG H→Jep 20→Rs.length≤100→(∀H' R',XY K C H' p tl al rl T (Rs++R')→Jks al rl→(∀r∈R',JaM r)→R'.length≤2 * As.length→Jb7 H')→rY K C vs H Q E9
def Ct (F:X4 "_law_units_added" "_law_units_added" jS)(T:Jb4 C)(GR:JcA 2 fR dR' "parts" (jV K C))(bR:JiB dR' "parts")(mR:JgS "add_row" fR):Jdo 3 (JJ "_law_cell") (rY K C):=by
 refine F.ok rX (λvs H Q E h=>?_) (λcdv A outer s H vs Q E a h=>?_)
 ·obtain⟨p,y,d,g,z,As,Rs,c,rfl,_⟩:=h;rfl
 obtain⟨p,y,d,g,z,As,Rs,c,rfl,S,aN,rN,q⟩:=h;obtain⟨t1,h1,g1⟩:=unit1 (cdv:=cdv) (outer:=outer) T GR bR mR a;refine VP (ak (QZ (tf rfl T.range (Xv ae (Jc8 cD (Jct 0)))) (i:=2) rX.nd (ad (ah (JiD bx 1) (JbD 0 mR GR a bR (Xf (Jkh 2)))
     aZ) h1)))
 try dsimp only [Cx.nox,Cx.wish,ag]
 obtain⟨dx,ys,ho,Y,yl⟩:=S.pr.lenA;refine⟨_,rfl,p,C,dx,_,_,rfl,ho,T.cl,T.nA,fc _ _ _,d,ys,rfl,Qg Y,_,_,rfl,rfl,_,_,rfl,(by refine Jkw ?_ ?_ ?_ <;> lia),fj (λi M H'=>Jks d g∧∃c D k,M=[Ja p,Jb c,D]∧XY K C H' p y d g z (Rs++k)∧(∀r∈k,JaM r)∧k.length≤2 * i) ⟨JcN _,c,_,[],rfl,by rw[List.append_nil];exact S,(λr a=>nomatch a),by simp⟩ ?_ ?_⟩
 ·rintro i M B hi ⟨f2,c2,D,R2,rfl,J,U,l2⟩;have hi':i < As.length:=by lia
  have rl2:(Rs++R2).length≤140:=by rw[lAq];lia
  have G:∀u L,Fr2 B u d g→(∀r∈L,JaM r)→L.length≤1→∀t j I,XY K C t p y d g z (Rs++R2++L++j)→Fr2 u t d g→(∀r∈j,JaM r)→j.length≤1 →
    (Fr2 H t d g∧∃c D k,[some (V.ref p),some (V.int I),some (V.int (1+(i:Int)))]=[Ja p,Jb c,D]∧XY K C t p y d g z (Rs++k)∧(∀r∈k,JaM r)∧k.length≤2 * (i+1)):=λu L f3 R l3 t j I S4 Z O l4 =>
   ⟨f2.trans (f3.trans Z),I,_,R2++L++j,rfl,by rw[←List.append_assoc,←List.append_assoc];exact S4,λr a=>by
    rcases mPq a with a | a
    ·rcases mPq a with a | a
     ·exact U r a
     ·exact R r a
    ·exact O r a,by rw[lAq,lAq];lia⟩
  refine JlE _ _ _ rfl (by show(0:Int) < 4;decide) _ rfl (VQ (λ_=>g1 _ B p y d g z As (Rs++R2) c2 (1+(i:Int)) J (by lia) (by lia) (by lia) (by lia) λt j I S4 Z O l4=>G B [] (JcN _) (λr a=>nomatch a) (by simp) t j I (by rw[List.append_nil];exact S4) Z O l4));obtain⟨dx2,X⟩:=J.pr.ob;refine Jfr _ p dx2 _ rfl X (qW _ _ _) _ rfl lS1 (λl Y=>?_);have s1:=JdV Y (Jga (1+(i:Int)));refine rW (ps:=[1+(i:Int)]) (J.same s1) (SqL.of af) (λx W=>?_) (by simp) (by lia) λu r v S3 f3 N=>?_
  ·rw[mSq W];exact Jhe (by lia) (by lia)
  ·have f23:Fr2 B u d g:=λb o e n1 n2=>f3 _ _ (s1 _ _ e) n1 n2;have R:∀x∈[r],gA As.length x:=λx W=>by rw[mSq W];exact N
   exact g1 _ u p y d g z As (Rs++R2++[r]) c2 (1+(i:Int)) S3 (by lia) (by rw[lAq,lS];lia) (by lia) (by lia) (G u [r] f23 R (by simp))
 ·rintro M B ⟨f2,c2,D,R2,rfl,J,U,l2⟩;exact q B R2 J f2 U (by lia)
def Fr2.seq (f:Jks z y)(h:Ja6 a)(c:a≠z)(b:a≠y):Xt H' a xs:=by
 rcases h with (h | ⟨o,h⟩) | h
 ·exact .inl (.inl (f _ _ h c b))
 ·exact .inl (Jx o (f _ _ h c b))
 ·exact .inr h
def jo:Xn ["_law_problem","_law_script","_law_first","_law_many","_law_k","_law_cell","_law_row","_law_j","_law_turn"] ["_law_problem","_law_script","_law_first","_law_many"] lJ:=fsc
inductive rZ (K)(C):Sp|m{vs H Q E9} (p tl al rl a) (T) (As) (Rs) (ns:List Int) (fs n):vs=[.ref p,.ref a,.int fs,.int n]→JhG H→(∀H',Jks al rl→Xt H' a (ns.map V.int))→Jfh 1000→0≤fs→fs≤100→0≤n→n≤40→Jep 20→Rs.length≤100→(∀H' R',XY K C H' p tl al rl T (Rs++R')→Jks al rl→(∀r∈R',JaM r)→(R'.length:Int)=n→Jb7 H')→rZ K C vs H Q E9
def Cu (h0:0≤i)(a:i < 9):∃n:Int,Jdl [V.int 1,V.int 2,V.int 2,V.int 3,V.int 2,V.int 1,V.int 3,V.int 2,V.int 5] i (.int n)∧1≤n∧n≤5:=by
 have:i=0∨i=1∨i=2∨i=3∨i=4∨i=5∨i=6∨i=7∨i=8:=by lia
 rcases this with rfl | rfl | rfl | rfl | rfl | rfl | rfl | rfl | rfl <;> exact V2 (by decide)
abbrev NRw:List Str:=["_law_problem","_law_script","_law_first","_law_many","_law_k","_law_cell","_law_row","_law_j","_law_turn"]
abbrev rwB:List Stmt:=forB ((forB ((cG lJ).getD 0 (Je0 0 0 0 0))).getD 2 (Je0 0 0 0 0))
def rows1 (T:Jb4 C)(G:Vo "max"){cdv:Value}{A:Around}{outer:List Env}{s:Shared}{H0:Hp}{E:XK} :
  ∃t,Jlf (Jfk CX0 P w K mg NRw "_law_rows_added" (ap lJ) f cdv A s H0 E).nox rwB ∧
   ∀D H p r a g dx N Q ys n v m k c j M (ps:List Int),Jcr p (eK N r Q)→VH r ys→Jfl n→n≤20→VH g (ps.map V.int)→Jbp 100→0≤j→j≤100 →
    (∀H' (B:List Int) d,Jhk H g→Vx g (B.map V.int)→B.length≤ps.length+1→(∀q∈B,q∈ps∨PIn n q)→D.nx [Ja p,Ja a,Jb v,Jb m,Jb k,Jb c,Ja g,Jb j,d] H') →
    t D [Ja p,Ja a,Jb v,Jb m,Jb k,Jb c,Ja g,Jb j,M] H:=by
 refine VP (JeU (i:=8) jo.nd (JeM (Jc8 iU (Jc8 cD (aw cD (Jg4 5) (Jgt iU ae 7))))) (i:=8) jo.nd (aw bx (Jc8 cF (JeM (aw cD (Xs iU 8 (pv 8)) (Jgt iU ae 8)))) (Jw (tI rfl) G PyProof.Rows.Boot.max (Xv ae (aw iU ae (Jct 0))))) (ak (ah (JdH (Jk0 (Jct 0)) (Jeo gf (Q_ bx 5))) (JfS 6 (Xf (aw iU (Jjx (Xv ae (Jck ae)) (Q_ bx 8)) (aw cD ae (Jg4 8)))))
       aZ)))
 try dsimp only [Cx.nox,Cx.wish,ag]
 intro D H p r a g dx N Q ys n v m k c j M ps W X yl n20 I pl j0 j1 R;have m1:=cS ((c / 9+7919 * j+1) * 48271) (show(0:Int) < 1000003 by decide);refine⟨_,rfl,_,_,rfl,rfl,Vk (by decide),_,rfl,_,_,rfl,rfl,.inl (Vk (by decide)),_,_,rfl,rfl,_,_,rfl,rfl,_,_,rfl,rfl,.inr (Vk (by decide)),_,_,rfl,rfl,(by show(0:Int) < 1000003;decide),?_⟩;generalize (c / 9+7919 * j+1) * 48271 % 1000003=u at m1;have S:0 < (if 2 * ((ys.length:Nat):Int) > 1 then 2 * ((ys.length:Nat):Int) else 1):=by split <;> lia
 have U:=cS ((u * u+40692 * u) % 2147483399 / 7) S;refine⟨_,rfl,_,rfl,_,_,rfl,rfl,Jo (by lia) (by lia),_,rfl,_,_,rfl,rfl,.inl (Vk (by decide)),_,_,rfl,rfl,_,_,rfl,rfl,(by show(0:Int) < 2147483399;decide),_,_,rfl,rfl,Vk (by decide),_,rfl,p,C,dx,_,_,rfl,W,T.cl,T.nA,fc _ _ _,r,ys,rfl,Qg X,_,_,rfl,rfl,.inl (Vk (by decide)),_,_,rfl,_,_,rfl,rfl,S,?_⟩;generalize (u * u+40692 * u) % 2147483399 / 7 % (if 2 * ((ys.length:Nat):Int) > 1 then 2 * ((ys.length:Nat):Int) else 1)=z at U
 have no:∀d,D.nx [Ja p,Ja a,Jb v,Jb m,Jb k,Jb c,Ja g,Jb j,d] H:=λd=>R H ps d (λ_ _ e _=>e) I (by lia) λq J=>.inl J;refine⟨_,rfl,p,C,dx,_,_,rfl,W,T.cl,T.nA,fc _ _ _,r,ys,rfl,Qg X,_,_,rfl,rfl,_,rfl,aQ (λZ=>JlE _ _ _ rfl (by show(0:Int) < 81;decide) _ rfl (VQ (λ_=>no _))) (λ_=>no _)⟩;have Z:(0:Int) < ((ys.length:Nat):Int):=oDq Z;rw[if_pos (by lia)]at U;have b2:=cS z (show(0:Int) < 2 by decide);refine⟨_,rfl,JcJ I,_,rfl,lS2,λl L=>?_⟩;obtain⟨H1,eN,O,n1⟩:=QB L (Jfd 1 (-1));rw[eN];obtain⟨e,he,Y⟩:=rE b2.1 b2.2;refine⟨_,rfl,_,_,rfl,rfl,(by show(0:Int) < 2;decide),l,_,_,_,rfl,rfl,SqL.of n1,he,_,rfl,_,_,rfl,rfl,Vk (by decide),_,_,rfl,rfl,_,_,rfl,rfl,.inl (by rcases Y with rfl | rfl <;> exact Vk (by decide)),g,_,_,rfl,rfl,O _ _ I,cY (by rw[lM];lia),?_⟩;refine R _ (ps++[e * (1+z / 2)]) _ (λb o e n=>by rw[ai n];exact O _ _ e) (by rw[af,mAq];rfl) (by rw[lAq];exact nRq _) λq J=>?_;rcases mPq J with h | h
 ·exact .inl h
 ·refine .inr ?_;rw[mSq h];unfold PIn;rcases Y with rfl | rfl <;> lia
def Cv (F:X4 "_law_rows_added" "_law_rows_added" lJ)(T:Jb4 C)(nMx:Vo "max")(GR:JcA 2 fR dR' "parts" (jV K C))(bR:JiB dR' "parts")(mR:JgS "add_row" fR)(R:Jig fC dC (JaZ "_law_k") (jZ K)):Jdo 3 ["_law_problem","_law_script","_law_first","_law_many"] (rZ K C):=by
 refine F.ok jo (λvs H Q E h=>?_) (λcdv A outer s H vs Q E L h=>?_)
 ·obtain⟨p,Y,N,J,a,Tt,As,Rs,ns,t,n,rfl,_⟩:=h;rfl
 obtain⟨p,Y,N,J,a,Tt,As,Rs,ns,t,n,rfl,S,kS,l,fs0,fs1,n0,n1,aN,rN,q⟩:=h;have hr1:aX 1 _:=L.mono (by decide);obtain⟨t1,h1,g1⟩:=rows1 (base:=base) (cdv:=cdv) (outer:=outer) (s:=s) (H0:=H) (E:=E) T nMx;refine VP (ak (QZ (Jhu T.range 3) (i:=4) jo.nd (JeU (i:=5) jo.nd (JdM R.ok hr1 R.m R.kp R.b 1 (Xs cD 2 (pv 4))) (i:=6) jo.nd (ba ac) (ad (QZ (Jhi T.range (Xf (Jjx (aa ae (aa ae (aa ae (aa ae (aa ae (aa ae (JcI ae ae ae))))))) (Q_ bx 5)))) (i:=7) jo.nd h1) (JbD 0 mR GR L bR (Vi 6))))))
 try dsimp only [Cx.nox,Cx.wish,ag]
 refine Jhs _ rfl n rfl (fj (lo:=0) (n:=n.toNat) (λi d H'=>Jks N J∧∃X W U y u R',d=[Ja p,Ja a,Jb t,Jb n,X,W,U,y,u]∧XY K C H' p Y N J Tt (Rs++R')∧(∀r∈R',JaM r)∧R'.length=i) ⟨JcN _,none,none,none,none,none,[],rfl,by rw[List.append_nil];exact S,(λr L=>nomatch L),rfl⟩ ?_ ?_)
 ·rintro i d I hi ⟨M,X,W,U,y,u,R2,rfl,O,r2,l2⟩;have hS2:Xt I a (ns.map V.int):=kS I M;refine⟨_,rfl,_,rfl,_,rfl,_,_,rfl,rfl,a,ns,_,rfl,hS2,l,(by show(0:Int)≤t+(0+(i:Int));lia),(by show t+(0+(i:Int))≤1000;lia),λc=>?_⟩;refine JeR (λlw G=>?_);obtain⟨H3,eN,s3,n3⟩:=QB G [];rw[eN];have b3:=cS c (show(0:Int) < 9 by decide);obtain⟨m,hm,m1,m5⟩:=Cu b3.1 b3.2;refine⟨(by show Ju 9;decide),λl9 hl9=>?_⟩;obtain⟨H9,eN,s9,n9⟩:=QB hl9 [V.int 1,V.int 2,V.int 2,V.int 3,V.int 2,V.int 1,V.int 3,V.int 2,V.int 5];rw[eN];refine⟨_,rfl,_,_,rfl,rfl,(by show(0:Int) < 9;decide),l9,_,_,_,rfl,rfl,SqL.of n9,hm,_,rfl,by lia,by lia,fj (lo:=0) (n:=m.toNat) (λj d H'=>Xj I∧∃(y u:Option V) (ps:List Int),d=[Ja p,Ja a,Jb t,Jb n,Jb (0+(i:Int)),Jb c,Ja lw,y,u]∧Vx lw (ps.map V.int)∧Jbp j∧∀k∈ps,Jb9 k) ⟨s3.trans s9,_,_,[],rfl,s9 _ _ n3,nRq _,λk hk=>nomatch hk⟩ ?_ ?_⟩
  ·rintro j d H4 hj ⟨B,w7,w8,ps,rfl,hw,pl,g⟩;have hj':j < m.toNat:=hj;obtain⟨dx,ys,ho,hl,yl⟩:=(O.same B).pr.lenA;refine g1 _ H4 p N a lw dx Y J ys As.length t n _ c _ w8 ps ho hl yl aN hw (by lia) (by lia) (by lia) λH' qs v8' f' hw' ql qin=>?_;exact⟨λb o e=>f' b o (B b o e) (λz=>by rw[z,G]at e;cases e),_,_,qs,rfl,hw',by lia,λk hk=>(qin k hk).elim (g k) id⟩
  ·rintro d H4 ⟨B,w7,w8,ps,rfl,hw,pl,g⟩;have S4:=O.same B;obtain⟨dx,ho⟩:=S4.pr.ob;refine Jcb _ p dx _ rfl ho (qW _ _ _) _ rfl ?_;refine rW (ps:=ps) S4 (SqL.of hw) g (by lia) (by rw[lAq];lia) λH5 r v S5 f5 Z=>?_;refine⟨M.trans (λb o e m1 m2=>f5 _ _ (B _ _ e) m1 m2),_,_,_,_,_,R2++[r],rfl,by rw[←List.append_assoc];exact S5,λx D=>?_,by rw[lAq,l2];rfl⟩;rcases mPq D with D | D
   ·exact r2 x D
   ·rw[mSq D];exact Z
 ·rintro d I ⟨M,X,W,U,y,u,R2,rfl,O,r2,l2⟩;exact q I R2 O M r2 (by lia)
def jq (Rs:JB Int)(ps:List Int):Bool:=Rs.all λr=>r.any λk=>decide (k∈ps)
inductive oO (K)(C):Sp|m{vs H Q E9} (p tl al rl q) (T) (As) (Rs) (ps):vs=JbP p q→Jlb rl→JdK q→(∀r∈Rs,JjP 100)→(∀H',Xj H→XR (jq Rs ps) H')→oO K C vs H Q E9
def wZ:Xn (JbU "_law_held" "_law_row") (JJ "_law_held") og:=fsc
def w_:∀Rs:JB Int,Jc9 (Rs.map dR)
 | []=>rfl
 | r :: Rs=>by simp only[List.map_cons,bz,dR,nol,jC,w_ Rs,Bool.and_self]
def Cw (F:X4 "_law_each_held" "_law_each_held" og)(T:Jb4 C):Jea (JJ "_law_held") (oO K C):=by
 refine F.ok wZ (λvs H Q E h=>?_) (λcdv A outer s H vs Q E hr h=>?_)
 ·obtain⟨p,tl,al,R,q,Tt,As,Rs,ps,rfl,_⟩:=h;rfl
 obtain⟨p,tl,al,R,q,Tt,As,Rs,ps,rfl,S,hq,z,Q0⟩:=h;have hu:=jn hr;refine VP (Jg2 (Jgh (cC (Vl 0)) (i:=2) wZ.nd (ah (ax (pF hu) (Q5 (N':=["_law_part","_law_held"]) (ix:=[1]) rfl rfl rfl (λok=>JeL (sc:=ap og)) rfl rfl (λj i h=>match j,h with | 0,h=>by cases h;exact Jbz _ | n+1,h=>by simp at h) (gc (pv 2)) (λ_ _ _ _=>(ax (r:=rIn K false) uf (pv 0) (pv 1) rfl)) (λ_ _ _ _=>(pv 0))) (ba ac) rfl) (Qj dk)
     aZ)) dk)
 try dsimp only [Cx.nox,Cx.wish,ag]
 obtain⟨⟨dx,ho⟩,_,_,⟨xs,X,hR⟩⟩:=id S;have xl:Q8 Rs.length:=by rw[←hR.length,lM]
 refine⟨_,rfl,p,C,dx,_,_,rfl,ho,T.cl,T.nR,lN _ _ _,R,rfl,QI _ X,Jh2 cH (λi J H'=>Xj H∧∃N,J=[Ja p,Ja q,N]∧Qu (jq (Rs.take i) ps)) (λi J H' h=>by obtain⟨g,_⟩:=h;exact JdX _ _ X) (Jbb (ao.refl _) none)⟩
 ·rintro i J H8 x H2 hi ⟨g,N,rfl,I⟩ ⟨rfl,hx⟩;obtain⟨r,a,u,rfl,ha⟩:=Bz (hR.keep g.kt (w_ _)) (JcY _ (g _ _ X));have R:=z r (mO u);refine Jc_ _ a _ ha (λD hD=>gi fz (λj us H'=>Xj H2∧us=((r.take j).filter λk=>decide (k∈ps)).map V.int) (λj us H' ⟨d,_⟩=>d.tup ha) (Jbn hD) ?_ ?_)
  ·rintro j us H8 y H4 L G b ⟨d,rfl⟩ ⟨rfl,hy⟩;have Z:j < r.length:=by rw[lM]at L;exact L
   have t:=gG Z;generalize r[j]=k at t;have M:=hy _ (d.tup ha);rw[List.getElem?_map,t]at M;injection M with M;subst M;have U:=(g.trans d).seq hq;refine Jc4 _ _ rfl q _ rfl (.inl U) (wF _) _ rfl ?_;rw[iD];refine aQ (λc=>?_) (λc=>?_)
   ·have c1:k∈ps:=by simpa using c
    exact V2 (cz (bsz _ (by rw[lM];lia)) L G b ⟨d.upd hD,by rw[bb t,List.filter_append,List.filter_cons,JcM c1,mAq];rfl⟩)
   ·have c1:¬k∈ps:=by simpa using c
    exact fV L G b ⟨d,by rw[bb t,List.filter_append,List.filter_cons,if_neg (by simp [c1]),List.filter_nil,List.append_nil]⟩
  ·rintro us H4 b ⟨d,rfl⟩;rw[tO (by rw[lM];exact nRq _)]at b;refine JeR (λl W=>?_);have O:=JdV W [];have n5:=af (H:=H4) (a:=l) (o:=.lst []);generalize X_ H4 l=H5 at O n5;have v:=g.trans (d.trans O);refine⟨.lst ((r.filter λk=>decide (k∈ps)).map Dt.int),.lst [],JfC (O _ _ b) _,Jaj n5 aj.nil,(by simp only[dep,jk];decide),_,rfl,?_⟩;by_cases e:(r.filter λk=>decide (k∈ps))=[]
   ·rw[e];refine b_ ?_;have:Q9 (jq Rs ps):=by unfold jq;rw[List.all_eq_false];refine Qk r (mO u);rw[List.any_eq_true];rintro ⟨k,t,Y⟩;have:k∈r.filter λk=>decide (k∈ps):=Xp t Y;rw[e]at this;cases this
    have B:=Q0 H5 v;rw[this]at B;exact B
   ·have e2':Q9 (peq (.lst ((r.filter λk=>decide (k∈ps)).map Dt.int)) (.lst [])):=by
     cases h:(r.filter λk=>decide (k∈ps)) with
     | nil=>exact absurd h e
     | cons x xs=>rfl
    rw[e2'];refine bK (XA v _ ?_);obtain⟨k,t⟩:=List.exists_mem_of_ne_nil _ e;obtain⟨h1,h2⟩:=List.mem_filter.mp t;unfold jq at I ⊢;rw[bb u,List.all_append,I];simp only[List.all_cons,List.all_nil,Bool.and_true,Bool.true_and];rw[List.any_eq_true];exact⟨k,h1,h2⟩
 ·rintro J H2 ⟨g,N,rfl,I⟩;rw[tO (by lia)]at I;have B:=Q0 H2 g;rw[I]at B;exact B
def chF:Nat→JB Int
 | 0=>[[]]
 | n+1=>((chF n).map λc=>c++[-((n:Int)+1)])++(chF n).map λc=>c++[(n:Int)+1]
def xb:∀n,(chF n).length=2 ^ n
 | 0=>rfl
 | n+1=>by rw[chF,lAq,lM,lM,xb n,Nat.pow_succ];lia
structure ChIn (n)(c:List Int):Prop where
 len:c.length=n
 inn:∀k∈c,PIn n k
 all:∀a:Int,1≤a→a≤n→a∈c∨-a∈c
 con:∀k∈c,-k∉c
def l_:∀n,∀c∈chF n,ChIn n c
 | 0,c,h=>by rw[mSq h];exact⟨rfl,(λk f=>nomatch f),(λa A y=>by lia),(λk f=>nomatch f)⟩
 | n+1,c,h=>by
  have j:∀c∈chF n,∀x:Int,(x=(n:Int)+1∨x=-((n:Int)+1))→ChIn (n+1) (c++[x]):=λc u x r=>by
   obtain⟨l,i,a,v⟩:=l_ n c u;refine⟨by rw[lAq,l];rfl,λk f=>?_,λb w B=>?_,λk f t=>?_⟩
   ·rcases mPq f with h | h
    ·have:=i k h;unfold PIn at this ⊢;lia
    ·rw[mSq h];unfold PIn;lia
   ·by_cases e:b≤n
    ·exact(a b w e).imp (List.mem_append_left _) (List.mem_append_left _)
    ·have:b=(n:Int)+1:=by lia
     rcases r with z | z
     ·exact .inl (Xb (by rw[z,this];exact List.mem_cons_self))
     ·exact .inr (Xb (by rw[z,this];exact List.mem_cons_self))
   ·have p:∀q∈c,-(n:Int)≤q∧q≤n:=λq s=>(i q s).2;rcases mPq f with h | h <;> rcases mPq t with g | g
    ·exact v k h g
    ·have:=mSq g;have:=p k h;lia
    ·have:=mSq h;have:=p _ g;lia
    ·have:=mSq g;have:=mSq h;lia
  rw[chF]at h;rcases mPq h with h | h
  ·obtain⟨d,o,rfl⟩:=List.mem_map.mp h;exact j d o _ (.inr rfl)
  ·obtain⟨d,o,rfl⟩:=List.mem_map.mp h;exact j d o _ (.inl rfl)
def ChA (H:Hp)(us:List V)(b:JB Int):Prop:=us.length=b.length∧∀(i:Nat) c,b[i]?=some c→∃a,us[i]?=Ja a∧VH a (c.map V.int)
def ChA.same (h:ChA H us cs)(s:Xj H):ChA H' us cs:=⟨h.1,λi c b=>let ⟨a,h1,h2⟩:=h.2 i c b;⟨a,h1,s _ _ h2⟩⟩
def ChA.app (h:ChA H us cs)(g:ChA H vs ds):ChA H (us++vs) (cs++ds):=by
 refine⟨by rw[lAq,lAq,h.1,g.1],λi c a=>?_⟩;rcases Nat.lt_or_ge i cs.length with z | z
 ·rw[List.getElem?_append_left z]at a;rw[List.getElem?_append_left (by rw[h.1];exact z)];exact h.2 i c a
 ·rw[List.getElem?_append_right z]at a;rw[List.getElem?_append_right (by rw[h.1];exact z),h.1];exact g.2 _ c a
def ChA.one (h:VH a (c.map V.int)):ChA H (Vt a) [c]:=⟨rfl,λi d b=>by
 match i,b with
 | 0,b=>cases b;exact Vg a h
 | n+1,b=>cases b⟩
def noD (D:Addr)(H:Hp):Hp:=λb=>if b=D then none else H b
def xc (n:b≠D)(e:Jlr o):noD D H b=some o:=by unfold noD;rw[if_neg n];exact e
def r_ (e:Xa (noD D H b) o):b≠D∧H b=some o:=by
 unfold noD at e;lia
def Cy:noD D (JiW D)=noD D H:=by
 funext b;unfold noD;split
 ·rfl
 ·rw[ai (by assumption)]
inductive oP:Sp|m{vs H Q E9} (n):vs=Jgr (n:Int)→n≤8→(∀H' l us,Xj H→Vx l us→ChA H' us (chF n)→Jbq l)→oP vs H Q E9
def oQ:Xn ["_law_atoms","_law_found","_law_atom"] ["_law_atoms"] lL:=fsc
def Cz (F:X4 "_law_choices" "_law_choices" lL)(T:Jb4 C):Jea ["_law_atoms"] oP:=by
 refine F.ok oQ (λvs H Q E h=>?_) (λcdv A outer s H vs Q E hr h=>?_)
 ·obtain⟨n,rfl,_⟩:=h;rfl
 obtain⟨n,rfl,n8,q⟩:=h;refine VP (JkU (i:=1) oQ.nd (ba (Xf (ba ac))) (JZ (tf rfl T.range (Xv ae (Q_ cD 0))) (bj (i:=2) oQ.nd rfl (Or.inr rfl)) (ak (Xm (i:=1) oQ.nd (aw jx (Js (N':=["_law_held","_law_atom"]) (ix:=[2]) rfl rfl rfl (λok=>JeL (sc:=ap lL)) rfl rfl (λj i h=>match j,h with | 0,h=>by cases h;exact Jbz _ | n+1,h=>by simp at h) (Jd7 1) (λ_ _ _ _=>(Xs jx 0 (ba (Xf (Jdq 1)))))) (Js (N':=["_law_held","_law_atom"]) (ix:=[2]) rfl rfl rfl (λok=>JeL (sc:=ap lL)) rfl rfl (λj i h=>match j,h with | 0,h=>by cases h;exact Jbz _ | n+1,h=>by simp at h) (Jd7 1) (λ_ _ _ _=>(Xs jx 0 (Jkh 1)))))))) 1)
 try dsimp only [Cx.nox,Cx.wish,ag]
 refine JeR (λl0 hl0=>⟨lS1,λl1 Y=>?_⟩);have s0:=JdV hl0 [];have n0:=af (H:=H) (a:=l0) (o:=.lst []);generalize X_ H l0=H0 at s0 n0 Y;have s1:=JdV Y (Vt l0);have n1:=af (H:=H0) (a:=l1) (o:=.lst (Vt l0));generalize Qa H0 l1 (Vt l0)=H1 at s1 n1;refine Jcb _ _ _ rfl rfl _ _ rfl (by refine Jkw ?_ ?_ ?_ <;> lia) (fj (λi σ H'=>Xj H∧∃v2 l us,σ=[Jb (n:Int),Ja l,v2]∧Vx l us∧ChA H' us (chF i)) ⟨s0.trans s1,none,l1,_,rfl,n1,ChA.one (s1 _ _ n0)⟩ ?_ ?_)
 ·rintro i σ H2 hi ⟨s2,v2,l,us,rfl,R,ch⟩;have hi':i < n:=by lia
  have cl:us.length=2 ^ i:=by rw[ch.1,xb]
  have p8:2 ^ i≤2 ^ 8:=Nat.pow_le_pow_right (by decide) (by lia);have O:us.length≤256:=by rw[cl];exact p8
  have step:∀x M D,ao H2 M→Qn (M D)→∀j vs p y,j < us.length→vs.length≤j→Qb (p D) vs→(ao M p∧ChA (noD D p) vs (((chF i).take j).map λc=>c++[x]))→us[j]?=some y →
    ∃(a:Addr) (c:List Int),Xy y a∧Qb (p a) (c.map V.int)∧(c.map V.int).length≤100∧∀B r,Qn (p B)→Qn (upd p B (.lst (Jga x)) r) →
     kF us.length D (λj vs H'=>Xj M∧ChA (noD D H') vs (((chF i).take j).map λc=>c++[x])) j vs (.ref r) (Qa (Qa p B (Jga x)) r (c.map V.int++Jga x)):=by
   intro x M D S hD j vs p y W G v ⟨g,L⟩ X;obtain⟨c,U⟩:∃c,(chF i)[j]?=some c:=Jgp (by rw[←ch.1];exact W);obtain⟨a,h1,h2⟩:=ch.2 j c U;rw[X]at h1;injection h1 with h1;refine⟨a,c,h1,g _ _ (S _ _ h2),by rw[lM,(l_ i c (mO U)).len];lia,λB r t d=>?_⟩;have sx:=JdV t (Jga x);have sr:=JdV d (c.map V.int++Jga x);have nr:=af (H:=Qa p B (Jga x)) (a:=r) (o:=.lst (c.map V.int++Jga x));have J:=sx.trans sr;have hDr:r≠D:=λz=>by rw[z,sx _ _ v]at d;cases d
   generalize Qa (Qa p B (Jga x)) r (c.map V.int++Jga x)=H5 at J nr;refine Ja0 (JcZ _) W G (J _ _ v) ((g.trans J).upd hD);rw[bb U,mAq,Cy];refine ChA.app (L.same λb o e=>?_) (ChA.one ?_)
   ·obtain⟨e1,e2⟩:=r_ e;exact xc e1 (J _ _ e2)
   ·exact xc hDr (by rw[nr,mAq];rfl)
  refine JbA _ l (QI _ R) (λD hD=>d_ cH (λj vs H'=>Xj H2∧ChA (noD D H') vs (((chF i).take j).map λc=>c++[-(1+(i:Int))])) (λj vs H' ⟨g,_⟩=>JdX _ _ R) (Vg (QL hD) (λk c U=>by cases U)) ?_ ?_)
  ·rintro j vs H8 y p W G v ⟨g,L⟩ ⟨rfl,X⟩;obtain⟨a,c,rfl,ha,cl',k⟩:=step (-(1+(i:Int))) H2 D (ao.refl _) hD j vs p y W G v ⟨g,L⟩ (X _ (JdX _ _ R));refine Jdr _ rfl _ _ rfl lS1 (λB t=>⟨a,B,_,_,rfl,rfl,aq t _ _ _ ha,af,VX (by show _+1≤1000;lia),λr d=>k B r t d⟩)
  rintro vs M v ⟨S,L⟩;have L:ChA M vs ((chF i).map λc=>c++[-(1+(i:Int))]):=by rw[tO (by rw[ch.1];exact nRq _)]at L;exact L.same λb o e=>(r_ e).2
  have vl:vs.length≤256:=by rw[L.1,lM,←ch.1];exact O
  refine JbA _ l (QI _ (S _ _ R)) (λD2 Z=>d_ cH (λj N H'=>Xj M∧ChA (noD D2 H') N (((chF i).take j).map λc=>c++[1+(i:Int)])) (λj N H' ⟨g,_⟩=>JdX _ _ (S _ _ R)) (Vg (QL Z) (λk c U=>by cases U)) ?_ ?_)
  ·rintro j N H8 y p W G I ⟨g,u⟩ ⟨rfl,X⟩;obtain⟨a,c,rfl,ha,cl',k⟩:=step (1+(i:Int)) M D2 S Z j N p y W G I ⟨g,u⟩ (X _ (JdX _ _ (S _ _ R)));refine JbA _ _ lS1 (λB t=>⟨a,B,_,_,rfl,rfl,aq t _ _ _ ha,af,VX (by show _+1≤1000;lia),λr d=>k B r t d⟩)
  rintro N p I ⟨g,u⟩;have u:ChA p N ((chF i).map λc=>c++[1+(i:Int)]):=by rw[tO (by rw[ch.1];exact nRq _)]at u;exact u.same λb o e=>(r_ e).2
  have wl:N.length≤256:=by rw[u.1,lM,←ch.1];exact O
  refine⟨D,D2,_,_,rfl,rfl,g _ _ v,I,VX (by lia),λr d=>?_⟩;have s5:=JdV d (vs++N);refine⟨s2.trans (S.trans (g.trans s5)),_,r,_,rfl,af,?_⟩;rw[chF,show -((i:Int)+1)=-(1+(i:Int)) by lia,show(i:Int)+1=1+(i:Int) by lia];exact((L.same g).app u).same s5
 ·rintro σ H2 ⟨s2,v2,l,us,rfl,R,ch⟩;rw[show((n:Int)+1 - 1).toNat=n by lia]at ch;exact V2 (q H2 l us s2 R ch)
end K54
namespace Le54
open PySem L2
abbrev s_levels:Stmt:=K54.s_levels
abbrev s_part_levels:Stmt:=K54.s_part_levels
abbrev s_is_replaced:Stmt:=K54.s_is_replaced
abbrev s_learnt:Stmt:=K54.s_learnt
structure Txt (K)(mg:Str→Option Value):Prop where
 len:Vo "len"
 dict:Vo "dict"
 range:Vo "range"
 tuple:Vo "tuple"
 list:Vo "list"
 any:Vo "any"
 zip:Vo "zip"
 reversed:Vo "reversed"
 max:Vo "max"
 isinstance:Vo "isinstance"
 int:Vo "int"
 bool:Vo "bool"
 abs:Vo "abs"
 ib:Xa (W.kitOne K (.type "int") (.type "bool")) false
inductive se (K):Sp|m{vs H Q E9} (a) (xs) (ts):vs=Vt a→Ja6 a→J_ dP xs→Jcj 100→(∀H' l,Xj H→Vn l→Vx l ((fY ts ts.length).map V.int)→Jbq l)→se K vs H Q E9
def ma:Xn ["trail","found","level","step"] ["trail"] s_levels:=fsc
def ok_levels (F:X4 "levels" "levels" s_levels):Jea ["trail"] (se K):=by
 refine F.ok ma (λvs H Q E h=>?_) (λcdv A outer s H vs Q E G h=>?_)
 ·obtain⟨a,xs,ts,rfl,_⟩:=h;rfl
 obtain⟨a,xs,ts,rfl,v,y,I,q⟩:=h;have d:Q8 ts.length:=by rw[←y.length,lM]
 refine VP (Jco (i:=1) ma.nd (ba ac) (JkU (i:=2) ma.nd ae (QZ (Jd7 0) (i:=3) ma.nd (ad (ah (ax ck (QA 3) (Jck ae)) (ak (ps_aug (i:=2) ma.nd rfl (Or.inl rfl) ae ip_add))
     aZ) (JfS 1 (Vi 2)))) 1))
 try dsimp only [Cx.nox,Cx.wish,ag]
 refine⟨Nat.zero_le _,λl e=>Jc_ _ a xs ((QL e).seq v) (xP (xs:=xs) (λi j H'=>Ex3 λ c st ys=>An5 (j=[Ja a,Ja l,Jb c,st]) (c=XB i) (Xj H) (Vx l ys) (ys=(fY ts i).map V.int))
  (JeX 0 none [] (QL e) af rfl) ?_ ?_ ?_)⟩
 ·rintro i j H' _ ⟨c,st,ys,_,_,s,_⟩;exact s.seq v
 ·rintro i x j H' u ⟨c,st,ys,rfl,rfl,s,b,rfl⟩;obtain⟨t,p,C,rfl,D⟩:=gK y u;have J:JdO i:=(gEq u).1;have n:=s.tup D;have k:=jE C;have B:=zH ts i;have r:((fY ts i).map V.int).length < sizeLine:=by rw[lM,va];exact cY (by lia)
  refine⟨_,rfl,p,_,_,_,rfl,rfl,n,rfl,_,rfl,rfl,_,rfl,aQ (λc=>?_) (λc=>?_)⟩
  ·have o:t.2=-1:=by have:=oDq c;injection this
   have g:cN t=1:=by unfold cN;rw[if_pos o]
   refine⟨_,rfl,_,_,rfl,rfl,_,rfl,JcJ b,_,rfl,l,_,_,rfl,rfl,b,r,_,_,_,rfl,?_,s.upd e,af,?_⟩
   ·rw[k,g]
   ·rw[B,k,g,mAq];rfl
  ·have o:¬t.2=-1:=λz=>JfN (by rw[z]);have g:cN t=0:=by unfold cN;rw[if_neg o]
   refine⟨_,rfl,JcJ b,_,rfl,l,_,_,rfl,rfl,b,r,_,_,_,rfl,?_,s.upd e,af,?_⟩
   ·rw[k,g,Int.add_zero]
   ·rw[B,k,g,Int.add_zero,mAq];rfl
 ·rintro j H' ⟨c,st,ys,rfl,rfl,s,b,rfl⟩;refine V2 (q H' l s e ?_);rw[b,d]
inductive sf (K):Sp|m{vs H Q E9} (a) (xs) (ts):vs=Vt a→Ja6 a→J_ dP xs→Jcj 100→(negs ts).Nodup→(∀H' d,Xj H→Vn d→JkE H' d→Jbq d)→sf K vs H Q E9
def oR:Xn ["trail","found","step","level"] ["trail"] s_part_levels:=fsc
def ok_part_levels {P:Program}{w:World}{K:W.Frag}{mg:Str→Option Value}{base:Heap}{f fL:Addr}{fd dL:FuncData}(F:X4 "part_levels" "part_levels" s_part_levels)(T:Jh4 K)(g:Jif "levels" fL dL ["trail"] (se K)):Jdo 2 ["trail"] (sf K):=by
 refine F.ok oR (λvs H Q E h=>?_) (λcdv A outer s H vs Q E hr h=>?_)
 ·obtain⟨a,xs,ts,rfl,_⟩:=h;rfl
 obtain⟨a,xs,ts,rfl,G,Y,hn,nd,q⟩:=h;have hu:=dv hr;have n:Q8 ts.length:=by rw[←Y.length,lM]
 refine VP (JkU (i:=1) oR.nd gP (JZ (pi_zip rfl T.zip (JdZ 0 (Jlu g.ok hr g.m g.kp g.b 0))) (kj rfl (JhE (i:=2) oR.nd (JhE (i:=3) oR.nd ki))) (ak (gO hu (pv 1) (Jck (QA 2)) (pv 3) rfl))) 1)
 try dsimp only [Cx.nox,Cx.wish,ag]
 refine λd X=>?_;obtain⟨H0,eN,M,U⟩:=nwH X (.dK []);rw[eN];refine Jfr _ _ rfl a xs ts rfl (M.seq G) (XT M.kt _ Y) hn (λH1 l s1 hl v=>?_);have u:=M.trans s1;have S:=s1 _ _ U;have el:((fY ts ts.length).map V.int).length=xs.length:=by rw[lM,va,n]
 refine JjL a l (Jgo (u.seq G)) (QI _ v) (Jh2 (wk_zip el.symm) (λi B H'=>Ex3 λ L J kvs=>An6 (B=[Ja a,Ja d,L,J]) (Xj H) (Vx l ((fY ts ts.length).map V.int)) (JiX d kvs) (JdT i) (∀p:Int,JdE p=if p∈Jlp i then Jb (QF p) else none)) (λi B H' h=>by obtain⟨_,_,_,_,o,r,_⟩:=h;exact QI (o.seq G) r) ⟨none,none,[],rfl,u,v,S,nRq _,λp=>by rfl⟩)
 ·rintro i B H' x H'' hi ⟨L,J,kvs,rfl,o,r,j,lk,D⟩ ⟨p,y,z,rfl,hp,rfl,hy,hz⟩;obtain⟨t,Z,ht,rfl,R⟩:=gK Y (hy _ (o.seq G));have O:=hz _ (SqL.of r);obtain⟨c,hc,rfl⟩:=cM O;rw[zI ts (by lia)]at hc;cases hc;have C:Jcm H' H' p (JbQ Z (XB (i+1))):=QL hp;refine⟨p,_,rfl,SqT.of af,rfl,_,_,rfl,_,_,rfl,rfl,?_⟩;have N:l≠d:=λe=>by rw[e,j]at r;cases r
  refine Jll _ _ rfl _ rfl Z _ _ _ rfl rfl ((o.trans C).tup R) rfl _ rfl d _ rfl (eT.k (k:=Sum.inl (-t.1)) (C _ _ j) (cY (by lia))) ?_;refine⟨_,_,_,rfl,(o.trans C).upd X,?_,af,?_,λq=>?_⟩
  ·rw[ai N];exact C _ _ r
  ·have:=kJ kvs (Sum.inl (-t.1)) (.int (XB (i+1)));lia
  ·rw[gM,D];have em:Jlp (i+1)=Jlp i++[-t.1]:=by unfold negs;rw[bb ht,mAq];rfl
   rw[em];by_cases e:q=-t.1
   ·subst e;rw[if_pos rfl,if_pos (Xb (by simp)),dh nd ht]
   ·rw[if_neg (λz=>e (by cases z;rfl))];by_cases I:q∈negs (ts.take i)
    ·rw[if_pos I,if_pos (Qc I)]
    ·rw[if_neg I,if_neg (λz=>by
      rcases mPq z with z | z
      ·exact I z
      ·exact e (mSq z))]
 ·rintro B H' ⟨L,J,kvs,rfl,o,r,j,lk,D⟩;rw[n,Jbu _]at D;exact V2 (q H' d o X ⟨kvs,j,D⟩)
noncomputable def lvK (ts:List (Int × Int)):Key→Int
 | .inl m=>QF m
 | .inr _=>0
inductive me (K:W.Frag):Sp|m{vs H Q E9} (p y last) (kd ld) (ks) (n) (ts):vs=[.int p,.int y,.ref kd,.ref ld,.int last]→Kst H kd ks n→JkE H ld→kd≠ld→n≤100000→(∀m∈ks,m∈negs ts)→(∀H',Xj H→XR (cV ts ks last p y) H')→me K vs H Q E9
def CA:Xn ["part","why","kept","level_of","last"] ["part","why","kept","level_of","last"] s_is_replaced:=fsc
def any_ks {ts:List (Int × Int)}{ks:List Int}{kvs:List (Key × V)}{p a:Int}(k:∀m:Int,(JdE m).isSome=decide (m∈ks))(r:∀c∈kvs,∃m:Int,JcD c.1 m) :
  (((kvs.filter λc=>decide (c.1≠Sum.inl p)).map λc=>decide (lvK ts c.1=a)).any id)=ks.any λo=>decide (o≠p)&&decide (QF o=a):=by
 rw[Bool.eq_iff_iff,List.any_eq_true,List.any_eq_true];constructor
 ·rintro ⟨b,n,s⟩;obtain⟨c,i,e⟩:=List.mem_map.mp n;obtain⟨f,q⟩:=List.mem_filter.mp i;obtain⟨m,g⟩:=r c f;have h:m∈ks:=by
   have:(JdE m).isSome=true:=by rw[←gL];exact Je4 c f (dTq g)
   rw[k]at this;exact oDq this
  refine Qk m h;have j:=oDq q;rw[g]at j e;have l:m≠p:=λz=>j (by rw[z]);have t:decide (QF m=a)=true:=by
   have:decide (lvK ts (Sum.inl m)=a)=true:=by rw[e];exact s
   exact this
  rw[dTq l,t];rfl
 ·rintro ⟨m,h,e⟩;rw[Bool.and_eq_true]at e;have:(JdE m).isSome=true:=by rw[k];exact dTq h
  rw[←gL]at this;obtain⟨c,f,g⟩:=List.any_eq_true.mp this;have d:=oDq g;refine Ja4 true (Xk c (Xp f (dTq λz=>(oDq e.1) ?_)) ?_)
  ·rw[d]at z;cases z;rfl
  ·rw[d];exact e.2
def ok_is_replaced {P:Program}{w:World}{K:W.Frag}{mg:Str→Option Value}{base:Heap}{f:Addr}{fd:FuncData}(F:X4 "is_replaced" "is_replaced" s_is_replaced)(T:Jh4 K):Jea ["part","why","kept","level_of","last"] (me K):=by
 refine F.ok CA (λvs H Q E h=>?_) (λcdv A outer s H vs Q E hr h=>?_)
 ·obtain⟨p,y,a,t,ld,ks,n,ts,rfl,_⟩:=h;rfl
 obtain⟨p,y,a,t,ld,ks,n,ts,rfl,hk,hl,ne,n5,L,q⟩:=h;have Z:=dv hr;obtain⟨kvs,Y,k2,k3,k4⟩:=id hk;obtain⟨O,l1,l2⟩:=id hl;refine VP (ad (ah (Ji2 (Jiv Z (pv 0) (pv 2)) (JaS ck 1 (Jck ae))) (Qj dk)
   aZ) (Jeq (ah (Jfg (iC Z (pv 3) (pv 0) (λ_ _=>rfl))) (Qj dk)
   aZ) (ah (ax gf (iC Z (pv 3) (pv 0) (λ_ _=>rfl)) (pv 4)) (Qj dk)
   aZ) (Jw (y_ rfl) T.any PyProof.Rows.Boot.any (Xf (zr (Q5 (N':=["other","last","level_of","part"]) (ix:=[4,3,0]) rfl rfl rfl (λok=>JeL (sc:=ap s_is_replaced)) rfl rfl (λj i h=>match j,h with | 0,h=>by cases h;exact Jbz _ | 1,h=>by cases h;exact Jbz _ | 2,h=>by cases h;exact Jbz _ | n+3,h=>by simp at h) (zq (pv 2)) (λ_ _ _ _=>(JaS gf 0 (pv 3))) (λ_ _ _ _=>(iw ck (iC Z (pv 2) (pv 0) (λ_ _=>rfl)) (pv 1)))))))))
 try dsimp only [Cx.nox,Cx.wish,ag]
 refine Jcb _ _ rfl t _ rfl (bU.k (k:=Sum.inl p) Y) _ rfl ?_;rw[k2];have l:=q H (ao.refl _);unfold cV at l;by_cases e:p∈ks
 ·rw[dTq e]at l ⊢;refine bK (JeX _ rfl _ _ rfl (aQ (λc=>?_) (λc=>?_)))
  ·have ey:y=-1:=by have:=oDq c;injection this
   rw[dFq (λz=>z ey)]at l;exact l
  ·have ey:y≠-1:=λz=>JfN (by rw[z]);rw[dTq ey]at l;have hp:Vm O p=some (.int (QF p)):=by rw[l2,if_pos (L p e)]
   have g:=bU.k (k:=Sum.inl p) l1;rw[hp]at g;refine Jfs _ _ rfl ld _ g rfl _ rfl (aQ (λc0=>?_) (λc0=>?_))
   ·have e0:QF p=0:=by have:=oDq c0;injection this
    rw[dTq e0]at l;exact l
   ·have e0:QF p≠0:=λz=>c0 (dTq (by rw[z]));rw[dFq e0]at l;refine⟨_,rfl,_,rfl,ld,_,rfl,g,_,rfl,rfl,_,rfl,aQ (λX=>?_) (λX=>?_)⟩
    ·have e1:QF p≠a:=λz=>by lia
     rw[dFq e1]at l;exact l
    ·have e1:QF p=a:=by
      lia
     rw[dTq e1]at l;refine⟨_,rfl,t,kvs,rfl,Y,λo D S=>gi zo (λi ys H'=>Vw t (Jdh o)∧(∀b u,b≠t→Jlr u→Vw b u)∧ys=(((kvs.take i).filter λC=>decide (C.1≠Sum.inl p)).map λC=>decide (lvK ts C.1=a)).map V.bl) (λi ys H' ⟨G,_⟩=>G) ?_ ?_ ?_⟩
     ·have N:t≠D:=λz=>by rw[←z,af]at S;cases S
      refine Ja4 ?_ (λb u M B=>?_)
      ·rw[ai N];exact af
      ·have I:b≠D:=λz=>by rw[z]at B;rw[ai (λr=>M (z.trans r)),B]at S;cases S
       rw[ai I,ai M];exact B
     ·rintro i ys H' x H'' hi R d ⟨G,U,rfl⟩ ⟨rfl,k,v,J,rfl⟩;obtain⟨m,em⟩:=k4 _ (mO J);have em':=em;subst em';have hm:m∈ks:=by
       have:(JdE m).isSome=true:=by rw[←gL];exact Je4 _ (mO J) (dTq rfl)
       rw[k2]at this;exact oDq this
      have et:((kvs.take (i+1)).filter λC=>decide (C.1≠Sum.inl p))=if m≠p then((kvs.take i).filter λC=>decide (C.1≠Sum.inl p))++[(Sum.inl m,v)] else(kvs.take i).filter λC=>decide (C.1≠Sum.inl p):=by
       rw[bb J,List.filter_append];by_cases z:m=p
       ·rw[if_neg (λh=>h z),List.filter_cons,if_neg (by simp [z]),List.filter_nil,List.append_nil]
       ·rw[if_pos z,List.filter_cons,if_pos (by refine dTq λr=>z ?_;cases r;rfl),List.filter_nil]
      refine JeX _ rfl _ _ rfl ?_;by_cases z:m=p
      ·subst z;rw[show Q9 (!decide (JjF (JiR m) m)) by have z:JiR m=V.int m:=rfl;rw[z,dTq rfl];rfl]
       refine bK (fV hi R d (Qk G U));rw[et,if_neg (λh=>h rfl)]
      ·rw[show Qu (!decide (JjF (JiR m) p)) by have z2:¬(JjF (JiR m) p):=λr=>z (by injection (show JjG m p from r));rw[dFq z2];rfl]
       have hl2:=U ld _ (Ne.symm ne) l1;have g2:=bU.k (k:=Sum.inl m) hl2;rw[l2,if_pos (L m hm)]at g2;refine b_ (Jfs _ _ rfl ld _ g2 _ rfl rfl (cz (Nat.le_trans k3 (by rw[sizeLine_eq];lia)) hi R d (Qk ?_ (λb u M B=>?_))))
       ·have N:t≠D:=λz=>by rw[z,d]at G;cases G
        rw[ai N];exact G
       ·have I:b≠D:=λz=>by rw[z]at B;have:=S;rw[ai (λr=>M (z.trans r)),B]at this;cases this
        rw[ai I];exact U b u M B
       ·rw[et,if_pos z,mAq,mAq];have e5:decide (JjG (QF m) a)=decide (QF m=a):=JeD (λz=>by injection z) (λz=>by rw[z]);rw[e5];rfl
     ·rintro ys H' d ⟨G,U,rfl⟩;rw[Jbu _]at d;refine⟨t,o,kvs,G,λo' u' z=>?_,?_⟩
      ·have r:=z;rw[Y]at r;cases r
      ·have N:D≠t:=λz=>by rw[z,G]at d;cases d
       have s1:JhU (Xe H' t kvs):=λb u B=>by
        by_cases z:b=t
        ·subst z;rw[af,←Y];exact B
        ·rw[ai z];exact U b u z B
       refine JC D _ (SqL.of (by rw[ai N];exact d)) ?_;have q1:=q _ s1;unfold cV at q1;rw[dTq e,dTq ey,dFq e0,dTq e1,←any_ks (kvs:=kvs) k2 k4]at q1;exact q1
 ·rw[dFq e]at l ⊢;exact b_ (b_ l)
inductive sp_learnt (K):Sp|m{vs H Q E9} (rl tl) (f) (xs zs) (Rs) (ts):vs=Jb6 rl tl f→Ja6 rl→Jdg eE→JX tl zs→J_ dP zs→eU Rs ts f→Jcj 100→(∀r∈Rs,JjP 100)→(∀H' t tp th m,Xj H→Vn t→J1 t (Jb6 tp th m)→J1 tp ((Jcd f).map V.int)→J1 th ((df Rs ts f).reverse.map V.int)→jH (((Jcd f).drop 1).map (lvF ts)) m→Jbq t)→sp_learnt K vs H Q E9
def iO:Xn ["rows","trail","fails","level_of","last","kept","hints","step","parts","level"] ["rows","trail","fails"] s_learnt:=fsc
abbrev NLn:List Str:=["rows","trail","fails","level_of","last","kept","hints","step","parts","level"]
def CB (T:Jh4 K)
  {cdv:Value}{A:Around}{outer:List Env}{s:Shared}{H0:Hp}{E:XK}(hr:JiU 2 "learnt" s_learnt f cdv) :
  ∃t,Jlf (Jfk CX0 P w K mg NLn "learnt" (ap s_learnt) f cdv A s H0 E).nox ((cG s_learnt).drop 5) ∧
   ∀D X H Y ld kd S zs Rs ts a n v0 v2 v4 v7,ao X H→JX Y zs→J_ dP zs→eU Rs ts a→Jcj 100→Kst H kd (gj Rs ts a) n→JkE H ld→VH S ((df Rs ts a).map V.int) →
    (∀H' t u b m,Xj X→Qn (X t)→J1 t (Jb6 u b m)→J1 u ((Jcd a).map V.int)→J1 b ((df Rs ts a).reverse.map V.int)→jH (((Jcd a).drop 1).map (lvF ts)) m→D.rt (.ref t) H') →
    t D [v0,Ja Y,v2,Ja ld,v4,Ja kd,Ja S,v7,none,none] H:=by
 have hu:=dv hr;refine VP (JeU (i:=8) iO.nd (QY iZ rfl T.tuple (Xf (Q5 (N':=["step","kept"]) (ix:=[5]) rfl rfl rfl (λok=>JeL (sc:=ap s_learnt)) rfl rfl (λj i h=>match j,h with | 0,h=>by cases h;exact Jbz _ | n+1,h=>by simp at h) (pO rfl T.reversed (Vi 1)) (λ_ _ _ _=>(eM (kH hu (JlI (r:=du K) 0) (pv 1)))) (λ_ _ _ _=>(JlI (r:=du K) 0))))) (i:=9) iO.nd (zD rfl rfl T.max (Xf (Js (N':=["part","level_of"]) (ix:=[3]) rfl rfl rfl (λok=>JeL (sc:=ap s_learnt)) rfl rfl (λj i h=>match j,h with | 0,h=>by cases h;exact Jbz _ | n+1,h=>by simp at h) (gc (ky u_ (pv 8) (kx ae) ku)) (λ_ _ _ _=>(iC hu (pv 1) (pv 0) (λ_ _=>rfl))))) (ye ae pk_nil)) (Qj (cu (Va 8 (Jfx (zF rfl rfl T.tuple rfl T.reversed (Vi 6)) 9)))))
 try dsimp only [Cx.nox,Cx.wish,ag]
 rintro D X H Y ld kd S zs Rs ts a n v0 v2 v4 v7 M hS hL ok l100 hk hv hh q;have zl:Jhl ts.length:=by rw[←hL.length,lM]
 obtain⟨kvs,k1,k2,k3,k4⟩:=id hk;obtain⟨lvs,l1,l2⟩:=id hv;have np:(negs ts).reverse.length=ts.length:=by rw[List.length_reverse,iF]
 refine⟨_,rfl,Y,zs,rfl,hS,λDl U=>gi pN (λi ys H'=>Xj H∧ys=(((negs ts).reverse.take i).filter λp=>decide (p∈gj Rs ts a)).map V.int) (λi ys H' ⟨l,_⟩=>l.seq hS) (Jbn U) ?_ ?_⟩
 ·rintro i ys H' x H'' hi y o ⟨l,rfl⟩ ⟨rfl,hx⟩;obtain⟨t,p,C,rfl,L⟩:=gK hL (hx _ (l.seq hS));have e0:zs.length - 1 - i=ts.length - 1 - i:=by rw[zl]
  rw[e0]at C;have hr':(negs ts).reverse[i]?=some (-t.1):=by rw[vg,List.getElem?_map,jI (by lia),C];rfl
  have et:(((negs ts).reverse.take (i+1)).filter λp=>decide (p∈gj Rs ts a))=if -t.1∈gj Rs ts a then(((negs ts).reverse.take i).filter λp=>decide (p∈gj Rs ts a))++[-t.1] else((negs ts).reverse.take i).filter λp=>decide (p∈gj Rs ts a):=by
   rw[bb hr',List.filter_append];by_cases e:-t.1∈gj Rs ts a
   ·rw[if_pos e,List.filter_cons,JcM e];rfl
   ·rw[if_neg e,List.filter_cons,if_neg (by simp [e]),List.filter_nil,List.append_nil]
  refine Jll _ p _ _ _ rfl rfl (l.tup L) rfl _ rfl _ rfl kd _ rfl (bU.k (k:=Sum.inl (-t.1)) (l _ _ k1)) _ rfl ?_;rw[k2];by_cases e:-t.1∈gj Rs ts a
  ·rw[dTq e];refine b_ (JcH _ p _ _ _ rfl rfl (l.tup L) rfl _ rfl (Ja0 (JcZ _) hi y o (l.upd U)));rw[et,if_pos e,mAq];rfl
  ·rw[dFq e];refine bK (fV hi y o (XE l));rw[et,if_neg e]
 rintro ys H1 o ⟨l,rfl⟩;rw[zl,tO (by lia)]at o;refine XA Dl _ (Jfz o (λu Q=>?_));have s2:Jcm H1 H1 u ((Jcd a).map V.int):=QL Q;have N:=l.trans s2;have B:∀p∈(Jcd a).drop 1,p∈negs ts:=λp L=>List.mem_reverse.mp (List.mem_filter.mp (List.mem_of_mem_drop L)).1;have O:((Jcd a).drop 1).length≤100:=by have h1:(Jcd a).length≤(negs ts).reverse.length:=Jaf _;rw[List.length_drop];lia
 refine JkN _ _ (zN (ps:=Jcd a) (SqT.of af) λH3 tq Z hq=>?_);generalize hpt:(Jcd a).drop 1=pt at hq B O q;refine Q1 tq (Jgo hq) (λDe W=>JhJ fz (λi ys H'=>Xj H3∧ys=((pt.take i).map (lvF ts)).map V.int) (λi ys H' ⟨v,_⟩=>v.tup hq) W ?_ ?_)
 ·rintro i ys H' x H'' hi y c ⟨v,rfl⟩ ⟨rfl,hx⟩;obtain⟨p,L,rfl⟩:=Jjk _ (v.tup hq);have g:=bU.k (k:=Sum.inl p) (((N.trans Z).trans v) _ _ l1);rw[l2,if_pos (B p (mO L))]at g;refine⟨_,rfl,_,rfl,ld,_,rfl,g,Ja0 (by rw[lM];exact JcZ _) hi y c (v.upd W)⟩;rw[bb L,mAq,mAq];rfl
 rintro ys F c ⟨v,rfl⟩;rw[lM,Jbu _]at c;have d:=(N.trans Z).trans v;refine JeX De (pt.map (lvF ts)) 0 (Qg c) (λe=>?_) (λm hm R=>?_)
 ·refine⟨_,rfl,_,rfl,S,_,rfl,SqL.of (d _ _ hh),λb J=>?_⟩;have I:Jcm F F b ((df Rs ts a).map V.int).reverse:=QL J;refine Q1 _ lS3 (λt C=>?_);have G:Jcm (Vh F b ((df Rs ts a).map V.int).reverse) (Vh F b ((df Rs ts a).map V.int).reverse) t (Jb6 u b 0):=QL C;refine q _ t u b 0 (M.trans ((d.trans I).trans G)) ((M.trans (d.trans I)).free C) af ?_ ?_ ⟨λ_=>rfl,λz=>absurd e z⟩
  ·exact G _ _ (I _ _ (v _ _ (Z _ _ af)))
  ·rw[List.map_reverse];exact G _ _ af
 ·refine⟨_,rfl,_,rfl,S,_,rfl,SqL.of (d _ _ hh),λb J=>?_⟩;have I:Jcm F F b ((df Rs ts a).map V.int).reverse:=QL J;refine Q1 _ lS3 (λt C=>?_);have G:Jcm (Vh F b ((df Rs ts a).map V.int).reverse) (Vh F b ((df Rs ts a).map V.int).reverse) t (Jb6 u b m):=QL C;refine q _ t u b m (M.trans ((d.trans I).trans G)) ((M.trans (d.trans I)).free C) af ?_ ?_ ⟨λz=>(by rw[z]at hm;cases hm),λ_=>⟨hm,R⟩⟩
  ·exact G _ _ (I _ _ (v _ _ (Z _ _ af)))
  ·rw[List.map_reverse];exact G _ _ af
def sh (h0:0≤h)(a:h < (Rs.length:Int)):Rs[h.toNat]?=some (Jci h):=by unfold aO;rw[List.getD_eq_getElem?_getD,gG (by lia)];rfl
def atI_row (a:Jdg eE)(h0:0≤h)(b:h < (Rs.length:Int)):∃q,atI xs h=Ja q∧SqT K H q ((Jci h).map V.int):=by
 obtain⟨q,d,c⟩:=zc a (sh h0 b);have e:h=(h.toNat:Int):=by lia
 refine⟨q,?_,c⟩;rw[e];exact aJ d
structure LnW (K:W.Frag)(Hb H)(rl tl ld kd hl:Addr)(xs zs:List V)(Rs)(ts)(fl)(i):Prop where
 sb:ao Hb H
 k:Kst H kd (J3 fl i).1 (100+100 * i)
 v:JkE H ld
 h:VH hl ((J3 fl i).2.map V.int)
 nk:Qn (Hb kd)
 nv:Qn (Hb ld)
 nh:Qn (Hb hl)
 kv:kd≠ld
def LnW.same (W:LnW K Hb H rl tl ld kd hl xs zs Rs ts fl i)(s:Xj H):LnW K Hb H' rl tl ld kd hl xs zs Rs ts fl i :=
 ⟨W.sb.trans s,W.k.same s,W.v.same s,s _ _ W.h,W.nk,W.nv,W.nh,W.kv⟩
def CC (T:Jh4 K)(a:Jif "is_replaced" fR dR' ["part","why","kept","level_of","last"] (me K))
  {cdv:Value}{A:Around}{outer:List Env}{s:Shared}{H0:Hp}{E:XK}(hr:JiU 2 "learnt" s_learnt f cdv) :
  ∃t,Jlf (Jfk CX0 P w K mg NLn "learnt" (ap s_learnt) f cdv A s H0 E).nox ((cG s_learnt).drop 4) ∧
   ∀D y H U O ld c J xs zs Rs ts d,Xt y U xs→Jy y (Rs.map eE) xs→Xt y O zs→Jy y (ts.map dP) zs→eU Rs ts d→Jcj 100→(∀r∈Rs,JjP 100)→LnW K y H U O ld c J xs zs Rs ts d 0 →
    (∀H' t tp th m,Xj y→Qn (y t)→J1 t (Jb6 tp th m)→J1 tp ((Jcd d).map V.int)→J1 th ((df Rs ts d).reverse.map V.int)→jH (((Jcd d).drop 1).map (lvF ts)) m→D.rt (.ref t) H') →
    t D [Ja U,Ja O,Jb d,Ja ld,Jb (cnt ts),Ja c,Ja J,none,none,none] H:=by
 have hr1:aX 1 _:=hr.mono (by decide);obtain⟨t5,h5,q5⟩:=CB (base:=base) (outer:=outer) T hr;refine VP (ad (JZ (pO rfl T.reversed (Vi 1)) (bj (i:=7) iO.nd rfl (Or.inr rfl)) (ak (ah (gD (Jlt a.ok hr1 a.m a.kp a.b (aa (Jck (QA 7)) (aa (QA 7) (Va 5 (Jcn 3 4)))))) (Vd (aY (uO (pv 5) (Jck (QA 7)) (Jgk rfl))) (aY (cB PySem.F.plainAttrs_dict PySem.F.slot_dict_update PySem.F.type_dict_update zt (pv 5) (Xf (eQ (uQ rfl) rfl T.dict PyProof.Rows.Boot.dict (Xf (Q5 (N':=["part","step"]) (ix:=[7]) rfl rfl rfl (λok=>JeL (sc:=ap s_learnt)) rfl rfl (λj i h=>match j,h with | 0,h=>by cases h;exact Jbz _ | n+1,h=>by simp at h) (gc (JfU 0 7)) (λ_ _ _ _=>(JaS gf 0 (Jin (r:=du K) 1))) (λ_ _ _ _=>(cu (JdZ 0 dk))))))))) (JfS 6 (Jhq 7)))
     aZ))) h5)
 try dsimp only [Cx.nox,Cx.wish,ag]
 rintro D y H U O ld c J xs zs Rs ts d hS hL hZ hT ok l100 r100 W0 q;have zl:Jhl ts.length:=by rw[←hT.length,lM]
 refine⟨_,rfl,O,zs,rfl,W0.sb.seq hZ,Jh2 pN (λi σ H'=>∃v7,σ=[Ja U,Ja O,Jb d,Ja ld,Jb (cnt ts),Ja c,Ja J,v7,none,none]∧LnW K y H' U O ld c J xs zs Rs ts d i) (λi σ H' h=>by obtain⟨_,_,W⟩:=h;exact W.sb.seq hZ) (Vg none W0)⟩
 ·rintro i σ H' x H'' hi ⟨v7,rfl,W⟩ ⟨rfl,hx⟩;have hi':Jar i:=by lia
  obtain⟨t,p,ht,rfl,hp⟩:=gK hT (hx _ (W.sb.seq hZ));rw[zl]at ht;have hr':ts.reverse[i]?=some t:=by rw[jI hi'];exact ht
  have es:=jG (Rs:=Rs) (f:=d) hr';have hp1:=W.sb.tup hp;have tm:=mO ht;refine⟨_,rfl,p,_,_,_,rfl,rfl,hp1,rfl,_,rfl,_,rfl,p,_,_,_,rfl,rfl,hp1,rfl,_,rfl,_,rfl,_,rfl,-t.1,t.2,cnt ts,c,ld,_,_,ts,rfl,W.k,W.v,W.kv,by lia,nj ok i,λH3 s3=>V2 ?_⟩;have N:=W.same s3;have hp3:=s3.tup hp1;cases eb:JgW ts (J3 d i).1 ts (-t.1) t.2 with
  | false =>
   have e2:J3 d (i+1)=lrn Rs ts d i:=by rw[es];unfold fm;rw[eb];rfl
   obtain⟨kvs,Y,k2,k3,k4⟩:=N.k;exact bK (V2 ⟨N.sb,⟨kvs,Y,by rw[e2];exact k2,by lia,k4⟩,N.v,by rw[e2];exact N.h,W.nk,W.nv,W.nh,W.kv⟩)
  | true =>
   have e2:J3 d (i+1)=(((J3 d i).1.filter λm=>decide (m≠-t.1))++(Jci t.2).filter (λm=>decide (m≠t.1)),(J3 d i).2++[t.2]):=by rw[es];unfold fm;rw[eb];rfl
   have M:=eb;unfold cV at M;rw[Bool.and_eq_true,Bool.and_eq_true]at M;have pin:=oDq M.1;have yn:=oDq M.2.1;obtain⟨y0,y1,_⟩:=ok.why t tm yn;obtain⟨kvs,Y,k2,k3,k4⟩:=N.k;obtain⟨v,hv⟩:∃v,JdE (-t.1)=some v:=by have:=k2 (-t.1);rw[dTq pin]at this;exact Option.isSome_iff_exists.mp this
   refine b_ ⟨_,rfl,c,rfl,Jd0 kvs Y,_,rfl,p,_,_,_,rfl,rfl,hp3,rfl,_,rfl,kvs,Sum.inl (-t.1),v,Y,rfl,hv,?_⟩;have hK4:Kst (Xe H3 c (JiZ (-t.1))) c _ _:=Kst.pop k2 k3 k4;have Q:cb c H3 (Xe H3 c (JiZ (-t.1))):=Jgu _;have kt34:=Q.kt Y;have B:ao y (Xe H3 c (JiZ (-t.1))):=N.sb.upd W.nk;have v4:JkE (Xe H3 c (JiZ (-t.1))) ld:=by obtain⟨l,l1,l2⟩:=N.v;exact⟨l,Q _ _ (Ne.symm W.kv) l1,l2⟩
   have X:J≠c:=λe=>by rw[←e,N.h]at Y;cases Y
   have h4:=Q _ _ X N.h;have I:=kt34.sq hp3;generalize Xe H3 c (JiZ (-t.1))=H4 at hK4 B v4 h4 I;obtain⟨o,j1,j2,j3,j4⟩:=hK4;obtain⟨q',hq1,hq2⟩:=atI_row (aj.keep B.kt (dy _) hL) y0 y1;have S:=r100 _ (mO (sh y0 y1));refine⟨_,rfl,JbF (Jh8 (Jo o j1)),_,rfl,_,rfl,p,_,_,_,rfl,rfl,I,rfl,U,_,_,_,rfl,rfl,B.seq hS,hq1,q',rfl,Jgo hq2,λDl hDl=>gi fz (λj ys H'=>Xj H4∧Jgw ((((Jci t.2).take j).filter λm=>decide (m≠t.1)).map dQT) ys) (λj ys H' ⟨C,_⟩=>C.tup hq2) ⟨QL hDl,.nil⟩ ?_ ?_⟩
   ·rintro j ys H5 x H6 hj hly L ⟨C,hy⟩ ⟨rfl,hx'⟩;obtain⟨m,hm,rfl⟩:=cM (hx' _ (C.tup hq2));have et:(((Jci t.2).take (j+1)).filter λm=>decide (m≠t.1))=if m≠t.1 then(((Jci t.2).take j).filter λm=>decide (m≠t.1))++[m] else((Jci t.2).take j).filter λm=>decide (m≠t.1):=by
     rw[bb hm,List.filter_append];by_cases z:m=t.1
     ·rw[if_neg (λh=>h z),List.filter_cons,if_neg (by simp [z]),List.filter_nil,List.append_nil]
     ·rw[if_pos z,List.filter_cons,JcM z,List.filter_nil]
    refine⟨_,rfl,_,rfl,p,_,_,_,rfl,rfl,C.tup I,rfl,rfl,_,rfl,?_⟩;by_cases z:m=t.1
    ·rw[show Q9 (!decide (JjG m t.1)) by rw[dTq (by rw[z])];rfl];refine bK (fV hj hly L (XE C));rw[et,if_neg (λh=>h z)];exact hy
    ·rw[show Qu (!decide (JjG m t.1)) by rw[dFq (λz'=>z (by injection z'))];rfl];refine b_ (Q1 _ lS2 (λu hu'=>?_));have R:Jcm H6 H6 u (VN m (.bl true)):=QL hu';have hD6:=R _ _ L;refine Ja0 (by rw[lM];exact JcZ _) hj hly hD6 ((C.trans R).upd hDl);rw[et,if_pos z,mAq];exact Jac (aj.keep (R.kt.trans (aL.lst hD6)) (pM _) hy) (uU ((aL.lst hD6).sq (SqT.of af)))
   rintro ys H5 L ⟨C,hy⟩;rw[lM,Jbu _]at hy;obtain⟨pl,pp⟩:=uV hy;generalize hpt:((Jci t.2).filter λm=>decide (m≠t.1))=g at pl pp hy e2;have lpt:g.length≤100:=by rw[←hpt];exact JiY _ S
   refine Jdr Dl ys (tkv g) (SqL.of L) pl pp (λb hb=>?_);have R:ao H5 (JgM H5 b g):=QL hb;have Z:=C _ _ j1;have nkb:c≠b:=bX Z hb;have lm:(Jgi g).length≤g.length:=(jD g).2;refine⟨c,b,o,Jgi g,rfl,rfl,nkb,R _ _ Z,af,by rw[sizeLine_eq];lia,?_⟩;have G:=C.trans R;have x7:cb c (JgM H5 b g) (Xe (JgM H5 b g) c (bc o (Jgi g))):=Jgu _;have hp7:=(x7.kt (R _ _ Z)).sq (G.tup I);have h7:=x7 _ _ X (G _ _ h4);have v7':JkE (Xe (JgM H5 b g) c (bc o (Jgi g))) ld:=by obtain⟨l,l1,l2⟩:=v4;exact⟨l,x7 _ _ (Ne.symm W.kv) (G _ _ l1),l2⟩
   have hl2:=zM Rs ts d i;refine Jll _ (JcJ h7) _ rfl p _ _ _ rfl rfl hp7 rfl J _ _ rfl rfl h7 (cY (by rw[lM];lia)) ?_;refine V2 ⟨((B.trans G).upd W.nk).upd W.nh,⟨bc o (Jgi g),?_,λm=>?_,?_,vd (vf g) j4⟩,?_,?_,W.nk,W.nv,W.nh,W.kv⟩
   ·rw[JaI X];exact af
   ·rw[zJ,j2,e2];show(decide (m∈_)||decide (m∈g))=decide (m∈_++g);by_cases z1:m∈(J3 d i).1.filter λm=>decide (m≠-t.1)
    ·rw[dTq z1,dTq (Qc z1)];rfl
    ·rw[dFq z1,Bool.false_or];exact decide_eq_decide.mpr ⟨λz=>Xb z,λz=>(mPq z).resolve_left z1⟩
   ·have:=zK (Jgi g) o;lia
   ·obtain⟨l,l1,l2⟩:=v7';refine⟨l,?_,l2⟩;rw[ai (Lev.ne ⟨l,l1,l2⟩ h7).symm];exact l1
   ·rw[e2];rw[mAq];exact af
 ·rintro σ H' ⟨v7,rfl,W⟩;rw[zl]at W;exact q5 D y H' O ld c J zs Rs ts d _ _ _ _ v7 W.sb (W.sb.seq hZ) (XT W.sb.kt _ hT) ok l100 W.k W.v W.h q
def CD (T:Jh4 K)(a:Jif "is_replaced" fR dR' ["part","why","kept","level_of","last"] (me K))
  {cdv:Value}{A:Around}{outer:List Env}{s:Shared}{H0:Hp}{E:XK}(hr:JiU 2 "learnt" s_learnt f cdv) :
  ∃t,Jlf (Jfk CX0 P w K mg NLn "learnt" (ap s_learnt) f cdv A s H0 E).nox ((cG s_learnt).drop 2) ∧
   ∀D c H z M ld xs zs Rs ts b,Xt c z xs→Jy c (Rs.map eE) xs→Xt c M zs→Jy c (ts.map dP) zs→eU Rs ts b→Jcj 100→(∀r∈Rs,JjP 100)→ao c H→Qn (c ld)→JkE H ld →
    (∀H' t tp th m,Xj c→Qn (c t)→J1 t (Jb6 tp th m)→J1 tp ((Jcd b).map V.int)→J1 th ((df Rs ts b).reverse.map V.int)→jH (((Jcd b).drop 1).map (lvF ts)) m→D.rt (.ref t) H') →
    t D [Ja z,Ja M,Jb b,Ja ld,Jb (cnt ts),none,none,none,none,none] H:=by
 obtain⟨t4,h4,q4⟩:=CC (outer:=outer) T a hr;refine VP (Vd (az (i:=5) iO.nd rfl (Or.inr rfl) (eQ (uQ rfl) rfl T.dict PyProof.Rows.Boot.dict (Xf (Js (N':=["part"]) (ix:=[]) rfl rfl rfl (λ_=>⟨[],XV (by decide +kernel)⟩) rfl rfl (λj i h=>by simp at h) (gc (Ji3 0 2)) (λ_ _ _ _=>(cu (JdZ 0 dk))))))) (Xm (i:=6) iO.nd (Jkh 2)) h4)
 try dsimp only [Cx.nox,Cx.wish,ag]
 rintro D c H z M ld xs zs Rs ts b hS hL hZ hT B C k N S hv q;obtain⟨q',Y,o⟩:=atI_row (aj.keep N.kt (dy _) hL) B.f0 B.f1;have R:(Jci b).length≤100:=k _ (mO (sh B.f0 B.f1));refine⟨_,rfl,_,rfl,z,_,_,_,rfl,rfl,N.seq hS,Y,q',rfl,Jgo o,λDl I=>d_ fz (λj ys H'=>Xj H∧Jgw (((Jci b).take j).map dQT) ys) (λj ys H' ⟨d,_⟩=>d.tup o) ⟨QL I,.nil⟩ ?_ ?_⟩
 ·rintro j ys L x J hj Z p ⟨d,O⟩ ⟨rfl,W⟩;obtain⟨m,hm,rfl⟩:=cM (W _ (d.tup o));refine Q1 _ lS2 (λu X=>?_);have y:Jcm J J u (VN m (.bl true)):=QL X;have v:=y _ _ p;refine Ja0 (by rw[lM];exact JcZ _) hj Z v ((d.trans y).upd I);rw[bb hm,mAq];exact Jac (aj.keep (y.kt.trans (aL.lst v)) (pM _) O) (uU ((aL.lst v).sq (SqT.of af)))
 rintro ys L p ⟨d,O⟩;rw[lM,Jbu _]at O;obtain⟨pl,pp⟩:=uV O;refine Jdr Dl ys (tkv (Jci b)) (SqL.of p) pl pp (λn g=>?_);have y:ao L (JgM L n (Jci b)):=QL g;have hk:Kst (JgM L n (Jci b)) n (Jci b) (Jci b).length:=Kst.of;have F:=(hv.same d).same y;have l:=(N.trans d).trans y;have U:=(N.trans d).free g;have kv:n≠ld:=λe=>by obtain⟨lvs,l1,_⟩:=hv.same d;rw[e,l1]at g;cases g
 generalize JgM L n (Jci b)=J at hk F l;refine Q1 _ lS1 (λhl G=>?_);have Q:JjV J J hl (Jgr b):=QL G;obtain⟨kvs,k1,k2,k3,k4⟩:=hk.same Q;exact q4 D c _ z M ld n hl xs zs Rs ts b hS hL hZ hT B C k ⟨l.trans Q,⟨kvs,k1,k2,by lia,k4⟩,F.same Q,af,U,S,l.free G,kv⟩ q
def ok_learnt (F:X4 "learnt" "learnt" s_learnt)(T:Jh4 K)(a:Jie 2 "part_levels" fP dP' ["trail"] (sf K))(d:Jif "is_replaced" fR dR' ["part","why","kept","level_of","last"] (me K)):Jdo 3 ["rows","trail","fails"] (sp_learnt K):=by
 refine F.ok iO (λvs H Q E h=>?_) (λcdv A outer s H vs Q E M h=>?_)
 ·obtain⟨S,o,X,xs,zs,Rs,ts,rfl,_⟩:=h;rfl
 obtain⟨S,o,X,xs,zs,Rs,ts,rfl,hS,hL,B,C,G,n,r,q⟩:=h;have hu:=dv M;obtain⟨t2,h2,Z⟩:=CD (outer:=outer) T d M;have l:Jhl ts.length:=by rw[←C.length,lM]
 refine VP (Vd (az (i:=3) iO.nd rfl (Or.inr rfl) (Jlu a.ok M a.m a.kp a.b 1)) (Xm (i:=4) iO.nd (iu (Jk0 (Jcu 1)) (iC hu (pv 3) (Jck (ar aA (JfT 1 (Jck ae)) ae)) (λ_ _=>rfl)) ae)) h2)
 try dsimp only [Cx.nox,Cx.wish,ag]
 refine Jcb _ o zs ts rfl B C n G.nd (λH1 ld y I v=>?_);have x:=λD'=>Z D' H H1 S o ld xs zs Rs ts X hS hL B C G n r y I v;refine JkY _ o zs (.inl (y.seq B)) _ _ _ rfl (aQ (λc=>?_) (λc=>?_))
 ·have Y:=oDq c;have W:ts≠[]:=λz=>by rw[z]at l;simp at l;rw[l]at Y;simp at Y
  obtain⟨j,t,rfl⟩:∃j t,ts=j++[t]:=⟨ts.dropLast,ts.getLast W,(List.dropLast_concat_getLast W).symm⟩;have O:=XT y.kt _ C;have L:(j++[t])[j.length]?=some t:=by rw[List.getElem?_append_right (nRq _),Nat.sub_self];rfl
  rw[lAq]at l;simp only[lS]at l;obtain⟨D,z,R⟩:∃D z,zs=D++[z]:=by
   have U:zs≠[]:=λe=>by rw[e]at l;simp at l
   exact⟨zs.dropLast,zs.getLast U,(List.dropLast_concat_getLast U).symm⟩
  have lz:D.length=j.length:=by rw[R,lAq]at l;simp only[lS]at l;lia
  have hz:zs[j.length]?=some z:=by rw[R,←lz,List.getElem?_append_right (nRq _),Nat.sub_self];rfl
  obtain⟨t',p,u,rfl,hp⟩:=gK O hz;rw[L]at u;cases u;have N:atI zs (-1)=some (.ref p):=by rw[R];exact yo _ _
  obtain⟨lvs,l1,l2⟩:=id v;have g:=bU.k (k:=Sum.inl (-t.1)) l1;have J:=mO (jF L);have lv:lvF (j++[t]) (-t.1)=cnt (j++[t]):=by rw[dh G.nd L,tO (by rw[lAq];exact nRq _)]
  rw[l2,if_pos J,lv]at g;exact⟨_,rfl,_,rfl,_,rfl,o,_,_,_,rfl,rfl,y.seq B,N,p,_,_,_,rfl,rfl,hp,rfl,_,rfl,ld,_,rfl,g,x _ q⟩
 ·have e0:ts=[]:=by exact List.length_eq_zero_iff.mp (by lia)
  subst e0;exact x _ q
end Le54
namespace H54
open PySem L2 K54
structure TxH (K)(C):Prop where
 cl:Cls K C
 n_problem:cK K C "problem"
 n_most:cK K C "most"
 n_known:cK K C "known"
 n_paper:cK K C "paper"
 n_trail:cK K C "trail"
 n_held:cK K C "held"
 n_looked:cK K C "looked"
 n_begins:cK K C "begins"
 n_watched:cK K C "watched"
 n_watching:cK K C "watching"
 n_order:cK K C "order"
 n_lately:cK K C "lately"
def CH:(Jhr A).lookup ("problem":Str)=some (.ref pr):=rfl
def CI:(Jhr A).lookup ("most":Str)=some (.int most):=rfl
def iP:(Jhr A).lookup ("known":Str)=some (.ref A.kn):=rfl
def si:(Jhr A).lookup ("paper":Str)=some (.ref A.pp):=rfl
def gS:(Jhr A).lookup ("trail":Str)=some (.ref A.tr):=rfl
def gU:(Jhr A).lookup ("held":Str)=some (.ref A.hd):=rfl
def sj:(Jhr A).lookup ("looked":Str)=some (.int lk):=rfl
def su:(Jhr A).lookup ("begins":Str)=some (.ref A.bg):=rfl
def sv:(Jhr A).lookup ("watched":Str)=some (.ref A.wd):=rfl
def mf:(Jhr A).lookup ("watching":Str)=some (.ref A.wg):=rfl
def sC:(Jhr A).lookup ("order":Str)=some (.ref A.od):=rfl
def xf:(Jhr A).lookup ("lately":Str)=some (.ref A.lt):=rfl
abbrev xg:Stmt:=vW
abbrev xh:Stmt:=vX
abbrev xi:Stmt:=vZ
def cU (p:Int):Prop:=-100≤p∧JhY p
inductive jr (K)(C):Sp|m{vs H Q E9} (A) (F O) (pr) (most) (S) (R) (p y):vs=Jer A.h p y→Jf1 F O H A S R→cU p→JjS 1000→(∀H' O' R',J6 F O' H' A (S.hold p y) (S.hold p y).hs R'→dV R R'→Jb7 H')→jr K C vs H Q E9
def CJ:Xn (Jbc "why") (Jbc "why") xg:=fsc
def CK (S:HS)(p y):(S.hold p y).hs=S.hs++[p]:=by show(S.ts++[(p,y)]).map Prod.fst=_;rw[mAq];rfl
def Hu.zlen (U:JgK F):Je1 R.zs.length:=by rw[←U.u.tr.length,lM]
def CM (F:X4 "hold" "Hunt.hold" xg)(T:JiS C):Jea (Jbc "why") (jr K C):=by
 refine F.ok CJ (λvs H Q E h=>?_) (λcdv A outer s H vs Q E n h=>?_)
 ·obtain⟨A,x,O,i,a,S,R,p,y,rfl,_⟩:=h;rfl
 obtain⟨A,x,O,i,a,S,R,p,y,rfl,U,o,z,q⟩:=h;have j:=dv n;refine VP (Jh0 (JfR (Vl 0) (Jkg (Jcn 1 2))) (gO j (Vl 0) (pv 1) dk rfl));try dsimp only [Cx.nox,Cx.wish,ag]
 have d:=Jca 3;refine⟨_,rfl,A.h,C,A.dx,_,_,rfl,U.ins,T.cl,T.n_trail,gS,JcJ d,_,rfl,_,rfl,lS2,λl c=>?_⟩;have e:=JlG c p y;have b:=e.at' 3 rfl rfl;obtain⟨D,B,v,r⟩:=U.hold o c;have g:=e.setTr (ts:=S.ts++[(p,y)]) (by rw[mAq];exact Jac e.u.tr (of_dP (SqT.of af)))
 refine JeX A.tr _ _ b (hln (by rw[Hu.zlen U];lia)) ?_;refine⟨_,rfl,A.h,C,A.dx,_,_,rfl,g.ins,T.cl,T.n_held,gU,_,rfl,A.hd,_,rfl,Jlq (k:=Sum.inl p) (g.at' 4 rfl rfl) U.u.hd.len,?_⟩;exact q _ _ _ (by rw[CK];exact v) r
inductive oS (K)(C):Sp|m{vs H Q E9} (A) (F O) (pr) (most) (S) (R) (r a b):vs=[.ref A.h,.int r,.int a,.int b]→Jf1 F O H A S R→cU r→cU a→cU b→(S.wg a).length≤199000→(S.wg b).length≤199000→(∀H' O' R',Jf1 F O' H' A (S.watch r a b) R'→R'.xs=R.xs→Jb7 H')→oS K C vs H Q E9
def CN:Xn ["self","number","one","other"] ["self","number","one","other"] xh:=fsc
def CO (F:X4 "watch" "Hunt.watch" xh)(T:JiS C):Jea ["self","number","one","other"] (oS K C):=by
 refine F.ok CN (λvs H Q E h=>?_) (λcdv A outer s H vs Q E N h=>?_)
 ·obtain⟨A,p,O,L,d,S,R,r,a,b,rfl,_⟩:=h;rfl
 obtain⟨A,p,O,L,d,S,R,r,a,b,rfl,U,i,Y,X,la,Z,q⟩:=h;have M:=dv N;refine VP (Vd (gO M (Vl 0) (pv 1) (cu (Jcn 2 3)) rfl) (JfR (kZ (Vl 0) (JdZ 2 (ba ac))) (Vi 1)) (JfQ (kZ (Vl 0) (JdZ 3 (ba ac))) (Vi 1)));try dsimp only [Cx.nox,Cx.wish,ag]
 refine JbA _ _ lS2 (λl v=>?_);have J:Jcm p p l (JO a b):=QL (U.t.none v).2;have o:=JlG v a b;have n:=(o.setWd i (SqT.of af)).base J;refine⟨_,rfl,A.h,C,A.dx,_,_,rfl,o.ins,T.cl,T.n_watched,sv,_,rfl,A.wd,_,rfl,Jlq (k:=Sum.inl r) (o.at' 6 rfl rfl) U.u.wd.len,?_⟩;refine⟨_,rfl,A.h,C,A.dx,_,_,rfl,n.ins,T.cl,T.n_watching,mf,XA A.wg _ (n.at' 7 rfl rfl),_,rfl,lS0,λe W=>?_⟩;refine n.setd (r:=r) Y W λl1 H1 B ⟨O3,R3,g,_,I⟩=>?_;refine⟨JcJ B,_,rfl,l1,_,_,rfl,rfl,B,hln (by rw[lM];show(S.wg a).length≤_;lia),?_⟩;rw[mAq]at g;refine⟨_,rfl,A.h,C,A.dx,_,_,rfl,g.ins,T.cl,T.n_watching,mf,XA A.wg _ (g.at' 7 rfl rfl),_,rfl,lS0,λe2 j=>?_⟩;refine g.setd (r:=r) X j λl2 H2 z ⟨O4,R4,D,_,G⟩=>?_;refine⟨JcJ z,_,rfl,l2,_,_,rfl,rfl,z,hln ?_,?_⟩
 ·rw[lM];show(if b=a then S.wg b++[r] else S.wg b).length≤_
  split
  ·rw[lAq];show _+1≤_;lia
  ·lia
 ·rw[mAq]at D;exact q _ _ _ D (G.trans I)
def CQ (h:Qn (eV (row.take i) o hs))(b:row[i]?=some k)(f:k≠o)(d:-k∉hs):eV row o hs=some k:=by
 have c:=(gEq b).1;have e:row=row.take i++k :: row.drop (i+1):=by have:=JaP row;rw[List.drop_eq_getElem_cons c]at this;have a:=gG c;lia
 unfold eV at h ⊢;rw[e,List.find?_append,h,List.find?_cons_of_pos]
 ·rfl
 ·simp [f,d]
def xj {a hs:List Int}{o k:Int}{i:Nat}(h:Qn (eV (a.take i) o hs))(c:a[i]?=some k)(b:k=o∨-k∈hs):Qn (eV (a.take (i+1)) o hs):=by
 rw[bb c];unfold eV at h ⊢;rw[List.find?_append,h,List.find?_cons_of_neg]
 ·rfl
 ·rcases b with z | z <;> simp [z]
def FinQ (K:W.Frag)(C:Addr)(F:Hp)(A:HA)(d:Addr)(a:Int)(S:HS)(R:HC)(r o:Int)(Q:VK):Option Int→Prop
 | some q=>∀H' c b,Hu K C F c H' A d a ((Jjj o q).addG q r) S.hs b→dV R b→XR true H'
 | none=>∀H' c b,Hu K C F c H' A d a S S.hs b→dV R b→XR false H'
inductive sD (K)(C):Sp|m{vs H Q E9} (A) (F O) (pr) (most) (S) (R) (r o):vs=Jer A.h r o→Jf1 F O H A S R→cU r→0≤r→r < (S.rs.length:Int)→(∀p∈Jdb r,cU p)→(∀c,(S.wg c).length≤199000)→FinQ K C F A pr most S R r o Q (eV (Jdb r) o S.hs)→sD K C vs H Q E9
def xm:Xn ["self","number","other","part"] (VW "number") xi:=fsc
def CS (F:X4 "finds" "Hunt.finds" xi)(T:JiS C):Jea (VW "number") (sD K C):=by
 refine F.ok xm (λvs H Q E h=>?_) (λcdv A outer s H vs Q E hr h=>?_)
 ·obtain⟨A,L,O,pr,j,S,R,r,o,rfl,_⟩:=h;rfl
 obtain⟨A,L,O,pr,j,S,R,r,o,rfl,U,kr,r0,r1,X,hw,q⟩:=h;have M:=dv hr;refine VP (Jg2 (Jgh (gc (ar a_ (Vl 0) (pv 1))) (i:=3) xm.nd (ah (JdH (JaS gf 3 (pv 2)) (Jiv M (Jdq 3) (Vl 0))) (Jeq (gO M (Vl 0) (pv 1) (cu (Jcn 2 3)) rfl) (JfR (kZ (Vl 0) (JdZ 3 (ba ac))) (Vi 1)) dk)
     aZ)) dk);try dsimp only [Cx.nox,Cx.wish,ag]
 obtain⟨a,e1,p⟩:=Le54.atI_row U.u.kn r0 r1;generalize N:Jdb r=B at p X q;refine⟨_,rfl,A.h,C,A.dx,_,_,rfl,U.ins,T.cl,T.n_known,iP,_,rfl,A.kn,_,_,_,rfl,rfl,Ji1 1,e1,a,rfl,Jgo p,Jh2 fz (λi n H'=>∃v:Option V,An3 (n=[Ja A.h,Jb r,Jb o,v]) (H'=H) (Qn (eV (B.take i) o S.hs))) (λi n H' h=>by obtain⟨_,_,e,_⟩:=h;exact e ▸ p) (Jgk none)⟩
 ·rintro i n H1 x H2 hi ⟨v,rfl,rfl,g⟩ ⟨rfl,hx⟩;obtain⟨k,b,rfl⟩:=Jjk _ p;have kk:=X k (mO b);have Z:=iJ S.hs (-k);refine JeX _ rfl _ _ rfl (aQ (λc=>?_) (λc=>?_))
  ·have G:k≠o:=λz=>by rw[z]at c;simp at c
   refine⟨_,rfl,_,rfl,_,rfl,A.h,C,A.dx,_,_,rfl,U.ins,T.cl,T.n_held,gU,A.hd,_,rfl,U.held (-k),_,rfl,aQ (λd=>?_) (λd=>?_)⟩
   ·rw[Z]at d;have D:-k∉S.hs:=λz=>by rw[dTq z]at d;cases d
    have ef:=CQ g b G D;rw[ef]at q;refine JbA _ _ lS2 (λl W=>?_);have sF:Jcm L L l (JO o k):=QL (U.t.none W).2;have J:=JlG W o k;have I:=(J.setWd kr (SqT.of af)).base sF;refine⟨_,rfl,A.h,C,A.dx,_,_,rfl,J.ins,T.cl,T.n_watched,sv,_,rfl,A.wd,_,rfl,Jlq (k:=Sum.inl r) (J.at' 6 rfl rfl) U.u.wd.len,?_⟩;refine⟨_,rfl,A.h,C,A.dx,_,_,rfl,I.ins,T.cl,T.n_watching,mf,XA A.wg _ (I.at' 7 rfl rfl),_,rfl,lS0,λe he=>?_⟩;refine I.setd (r:=r) kk he λl1 H3 Y ⟨O3,R3,U3,g3⟩=>?_;refine⟨JcJ Y,_,rfl,l1,_,_,rfl,rfl,Y,hln (by rw[lM];have:=hw k;show(S.wg k).length≤_;lia),?_⟩;rw[mAq]at U3;exact q _ _ _ U3 g3
   ·rw[Z]at d;have D:=Decidable.byContradiction λz=>by rw[dFq z]at d;exact d rfl
    exact XA _ rfl (xj g b (.inr D))
  ·have G:k=o:=Decidable.byContradiction λz=>c (by simp [z]);exact XA _ rfl (xj g b (.inl G))
 ·rintro n H' ⟨v,rfl,rfl,g⟩;rw[lM,List.take_length]at g;rw[g]at q;exact q _ _ _ U (Xr (λ_ _ z=>z))
abbrev xn:Stmt:=v_
def dV.trans {e R2 d:HC}(a:dV e R2)(b:dV R2 d):dV e d:=⟨λc v h=>b.1 c v (a.1 c v h),b.2.trans a.2⟩
def oY (H)(a)(o u):Jle (JiW a)=upd H a u:=by funext b;unfold upd;split <;> rfl
noncomputable def oI:Option Int→V
 | none=>.non
 | some f=>.int f
def WOk.glen (W:WOk S g k)(x):(g x).length≤S.rs.length:=fZ _ (W.nd x) λr c=>by obtain⟨a,b,h,_⟩:=(W.gw r x).mp c;exact(W.is r a b h).2.2.2
def LkI.glen (a:WOk S0 S0.wg k)(I:LkI n k c S0 (S0.wg c) i st)(x):(st.1.wg x).length≤S0.rs.length:=by
 by_cases e:x=c
 ·rw[e,I.wc];exact WOk.glen a c
 ·have:=WOk.glen I.w x;rw[if_neg e,I.rs]at this;exact this
structure SpL (n)(B)(Y)(S)(c):Prop where
 m:cO n B Y S
 n40:n≤40
 rl:S.rs.length≤199000
 t0:∃t0,S.ts[S.lk]?=some t0∧c=-t0.1
inductive sG (K)(C):Sp|m{vs H Q E9} (A) (F O) (pr) (most) (S) (R) (c) (n) (B) (Y):vs=JbQ A.h c→Jf1 F O H A S R→SpL n B Y S c→(∀H' O' R',J6 F O' H' A (f_ S c).1 (f_ S c).1.hs R'→Q (oI (f_ S c).2) H')→sG K C vs H Q E9
def js:Jjt ["self","part","fails","stay","number","pair","other"] "part" xn:=fsc
def Hu.pair (U:JgK F){r a b:Int}(h:Jcl r (a,b)):∃q,bU H A.wd (.int r) (Ja q)∧SqT K H q (JO a b):=by
 have d:=bU.k (k:=Sum.inl r) (Jca 6);rw[U.u.wd.val]at d;have w:=U.u.wr r;rw[h]at w;generalize e:R.gw r=g at w d;cases w with
 | is c=>exact Jlc d c
def CT (F:X4 "look_at" "Hunt.look_at" xn)(T:JiS C)(mF:JgS "finds" fF)(BF:JE 1 fF dF (VW "number") (sD K C))(bF:Ji6 dF "number")
  (mH:Ji4 fH)(BH:JE 1 fH dH (Jbc "why") (jr K C))(bH:JiA dH (Jbc "why")):Jdo 2 (JL "part") (sG K C):=by
 refine F.ok js (λvs H Q E h=>?_) (λcdv A outer s H vs Q E hr h=>?_)
 ·obtain⟨A,F',O,pr,d,S,R,c,n,B,Y,rfl,_⟩:=h;rfl
 obtain⟨A,F',O,pr,d,S,R,c,n,B,Y,rfl,U,L,q⟩:=h;have hu:=dv hr;refine VP (JeU (i:=2) js.nd eL (i:=3) js.nd (ba ac) (Vd (QZ (cC (jB hu (Vl 0) (pv 1) (ba ac) (Jgk rfl))) (i:=4) js.nd (JeU (i:=5) js.nd (iC hu (Vl 0) (pv 4) (λ_ _=>rfl)) (i:=6) js.nd (iu (ax ck (QA 5) (pv 1)) (QA 5) (QA 5)) (ak (ah (eM (kH hu (pv 6) (Vl 0))) (JfS 3 (Vi 4)) (ak (ah (ju (gD (Jbs 0 mF BF hr bF (Jcn 4 6)))) (Jh0 (JfR (pv 3) (Vi 4)) (ah (eM (kH hu (Jdq 6) (Vl 0))) (ak (Xm (i:=2) js.nd (pv 4))) (JbD 0 mH BH hr bH (Jcn 6 4))))
       aZ)))))) (gO hu (Vl 0) (pv 1) (pv 3) rfl) (Jbm 2)));try dsimp only [Cx.nox,Cx.wish,ag]
 obtain⟨t0,ht0,ec⟩:=L.t0;have hc:-c∈S.hs:=by rw[ec,Int.neg_neg];exact fu ht0
 have I:=LkI.all L.m (by have:=L.n40;lia) hc;have hrng:∀r,0≤r→r < (S.rs.length:Int)→∀p∈Jdb r,cU p:=λr h0 h1 p hp=>by have:=((L.m.b.row _ (nH h0 h1)).2 p hp).2;have:=L.n40;unfold cU;lia
 have hkc:cU c:=by have:=L.m.b.rng t0 (mO ht0);have:=L.n40;unfold cU;lia
 refine JeR (λl hl=>?_);have fl0:=(U.t.none hl).2;have U1:=U.newF hl (.lst []);have s1:ao F' (X_ F' l):=QL fl0;have hl1:=af (H:=F') (a:=l) (o:=.lst []);generalize X_ H l=H1 at U1;generalize X_ F' l=F1 at U1 s1 hl1;refine⟨_,rfl,A.h,C,A.dx,_,_,rfl,U1.ins,T.cl,T.n_watching,mf,A.wg,rfl,Jd0 _ (U1.at' 7 rfl rfl),_,rfl,lS0,λe he=>?_⟩;have U2:=U1.newF he (.lst []);have fe1:=(U1.t.none he).2;have s2:ao F1 (X_ F1 e):=QL fe1;have he2:=af (H:=F1) (a:=e) (o:=.lst []);have hl2:=s2 _ _ hl1;have nle:e≠l:=λz=>by rw[z,hl1]at fe1;cases fe1
 have s02:=s1.trans s2;generalize X_ H1 e=H2 at U2;generalize X_ F1 e=M at U2 s2 he2 hl2 s02;have dg:=bU.k (k:=Sum.inl c) (U2.at' 7 rfl rfl);rw[U2.u.wg.val]at dg;obtain⟨a,ea,ha⟩:∃a,(R.gg c).getD (.ref e)=.ref a∧(R.gg c=Ja a∨(a=e∧S.wg c=[])):=by
  cases h:R.gg c with
  | none=>exact Vg e (Jx rfl (U.gg0 h))
  | some v =>
   obtain⟨l1,rfl,_⟩:=U.gg1 h;exact Vg l1 (.inl rfl)
 have lst:∀ {i:Nat} {Fi Oi Hi:Hp} {st:LkS} {N:HC},Hu K C Fi Oi Hi A pr d st.1 st.1.hs N→dV R N→st.1.wg c=S.wg c→(∀b,b≠l→Fi b=M b)→Hi a=some (.lst ((S.wg c).map V.int)):=λ{i Fi Oi Hi st N} g Z wc fi=>by
  rcases ha with ha | ⟨ha,hw⟩
  ·obtain⟨l1,e1,h1⟩:=g.gg1 (Z.1 _ _ ha);injection e1 with e1;rw[e1,h1,wc]
  ·rw[hw,ha];exact g.t.f _ _ (by rw[fi _ nle];exact he2)
 have fiN:∀o b,b≠l→upd M l o b=M b:=λo b nb=>ai nb;refine VP dg;rw[ea];refine Jkp a _ (lst (i:=0) (st:=(S,[],none)) U2 (Xr (λ_ _ z=>z)) rfl λ_ _=>rfl) (Jh2 (cH (xs:=(S.wg c).map V.int)) (λi σ H'=>Ex5 λ v4 v5 v6 Oi N=>An4 (σ=[Ja A.h,Jb c,some (oI (da S c i).2.2),Ja l,v4,v5,v6]) (i≤(S.wg c).length) (Hu K C (Qa M l ((da S c i).2.1.map V.int)) Oi H' A pr d (da S c i).1 (da S c i).1.hs N) (dV R N)) (λi σ H' h=>by obtain⟨_,_,_,_,_,_,hi,g,Z⟩:=h;exact SqL.of (lst (i:=i) g Z (I i hi).wc (fiN _))) (JjJ none none none O R (Nat.zero_le _) ?_ (Xr (λ_ _ z=>z))))
 ·have e0:Qa M l ((da S c 0).2.1.map V.int)=M:=by
   funext b;unfold upd;split
   ·rename_i z;rw[z];exact hl2.symm
   ·rfl
  rw[e0];exact U2
 ·rintro i σ H' x H'' hi ⟨v4,v5,v6,Oi,N,rfl,hi',g,Z⟩ ⟨rfl,hx⟩;have Ii:=I i hi';obtain⟨r,hr1,rfl⟩:=cM (JcY _ (lst (i:=i) g Z Ii.wc (fiN _)));have hi1:=(gEq hr1).1;have sE:=vC hr1;generalize hst:da S c i=st at g Ii sE;obtain⟨y,sy,fl⟩:=st;dsimp only at g;have hrc:r∈(λx=>if x=c then sy++(S.wg c).drop i else y.wg x) c:=by
   show r∈if c=c then sy++(S.wg c).drop i else y.wg c
   rw[if_pos rfl];exact Xb (by have:=List.getElem?_drop (xs:=S.wg c) (i:=i) (j:=0);rw[Nat.add_zero,hr1]at this;exact mO this)
  obtain⟨ow,oc,W,crow,r0,r1⟩:=vD Ii.w hrc;have Irs:=Ii.rs;dsimp only at ow oc W crow r1;rw[Irs]at W crow r1;have hko:=hrng r r0 r1 _ W;have hkr:cU r:=by have:=L.rl;unfold cU;lia
  have syl:sy.length≤199000:=by have:=WOk.glen Ii.w c;rw[if_pos rfl,Ii.rs,lAq]at this;have this:=this;have:=L.rl;lia
  obtain⟨a',b',wab,oab⟩:∃a b,Xa (y.wt r) (a,b)∧Jf_ y=if a=c then b else a:=by
   rcases ow with z | z
   ·exact⟨_,_,z,(if_pos rfl).symm⟩
   ·exact⟨_,_,z,(if_neg oc).symm⟩
  obtain⟨pq,dq,hq⟩:=Hu.pair g wab;have at0:Jfe a' b' 0=some (.int a'):=Jd8 (j:=0);have at1:Jfe a' b' 1=some (.int b'):=Jd8 (j:=1);have stay:∀ {Fx Ox Hx:Hp} {Sx:HS} {hx:List Int} {Rx:HC},Hu K C (Qa M l (sy.map V.int)) Ox Hx A pr d Sx hx Rx→Qb (Hx l) (sy.map V.int)∧Hu K C (Qa M l ((sy++[r]).map V.int)) Ox (Qa Hx l (sy.map V.int++Jgr r)) A pr d Sx hx Rx:=λ{Fx Ox Hx Sx hx Rx} Ux=>by have h1:=Ux.frmL (u:=.lst (sy.map V.int++Jgr r)) af;rw[oY]at h1;refine XE (Ux.t.f _ _ af);rw[mAq];exact h1
  refine⟨_,rfl,A.h,C,A.dx,_,_,rfl,g.ins,T.cl,T.n_watched,sv,_,rfl,A.wd,_,rfl,dq,?_⟩;refine⟨_,rfl,pq,_,_,_,rfl,rfl,hq,at0,_,rfl,rfl,_,rfl,?_⟩;have o1:a'=c→b'=bo y c r:=λz=>by rw[oab,if_pos z]
  have o2:a'≠c→a'=bo y c r:=λz=>by rw[oab,if_neg z]
  refine(λk=>aQ (λJ=>Jef _ pq _ _ _ rfl hq at1 (by rw[o1 (by have:=oDq J;injection this)];exact k)) (λJ=>Jef _ pq _ _ _ rfl hq at0 (by rw[o2 (λz=>J (dTq (by rw[z])))];exact k))) ?_;have D:=sE;unfold L2.stepK at D;dsimp only at D;generalize Jf_ y=o at *;have fin:∀st,da S c (i+1)=st→∀v4 v5 v6 Ox Rx Hx,Hu K C (Qa M l (st.2.1.map V.int)) Ox Hx A pr d st.1 st.1.hs Rx→dV R Rx →
    Ex5 λ w4 w5 w6 Oi N=>An4 ([Ja A.h,Jb c,some (oI st.2.2),Ja l,v4,v5,v6]=[Ja A.h,Jb c,some (oI (da S c (i+1)).2.2),Ja l,w4,w5,w6]) (i+1≤(S.wg c).length) (Hu K C (Qa M l ((da S c (i+1)).2.1.map V.int)) Oi Hx A pr d (da S c (i+1)).1 (da S c (i+1)).1.hs N) (dV R N):=λst e v4 v5 v6 Ox Rx Hx h1 h2=>by subst e;exact JjJ v4 v5 v6 Ox Rx hi1 h1 h2
  have g1:=iJ y.hs o;have g2:=iJ y.hs (-o);refine Jll _ _ rfl A.h C A.dx _ _ rfl g.ins T.cl T.n_held gU A.hd _ rfl (g.held o) _ rfl (aQ (λJ=>?_) (λJ=>?_))
  ·rw[g1]at J;have J:=oDq J;rw[if_pos J]at D;obtain⟨X,U3⟩:=stay (Fx:=M) g;refine JkY _ (JcJ X) _ l _ _ X (hln (by rw[lM];lia)) ?_;exact fin _ D _ _ _ _ _ _ U3 Z
  ·rw[g1]at J;have J:o∉y.hs:=λz=>J (dTq z);rw[if_neg J]at D;refine⟨_,rfl,A.h,A.dx,_,rfl,g.ins,rfl,_,rfl,_,rfl,A,_,Oi,pr,d,y,N,r,o,rfl,g,hkr,r0,(by rw[Irs];exact r1),(by rw[Irs];exact hrng r r0 r1),(λx=>Nat.le_trans (LkI.glen L.m.w Ii x) L.rl),?_⟩;cases hf:eV (aO y.rs r) o y.hs with
   | some qq =>
    rw[hf]at D;intro H3 O3 R3 U3 g3;refine V2 (Ja_ (λG=>Jap G));exact fin _ D _ _ _ _ _ _ U3 (dV.trans Z g3)
   | none =>
    rw[hf]at D;dsimp only at D;intro H3 O3 R3 U3 g3;refine V2 (VQ (λG=>absurd (show Qu (!false) from rfl) G));obtain⟨X,U4⟩:=stay (Fx:=M) U3;refine JkY _ (JcJ X) _ l _ _ X (hln (by rw[lM];lia)) ?_;refine⟨_,rfl,_,rfl,_,rfl,A.h,C,A.dx,_,_,rfl,U4.ins,T.cl,T.n_held,gU,A.hd,_,rfl,U4.held (-o),_,rfl,aQ (λG=>?_) (λG=>?_)⟩
    ·rw[g2]at G;have G:=oDq G;rw[if_pos G]at D;refine V2 ?_;exact fin _ D _ _ _ _ _ _ U4 (dV.trans Z g3)
    ·rw[g2]at G;have G:-o∉y.hs:=λz=>G (dTq z);rw[if_neg G]at D;refine⟨_,rfl,A.h,A.dx,_,rfl,U4.ins,rfl,_,rfl,_,rfl,A,_,O3,pr,d,y,R3,o,r,rfl,U4,hko,?_,λH5 O5 R5 U5 g5=>?_⟩
     ·have:=Ii.tok.len;lia
     ·exact fin _ D _ _ _ _ _ _ U5 (dV.trans (dV.trans Z g3) g5)
 ·rintro σ H' ⟨v4,v5,v6,Oi,N,rfl,hi',g,Z⟩;rw[lM]at g hi';have sF:JjV F' M l ((da S c (S.wg c).length).2.1.map V.int):=λb o h=>by rw[ai (λz=>by rw[z,fl0]at h;cases h)];exact s02 b o h
  obtain⟨O3,R3,U3,_,_⟩:=g.give hkc af fl0 sF;refine Jll _ _ rfl A.h C A.dx _ _ rfl g.ins T.cl T.n_watching mf _ rfl A.wg _ rfl (Jlq (k:=Sum.inl c) (g.at' 7 rfl rfl) g.u.wg.len) ?_;refine V2 ?_;rw[lM];exact q _ _ _ U3
abbrev sI:Stmt:=we
def gv:PSs X st (λ_ _ _=>False):=λ_ _ _ _ _ _ h=>h.elim
structure TxB (K:W.Frag)(mg:Str→Option Value):Prop where
 len:Vo "len"
 reversed:Vo "reversed"
 abs:Vo "abs"
 enumerate:Vo "enumerate"
 sorted:Vo "sorted"
 tuple:Vo "tuple"
 list:Vo "list"
 range:Vo "range"
noncomputable def iQ (ts:List (Int × Int))(ps:List Int):List Int:=(negs ts).reverse.filter λp=>decide (p∈ps)
structure SpP (K)(H)(S:HS)(ln tp)(l)(ps:List Int):Prop where
 has:JcO K l ln
 nl:JeT l
 sq:∃x0 x2,X9 ln [x0,.ref tp,x2]
 tp:JdL tp
 pl:S.pp.length≤199000
 rl:S.rs.length≤198000
 tl:JjS 100
 tr:∀t∈S.ts,-60≤t.1∧t.1≤60
 nd:(negs S.ts).Nodup
 gl:∀c,(S.wg c).length≤198000
inductive oT (K)(C):Sp|m{vs H Q E9} (A) (F O) (pr) (most) (S) (R) (ln tp) (l) (ps):vs=JbP A.h ln→Jf1 F O H A S R→SpP K H S ln tp l ps→(S.pp.length:Int) < most→(∀H' O' R',Jf1 F O' H' A (JeC l (iQ S.ts ps)) R'→JjX (S.rs.length:Int))→oT K C vs H Q E9
def xo:Jjt (QW "line" "latest") "line" sI:=fsc
def iD (k):∀ps:List Int,inV (.int k) (ps.map V.int)=decide (k∈ps)
 | []=>by rfl
 | p :: ps=>by
  have a:=iD k ps;unfold inV at a ⊢;rw[List.map_cons,List.any_cons,a];by_cases h:k=p
  ·subst h;simp [eqV]
  ·have:¬p=k:=λz=>h z.symm;simp [eqV,h,this]
def xp:∀c b,bz (c++b)=(bz c&&bz b)
 | [],b=>by rfl
 | a :: c,b=>by simp only[List.cons_append,bz,xp c b,Bool.and_assoc]
def ok_put (F:X4 "put" "Hunt.put" sI)(T:JiS C)(TB:JkK K)(mW:JgS "watch" fW)(BW:JE 1 fW dW ["self","number","one","other"] (oS K C))(bW:JiA dW ["self","number","one","other"]):Jdo 2 (JL "line") (oT K C):=by
 refine F.ok xo (λvs H Q E h=>?_) (λcdv A outer s H vs Q E hr h=>?_)
 ·obtain⟨A,F',O,pr,g,S,R,W,M,l,ps,rfl,_⟩:=h;rfl
 obtain⟨A,F',O,pr,g,S,R,W,M,l,ps,rfl,U,L,qE,qQ⟩:=h;refine VP (ad (ah (ax my (Jgn 0) (Vl 0))
   gv
   aZ) (Vd (JfR (Vl 0) (Vi 1)) (JfR (Vl 0) (Jhq 1)) (Jeq (uw (i:=2) (N':=["step","line"]) (ix:=[1]) xo.nd rfl (Or.inl rfl) rfl rfl (by decide +kernel) (by decide +kernel) rfl (λok=>JeL (sc:=ap sI)) (by decide +kernel) rfl rfl (λj i h=>match j,h with | 0,h=>by cases h;exact Jbz _ | n+1,h=>by simp at h) (pO rfl TB.reversed (V0 0)) (λ_ _ _ _=>(ax (r:=rIn K false) uf (JlI (r:=du K) 0) (Jin (r:=du K) 1) rfl)) (λ_ _ _ _=>(JlI (r:=du K) 0))) (ah (Jk0 (Jff (Vi 2))) (JbD 0 mW BW hr bW (JcI (Jc8 hC (Jgn 0)) (Qz a_ 2) (Qz a_ 2)))
   aZ) (Jc8 hC (Jgn 0)))));try dsimp only [Cx.nox,Cx.wish,ag]
 have yl:R.ys.length=S.pp.length:=by rw[←U.u.pp.length]
 have xl:R.xs.length=S.rs.length:=by rw[←U.u.kn.length,lM]
 obtain⟨x0,x2,sq⟩:=L.sq;refine⟨_,rfl,A.h,C,A.dx,_,_,rfl,U.ins,T.cl,T.n_paper,si,A.pp,_,rfl,Qg (Jca 2),_,rfl,A.h,C,A.dx,_,_,rfl,U.ins,T.cl,T.n_most,CI,_,_,rfl,rfl,_,rfl,aQ (λc=>?_) (λc=>?_)⟩
 ·lia
 have o:¬g≤(R.ys.length:Int):=λz=>JfN z;rw[yl]at o;have N:=U.setPp (Jac U.u.pp L.has) (by rw[xp,U.u.pn];simp only[bz,L.nl,Bool.and_self]);refine⟨_,rfl,A.h,C,A.dx,_,_,rfl,U.ins,T.cl,T.n_paper,si,JcJ (Jca 2),_,rfl,A.pp,_,_,rfl,rfl,Jca 2,hln (by rw[yl];have:=L.pl;lia),?_⟩;have k1:JdY H H A.pp (R.ys++Vt W):=aL.oth (Jca 2) cA.1 cA.2;have G:=k1.sq sq;have D:=k1.sq L.tp;generalize JkL A.pp (R.ys++Vt W)=H1 at N G D;have at1:atI [x0,V.ref M,x2] 1=some (.ref M):=aJ rfl;refine⟨_,rfl,A.h,C,A.dx,_,_,rfl,N.ins,T.cl,T.n_known,iP,JcJ (N.at' 1 rfl rfl),_,rfl,W,_,_,_,rfl,rfl,G,at1,A.kn,_,_,rfl,rfl,N.at' 1 rfl rfl,hln (by rw[xl];have:=L.rl;lia),?_⟩;have Y:=N.setKn (rs:=S.rs++[ps]) (by rw[mAq];exact Jac N.u.kn (mX D));have k2:JdY H1 H1 A.kn (R.xs++Vt M):=aL.oth (N.at' 1 rfl rfl) cA.1 cA.2;have sq2:=k2.sq G;have Z:=k2.sq D;generalize Qa H1 A.kn (R.xs++Vt M)=H2 at Y sq2 Z;have hS:Xt H2 A.tr R.zs:=SqL.of (Y.at' 3 rfl rfl);have hL:=Y.u.tr;have zl:=Hu.zlen U;have np:(negs S.ts).reverse.length=S.ts.length:=by rw[List.length_reverse,iF]
 have tl:=L.tl;refine⟨_,rfl,A.h,C,A.dx,_,_,rfl,Y.ins,T.cl,T.n_trail,gS,A.tr,R.zs,rfl,hS,λDl I=>gi pN (λi ys H'=>Xj H2∧ys=(((negs S.ts).reverse.take i).filter λp=>decide (p∈ps)).map V.int) (λi ys H' ⟨v,_⟩=>v.seq hS) (Jbn I) ?_ ?_⟩
 ·rintro i ys H' x H'' hi hly k ⟨v,rfl⟩ ⟨rfl,hx⟩;obtain⟨t,p,ht,rfl,hp⟩:=gK hL (hx _ (v.seq hS));have e0:R.zs.length - 1 - i=S.ts.length - 1 - i:=by rw[zl]
  rw[e0]at ht;have hr':(negs S.ts).reverse[i]?=some (-t.1):=by rw[vg,List.getElem?_map,jI (by lia),ht];rfl
  have et:(((negs S.ts).reverse.take (i+1)).filter λp=>decide (p∈ps))=if -t.1∈ps then(((negs S.ts).reverse.take i).filter λp=>decide (p∈ps))++[-t.1] else((negs S.ts).reverse.take i).filter λp=>decide (p∈ps):=by
   rw[bb hr',List.filter_append];by_cases e:-t.1∈ps
   ·rw[if_pos e,List.filter_cons,JcM e];rfl
   ·rw[if_neg e,List.filter_cons,if_neg (by simp [e]),List.filter_nil,List.append_nil]
  refine⟨_,rfl,p,_,_,_,rfl,rfl,v.tup hp,rfl,_,rfl,_,rfl,W,_,_,_,rfl,rfl,v.tup sq2,at1,M,_,rfl,.inr (v.tup Z),rfl,uS _,_,rfl,?_⟩;rw[if_neg (by decide:¬Qu false),iD];by_cases e:-t.1∈ps
  ·rw[dTq e];refine b_ (JcH _ p _ _ _ rfl rfl (v.tup hp) rfl _ rfl (Ja0 (JcZ _) hi hly k (v.upd I)));rw[et,if_pos e,mAq];rfl
  ·rw[dFq e];refine bK (fV hi hly k (XE v));rw[et,if_neg e]
 rintro ys H3 k ⟨v,rfl⟩;rw[zl,tO (by lia)]at k;have eLat:((negs S.ts).reverse.filter λp=>decide (p∈ps))=iQ S.ts ps:=rfl;rw[eLat]at k;have J:=Y.more v I k;have sF:JjV F' F' Dl ((iQ S.ts ps).map V.int):=QL (Y.t.none I).2;have B:∀a∈iQ S.ts ps,cU a:=λa ha=>by have:=(List.mem_filter.mp ha).1;obtain⟨i,t,ht,e⟩:=kM (List.mem_reverse.mp this);have:=L.tr t (mO ht);unfold cU;lia
 have kr:cU (S.rs.length:Int):=by have:=L.rl;unfold cU;lia
 have d:∀H' O' R',Hu K C F' O' H' A pr g (JeC l (iQ S.ts ps)) S.hs R'→Q (.int ((R'.xs.length:Int) - 1)) H':=λH' O' R' U'=>by
  have e:R'.xs.length=S.rs.length+1:=by rw[←U'.u.kn.length,lM];show(S.rs++[ps]).length=_;rw[lAq];rfl
  rw[e,show((S.rs.length+1:Nat):Int) - 1=(S.rs.length:Int) by lia];exact qQ H' O' R' U'
 have X:=SqL.of (K:=K) (J.t.f _ _ af);generalize iQ S.ts ps=lat at J sF B d X k;refine JkY _ Dl _ (.inl X) _ _ _ rfl (aQ (λc=>?_) (λc=>?_))
 ·have o:(1:Int) < (((lat.map V.int).length:Nat):Int):=oDq c;rw[lM]at o
  match lat,J,sF,B,d,X,o with
  | a :: b :: y,J,sF,B,d,X,_ =>
   have a0:atI ((a :: b :: y).map V.int) 0=some (.int a):=Jd8 (j:=0);have a1:atI ((a :: b :: y).map V.int) 1=some (.int b):=Jd8 (j:=1);have xe:R.xs.length+1=S.rs.length+1:=by rw[xl]
   have gl:∀c,(S.wg c).length≤199000:=λc=>Jq (L.gl c);have nE:(((R.xs++[V.ref M]).length:Nat):Int) - 1=((S.rs.length:Nat):Int):=by rw[lAq,xl];show((S.rs.length+1:Nat):Int) - 1=_;lia
   refine⟨_,rfl,A.h,A.dx,_,rfl,J.ins,rfl,_,rfl,A.h,C,A.dx,_,_,rfl,J.ins,T.cl,T.n_known,iP,A.kn,_,rfl,Qg (J.at' 1 rfl rfl),_,_,rfl,rfl,_,rfl,Dl,_,_,_,rfl,rfl,X,a0,_,rfl,Dl,_,_,_,rfl,rfl,X,a1,A,_,_,pr,g,_,_,((S.rs.length:Nat):Int),a,b,?_,J,kr,B a (by simp),B b (by simp),gl a,gl b,λH4 O4 R4 U4 _=>?_⟩
   ·exact congrArg (λz=>[V.ref A.h,.int z,.int a,.int b]) nE
   ·have q:=U4.base sF;exact Jll _ A.h C A.dx _ _ rfl q.ins T.cl T.n_known iP A.kn _ rfl (Qg (q.at' 1 rfl rfl)) _ _ rfl rfl (d _ _ _ q)
  | [a],_,_,_,_,_,o=>exact Jv o
  | [],_,_,_,_,_,o=>exact absurd o (by decide)
 ·have o:¬(1:Int) < (((lat.map V.int).length:Nat):Int):=λz=>JfN z;rw[lM]at o;have q:=J.base sF
  match lat,q,d,o with
  | a :: b :: y,_,_,o=>exact absurd (by simp only[List.length_cons];lia) o
  | [a],q,d,_=>exact Jll _ A.h C A.dx _ _ rfl q.ins T.cl T.n_known iP A.kn _ rfl (Qg (q.at' 1 rfl rfl)) _ _ rfl rfl (d _ _ _ q)
  | [],q,d,_=>exact Jll _ A.h C A.dx _ _ rfl q.ins T.cl T.n_known iP A.kn _ rfl (Qg (q.at' 1 rfl rfl)) _ _ rfl rfl (d _ _ _ q)
abbrev s_cut:Stmt:=wh
def sIx_nat (h:j≤n):HT.sIx n d (some (j:Int))=j:=by
 unfold HT.sIx;simp only
 repeat' split
 all_goals lia
def nZ {xs:List V}{j:Nat}(h:j≤xs.length):gH xs none (some (j:Int))=xs.take j:=by unfold gH;rw[sIx_nat h];rfl
def cut_of {xs:List V}{j:Nat}(h:j≤xs.length):gH xs (some (j:Int)) none=xs.drop j:=by unfold gH;rw[sIx_nat h];exact tO (by rw[List.length_drop];exact nRq _)
def CU (h:∀x,x∈hs↔x=p∨x∈hs')(n:p∉hs'):(λx=>if x=p then none else gq hs x)=gq hs':=by
 funext x;unfold gq;by_cases e:x=p
 ·rw[if_pos e,if_neg (e ▸ n)]
 ·rw[if_neg e];by_cases c:x∈hs'
  ·rw[if_pos c,if_pos ((h x).mpr (.inr c))]
  ·rw[if_neg c,if_neg (λz=>((h x).mp z).elim e c)]
def xq:∀ {a:List Dt} {vs:List V} (n:Nat),JQ a vs→JQ (a.take n) (vs.take n)
 | _,_,0,_=>aj.nil
 | [],vs,n+1,h=>by simp only[aj]at h;subst h;rfl
 | d :: a,vs,n+1,h=>by simp only[aj]at h;obtain⟨v,r,rfl,c,b⟩:=h;exact .cons c (xq n b)
def gB (la:Int→Option Int):Prop:=∀a x,Xa (la a) x→x=a∨x=-a
def gB.put (h:gB la)(p):gB λz=>if z=(if p < 0 then -p else p) then some p else la z:=λa x e=>by
 have e:(if a=(if p < 0 then -p else p) then some p else la a)=some x:=e
 by_cases c:a=(if p < 0 then -p else p)
 ·lia
 ·rw[if_neg c]at e;exact h a x e
structure SpC (S:HS)(m:Int):Prop where
 tok:TOk S.rs S.ts
 bs:S.bs=bsF 0 S.ts
 m0:0≤m
 la:gB S.la
inductive oU (K)(C):Sp|m{vs H Q E9} (A) (F O) (pr) (most) (S) (R) (m):vs=JbQ A.h m→Jf1 F O H A S R→SpC S m→(∀A' H' O' R' j la,fq S.ts m j→gB la→A'.h=A.h→J6 F O' H' A' (Je2 j) (Je2 j).hs R'→Jb7 H')→oU K C vs H Q E9
def sJ:Jjt ["self","level","begin","step"] "level" s_cut:=fsc
def ok_cut (F:X4 "cut" "Hunt.cut" s_cut)(T:JiS C)(TB:JkK K):Jea (JL "level") (oU K C):=by
 refine F.ok sJ (λvs H Q E h=>?_) (λcdv A outer s H vs Q E hr h=>?_)
 ·obtain⟨A,W,O,pr,B,S,R,m,rfl,_⟩:=h;rfl
 obtain⟨A,W,O,pr,B,S,R,m,rfl,U,L,q⟩:=h;have hu:=dv hr;refine VP (Jh0 (Ja9 (ax eC (Jgn 0) (pv 1)) (QO (i:=2) sJ.nd (JfM pC (Vl 0)) (QZ (cC (ky ud (Vl 0) (kx (pv 2)) ku)) (i:=3) sJ.nd (Jh0 (aY (uO (Vl 0) (QA 3) (Jgk rfl))) (gO hu (Vl 0) (Jcz mD TB.abs (Jhq 3)) (QA 3) rfl))) (ak (JfD (ky ud (Vl 0) ku (kx (pv 2))))))) (JfD (Jgn 0)));try dsimp only [Cx.nox,Cx.wish,ag]
 refine Qk (λk X H'=>Ex7 λ v2 J A' O' g j la=>An7 (X=[Ja A.h,Jb m,v2,J]) (k=(JV 0 j).length) (A'.h=A.h) (j≤S.ts.length) ((Jel j→m < V8 (j+1))) (gB la) (Hu K C W O' H' A' pr B { S with ts:=S.ts.take j,bs:=bsF 0 (S.ts.take j),la:=la } ((S.ts.take j).map Prod.fst) g)) ⟨_,none,none,A,O,R,S.ts.length,S.la,rfl,rfl,rfl,nRq _,λz=>QV z _,L.la,?_⟩
 ·rw[List.take_length,←L.bs];exact U
 rintro k X H1 ⟨v2,J,A',O',g,j,la,rfl,ek,I,jl,hj,D,U1⟩;have hbg:=U1.at' 5 rfl rfl;have i1:=U1.ins;rw[I]at i1;refine⟨_,rfl,A.h,C,A'.dx,_,_,rfl,i1,T.cl,T.n_begins,su,A'.bg,_,rfl,Qg hbg,_,rfl,_,_,rfl,rfl,_,rfl,aQ (λc=>?_) (λc=>?_)⟩
 ·have c1:=oDq c;rw[lM,nJ]at c1;have ne:JV 0 j≠[]:=λz=>by have h1:=nJ (S.ts.take j);rw[z]at h1;have h1:(0:Int)=_:=h1;have:=L.m0;lia
  obtain⟨i,t,ht,t1,eb,ec⟩:=Ab _ ne;have it:=iH ht;have tt:(S.ts.take j).take i=S.ts.take i:=by rw[List.take_take,Nat.min_eq_left (by lia)]
  rw[tt]at eb ec;refine⟨λσ' H'=>∃m',m' < k∧Ex7 λ v2 J A' O' g j la=>An7 (σ'=[Ja A.h,Jb m,v2,J]) (m'=(JV 0 j).length) (A'.h=A.h) (j≤S.ts.length) ((Jel j→m < V8 (j+1))) (gB la) (Hu K C W O' H' A' pr B { S with ts:=S.ts.take j,bs:=bsF 0 (S.ts.take j),la:=la } ((S.ts.take j).map Prod.fst) g),λ_ _ z=>z,?_⟩;have jl2:(S.ts.take j).length=j:=by rw[List.length_take];lia
  have U2:=U1.setBg (JV 0 i);generalize Qa O' A'.bg ((JV 0 i).map V.int)=O2 at U2;have dl:((JV 0 j).map V.int).dropLast=(JV 0 i).map V.int:=by rw[eb,mAq];exact List.dropLast_concat
  have Y:((JV 0 j).map V.int)[((JV 0 j).map V.int).length - 1]?=some (.int (i:Int)):=by rw[eb,mAq];simp
  refine Jll _ A.h C A'.dx _ _ rfl i1 T.cl T.n_begins su (JcJ hbg) A'.bg _ _ rfl rfl hbg Y ?_;show(_:Prop);rw[dl];generalize Qa H1 A'.bg ((JV 0 i).map V.int)=H2 at U2;have i2:=U2.ins;rw[I]at i2;have zl:g.zs.length=j:=by rw[Hu.zlen U1];exact jl2
  have htr:=U2.at' 3 rfl rfl;refine Jll _ A.h C A'.dx _ _ rfl i2 T.cl T.n_trail gS _ rfl _ rfl A'.tr _ rfl (SqL.of htr) (λn hn=>?_);rw[cut_of (by rw[zl];lia)];have U3:=U2.newF hn (.lst (g.zs.drop i));have fn:=(U2.t.none hn).2;have sF:JjV W W n (g.zs.drop i):=QL fn;have M:=af (H:=W) (a:=n) (o:=.lst (g.zs.drop i));generalize Qa H2 n (g.zs.drop i)=H3 at U3;generalize Qa W n (g.zs.drop i)=F3 at U3 sF M;have G:=L.tok.take j;refine Jkp n _ (U3.t.f _ _ M) (Jh2 (cH) (λd X H'=>Ex4 λ J Ox r la=>An5 (X=[Ja A.h,Jb m,Jb (i:Int),J]) (gB la) (r.zs=g.zs) (i+d≤j) (Hu K C F3 Ox H' A' pr B { S with ts:=S.ts.take j,bs:=bsF 0 (S.ts.take i),la:=la } ((S.ts.take i++(S.ts.take j).drop (i+d)).map Prod.fst) r)) (λd X H' h=>by obtain⟨_,_,_,_,_,_,_,_,b⟩:=h;exact SqL.of (b.t.f _ _ M)) ⟨J,O2,g,la,rfl,D,rfl,by lia,?_⟩)
  ·have e0:S.ts.take i++(S.ts.take j).drop (i+0)=S.ts.take j:=by rw[←tt,Nat.add_zero,List.take_append_drop]
   rw[e0];exact U3
  ·rintro d X H' x H'' hd ⟨J,Ox,r,la,rfl,D,ez,hd2,b⟩ ⟨rfl,hx⟩;have hx:=JcY _ (b.t.f _ _ M);rw[List.getElem?_drop,←ez]at hx;obtain⟨u,p,y,rfl,hp⟩:=gK b.u.tr hx;have y:=y;have hd3:i+d < j:=by have:=(gEq y).1;lia
   have dE:(S.ts.take j).drop (i+d)=u :: (S.ts.take j).drop (i+(d+1)):=by rw[List.drop_eq_getElem_cons (by lia)];have e2:=gG (l:=S.ts.take j) (i:=i+d) (by lia);lia
   have hin:∀x,x∈(S.ts.take i++(S.ts.take j).drop (i+d)).map Prod.fst↔x=u.1∨x∈(S.ts.take i++(S.ts.take j).drop (i+(d+1))).map Prod.fst:=λx=>by
    rw[dE];simp only[mAq,List.map_cons,List.mem_append,List.mem_cons];lia
   have hnot:u.1∉(S.ts.take i++(S.ts.take j).drop (i+(d+1))).map Prod.fst:=λz=>by
    rw[mAq]at z;rcases mPq z with z | z
    ·rw[←tt]at z;obtain⟨a,v,ha,hv⟩:=iG z;have h1:=iH ha;have:=G.same_ix y h1.2 hv.symm;lia
    ·obtain⟨a,v,ha,hv⟩:=iG z;rw[List.getElem?_drop]at ha;have:=G.same_ix y ha hv.symm;lia
   have uE:-60≤u.1∧u.1≤60:=(G _ _ y).2.1;have ix:=b.ins;rw[I]at ix;have N:=b.setHd (hs':=(S.ts.take i++(S.ts.take j).drop (i+(d+1))).map Prod.fst) (by rw[←CU hin hnot];exact b.u.hd.drop u.1);have val:Vm r.kh u.1=some (.bl true):=by rw[b.u.hd.val];exact if_pos ((hin _).mpr (.inl rfl))
   refine⟨_,rfl,A.h,C,A'.dx,_,_,rfl,ix,T.cl,T.n_held,gU,A'.hd,rfl,Jd0 _ (b.at' 4 rfl rfl),_,rfl,p,_,_,_,rfl,rfl,hp,rfl,r.kh,Sum.inl u.1,_,b.at' 4 rfl rfl,rfl,val,?_⟩;have k1:aL H'' (Xe H'' A'.hd (JaR r.kh u.1)):=aL.oth (b.at' 4 rfl rfl) di.1 di.2;have Z:=k1.sq hp;generalize Xe H'' A'.hd (JaR r.kh u.1)=H4 at N Z;have iy:=N.ins;rw[I]at iy;have kp:-100≤(if u.1 < 0 then -u.1 else u.1)∧JhY (if u.1 < 0 then -u.1 else u.1):=by split <;> lia
   have Uz:=N.setLt kp u.1
   refine⟨_,rfl,p,_,_,_,rfl,rfl,Z,rfl,_,rfl,A.h,C,A'.dx,_,_,rfl,iy,T.cl,T.n_lately,xf,_,rfl,p,_,_,_,rfl,rfl,Z,rfl,_,rfl,A'.lt,_,rfl,Jlq (k:=Sum.inl (if u.1 < 0 then -u.1 else u.1)) (N.at' 9 rfl rfl) N.u.lt.len,?_⟩
   refine⟨_,_,_,_,rfl,D.put u.1,?_,?_,Uz⟩
   ·exact ez
   ·lia
  ·rintro X H' ⟨J,Ox,r,la,rfl,D,ez,hd2,b⟩;have dn:(g.zs.drop i).length=j - i:=by rw[List.length_drop,zl]
   rw[dn,show i+(j - i)=j by lia,List.drop_of_length_le (by lia),List.append_nil]at b;have ix:=b.ins;rw[I]at ix;refine Jll _ A.h C A'.dx _ _ rfl ix T.cl T.n_trail gS _ rfl _ rfl A'.tr _ rfl (SqL.of (b.at' 3 rfl rfl)) (λn2 hn2=>?_);have zl2:r.zs.length=j:=by rw[ez,zl]
   rw[nZ (by rw[zl2];lia)];have N:=b.newF hn2 (.lst (r.zs.take i));have fn2:=(b.t.none hn2).2;have sF2:JjV F3 F3 n2 (r.zs.take i):=QL fn2;have f02:Qn (W n2):=by
    cases e:W n2 with
    | none=>rfl
    | some o=>have:=sF _ _ e;rw[fn2]at this;cases this
   have hz:Jy (Qa H' n2 (r.zs.take i)) ((S.ts.take i).map dP) (r.zs.take i):=by rw[←tt,List.map_take];exact xq i N.u.tr
   obtain⟨O5,U5⟩:=N.moveTr af hz f02 (sF.trans sF2);have iy:=N.ins;rw[I]at iy;refine Jk2 _ A.h C A'.dx _ iy T.cl T.n_trail (by show Jfi 12;decide);refine⟨_,?_,_,_,{ A' with tr:=n2 },O5,{ r with zs:=r.zs.take i },i,la,rfl,rfl,I,by lia,λ_=>?_,D,?_⟩
   ·rw[ek,eb,lAq];show _ < _+1;lia
   ·rw[jE it.2];unfold cN;rw[if_pos t1];lia
   ·rw[←I];exact U5
 ·have c1:¬m < ((((JV 0 j).map V.int).length:Nat):Int):=λz=>JfN z;rw[lM,nJ]at c1;have zl:g.zs.length=j:=by rw[Hu.zlen U1];show(S.ts.take j).length=j;rw[List.length_take];lia
  refine⟨_,rfl,A.h,C,A'.dx,_,_,rfl,i1,T.cl,T.n_trail,gS,A'.tr,_,rfl,Qg (U1.at' 3 rfl rfl),_,rfl,A.h,C,A'.dx,_,rfl,i1,T.cl,T.n_looked,(by show Jfi 12;decide),?_⟩;rw[zl,←I];refine q A' _ _ _ j la ⟨jl,λi hi=>?_,hj⟩ D I (U1.setLk j);have:=h_ (ts:=S.ts) (i:=i+1) (j:=j) (by lia);lia
abbrev xr:Stmt:=wm
abbrev sL:Stmt:=wo
def CV {b:Type}{p:b→Bool}{xs:List b}{i:Nat}{k:b}(h:(xs.take i).find? p=none)(c:xs[i]?=some k)(f:Qu (p k)):xs.find? p=some k:=by
 have d:=(gEq c).1;have e:xs=xs.take i++k :: xs.drop (i+1):=by have:=JaP xs;rw[List.drop_eq_getElem_cons d]at this;have a:=gG d;lia
 rw[e,List.find?_append,h,List.find?_cons_of_pos f];rfl
def xt {a:Type}{p:a→Bool}{xs:List a}{i:Nat}{k:a}(h:(xs.take i).find? p=none)(c:xs[i]?=some k)(b:Q9 (p k)):(xs.take (i+1)).find? p=none:=by rw[bb c,List.find?_append,h,List.find?_cons_of_neg (by rw[b];decide)];rfl
noncomputable def oV (S:HS):Option Int:=S.od.find? λa=>decide (a∉S.hs)&&decide (-a∉S.hs)
def ChQ (K:W.Frag)(C:Addr)(F O H:Hp)(A:HA)(c:Addr)(b:Int)(S:HS)(R:HC)(Q:VK):Option Int→Prop
 | some a=>∀H' e d,Hu K C F e H' A c b (S.pick a) (S.pick a).hs d→XR true H'
 | none=>XR false H
structure SpCh (S:HS):Prop where
 tl:JjS 100
 bl:S.bs.length≤1000
 od:∀a∈S.od,1≤a∧a≤60
 la:gB S.la
inductive sM (K)(C):Sp|m{vs H Q E9} (A) (F O) (pr) (most) (S) (R):vs=Vt A.h→Jf1 F O H A S R→SpCh S→ChQ K C F O H A pr most S R Q (oV S)→sM K C vs H Q E9
def xu:Xn (JL "atom") ["self"] xr:=fsc
def CW (F:X4 "choose" "Hunt.choose" xr)(T:JiS C)(TB:JkK K)(W:Ji4 fH)(BH:JE 1 fH dH (Jbc "why") (jr K C))(bH:JiA dH (Jbc "why")):Jdo 2 ["self"] (sM K C):=by
 refine F.ok xu (λvs H Q E h=>?_) (λcdv A outer s H vs Q E D h=>?_)
 ·obtain⟨A,M,O,B,b,S,R,rfl,_⟩:=h;rfl
 obtain⟨A,M,O,B,b,S,R,rfl,U,L,q⟩:=h;have t:=dv D;refine VP (Jg2 (Jgh (cC (Vl 0)) (i:=1) xu.nd (ah (JdH (Jiv t (pv 1) (Vl 0)) (Jiv t (Jdq 1) (Vl 0))) (Jeq (JfR (Vl 0) (Xf (Jgn 0))) (aY (Jbs 0 W BH D bH (Xv (jB t (Vl 0) (pv 1) (Jdq 1) (Jgk rfl)) (Jck ae)))) dk)
     aZ)) dk);try dsimp only [Cx.nox,Cx.wish,ag]
 have g:=Jca 8;refine⟨_,rfl,A.h,C,A.dx,_,_,rfl,U.ins,T.cl,T.n_order,sC,A.od,rfl,QI _ g,Jh2 cH (λi o H'=>∃r:Option V,An3 (o=[Ja A.h,r]) (H'=H) ((S.od.take i).find? (λa=>decide (a∉S.hs)&&decide (-a∉S.hs))=none)) (λi o H' h=>by obtain⟨_,_,e,_⟩:=h;exact e ▸ SqL.of g) (Jgk none)⟩
 ·rintro i o H1 x H2 hi ⟨r,rfl,rfl,d⟩ ⟨rfl,X⟩;obtain⟨a,p,rfl⟩:=cM (X _ (SqL.of g));have I:=iJ S.hs a;have G:=iJ S.hs (-a);have aR:=L.od a (mO p);refine Jll _ _ rfl A.h C A.dx _ _ rfl U.ins T.cl T.n_held gU A.hd _ rfl (U.held a) _ rfl (aQ (λc=>?_) (λc=>?_))
  ·rw[I]at c;have y:a∉S.hs:=λz=>by rw[dTq z]at c;cases c
   refine⟨_,rfl,_,rfl,_,rfl,A.h,C,A.dx,_,_,rfl,U.ins,T.cl,T.n_held,gU,A.hd,_,rfl,U.held (-a),_,rfl,aQ (λj=>?_) (λj=>?_)⟩
   ·rw[G]at j;have v:-a∉S.hs:=λz=>by rw[dTq z]at j;cases j
    have Z:oV S=some a:=CV d p (by simp [y,v]);rw[Z]at q;have n:=Jca 5;have l:=U.setBg (S.bs++[(S.ts.length:Int)]);rw[mAq]at l;refine⟨_,rfl,A.h,C,A.dx,_,_,rfl,U.ins,T.cl,T.n_begins,su,JcJ n,_,rfl,A.h,C,A.dx,_,_,rfl,U.ins,T.cl,T.n_trail,gS,A.tr,_,rfl,Qg (Jca 3),A.bg,_,_,rfl,rfl,n,hln (by rw[lM];have:=L.bl;lia),?_⟩;rw[Hu.zlen U];have J:=bU.k (k:=Sum.inl a) (l.at' 9 rfl rfl);rw[l.u.lt.val]at J;have N:((S.la a).map V.int).getD (.int (-a))=.int ((S.la a).getD (-a)):=by cases S.la a <;> rfl
    have Y:(S.la a).getD (-a)=a∨(S.la a).getD (-a)=-a:=by
     cases e:S.la a with
     | none=>exact .inr rfl
     | some x=>exact L.la a x e
    refine⟨_,rfl,A.h,A.dx,_,rfl,l.ins,rfl,_,rfl,A.h,C,A.dx,_,_,rfl,l.ins,T.cl,T.n_lately,xf,A.lt,rfl,Jd0 _ (l.at' 9 rfl rfl),_,rfl,_,rfl,_,rfl,_,J,?_⟩;refine⟨_,rfl,A,M,_,B,b,_,_,(S.la a).getD (-a),-1,?_,l,?_,?_,λH' O' R' U' _=>?_⟩
    ·exact congrArg (λz=>X7 (V.ref A.h) z (-1)) N
    ·unfold cU;rcases Y with z | z <;> rw[z] <;> lia
    ·have:=L.tl;lia
    ·exact q H' O' R' U'
   ·rw[G]at j;have v:=Decidable.byContradiction λz=>by rw[dFq z]at j;exact j rfl
    exact XA _ rfl (xt d p (by simp [v]))
  ·rw[I]at c;have y:=Decidable.byContradiction λz=>by rw[dFq z]at c;exact c rfl
   exact XA _ rfl (xt d p (by simp [y]))
 ·rintro o H' ⟨r,rfl,rfl,d⟩;rw[lM,List.take_length]at d;have d:Qn (oV S):=d;rw[d]at q;exact q
def xv:∀ {d c:List Int},d.Pairwise (· < ·)→c.Pairwise (· < ·)→(∀x,x∈d↔x∈c)→d=c
 | [],[],_,_,_=>rfl
 | [],b :: c,_,_,h=>absurd ((h b).mpr List.mem_cons_self) (λz=>nomatch z)
 | a :: d,[],_,_,h=>absurd ((h a).mp List.mem_cons_self) (λz=>nomatch z)
 | a :: d,b :: c,l,k,h=>by
  obtain⟨g,j⟩:=List.pairwise_cons.mp l;obtain⟨q1,i⟩:=List.pairwise_cons.mp k;have e:a=b:=by
   rcases List.mem_cons.mp ((h a).mp List.mem_cons_self) with z | z
   ·exact z
   ·rcases List.mem_cons.mp ((h b).mpr List.mem_cons_self) with y | y
    ·exact y.symm
    ·have:=g b y;have:=q1 a z;lia
  subst e;rw[xv j i λx=>?_];constructor
  ·intro z;rcases List.mem_cons.mp ((h x).mp (Xd z)) with y | y
   ·have:=g x z;lia
   ·exact y
  ·intro z;rcases List.mem_cons.mp ((h x).mpr (Xd z)) with y | y
   ·have:=q1 x z;lia
   ·exact y
noncomputable def upN (n:Nat):List Int:=(List.range n).map λi:Nat=>(i:Int)+1
def mi:a∈upN n↔1≤a∧a≤n:=by
 unfold upN;rw[List.mem_map];constructor
 ·rintro ⟨i,b,rfl⟩;have:=List.mem_range.mp b;lia
 ·intro h;exact Jhe ((a - 1).toNat) (List.mem_range.mpr (by lia))
def xw (n):(upN n).Pairwise (· < ·):=by refine List.pairwise_map.mpr (List.pairwise_lt_range.imp λ{a b} h=>?_);lia
noncomputable def dY (n:Nat)(hs:List Int):List Int:=(upN n).map λa=>if a∈hs then a else -a
inductive sO (K)(C):Sp|m{vs H Q E9} (A) (F O) (pr) (most) (S) (R) (n:Nat):vs=Vt A.h→Jf1 F O H A S R→n≤40→(∀a:Int,a∈S.od↔1≤a∧a≤n)→S.od.Nodup→(∀H' l,Xj H→Vn l→J1 l ((dY n S.hs).map V.int)→Jbq l)→sO K C vs H Q E9
def CY:Xn ["self"] ["self"] sL:=fsc
def CZ (F:X4 "held_parts" "Hunt.held_parts" sL)(T:JiS C)(TB:JkK K):Jea ["self"] (sO K C):=by
 refine F.ok CY (λvs H Q E h=>?_) (λcdv A outer s H vs Q E hr h=>?_)
 ·obtain⟨A,F',O,pr,u,S,R,n,rfl,_⟩:=h;rfl
 obtain⟨A,F',O,pr,u,S,R,n,rfl,U,n40,od,r,q⟩:=h;have hu:=dv hr;refine VP (Qj (QY iZ rfl TB.tuple (Xf (Js (N':=["atom","self"]) (ix:=[0]) rfl rfl rfl (λok=>JeL (sc:=ap sL)) rfl rfl (λj i h=>match j,h with | 0,h=>by cases h;exact Jbz _ | n+1,h=>by simp at h) (cC (Jbw qe TB.sorted (V0 0))) (λ_ _ _ _=>(iu (eM (kH hu (pv 0) (qd K rfl (pv 1) rfl))) (pv 0) (Jdq 0)))))));try dsimp only [Cx.nox,Cx.wish,ag]
 have odl:S.od.length≤n:=by
  have:=fZ n (xs:=S.od.map λa=>a - 1) (List.pairwise_map.mpr (r.imp λ{a b} h z=>h (by lia))) λx B=>by obtain⟨a,G,rfl⟩:=List.mem_map.mp B;have:=(od a).mp G;lia
  rwa [lM]at this
 refine⟨_,rfl,A.h,C,A.dx,_,_,rfl,U.ins,T.cl,T.n_order,sC,A.od,S.od,rfl,Ji1 8,by lia,λl N hl X so=>?_⟩;have k:N=upN n:=by
  refine xv ?_ (xw n) λx=>by rw[X.mem_iff,od,mi]
  have nd:=X.nodup_iff.mpr r;exact(so.and nd).imp λ{a b} h=>by have:=h.1;have:=h.2;lia
 subst k;obtain⟨H1,eN,M,J⟩:=QB hl ((upN n).map V.int);rw[eN];have o:(upN n).length=n:=by unfold upN;rw[lM,List.length_range]
 refine Jkp l _ J (λD I=>JhJ cH (λi us H'=>Xj H1∧us=((dY n S.hs).take i).map V.int) (λi us H' ⟨g,_⟩=>JdX _ _ J) I ?_ ?_)
 ·rintro i us H2 x H3 hi v d ⟨g,rfl⟩ ⟨rfl,B⟩;obtain⟨a,G,rfl⟩:=cM (B _ (JdX _ _ J));have Z:=U.same (M.trans g);have Y:=iJ S.hs a;have hH:(dY n S.hs)[i]?=some (if a∈S.hs then a else -a):=by unfold dY;rw[List.getElem?_map,G];rfl
  have y:((dY n S.hs).take (i+1)).map V.int=((dY n S.hs).take i).map V.int++Jgr (if a∈S.hs then a else -a):=by rw[bb hH,mAq];rfl
  rw[lM,o]at hi;refine Jll _ _ rfl A.h C A.dx _ _ rfl Z.ins T.cl T.n_held gU A.hd _ rfl (Z.held a) _ rfl (aQ (λc=>?_) (λc=>?_))
  ·rw[Y]at c;have L:=oDq c;rw[if_pos L]at y;exact V2 (cz (bsz _ (by rw[lM,o];lia)) (by rw[lM,o];lia) v d ⟨g.upd I,y.symm⟩)
  ·rw[Y]at c;have L:a∉S.hs:=λz=>JfN z;rw[if_neg L]at y;exact JkN _ _ (cz (bsz _ (by rw[lM,o];lia)) (by rw[lM,o];lia) v d ⟨g.upd I,y.symm⟩)
 ·rintro us H2 d ⟨g,rfl⟩;have e:(dY n S.hs).take ((upN n).map V.int).length=dY n S.hs:=by refine tO ?_;unfold dY;rw[lM,lM];exact nRq _
  rw[e]at d;refine XA D _ (Jfz d (λt W=>?_));have p:=M.trans g;exact q _ t (p.trans (QL W)) (p.free W) af
abbrev kc:Stmt:=wj
def mj:Jjt ["self","fails","told","parts","forcing","fresh"] "fails" kc:=fsc
noncomputable def iq (ps od:List Int):List Int:=ps.map dz++od.filter λa=>decide (a∉ps.map dz)
def C0 {ps od:List Int}{n:Nat}(e:∀p∈ps,p≠0∧Jfp n)(b:∀a:Int,a∈od↔1≤a∧a≤n)(a):a∈iq ps od↔1≤a∧a≤n:=by
 unfold iq;rw[List.mem_append,List.mem_filter,decide_eq_true_eq];constructor
 ·rintro (z | ⟨z,_⟩)
  ·obtain⟨p,d,rfl⟩:=List.mem_map.mp z;have:=e p d;unfold dz;split <;> lia
  ·exact(b a).mp z
 ·intro h;by_cases c:a∈ps.map dz
  ·exact .inl c
  ·exact Jx ((b a).mpr h) c
def C1 (g:(ps.map dz).Nodup)(f:od.Nodup):(iq ps od).Nodup:=by refine VT g (f.filter _) (λa d b c e=>?_);have:=(List.mem_filter.mp c).2;lia
structure TlF (K)(H)(S)(t tp th)(ps:List Int)(m y:Int)(n):Prop where
 t:X9 t (Jb6 tp th m)
 tp:JdL tp
 c:SpC S m
 n40:n≤40
 pr:∀p∈ps,p≠0∧Jfp n
 pl:Jbp 100
 od:∀a:Int,a∈S.od↔1≤a∧a≤n
 odn:S.od.Nodup
def odlen {od:List Int}{n:Nat}(h:∀a:Int,a∈od↔1≤a∧a≤n)(c:od.Nodup):od.length≤n:=by
 have:=fZ n (xs:=od.map λa=>a - 1) (List.pairwise_map.mpr (c.imp λ{a b} h z=>h (by lia))) λx d=>by obtain⟨a,e,rfl⟩:=List.mem_map.mp d;have:=(h a).mp e;lia
 rwa [lM]at this
def learn3 (T:JiS C)(TB:JkK K)(mH:Ji4 fH)(BH:JE 1 fH dH (Jbc "why") (jr K C))(bH:JiA dH (Jbc "why"))
  (mC:JgS "cut" fC)(BC:JcA 1 fC dC "level" (oU K C))(bC:JiB dC "level")
  {cdv:Value}{Ar:Around}{outer:List Env}{s:Shared}{H0:Hp}{E:XK}(hr:aX 1 (Ar.deeper (JiT "Hunt.learn" kc f cdv))) :
  ∃z,PSs (Jfk CX0 P w K mg ["self","fails","told","parts","forcing","fresh"] "Hunt.learn" (ap kc) f cdv Ar s H0 E).nox ((cG kc).drop 3) z ∧
   ∀D A F O H pr d S R t B th ps fl m y n,Hu K C F O H A pr d S S.hs R→TlF K H S t B th ps m y n→(ps=[]→D.rt (.bl false) H) →
    (∀a rest,ps=a :: rest→∀A' H' O' R' j la,fq S.ts m j→gB la→A'.h=A.h→Hu K C F O' H' A' pr d { (Je2 j).hold a y with od:=iq ps S.od } ((Je2 j).hold a y).hs R'→D.rt (.bl true) H') →
    z D [Ja A.h,Jb fl,Ja t,Ja B,Jb y,none] H:=by
 refine VP (ad (ah (Jfg (Jff (Vi 3))) (Qj dk)
   aZ) (Vd (aY (Jbs 0 mC BC hr bC (Jhq 2))) (aY (Jbs 0 mH BH hr bH (Jfx (QA 3) 4))) (Jeq (az (i:=5) mj.nd rfl (Or.inr rfl) (Js (N':=["part"]) (ix:=[]) rfl rfl rfl (λ_=>⟨[],XV (by decide +kernel)⟩) rfl rfl (λj i h=>by simp at h) (gc (pv 3)) (λ_ _ _ _=>(Jcz mD TB.abs (Vi 0))))) (JfD (Xs jx 5 (Q5 (N':=["atom","fresh"]) (ix:=[5]) rfl rfl rfl (λok=>JeL (sc:=ap kc)) rfl rfl (λj i h=>match j,h with | 0,h=>by cases h;exact Jbz _ | n+1,h=>by simp at h) (cC (Vl 0)) (λ_ _ _ _=>(ax (r:=rIn K true) ug (pv 0) (pv 1) rfl)) (λ_ _ _ _=>(pv 0))))) dk)));try dsimp only [Cx.nox,Cx.wish,ag]
 rintro D A F O H pr d S R t B th ps fl m y n U L q0 q1;have pl:=L.pl;refine⟨_,rfl,B,_,rfl,.inr L.tp,rfl,_,rfl,aQ (λc=>?_) (λc=>?_)⟩
 ·have c1:=oDq c;injection c1 with c1;rw[lM]at c1;exact q0 (List.length_eq_zero_iff.mp (by lia))
 match ps,L,q1,pl with
 | [],L,q1,pl=>exact Jb_ c
 | a :: rest,L,q1,pl =>
  have q1:=q1 a rest rfl;have aP:=L.pr a List.mem_cons_self;have n40:=L.n40;have at2:atI (Jjl (V.ref B) (V.ref th) m) 2=some (.int m):=aJ rfl;have at0:atI ((a :: rest).map V.int) 0=some (.int a):=aJ rfl;obtain⟨M,sF1,U1,Z⟩:=U.sqF L.tp;refine⟨_,rfl,A.h,A.dx,_,rfl,U.ins,rfl,_,rfl,t,_,_,_,rfl,rfl,L.t,at2,A,M,O,pr,d,S,R,m,rfl,U1,L.c,λY H2 O2 R2 j la hcut hla X U2=>?_⟩;have i2:=U2.ins;rw[X]at i2;have tl:((Je2 j).ts).length≤1000:=by
   have h1:=(L.c.tok.take j).len;have h2:(S.ts.take j).length≤1000:=by lia
   exact h2
  refine⟨_,rfl,A.h,Y.dx,_,rfl,i2,rfl,_,rfl,B,_,_,_,rfl,rfl,U2.t.f.tup Z,at0,_,rfl,Y,M,O2,pr,d,Je2 j,R2,a,y,by rw[X];rfl,U2,by unfold cU;lia,tl,λH3 O3 R3 U3 _=>?_⟩;have v:=U3.t.f.tup Z;have fl1:((a :: rest).map dz).length=rest.length+1:=by rw[lM];rfl
  refine Jc_ _ B _ v (λN q=>JhJ fz (λi us H'=>Xj H3∧us=(((a :: rest).map dz).take i).map V.int) (λi us H' ⟨Q,_⟩=>Q.tup v) q ?_ ?_)
  ·rintro i us H4 x H5 W k l ⟨Q,rfl⟩ ⟨rfl,hx⟩;obtain⟨p,hp,rfl⟩:=Jjk _ (Q.tup v);have hA:((a :: rest).map dz)[i]?=some (dz p):=by rw[List.getElem?_map,hp];rfl
   refine JkN _ _ (Ja0 (bsz _ (by rw[lM];lia)) W k l (Q.upd q));rw[bb hA,mAq];rfl
  rintro us H4 l ⟨Q,rfl⟩;have e4:((a :: rest).map dz).take ((a :: rest).map V.int).length=(a :: rest).map dz:=tO (by rw[lM,lM];exact nRq _);rw[e4]at l;have U4:=U3.more Q q l;have f4:=(U3.t.none q).2;have G:JjV M M N (((a :: rest).map dz).map V.int):=QL f4;have J:=af (H:=M) (a:=N) (o:=.lst (((a :: rest).map dz).map V.int));generalize Qa M N (((a :: rest).map dz).map V.int)=F4 at U4 G J;generalize hfr:(a :: rest).map dz=g at *;have i4:=U4.ins;rw[X]at i4;have I:=U4.at' 8 rfl rfl;have odl:=odlen L.od L.odn;refine⟨_,rfl,_,rfl,A.h,C,Y.dx,_,_,rfl,i4,T.cl,T.n_order,sC,Y.od,rfl,QI _ I,λD2 hD2=>gi cH (λi us H'=>Xj H4∧us=((S.od.take i).filter λz=>decide (z∉g)).map V.int) (λi us H' ⟨u,_⟩=>SqL.of (u _ _ I)) (Jbn hD2) ?_ ?_⟩
  ·rintro i us H5 x H6 W k b ⟨u,rfl⟩ ⟨rfl,hx⟩;obtain⟨z,hz,rfl⟩:=cM (JcY _ (u _ _ I));have et:((S.od.take (i+1)).filter λz=>decide (z∉g))=if z∈g then(S.od.take i).filter λz=>decide (z∉g) else((S.od.take i).filter λz=>decide (z∉g))++[z]:=by
    have hz:S.od[i]?=some z:=hz;rw[bb hz,List.filter_append];by_cases e:z∈g
    ·rw[if_pos e,List.filter_cons,if_neg (by simp [e]),List.filter_nil,List.append_nil]
    ·rw[if_neg e,List.filter_cons,JcM e];rfl
   have hil:i < S.od.length:=by rw[lM]at W;exact W
   refine Jc4 _ _ rfl N _ rfl (Qg (u _ _ (U4.t.f _ _ J))) (uS _) _ rfl ?_;rw[if_pos rfl,iD];by_cases e:z∈g
   ·rw[dTq e];refine bK (fV W k b (XE u));rw[et,if_pos e]
   ·rw[dFq e];refine b_ (V2 (Ja0 (bsz _ (by rw[lM];show S.od.length≤_;lia)) W k b (u.upd hD2)));rw[et,if_neg e,mAq];rfl
  rintro us H5 b ⟨u,rfl⟩;have e5:S.od.take (S.od.map V.int).length=S.od:=tO (by rw[lM];exact nRq _);have b:H5 D2=some (.lst (((S.od.take (S.od.map V.int).length).filter λz=>decide (z∉g)).map V.int)):=b;rw[e5]at b;have U5:=U4.same u;have frl:g.length≤100:=by rw[←hfr,lM];exact pl
  have h1:=U5.t.f _ _ J;refine⟨N,D2,_,_,rfl,rfl,h1,b,?_,λn1 hn1=>?_⟩
  ·have:=List.length_filter_le (λz=>decide (z∉g)) S.od;rw[lM,lM];exact Nat.le_of_lt (hln (by lia))
  rw[←mAq];have eN:g++S.od.filter (λz=>decide (z∉g))=iq (a :: rest) S.od:=by unfold iq;rw[hfr]
  rw[eN];have U6:=U5.newF hn1 (.lst ((iq (a :: rest) S.od).map V.int));have f6:=(U5.t.none hn1).2;have sF6:JjV F4 F4 n1 ((iq (a :: rest) S.od).map V.int):=QL f6;have sF:=(sF1.trans G).trans sF6;have f0:Qn (F n1):=by
   cases e:F n1 with
   | none=>rfl
   | some o=>have:=(sF1.trans G) _ _ e;rw[f6]at this;cases this
  obtain⟨O7,U7⟩:=U6.moveOd af f0 sF;have i6:=U6.ins;rw[X]at i6;refine Jk2 _ A.h C Y.dx _ i6 T.cl T.n_order (by show Jfi 12;decide);have:=q1 { Y with od:=n1 } _ O7 R3 j la hcut hla X U7;rw[←X];exact this
noncomputable def lnD (ps hs:List Int):Dt:=.tup [.str "learnt",.tup (ps.map Dt.int),.tup (hs.map Dt.int)]
structure LrnTo (n)(B)(Y)(most:Int)(S:HS)(f)(S'):Prop where
 mid:cO n B Y S'
 wgt:Jeg S.ts < Jeg S'.ts
 to:(S'.pp=S.pp∧S'.rs=S.rs)∨(S'.pp=S.pp++[lnD (JbJ f) (df S.rs S.ts f).reverse]∧S'.rs=S.rs++[JbJ f])
structure SpLn (n)(B)(Y)(S)(f):Prop where
 c:eG n B Y S f
 n40:n≤40
 rl:S.rs.length≤197000
 pl:S.pp.length≤197000
 gl:∀c,(S.wg c).length≤197000
inductive sP (K)(C):Sp|m{vs H Q E9} (A) (F O) (pr) (most) (S) (R) (f) (n) (B) (Y):vs=JbQ A.h f→Jf1 F O H A S R→SpLn n B Y S f→(S.pp.length:Int) < most→(JbJ f=[]→∀H' O' R',Jf1 F O' H' A (S.put (lnD [] (df S.rs S.ts f).reverse) [] []) R'→XR false H')→(∀A' H' O' R' S',A'.h=A.h→LrnTo n B Y most S f S'→J6 F O' H' A' S' S'.hs R'→XR true H')→sP K C vs H Q E9
section
variable {P:Program} {w:World} {K:W.Frag} {mg:Str→Option Value} {base:Heap} {C f fH fC fP fL:Addr} {fd dH dC dP' dL:FuncData}
def C2 (ps hs):JeT (lnD ps hs):=by simp only[lnD,nol,bz,jC,Bool.and_self]
def C3 (h:X9 l [.str "learnt",.ref tp,.ref th])(b:JdL tp)(a:X9 th (hs.map V.int)):JcO K (lnD ps hs) l :=
 Has.tup' h (.cons (by rfl) (Je6 (mX b) (mX a)))
def C4 (F:X4 "learn" "Hunt.learn" kc)(T:JiS C)(TB:JkK K)(mH:Ji4 fH)(BH:JE 1 fH dH (Jbc "why") (jr K C))(bH:JiA dH (Jbc "why"))
  (mC:JgS "cut" fC)(BC:JcA 1 fC dC "level" (oU K C))(bC:JiB dC "level")
  (mP:JgS "put" fP)(BP:JcA 2 fP dP' "line" (oT K C))(bP:JiB dP' "line")
  (BL:Jie 3 "learnt" fL dL ["rows","trail","fails"] (Le54.sp_learnt K)):Jdo 4 (JL "fails") (sP K C):=by
 refine F.ok mj (λvs H Q E h=>?_) (λcdv Ar outer s H vs Q E hr h=>?_)
 ·obtain⟨A,F',O,pr,o,S,R,f,n,B,Y,rfl,_⟩:=h;rfl
 obtain⟨A,F',O,pr,o,S,R,G,n,B,Y,rfl,U,L,qE,qN,qY⟩:=h;have hr1:=QP (j:=1);have hr2:=QP (j:=2);obtain⟨z3,h3,q3⟩:=learn3 (base:=base) T TB mH BH bH mC BC bC (cdv:=cdv) (outer:=outer) hr1;refine VP (JeU (i:=2) mj.nd (Jlt BL.ok hr BL.m BL.kp BL.b (aa (Vl 0) (Jfx (Vl 0) 1))) (i:=3) mj.nd (QA 2) (ad (Xm (i:=4) mj.nd (iu (JdH (Jfg (Jff (Jhq 2))) (Jk0 (Jff (Vi 3)))) (pv 1) (Jbs 0 mP BP hr2 bP (Jkg (aa bZ (JdZ 3 (QA 2)))))))
  h3));try dsimp only [Cx.nox,Cx.wish,ag]
 have g:=L.c.b.tok;have n40:=L.n40;have tl:JjS 100:=by have:=g.len;lia
 refine⟨_,rfl,A.h,C,A.dx,_,_,rfl,U.ins,T.cl,T.n_known,iP,_,rfl,A.h,C,A.dx,_,_,rfl,U.ins,T.cl,T.n_trail,gS,_,rfl,A.kn,A.tr,G,R.xs,R.zs,S.rs,S.ts,rfl,Ji1 1,U.u.kn,Ji1 3,U.u.tr,L.c.ln,tl,L.c.b.rlen n40,λH1 t M X m s1 _ h1 h2 h3' mx=>?_⟩;have U1:=U.same s1;have at0:atI (Jjl (V.ref M) (V.ref X) m) 0=some (.ref M):=Jd8 (j:=0);have at1:atI (Jjl (V.ref M) (V.ref X) m) 1=some (.ref X):=Jd8 (j:=1);generalize d:JbJ G=ps at *;generalize hhs:(df S.rs S.ts G).reverse=hh at *;have hpl:(ps.map V.int).length=ps.length:=lM _;have hhl:(hh.map V.int).length=(df S.rs S.ts G).length:=by rw[lM,←hhs,List.length_reverse]
 have inP:∀q∈ps,q≠0∧q.natAbs≤n:=λq hq=>by rw[←d]at hq;obtain⟨i,u,hi,e,_⟩:=jf g hq;have h1:=(g i u hi).1;have h2:=L.c.b.rng u (mO hi);lia
 have psl:Jbp 100:=by rw[←d];unfold aT;have:=List.length_filter_le (λp=>decide (p∈gj S.rs S.ts G)) (negs S.ts).reverse;rw[List.length_reverse,iF]at this;lia
 have m0:0≤m:=by
  by_cases e:(ps.drop 1).map (lvF S.ts)=[]
  ·rw[mx.1 e];decide
  ·obtain⟨x,_,Z⟩:=List.mem_map.mp (mx.2 e).1;rw[←Z];exact jJ x
 have absn:(ps.map dz).Nodup:=by
  refine List.pairwise_map.mpr ((show ps.Nodup from d ▸ nM g).imp_of_mem λ{x y} hx hy ne z=>?_);rw[←d]at hx hy;obtain⟨i,u,hi,e,_⟩:=jf g hx;obtain⟨j,v,hj,e',_⟩:=jf g hy;unfold dz at z;have:x=y∨x=-y:=by split at z <;> split at z <;> lia
  rcases this with z | z
  ·exact ne z
  ·exact g.cons (q:=u.1) (fu hi) (by rw[show -u.1=v.1 by lia];exact fu hj)
 refine Jef _ t _ _ _ rfl (SqT.of h1) at0 ?_;have rest:∀J O2 N R2 y,J.ts=S.ts→J.bs=S.bs→J.la=S.la→J.od=S.od→TOk J.rs J.ts→Hu K C F' O2 N A pr o J J.hs R2→Vv N t (Jb6 M X m)→Vv N M (ps.map V.int)→(ps=[]→XR false N) →
   (∀a rs j la,ps=a :: rs→fq S.ts m j→gB la→LrnTo n B Y o S G { (J.cut j la).hold a y with od:=iq ps S.od }) →
   z3 { nx:=λ_ H'=>Q .non H',rt:=Q } [Ja A.h,Jb G,Ja t,Ja M,Jb y,none] N:=by intro J O2 N R2 y e1 Z e3 e4 tok1 U2 g1 g2 n0 n1;refine q3 _ A F' O2 N pr o J R2 t M X ps G m y n U2 ⟨g1,g2,⟨tok1,by rw[Z,e1];exact L.c.b.bs,m0,by rw[e3];exact L.c.b.la⟩,n40,inP,psl,by rw[e4];exact L.c.b.od,by rw[e4];exact L.c.b.odn⟩ n0 λa rs ea A' H' O' R' j la r I eh U'=>?_;rw[e4]at U';exact qY A' H' O' R' _ eh (n1 a rs j la ea (e1 ▸ r) I) U'
 have od1:=C0 inP L.c.b.od;have od2:=C1 absn L.c.b.odn;refine(λ(k:¬((df S.rs S.ts G).length=1∧ps≠[])→_) (k2:((df S.rs S.ts G).length=1∧ps≠[])→_)=>⟨_,rfl,t,_,_,_,rfl,rfl,SqT.of h1,at1,X,_,rfl,.inr (SqT.of h3'),rfl,_,rfl,aQ (λc1=>JkY _ M _ (.inr (SqT.of h2)) _ _ _ rfl (aQ (λc2=>k2 ?_) (λc2=>k ?_))) (λc1=>k ?_)⟩) (λhn=>?_) (λhy=>?_)
 ·refine⟨_,rfl,A.h,A.dx,_,rfl,U1.ins,rfl,_,rfl,_,rfl,t,_,_,_,rfl,rfl,SqT.of h1,at1,lS3,λl hl=>?_⟩;obtain⟨N,eN,s2,l2⟩:=Ja3 hl [.str "learnt",.ref M,.ref X];rw[eN];have U2:=U1.same s2;have t2:=SqT.of (K:=K) (s2 _ _ h1);have W:=SqT.of (K:=K) (s2 _ _ h2);have th2:=SqT.of (K:=K) (s2 _ _ h3');obtain⟨F3,sF3,U3,t3⟩:=U2.sqF t2;obtain⟨F4,sF4,U4,tp4⟩:=U3.sqF W;have t4:=sF4.tup t3;have lat:iQ S.ts ps=ps:=by rw[←d];exact Ae _ _ _
  have tr60:∀u∈S.ts,-60≤u.1∧u.1≤60:=λu hu=>by obtain⟨i,hi⟩:=List.getElem?_of_mem hu;exact(g i u hi).2.1
  refine⟨A,F4,O,pr,o,S,R,l,M,lnD ps hh,ps,rfl,U4,⟨C3 (SqT.of l2) W th2,C2 _ _,Jlc _ (SqT.of l2),W,Jq L.pl,Jq L.rl,tl,tr60,g.negs,λc=>Jq (L.gl c)⟩,qE,λH5 O5 R5 U5=>?_⟩;rw[lat]at U5;have U6:=U5.base (sF3.trans sF4);refine rest (JeC (lnD ps hh) ps) O5 H5 R5 _ rfl rfl rfl rfl (g.more:TOk (S.rs++[ps]) S.ts) U6 (U5.t.f.tup t4) (U5.t.f.tup tp4) (λe=>?_) λa rs j la ea r I=>?_
  ·subst e;exact qN rfl _ _ _ U6
  ·have ne:JbJ G≠[]:=by rw[d,ea];exact λz=>nomatch z
   obtain⟨a',rs',D,c1,c2,c3⟩:=L.c.next (by lia) ne (by rw[d];exact mx) r I od1 od2;rw[d]at D c1;have Z:a'=a:=by rw[ea]at D;injection D with h;exact h.symm
   subst Z;exact⟨c1 (lnD ps hh),c3 _ (by lia),Jx (by rw[d,hhs];rfl) (by rw[d];rfl)⟩
 ·refine V2 (rest S O H1 R G rfl rfl rfl rfl g U1 (SqT.of h1) (SqT.of h2) (λe=>absurd e hy.2) λa rs j la ea r I=>?_);have ne:JbJ G≠[]:=by rw[d];exact hy.2
  obtain⟨a',rs',D,c1,c2,c3⟩:=L.c.next (by lia) ne (by rw[d];exact mx) r I od1 od2;rw[d]at D;have Z:a'=a:=by rw[ea]at D;injection D with h;exact h.symm
  subst Z;exact⟨c2 hy.1,c3 _ (by have:=L.c.ln.f0;lia),Jh8 rfl⟩
 ·have d1:=oDq c1;injection d1 with d1;have d2:=oDq c2;rw[hhl]at d1;rw[hpl]at d2;exact X0 (λz=>by rw[z]at d2;exact Jap d2)
 ·have d2:¬(0:Int) < (((ps.map V.int).length:Nat):Int):=λz=>c2 (dTq z);rw[hpl]at d2;exact λz=>z.2 (List.length_eq_zero_iff.mp (by lia))
 ·exact λz=>c1 (dTq (by rw[hhl,z.1];rfl))
end
abbrev xx:Stmt:=wa
structure SpG (n)(B)(T)(As)(most)(S):Prop where
 m:cO n B (JeG T) S
 n40:n≤40
 rl:S.rs.length≤197000
 pl:S.pp.length≤197000
 pm:(S.pp.length:Int) < most
 t60:JjO 60
structure CfG (n)(B)(T)(As)(S S':HS)(f):Prop where
 w:Jeg S.ts≤Jeg S'.ts
 p:S'.pp.length≤S.pp.length+1
 c:eG n B (JeG T) S' f
 g:∀c,(S'.wg c).length≤S'.rs.length
structure RsG (n)(B)(T)(As)(S S'):Prop where
 e:eW S S'
 m:cO n B (JeG T) S'
 l:S'.lk=S'.ts.length
 nc:∀r,JkJ T r→∃p∈r,-p∉S'.hs
inductive mn (K)(C CP):Sp|m{vs H Q E9} (A) (F O) (pr tl al rl) (most) (S) (R) (n) (B) (T) (As) (Rs):vs=Vt A.h→Jf1 F O H A S R→SpG n B T As most S→JgN CP F pr T→(∀H' O' R' S',RsG n B T As S S'→J6 F O' H' A S' S'.hs R'→Jb7 H')→(∀H' O' R' S' f,CfG n B T As S S' f→J6 F O' H' A S' S'.hs R'→JjX f)→mn K C CP vs H Q E9
def C5 (g:lat.Nodup)(c):(putG r lat wg c).length≤(wg c).length+1:=by
 unfold putG;split
 ·rename_i a b f;have h:a≠b:=λe=>(List.nodup_cons.mp g).1 (e ▸ List.mem_cons_self);by_cases d:c=b
  ·rw[if_pos d,if_neg (λz=>h (z.symm.trans d)),lAq];exact nRq _
  ·rw[if_neg d];split
   ·rw[lAq];exact nRq _
   ·lia
 ·lia
noncomputable def eqD (ps:List Int)(ls:List Lk):Dt:=.tup [.str "equal",.tup (ps.map Dt.int),.tup (ls.map dL)]
def C6 (h:ka K H a d B):JcO K (eqD (ptF d B) B) a∧JeT (eqD (ptF d B) B)∧∃b f,X9 a [.str "equal",.ref b,f]∧SqT K H b ((ptF d B).map V.int):=by obtain⟨b,j,k,e,c,i,g⟩:=h;exact⟨QQ e (by rfl) (Je6 (mX c) (Has.tup' i g)),by simp only[eqD,nol,bz,jC,cR,Bool.and_self],b,_,e,c⟩
def sQ:Xn (QW "fails" "line") ["self"] xx:=fsc
section
variable {P:Program} {w:World} {K:W.Frag} {mg:Str→Option Value} {base:Heap} {C CP f fL fK fP:Addr} {fd dL dK' dP':FuncData}
def C7 (F:X4 "grow" "Hunt.grow" xx)(T:JiS C)(TB:JkK K)(mL:JgS "look_at" fL)(BL:JcA 2 fL dL "part" (sG K C))(bL:JiB dL "part")
  (mP:JgS "put" fP)(BP:JcA 2 fP dP' "line" (oT K C))(bP:JiB dP' "line")(BK:Jie 6 "clash" fK dK' (VY "held") (rO K CP)):Jdo 7 ["self"] (mn K C CP):=by
 refine F.ok sQ (λvs H Q E h=>?_) (λcdv Ar outer s H vs Q E hr h=>?_)
 ·obtain⟨A,F',O,J,ptl,pal,prl,q,S,R,n,B,Tm,As,Rs,rfl,_⟩:=h;rfl
 obtain⟨A,F',O,J,ptl,pal,prl,q,S,R,n,B,Tm,As,Rs,rfl,U,L,PP,qN,qF⟩:=h;have hr2:=QP (j:=2);refine VP (Jeq (Ja9 (ax iV (Vl 0) (Jgn 0)) (QO (i:=1) sQ.nd (Jbs 0 mL BL hr2 bL (Xf (Jck (ar aA (ar a_ (Vl 0) (Vl 0)) ae)))) (x_ (pv 0) ae in_add) (ak (ah (JaS mz 1 eL) (Jbm 1)
     aZ)))) (Xm (i:=2) sQ.nd (Jlt BK.ok hr BK.m BK.kp BK.b (Xv (Vl 0) (Js (N':=["step"]) (ix:=[]) rfl rfl rfl (λ_=>⟨[],XV (by decide +kernel)⟩) rfl rfl (λj i h=>by simp at h) (cC (Vl 0)) (λ_ _ _ _=>(Jin (r:=du K) 0)))))) (iu (JaS pd 2 eL) eL (JeW 0 mP BP hr2 bP 2)));try dsimp only [Cx.nox,Cx.wish,ag]
 have n40:=L.n40;refine Qk (λk σ H'=>Ex4 λ v1 G O' R'=>An5 (σ=[Ja A.h,v1,none]) (k=n - G.lk) (eW S G) (cO n B (JeG Tm) G) (Hu K C F' O' H' A J q G G.hs R')) ⟨_,none,S,O,R,rfl,rfl,eW.refl S,L.m,U⟩;rintro k σ H1 ⟨v1,o,O1,R1,rfl,ek,Z,M1,v⟩;have zl:=Hu.zlen v;have tln:=M1.b.tlen;refine⟨_,rfl,A.h,C,A.dx,_,_,rfl,v.ins,T.cl,T.n_looked,sj,_,rfl,A.h,C,A.dx,_,_,rfl,v.ins,T.cl,T.n_trail,gS,A.tr,_,rfl,Qg (v.at' 3 rfl rfl),_,_,rfl,rfl,_,rfl,aQ (λc=>?_) (λc=>?_)⟩
 ·have c1:=oDq c;have X:o.lk < o.ts.length:=by lia
  have ht:=gG X;generalize o.ts[o.lk]=t0 at ht;have hx:=gG (l:=R1.zs) (i:=o.lk) (by lia);obtain⟨t1,p,W,ex,hp⟩:=gK v.u.tr hx;rw[ht]at W;injection W with W;subst W;have at1:atI R1.zs (o.lk:Int)=some (.ref p):=by rw[←ex];exact aJ hx
  have LK:=M1.look (by lia) ht;have LKI:=LkI.all M1 (by lia) (by rw[Int.neg_neg];exact fu ht) _ (nRq _);have gl:∀c,((f_ o (-t0.1)).1.wg c).length≤o.rs.length:=λc=>by have:=WOk.glen LKI.w c;rw[LKI.rs,List.drop_length,List.append_nil]at this;exact this
  refine⟨λσ' H'=>∃m',m' < k∧Ex4 λ v1 G O' R'=>An5 (σ'=[Ja A.h,v1,none]) (m'=n - G.lk) (eW S G) (cO n B (JeG Tm) G) (Hu K C F' O' H' A J q G G.hs R'),λ_ _ z=>z,?_⟩;refine⟨_,rfl,A.h,A.dx,_,rfl,v.ins,rfl,_,rfl,A.h,C,A.dx,_,_,rfl,v.ins,T.cl,T.n_trail,gS,_,rfl,A.h,C,A.dx,_,_,rfl,v.ins,T.cl,T.n_looked,sj,A.tr,_,_,_,rfl,rfl,SqL.of (v.at' 3 rfl rfl),at1,p,_,_,_,rfl,rfl,hp,rfl,_,rfl,A,F',O1,J,q,o,R1,-t0.1,n,B,_,rfl,v,⟨M1,n40,by rw[Z.rs];have:=L.rl;lia,t0,ht,rfl⟩,λH2 O2 R2 U2=>?_⟩;have lkE:(f_ o (-t0.1)).1.lk=o.lk:=LKI.eq.2.1;have U3:=U2.setLk (o.lk+1);have rsE:=LK.1.rs;generalize hlr:f_ o (-t0.1)=lr at *;obtain⟨S2,fl⟩:=lr;refine Jll _ A.h C A.dx _ _ rfl U2.ins T.cl T.n_looked sj _ _ rfl rfl _ _ U2.ins (by show Jfi 12;decide) ?_;have eI:(upd H2 A.h (JdF (cw "looked" (.int ((S2.lk:Int)+1)) (cI A J q S2.lk))))=upd H2 A.h (JdF (cI A J q (o.lk+1))):=by rw[lkE];rfl
  rw[eI];generalize upd H2 A.h (JdF (cI A J q (o.lk+1)))=H3 at U3;have EX:eW S { S2 with lk:=o.lk+1 }:=Z.trans ⟨LK.1.rs,LK.1.pp,LK.1.ts⟩;cases fl with
  | none =>
   refine Jgf _ _ (Ja_ (λc=>absurd c (show ¬Qu (!decide (V.non=V.non)) by decide)));refine⟨_,?_,_,_,_,_,rfl,rfl,EX,LK.2.1 rfl,U3⟩;lia
  | some g =>
   refine Jgf _ _ (VQ (λc=>Jb_ c));refine V2 (qF _ _ _ { S2 with lk:=o.lk+1 } g ⟨EX.wgt n,by rw[EX.pp];lia,LK.2.2 g rfl,λc=>?_⟩ U3);show(S2.wg c).length≤S2.rs.length;rw[rsE];exact gl c
 ·have X:o.lk=o.ts.length:=by have:=M1.lk;lia
  have htr:=v.at' 3 rfl rfl;refine⟨_,rfl,A.h,C,A.dx,_,_,rfl,v.ins,T.cl,T.n_problem,CH,_,rfl,A.h,C,A.dx,_,_,rfl,v.ins,T.cl,T.n_trail,gS,A.tr,rfl,QI _ htr,λD hD=>JhJ cH (λi us H'=>Xj H1∧us=(o.hs.take i).map V.int) (λi us H' ⟨s2,_⟩=>SqL.of (s2 _ _ htr)) hD ?_ ?_⟩
  ·rintro i us H2 x H3 hi hly Y ⟨s2,rfl⟩ ⟨rfl,hx⟩;obtain⟨t,p,ht,rfl,hp⟩:=gK v.u.tr (JcY _ (s2 _ _ htr));have hH:o.hs[i]?=some t.1:=by show(o.ts.map Prod.fst)[i]?=_;rw[List.getElem?_map,ht];rfl
   refine Jef _ p _ _ _ rfl (s2.tup hp) rfl (Ja0 (bsz _ (by rw[zl];lia)) hi hly Y (s2.upd hD));rw[bb hH,mAq];rfl
  ·rintro us H2 Y ⟨s2,rfl⟩;have e:o.hs.take R1.zs.length=o.hs:=tO (by rw[lM,zl];exact nRq _);rw[e]at Y;have U2:=v.same s2;have h64:o.hs.length < 64:=by rw[lM];lia
   have I:=M1.b.tok;have hn:o.hs.Nodup:=by rw[List.Nodup,List.pairwise_map];exact(List.pairwise_map.mp I.negs).imp λh z=>h (by rw[z])
   refine⟨J,ptl,pal,prl,D,Tm,As,Rs,o.hs,rfl,PP.same U2.t.f,Qg Y,h64,L.t60,λLs ms RL GL CL pm so=>⟨λe H3 s3=>?_,λd r x y M H3 a e hd _ N ms2 s3 la=>?_⟩⟩
   ·exact Jgf _ _ (aQ (λ_=>qN _ _ _ o ⟨Z,M1,X,wX GL CL pm e⟩ (U2.same s3)) (λc=>Jke (by decide)))
   ·have U3:=U2.same s3;have hdm:d∈ms.filter (Jju Ls):=by rw[e];exact List.mem_cons_self
    have d0:=lW hd;have dn:-d∈o.hs:=by obtain⟨k,hk,ek⟩:=List.mem_map.mp (pm.mem_iff.mp (List.mem_filter.mp hdm).1);rw[←ek,Int.neg_neg];exact(List.mem_filter.mp hk).1
    have er:=Cp RL N hd;have nd:=Cr RL N.inn ms2 hn (show 0 < d by lia);have fl:=Cq RL N.inn dn;obtain⟨l1,l2,pa,x2,l3,l4⟩:=C6 la;generalize eqD (ptF d ((JaC Ls).map (JbB o.hs))) ((JaC Ls).map (JbB o.hs))=ld at l1 l2;generalize ptF d ((JaC Ls).map (JbB o.hs))=ps at er nd fl l4;have gl:=λc=>WOk.glen M1.w c;have tr60:∀u∈o.ts,-60≤u.1∧u.1≤60:=λu hu=>by obtain⟨i,hi⟩:=List.getElem?_of_mem hu;exact(I i u hi).2.1
    refine Jgf _ _ (Ja_ (λc=>Jv c));refine⟨_,rfl,A.h,A.dx,_,rfl,U3.ins,rfl,_,rfl,A,F',O1,J,q,o,R1,a,pa,ld,ps,rfl,U3,⟨l1,l2,Jlc _ l3,l4,by rw[Z.pp];have:=L.pl;lia,by rw[Z.rs];have:=L.rl;lia,by lia,tr60,I.negs,λc=>by have:=gl c;rw[Z.rs]at this;have:=L.rl;lia⟩,by rw[Z.pp];exact L.pm,λH4 O4 R4 U4=>?_⟩;refine qF _ _ _ (o.put ld ps (iQ o.ts ps)) _ ⟨Z.wgt n,?_,M1.clash X ld er nd fl,λc=>?_⟩ U4
    ·show(o.pp++[ld]).length≤_;rw[lAq,Z.pp];exact nRq _
    ·have h1:=C5 (r:=(o.rs.length:Int)) (wg:=o.wg) ((List.pairwise_reverse.mpr (I.negs.imp Ne.symm)).filter λp=>decide (p∈ps)) c;have h2:=gl c;show _≤(o.rs++[ps]).length;rw[lAq];exact Nat.le_trans h1 (Nat.succ_le_succ h2)
end
abbrev xy:Stmt:=vY
structure SpB (n)(B)(T:List K54.Tm)(most:Int)(S):Prop where
 b:cP n B 0 S
 hB:∀r∈B,r.Nodup∧∀p∈r,p≠0∧Jfp n
 n40:n≤40
 bl:B.length≤1000
 t60:JjO 60
 m1:1≤most
structure RsB (n)(B)(T)(As)(S'):Prop where
 m:cO n B (JeG T) S'
 l:S'.lk=S'.ts.length
 nc:∀r,JkJ T r→∃p∈r,-p∉S'.hs
 p:S'.pp=[]
structure CfB (n)(B)(T)(As)(S')(f):Prop where
 c:eG n B (JeG T) S' f
 g:∀c,(S'.wg c).length≤S'.rs.length
 p:S'.pp.length≤1
inductive sR (K)(C CP):Sp|m{vs H Q E9} (A) (F O) (pr tl al rl) (most) (S) (R) (n) (B) (T) (As) (Rs):vs=Vt A.h→Jf1 F O H A S R→SpB n B T most S→JgN CP F pr T→(∀H' O' R' S',RsB n B T As S'→J6 F O' H' A S' S'.hs R'→Jb7 H')→(∀H' O' R' S' f,CfB n B T As S' f→J6 F O' H' A S' S'.hs R'→JjX f)→sR K C CP vs H Q E9
def sS:Xn (QW "number" "row") ["self"] xy:=fsc
section
variable {P:Program} {w:World} {K:W.Frag} {mg:Str→Option Value} {base:Heap} {C CP f fW fH fG:Addr} {fd dW dH dG:FuncData}
def cP.glen (h:cP n B i S)(c):(S.wg c).length≤B.length:=by have:=WOk.glen h.w c;have this:=this;rw[List.length_take]at this;lia
def C8 (F:X4 "begin" "Hunt.begin" xy)(T:JiS C)(TB:JkK K)(mW:JgS "watch" fW)(BW:JE 1 fW dW ["self","number","one","other"] (oS K C))(bW:JiA dW ["self","number","one","other"])
  (mH:Ji4 fH)(BH:JE 1 fH dH (Jbc "why") (jr K C))(bH:JiA dH (Jbc "why"))
  (mG:JgS "grow" fG)(BG:JE 7 fG dG ["self"] (mn K C CP))(bG:JiA dG ["self"]):Jdo 8 ["self"] (sR K C CP):=by
 refine F.ok sS (λvs H Q E h=>?_) (λcdv Ar outer s H vs Q E hr h=>?_)
 ·obtain⟨A,F',O,pr,ptl,pal,prl,v,S,R,n,B,Tm,As,Rs,rfl,_⟩:=h;rfl
 obtain⟨A,F',O,pr,ptl,pal,prl,v,S,R,n,B,Tm,As,Rs,rfl,U,L,PP,qN,qF⟩:=h;have hu:=dv hr;have hr1:=QP (j:=1);refine VP (Jg2 (JZ (m_ rfl TB.enumerate (V0 0)) (kj rfl (JhE (i:=1) sS.nd (JhE (i:=2) sS.nd ki))) (ak (ah (Jk0 (Jff (Vi 2))) (JbD 0 mW BW hr1 bW (Va 1 (Ji5 2 2))) (ak (ah (Ji2 (Jfg (Jff (Vi 2))) (eM (kH hu (Jck (QA 2)) (Vl 0)))) (Jbm 1) (ak (ah (Jiv hu (QA 2) (Vl 0)) (JbD 0 mH BH hr1 bH (Jfx (QA 2) 1))
         aZ))))))) (kq (pv 0) T.cl mG BG hr bG .nil ay));try dsimp only [Cx.nox,Cx.wish,ag]
 have n40:=L.n40;have bl:=L.bl;have kn0:∀ {Fx Ox Hx:Hp} {Sx:HS} {hx:List Int} {Rx:HC},Hu K C Fx Ox Hx A pr v Sx hx Rx→Rx.xs=R.xs→Hx A.kn=some (.lst R.xs):=λUx e=>e ▸ Ux.at' 1 rfl rfl;refine⟨_,rfl,A.h,C,A.dx,_,_,rfl,U.ins,T.cl,T.n_known,iP,A.kn,rfl,QI _ (Jca 1),Jh2 (mZ) (λi σ H'=>Ex5 λ v1 v2 S' O' R'=>An4 (σ=[Ja A.h,v1,v2]) (R'.xs=R.xs) (cP n B i S') (Hu K C F' O' H' A pr v S' S'.hs R')) (λi σ H' h=>by obtain⟨_,_,_,_,_,_,e,_,Ux⟩:=h;exact SqL.of (kn0 Ux e)) (JjJ none none S O R rfl L.b U)⟩
 ·rintro i σ H2 x H3 hi ⟨v1,v2,I,O1,R1,rfl,Y,D,U1⟩ ⟨t,y,rfl,ht,rfl,hy⟩;obtain⟨o,q,d,rfl,hq⟩:=zb U1.u.kn (Y ▸ hy _ (SqL.of (kn0 U1 Y)));rw[D.rs]at d;have G:=L.hB o (mO d);obtain⟨H3,eN,s3,n3⟩:=Ja3 ht (Jde i q);rw[eN];have N:=U1.same s3;have k:=s3.tup hq;have iB:i < B.length:=(gEq d).1;have kI:cU (i:Int):=by unfold cU;lia
  have X:∀p∈o,cU p:=λp hp=>by have:=(G.2 p hp).2;unfold cU;lia
  have gl:∀c,(I.wg c).length≤199000:=λc=>by have:=cP.glen D c;lia
  refine⟨t,_,rfl,SqT.of n3,rfl,_,_,rfl,_,_,rfl,rfl,?_⟩;refine JkY _ q _ (.inr k) _ _ _ rfl (aQ (λc=>?_) (λc=>?_))
  ·have M:=oDq c;rw[lM]at M
   match o,M,k,G,X,d with
   | a :: b :: J,_,k,G,X,d =>
    have a0:atI ((a :: b :: J).map V.int) 0=some (.int a):=aJ rfl;have a1:atI ((a :: b :: J).map V.int) 1=some (.int b):=aJ rfl;refine⟨_,rfl,A.h,A.dx,_,rfl,N.ins,rfl,_,rfl,_,rfl,q,_,_,_,rfl,rfl,k,a0,_,rfl,q,_,_,_,rfl,rfl,k,a1,A,F',O1,pr,v,I,R1,i,a,b,rfl,N,kI,X a (by simp),X b (by simp),gl a,gl b,λH4 O4 R4 U4 e4=>?_⟩;exact JjJ _ _ _ _ _ (e4.trans Y) (D.add d G.1 (by simp) (λx e=>by injection e with _ e;cases e) rfl) U4
   | [a],M,_,_,_,_=>exact Jv M
   | [],M,_,_,_,_=>exact absurd M (by simp)
  ·have M:¬(1:Int) < (((o.map V.int).length:Nat):Int):=λz=>JfN z;rw[lM]at M;have rl:((o.map V.int).length:Nat)=o.length:=lM _;have W:(∀p∈o,-p∈I.hs)→Q (.int (i:Int)) H3:=λhf=>qF _ _ _ I _ ⟨D.fail L.hB d hf,λc=>by rw[D.rs];exact cP.glen D c,by rw[D.pp];exact Nat.zero_le _⟩ N;refine⟨_,rfl,q,_,rfl,.inr k,rfl,_,rfl,aQ (λc2=>?_) (λc2=>?_)⟩
   ·have c3:=oDq c2;injection c3 with c3;rw[rl]at c3;have e0:o=[]:=List.length_eq_zero_iff.mp (by lia);exact V2 (W (by rw[e0];exact λp hp=>nomatch hp))
   ·match o,M,c2,k,G,X,d,W with
    | [],_,c2,_,_,_,_,_=>exact Jb_ c2
    | a :: b :: J,M,_,_,_,_,_,_=>exact absurd (by simp only[List.length_cons];lia) M
    | [a],_,_,k,G,X,d,W =>
     have a0:atI ([a].map V.int) 0=some (.int a):=aJ rfl;have g1:=iJ I.hs a;have g2:=iJ I.hs (-a);refine⟨_,rfl,q,_,_,_,rfl,rfl,k,a0,_,rfl,_,rfl,A.h,C,A.dx,_,_,rfl,N.ins,T.cl,T.n_held,gU,A.hd,_,rfl,N.held (-a),_,rfl,aQ (λc4=>?_) (λc4=>?_)⟩
     ·rw[g2]at c4;have c5:=oDq c4;exact V2 (W (λp hp=>by rw[mSq hp];exact c5))
     ·rw[g2]at c4;have c5:-a∉I.hs:=λz=>c4 (dTq z);refine⟨_,rfl,q,_,_,_,rfl,rfl,k,a0,_,rfl,A.h,C,A.dx,_,_,rfl,N.ins,T.cl,T.n_held,gU,A.hd,_,rfl,N.held a,_,rfl,aQ (λZ=>?_) (λZ=>?_)⟩
      ·rw[g1]at Z;have c7:a∉I.hs:=λz=>by rw[dTq z]at Z;cases Z
       have tl:I.ts.length≤1000:=by have:=D.tok.len;lia
       refine⟨_,rfl,A.h,A.dx,_,rfl,N.ins,rfl,_,rfl,q,_,_,_,rfl,rfl,k,a0,_,rfl,A,F',O1,pr,v,I,R1,a,i,rfl,N,X a (by simp),tl,λH4 O4 R4 U4 e4=>?_⟩;exact JjJ _ _ _ _ _ (e4.2.trans Y) (D.hold (by lia) d (G.2 a (by simp)) c7 c5) U4
      ·rw[g1]at Z;have c7:=Decidable.byContradiction λz=>by rw[dFq z]at Z;exact Z rfl
       exact JjJ _ _ _ _ _ Y (D.add d G.1 (by simp) (λx e=>by injection e with e;exact e ▸ c7) rfl) N
 ·rintro σ H' ⟨v1,v2,I,O1,R1,rfl,Y,D,U1⟩;have xl:R.xs.length=B.length:=by rw[←Y,←U1.u.kn.length,lM,D.rs]
  rw[xl]at D;have M1:=D.mid (E:=JeG Tm) L.hB;refine⟨_,rfl,A.h,A.dx,_,rfl,U1.ins,rfl,A,F',O1,pr,ptl,pal,prl,v,I,R1,n,B,Tm,As,Rs,rfl,U1,⟨M1,n40,by rw[D.rs];lia,by rw[D.pp];exact Nat.zero_le _,by rw[D.pp];exact L.m1,L.t60⟩,PP,λH2 O2 R2 S2 r U2=>?_,λH2 O2 R2 S2 f r U2=>?_⟩
  ·exact qN _ _ _ S2 ⟨r.m,r.l,r.nc,r.e.pp.trans D.pp⟩ U2
  ·exact qF _ _ _ S2 f ⟨r.c,r.g,by have:=r.p;rw[D.pp]at this;exact this⟩ U2
end
end H54
namespace L2
open PySem PySem.Spec PyProof.Rows
set_option maxRecDepth 100000
section
variable {X:Cx}
def C9:JfF X "range" (λxs H Q=>∃i j:Int,xs=JO i j∧∀r,Vn r→Xg r (Xw r (.rng i j))):=by intro a s f H xs us Q I r h;obtain⟨i,j,rfl,q⟩:=h;obtain⟨u,v,rfl,d,c⟩:=r.two;obtain⟨t,rfl⟩:=d;obtain⟨t',rfl⟩:=c;refine call_range_2 ?_;refine J2 _ (I.laid (λb g e=>XX e) (nRq _) ?_) (q _ (VG _));exact⟨_,_,_,Heap.get?_push_size _ rfl⟩
def C_ (D:Qu X.calm):JfF X "list" (λxs H Q=>∃r lo j,xs=Vt r∧Jg r (.rng lo (lo+j))∧0≤j∧j≤100000∧0≤lo∧lo≤100000∧∀l,Vn l→JkM l l (((List.range j.toNat).map λi:Nat=>lo+(i:Int)).map V.int)):=by
 intro k s J H xs us Q I r h;obtain⟨z,lo,j,rfl,C,P,O,l0,l1,q⟩:=h;obtain⟨u,rfl,y⟩:=fy r;cases y;obtain⟨N,M,K,e⟩:=Jdv z C;have E:Builtin.Range.rangeSize lo (lo+j) 1=(j.toNat:Int):=by rw[rangeSize_one];split <;> lia
 refine call_list_range (I.ok.hd D) e (small_one (by lia) (by lia) (by lia) (by lia)) E (by lia) λh' tk acc c A F a=>?_;have G:JfO j.toNat:=by rw[Array.length_toList];exact a.1
 have d:aM (((List.range j.toNat).map λi:Nat=>lo+(i:Int)).map V.int) acc.toList:=by
  have f:∀n L o,L.length=n→(∀i v,L[i]?=some v→∃t,v=JcC (lo+(((o+i:Nat):Nat):Int) * 1))→aM (((List.range' o n).map λi:Nat=>lo+(i:Int)).map V.int) L:=by
   intro n
   induction n with
   | zero =>
    intro L o b _;cases L with
    | nil=>exact .nil
    | cons _ _=>cases b
   | succ n B =>
    intro L o b p
    match L,b with
    | x :: L,b =>
     refine .cons ?_ (B L (o+1) (by simpa using b) λi v e=>?_)
     ·obtain⟨t,e⟩:=p 0 x rfl;exact⟨t,by rw[e];congr 1;lia⟩
     ·obtain⟨t,g⟩:=p (i+1) v e;exact⟨t,by rw[g];congr 1;lia⟩
  have:=f j.toNat acc.toList 0 G λi v e=>by obtain⟨t,g⟩:=a.2 i v (by rw[←Array.getElem?_toList];exact e);exact⟨t,by rw[g,Nat.zero_add]⟩
  rw[List.range_eq_range'];exact this
 refine JkV _ (t':=tk) A _ (show JcP _ h' _ (.lst (((List.range j.toNat).map λi:Nat=>lo+(i:Int)).map V.int)) from⟨?_,acc.toList,c,d,by rw[Array.toArray_toList];exact F⟩) (q _ (VG _));rw[lM,lM,List.length_range,sizeLine_eq];lia
end
end L2
namespace H54
open PySem L2 K54
abbrev xA:Stmt:=vV
noncomputable def hS0 (Rs:JB Int)(n:Nat):HS:=⟨Rs,[],[],0,[],λ_=>none,λ_=>[],upN n,λ_=>none⟩
noncomputable def gb (H:Hp)(x:Addr):Hp:=λb=>if b=x then none else H b
structure Bld (C x dx)(F O H)(as)(os:List HO)(fs):Prop where
 t:Jlk F H
 n:NoT O
 nd:(x :: as).Nodup
 ins:Xa (O x) (JH fs)
 at_:∀(i:Nat) (a) (o),as[i]?=some a→os[i]?=some o→Xa (O a) o
 len:as.length=os.length
def Bld.all {C x dx:Addr}{F O H:Hp}{d:List Addr}{b:List HO}{g:List (Str × V)}(h:Bld C x dx F O H d b g){a:Addr}(f:a∈x :: d):O a≠none:=by
 rcases List.mem_cons.mp f with z | z
 ·rw[z,h.ins];exact λz=>nomatch z
 ·obtain⟨i,c⟩:=List.getElem?_of_mem z;have e:i < b.length:=by rw[←h.len];exact(gEq c).1
  rw[h.at_ i a _ c (gG e)];exact λz=>nomatch z
def Bld.hi {C x dx:Addr}{F O H:Hp}{c:List Addr}{b:List HO}{a:List (Str × V)}(h:Bld C x dx F O H c b a):H x=some (JH a):=h.t.o _ _ h.ins
def Bld.put {C x dx:Addr}{F O H:Hp}{e:List Addr}{c:List HO}{j:List (Str × V)}(h:Bld C x dx F O H e c j)(b):Bld C x dx F (XQ O x b) (Xw x (JH b)) e c b:=by refine⟨h.t.own (by rw[h.ins];exact λz=>nomatch z) _,h.n.upd gu,h.nd,af,λi a o d g=>?_,h.len⟩;have f:a≠x:=λz=>(List.nodup_cons.mp h.nd).1 (z ▸ mO d);rw[ai f];exact h.at_ i a o d g
def Bld.new {C x dx:Addr}{F O H:Hp}{g:List Addr}{k:List HO}{p:List (Str × V)}(h:Bld C x dx F O H g k p){n:Addr}(l:Vn n){o:HO}(no:NTup o):Bld C x dx F (upd O n o) (JiW n) (g++[n]) (k++[o]) p:=by
 have q:=(h.t.none l).1;have j:n∉x :: g:=λz=>h.all z q;have r:x≠n:=λz=>j (z ▸ List.mem_cons_self);refine⟨h.t.newO l o,h.n.upd no,?_,by rw[ai r];exact h.ins,λi a u d f=>?_,by rw[lAq,lAq,h.len];rfl⟩
 ·rw[←List.cons_append];exact List.nodup_append.mpr ⟨h.nd,by simp,λa w b v e=>j (by rw[mSq v]at e;exact e ▸ w)⟩
 ·rcases Nat.lt_or_ge i g.length with c | c
  ·rw[List.getElem?_append_left c]at d;rw[List.getElem?_append_left (by rw[←h.len];exact c)]at f;have s:a≠n:=λz=>j (Xd (z ▸ mO d));rw[ai s];exact h.at_ i a u d f
  ·rw[List.getElem?_append_right c]at d;rw[List.getElem?_append_right (by rw[←h.len];exact c),←h.len]at f;have A:=mSq (mO d);have y:=mSq (mO f);rw[A,y];exact af
def Bld.putE {C x dx:Addr}{F O H:Hp}{c:List Addr}{b:List HO}{a:List (Str × V)}(h:Bld C x dx F O H c b a)(n)(v):∃d H',Xw x (JH (cw n v a))=H'∧Bld C x dx F d H' c b (cw n v a):=XA _ _ (h.put _)
def Bld.newE {C x dx:Addr}{F O H:Hp}{c:List Addr}{a:List HO}{b:List (Str × V)}(h:Bld C x dx F O H c a b){n:Addr}(d:Vn n)(o)(no:NTup o):∃e H',JiW n=H'∧Bld C x dx F e H' (c++[n]) (a++[o]) b:=XA _ _ (h.new d no)
inductive sT (K)(C CP):Sp|m{vs H Q E9} (x dx p tl al rl) (most) (T) (As) (Rs):vs=Jb6 x p most→Jcr x []→Jk6 CP H tl al rl T→Jep 1000→(∀A O R H',A.h=x→Jl K C (gb H x) O H' A p (hS0 Rs As.length) [] R→Jb7 H')→sT K C CP vs H Q E9
def Da:Xn (Jgg "most") (Jgg "most") xA:=fsc
section
variable {P:Program} {w:World} {K:W.Frag} {mg:Str→Option Value} {base:Heap} {aK C CP f:Addr} {fd:FuncData}
def bld0 (h:Jcr x []):Bld C x dx (gb H x) (λb=>if b=x then some (JH []) else none) H [] [] []:=by
 refine⟨⟨λb o e=>?_,λb o e=>?_,λb e=>?_⟩,λb o e=>?_,by simp,if_pos rfl,λi a o h=>(by cases h),rfl⟩
 ·unfold gb at e;split at e
  ·cases e
  ·exact e
 ·lia
 ·unfold gb;lia
 ·split at e
  ·injection e with e;exact e ▸ gu
  ·cases e
def Dc (F:X4 "__init__" "Hunt.__init__" xA)(c:JiS C)(TB:JkK K)(T:Jb4 CP):Jea (Jgg "most") (sT K C CP):=by
 refine F.ok Da (λvs H Q E h=>?_) (λcdv Ar outer s H vs Q E hr h=>?_)
 ·obtain⟨x,dx,p,W,N,A,r,T',As,Rs,rfl,_⟩:=h;rfl
 obtain⟨x,dx,p,W,N,A,r,T',As,Rs,rfl,hx,S,a1000,q⟩:=h;refine VP (Vd (JfD (pv 1)) (JfD (pv 2)) (ad (JfD (Jcy yx rfl TB.list (V0 1))) (Vd (Jj3 ac) (Jj3 ac) (ad (JfD gP) (Vd (JfD ae) (Jj3 ac) (Vd (JfD gP) (JfD gP) (Jh0 (JfD (Jcy (C_ rfl) rfl TB.list (Xf (eQ C9 rfl TB.range PyProof.Rows.Boot.range (Xv ae (Jc8 cD (Jgn 1))))))) (JfD gP))))))));try dsimp only [Cx.nox,Cx.wish,ag]
 have Y:aL H (gb H x):=λb xs h=>by
  have nb:b≠x:=λz=>by rw[z]at h;rcases h with h | ⟨o,h⟩ <;> rw[hx]at h <;> cases h
  unfold Rd gb at *;rw[if_neg nb];exact h
 have B:∀b o,Jlr o→(∀d,o≠Xo d [])→gb H x b=some o:=λb o h n=>by unfold gb;rw[if_neg (λz=>n dx (by lia))];exact h
 have S0:Jk6 CP (gb H x) W N A T':=by obtain⟨⟨d,h1⟩,⟨xs,Z,h3⟩,⟨ys,h4,h5⟩,⟨U,h6,h7⟩,h8,h9,h10⟩:=S;refine⟨⟨d,B _ _ h1 λd' e=>?_⟩,⟨xs,B _ _ Z λ_ e=>(nomatch e),h3.keep Y (ik _)⟩,⟨ys,B _ _ h4 λ_ e=>(nomatch e),h5.keep Y (eJ iL As)⟩,⟨U,B _ _ h6 λ_ e=>(nomatch e),h7.keep Y (eJ iM Rs)⟩,h8,h9,h10⟩;injection e with _ _ e;have:=fb W N A;rw[e]at this;cases this
 have b0:=bld0 hx;generalize gb H x=F0 at *;have pr:∀ {O' H' as os fs},Bld C x dx F0 O' H' as os fs→bD K CP H' p W N A T' As Rs:=λb=>S0.same b.t.f;refine⟨_,rfl,_,rfl,x,C,dx,_,rfl,b0.hi,c.cl,c.n_problem,(by decide),?_⟩;obtain⟨O1,H1,e,b1⟩:=b0.putE "problem" (.ref p);rw[e];refine⟨_,rfl,_,rfl,x,C,dx,_,rfl,b1.hi,c.cl,c.n_most,(by show Jfi 1;decide),?_⟩;obtain⟨O2,H2,e,b2⟩:=b1.putE "most" (.int r);rw[e];obtain⟨⟨d2,g1⟩,_,_,⟨U,g2,g3⟩,_⟩:=pr b2;refine⟨_,rfl,p,CP,d2,_,_,rfl,g1,T.cl,T.nR,lN _ _ _,A,_,rfl,Qg g2,λkn hkn=>?_⟩;obtain⟨O3,H3,e,b3⟩:=b2.newE hkn (.lst U) cA;rw[e];refine Jk9 _ x C dx _ b3.hi c.n_known (by show Jfi 2;decide);obtain⟨O4,H4,e,b4⟩:=b3.putE "known" (.ref kn);rw[e];refine JeR (λpp hpp=>?_);obtain⟨O5,H5,e,b5⟩:=b4.newE hpp (.lst []) cA;rw[e];refine Jk9 _ x C dx _ b5.hi c.n_paper (by show Jfi 3;decide);obtain⟨O6,H6,e,b6⟩:=b5.putE "paper" (.ref pp);rw[e];refine JeR (λtr htr=>?_);obtain⟨O7,H7,e,b7⟩:=b6.newE htr (.lst []) cA;rw[e];refine Jk9 _ x C dx _ b7.hi c.n_trail (by show Jfi 4;decide);obtain⟨O8,H8,e,b8⟩:=b7.putE "trail" (.ref tr);rw[e];refine λhd hhd=>?_;obtain⟨O9,H9,e,b9⟩:=b8.newE hhd (.dK []) di;rw[e];refine Jk9 _ x C dx _ b9.hi c.n_held (by show Jfi 5;decide);obtain⟨O10,H10,e,M⟩:=b9.putE "held" (.ref hd);rw[e];refine Jk9 _ x C dx _ M.hi c.n_looked (by show Jfi 6;decide);obtain⟨O11,H11,e,b11⟩:=M.putE "looked" (.int 0);rw[e];refine JeR (λbg hbg=>?_);obtain⟨O12,H12,e,L⟩:=b11.newE hbg (.lst []) cA;rw[e];refine Jk9 _ x C dx _ L.hi c.n_begins (by show Jfi 7;decide);obtain⟨O13,H13,e,b13⟩:=L.putE "begins" (.ref bg);rw[e];refine λwd hwd=>?_;obtain⟨O14,H14,e,J⟩:=b13.newE hwd (.dK []) di;rw[e];refine Jk9 _ x C dx _ J.hi c.n_watched (by show Jfi 8;decide);obtain⟨O15,H15,e,b15⟩:=J.putE "watched" (.ref wd);rw[e];refine λwg hwg=>?_;obtain⟨O16,H16,e,I⟩:=b15.newE hwg (.dK []) di;rw[e];refine Jk9 _ x C dx _ I.hi c.n_watching (by show Jfi 9;decide);obtain⟨O,l,e,g⟩:=I.putE "watching" (.ref wg);rw[e];obtain⟨⟨d3,g4⟩,_,⟨ys,g5,g6⟩,_⟩:=pr g;have yl:Jfl As.length:=by rw[←g6.length,lM]
 refine⟨_,rfl,p,CP,d3,_,_,rfl,g4,T.cl,T.nA,fc _ _ _,N,_,rfl,Qg g5,_,_,rfl,rfl,1,_,rfl,λX hrg=>?_⟩;have s1:ao l (upd l X (.rng 1 (((ys.length:Nat):Int)+1))):=QL hrg;refine⟨X,1,(ys.length:Int),rfl,by rw[af,Int.add_comm],by lia,by lia,by decide,by decide,λod D=>?_⟩;have u:Bld C x dx F0 O (upd l X (.rng 1 ((ys.length:Int)+1))) _ _ _:=⟨⟨g.t.f.trans s1,g.t.o.trans s1,g.t.d⟩,g.n,g.nd,g.ins,g.at_,g.len⟩;generalize upd l X (.rng 1 ((ys.length:Int)+1))=R at u D;have eO:(List.range (ys.length:Int).toNat).map (λi:Nat=>(1:Int)+(i:Int))=upN As.length:=by rw[Int.toNat_natCast,yl];exact List.map_congr_left λi _=>Int.add_comm _ _
 rw[eO];have k:=u.new (o:=.lst ((upN As.length).map V.int)) D cA;generalize Qa R od ((upN As.length).map V.int)=H18 at k;generalize Qa O od ((upN As.length).map V.int)=O18 at k;refine Jk9 _ x C dx _ k.hi c.n_order (by show Jfi 10;decide);obtain⟨O19,H19,e,b19⟩:=k.putE "order" (.ref od);rw[e];refine λlt hlt=>?_;obtain⟨O20,H20,e,G⟩:=b19.newE hlt (.dK []) di;rw[e];refine Jk9 _ x C dx _ G.hi c.n_lately (by show Jfi 11;decide);obtain⟨O21,H21,e,j⟩:=G.putE "lately" (.ref lt);rw[e];refine q ⟨x,dx,kn,pp,tr,hd,bg,wd,wg,od,lt⟩ _ ⟨U,[],[],[],[],λ_=>none,[],λ_=>none,[]⟩ _ rfl ⟨j.n,j.t,?_,?_,?_,aj.nil,rfl,aj.nil,DI.nil,DI.nil,λ_=>.no,DI.nil,λ_=>.no rfl,DI.nil⟩
 ·exact j.nd
 ·intro i a o h1 Z;cases i with
  | zero =>
   cases h1;cases Z;exact j.ins
  | succ i=>exact j.at_ i a o h1 Z
 ·obtain⟨_,_,_,⟨w0,k0,_⟩,_⟩:=S0;obtain⟨_,_,_,⟨w1,k1,k2⟩,_⟩:=pr j;have y:=b2.t.f _ _ k0;have v:=j.t.f _ _ k0;rw[g2]at y;rw[k1]at v;injection y with y;injection y with y;injection v with v;injection v with v;rw[v,←y]at k2;exact k2
end
def Dd (h:p∈hs)(h0:p≠0)(a:Jfp n)(no:p < 0→-p∉hs):p∈dY n hs:=by
 rcases Int.lt_or_gt_of_ne h0 with c | c
 ·exact List.mem_map.mpr ⟨-p,mi.mpr (by lia),by rw[if_neg (no c),Int.neg_neg]⟩
 ·exact Xk p (mi.mpr (by lia)) (by rw[if_pos h])
structure FD (K)(x)(st)(f td)(fd)(tk):Prop where
 a:Jg0 (JeE K x) f
 ex:∃(oc:Value) (od:Option Addr) (kV doc pm:Value) (an:Option Addr) (cdv ct:Value) (osl:Jli Value),
  fd=JhC x x st (cG st) (ap st) (.ref td) kV doc pm an cdv ct∧J8 f (JhS oc od fd osl)∧Jjr K cdv x
 k:JgL K f
 t:∃(od:Option Addr) (n:Nat) (sl:Jli Value),J8 td ⟨.type "tuple",od,.seq #[JeH tk] n,sl⟩
def fd_in {K:W.Frag}{x:Str}{st:Stmt}{f g:Addr}{p kV b h cdv i:Value}{od j e:Option Addr}{d o:Array (Option Value)}{tk:Tok}{n:Nat}(a:Jg0 (JeE K x) f)(l:J8 f (JhS p od (JhC x x st (cG st) (ap st) (.ref g) kV b h j cdv i) d))(c:Jjr K cdv x)(k:JgL K f)
  (t:J8 g ⟨.type "tuple",e,.seq #[JeH tk] n,o⟩):FD K x st f g (JhC x x st (cG st) (ap st) (.ref g) kV b h j cdv i) tk:=⟨a,⟨p,od,kV,b,h,j,cdv,i,d,rfl,l,c⟩,k,e,n,o,t⟩
def FD.okX {P:Program}{w:World}{K:W.Frag}{mg:Str→Option Value}{base:Heap}{x:Str}{st:Stmt}{f g:Addr}{e:FuncData}{tk:Tok}{N ps:List Str}{k:Nat}{sp:Sp}(F:FD K x st f g e tk)(S:Xn N ps st)(b:∀vs H Q E,sp vs H Q E→Jej vs.length)
  (a:∀cdv A outer s H vs Q E,JiU k x st f cdv→sp vs H Q E →
   ∃t,Jlf (Jfk CX0 P w K mg N x (ap st) f cdv A s H E).nox (cG st)∧t { nx:=λ_ H'=>Q .non H',rt:=Q } (hE N vs) H):JE (k+1) f e ps sp:=by obtain⟨p,od,kV,n,o,u,cdv,r,i,rfl,j,d⟩:=F.ex;refine fn_of j d S b λA outer s H vs Q E l c=>?_;obtain⟨t,h,q⟩:=a cdv A outer s H vs Q E l c;exact⟨t,h.nox,q⟩
def bind1 (F:FD K x st f td fd tk)
  (h:∀kV c d i cdv g a,∃k:Option (Array Value)→Sem (List (Str × Value)),JhM (JhC x x st (cG st) (ap st) (.ref td) kV c d i cdv g) [a]=seqItems? (.ref td) >>= k∧JjH (k (some #[JeH tk])) [(p,a),(q,JeH tk)]):au K fd [p,q] [JeH tk]:=by
 obtain⟨z,od,kV,c,d,i,cdv,g,l,e,A,u⟩:=F.ex;obtain⟨o,n,y,r⟩:=F.t;intro s us X j;rcases us with _ | ⟨a,_ | ⟨b,us⟩⟩
 ·simp at j
 ·obtain⟨k,w,v⟩:=h kV c d i cdv g a;subst e;exact BindsTo.of_defaults rfl (X _ _ r) rfl w v
 ·simp at j
structure sU (n)(B:JB Int):Prop where
 row:∀r∈B,r.Nodup∧∀p∈r,p≠0∧Jfp n
 n40:n≤40
 bl:B.length≤1000
structure SrQ (H)(n)(T)(As)(Rs:JB Int)(Q:VK):Prop where
 yes:∀H' t x hs,Xj H→J1 t (JgX "yes" x)→(∀r∈Rs,∃p∈r,p∈dY n hs)→(∀r,JkJ T r→∃p∈r,-p∉dY n hs)→Jbq t
 no:∀H' t x,Xj H→J1 t (JgX "no" x)→(∀v,SatE (JeG T) v→¬ie v Rs)→Jbq t
inductive oW (K)(CP):Sp|m{vs H Q E9} (p tl al rl) (T) (As) (Rs) (most):vs=JbQ p most→Jg6 CP H T→JjO 60→sU As.length Rs→(2:Int) ^ (As.length+2)≤most→most≤100000→SrQ H As.length T As Rs Q→oW K CP vs H Q E9
def oX:Xn ["problem","most","hunt","fails"] (VY "most") jR:=fsc
section
variable {P:Program} {w:World} {K:W.Frag} {mg:Str→Option Value} {base:Heap} {C CP f fI fB fN fC fG fP:Addr} {fd dI dB dN dC dG dP':FuncData}
structure HG (P)(w)(K)(mg)(base)(C CP fI fB fN fC fG fP)(dI dB dN dC dG dP'):Prop where
 mI:Mk K C fI
 I:JE 1 fI dI (Jgg "most") (sT K C CP)
 bI:JiA dI (Jgg "most")
 gI:mg "Hunt"=Ja C
 mB:JgS "begin" fB
 B:JE 8 fB dB ["self"] (sR K C CP)
 bB:JiA dB ["self"]
 mN:JgS "learn" fN
 N:JcA 4 fN dN "fails" (sP K C)
 bN:JiB dN "fails"
 mC:JgS "choose" fC
 C':JE 2 fC dC ["self"] (sM K C)
 bC:JiA dC ["self"]
 mG:JgS "grow" fG
 G:JE 7 fG dG ["self"] (mn K C CP)
 bG:JiA dG ["self"]
 mP:JgS "held_parts" fP
 P':JE 1 fP dP' ["self"] (sO K C)
 bP:JiA dP' ["self"]
def xB:∀ts:List (Int × Int),cnt ts≤(ts.length:Int)
 | []=>Int.le_refl _
 | t :: ts=>by have:=xB ts;show cN t+cnt ts≤(ts.length+1:Int);unfold cN;split <;> lia
inductive HSt (n)(B)(T)(As)(S):V→Prop
 | rest:cO n B (JeG T) S→Je1 S.lk→(∀r,JkJ T r→∃p∈r,-p∉S.hs)→S.pp.length≤2 * Jeg S.ts→HSt n B T As S .non
 | odds {f:Int}:eG n B (JeG T) S f→(∀c,(S.wg c).length≤S.rs.length)→S.pp.length≤2 * Jeg S.ts+1→HSt n B T As S (.int f)
def HSt.b (h:HSt n B T As S v):HB n B (JeG T) S∧S.pp.length≤2 * Jeg S.ts+1:=by
 cases h with
 | rest h _ _ p=>exact⟨h.b,by lia⟩
 | odds h _ p=>exact⟨h.b,p⟩
inductive SI (K)(C)(H)(p x)(most)(n)(Rs)(Ts)(As)(m)(σ)(H'):Prop | m (v) (A') (S') (O') (R'):σ=[Ja p,Jb most,Ja x,some v]→m=2 ^ (n+1) - Jeg S'.ts→A'.h=x→HSt n Rs Ts As S' v→Jl K C H O' H' A' p S' S'.hs R'→SI K C H p x most n Rs Ts As m σ H'
def Df (T:JiS C)(G:HG P w K mg base C CP fI fB fN fC fG fP dI dB dN dC dG dP'){cdv:Value}{Ar:Around}{outer:List Env}{s:Shared}{H0:Hp}{E:XK}(hr:aX 8 (Ar.deeper (JiT "search" jR f cdv))) :
  ∃z,PSs (Jfk CX0 P w K mg ["problem","most","hunt","fails"] "search" (ap jR) f cdv Ar s H0 E).nox ((cG jR).drop 2) z ∧
   ∀H Q p x tl al rl Ts As Rs d n A H2 v,As.length=n→Jg6 CP H Ts→Ts.length≤60→sU n Rs→(2:Int) ^ (n+2)≤d→d≤100000→SrQ H n Ts As Rs Q→A.h=x→(∃U O2 R2,HSt n Rs Ts As U v∧Hu K C H O2 H2 A p d U U.hs R2) →
    z { nx:=λ_ H'=>Q .non H',rt:=Q } [Ja p,Jb d,Ja x,some v] H2:=by
 have hr1:=QP (j:=1);have hr2:=QP (j:=2);have hr4:=QP (j:=4);have hr7:=QP (j:=7);refine VP (ak (Ja9 (gD dk) (Jh0 (ah (JaS mz 3 eL) (ak (ah (ju (gD (JeW 2 G.mN G.N hr4 G.bN 3))) (Qj (cu (Xv bZ (Vl 2))))
       aZ)) (ak (ah (ju (gD (kq (pv 2) T.cl G.mC G.C' hr2 G.bC .nil ay))) (Qj (cu (Xv bZ (kq (pv 2) T.cl G.mP G.P' hr1 G.bP .nil ay))))
       aZ))) (Xm (i:=3) oX.nd (kq (pv 2) T.cl G.mG G.G hr7 G.bG .nil ay)))));try dsimp only [Cx.nox,Cx.wish,ag]
 rintro H Q p x tl al rl' Ts As Rs d n A H2 v hn PP t60 ro m1 m2 q B ⟨U,O2,R2,h2,U2⟩;have R:=ro.n40;refine Qk (SI K C H p x d n Rs Ts As) ⟨_,v,A,U,O2,R2,rfl,rfl,B,h2,U2⟩
 rintro m σ H1 ⟨v,A,k,O1,R1,rfl,em,B,st,U1⟩;have wl:Jeg k.ts+2≤2 ^ (n+1):=by have:=kT n k.ts 0 (by have:=st.b.1.tlen;lia);rw[Nat.sub_zero]at this;exact this
 have pm:(k.pp.length:Int) < d∧k.pp.length≤100000:=by have:=st.b.2;lia
 have rl:k.rs.length≤101000:=by have:=st.b.1.len;have:=ro.bl;lia
 have i1:=U1.ins;rw[B]at i1;refine V2 (VQ (λc=>JbT c));refine⟨λO H'=>∃J,J < m∧SI K C H p x d n Rs Ts As J O H',λ_ _ z=>z,?_⟩;have gr:∀ {u X:Hp} {W:HC} {L:HA} {o:HS} {v3:V},L.h=x→cO n Rs (JeG Ts) o→Jeg k.ts < Jeg o.ts→o.pp.length≤2 * Jeg o.ts→Hu K C H X u L p d o o.hs W →
   (tAsg (pj C "grow" (mn K C CP) [] E0 (tVar 2) iX) (gZ 3)) { nx:=λO H'=>∃J,J < m∧SI K C H p x d n Rs Ts As J O H',rt:=Q,bk:=λ_ _=>False,ct:=λ_ _=>False } [Ja p,Jb d,Ja x,some v3] u:=by
  intro u X W L o v3 S M3 Z pw3 F;have i3:=F.ins;rw[S]at i3;have wl3:Jeg o.ts+2≤2 ^ (n+1):=by have:=kT n o.ts 0 (by have:=M3.b.tlen;lia);rw[Nat.sub_zero]at this;exact this
  have pm3:(o.pp.length:Int) < d∧o.pp.length≤100000:=by lia
  have rl3:o.rs.length≤197000:=by have:=M3.b.len;have:=ro.bl;lia
  have fin:∀H4 O4 R4 I v4,Jeg o.ts≤Jeg I.ts→HSt n Rs Ts As I v4→Hu K C H O4 H4 L p d I I.hs R4→∃J,J < m∧SI K C H p x d n Rs Ts As J [some (V.ref p),Jb d,Ja x,some v4] H4:=by intro H4 O4 R4 I v4 w4 st4 U4;have wl5:=kT n I.ts 0 (by have:=st4.b.1.tlen;lia);rw[Nat.sub_zero]at wl5;exact⟨_,by lia,v4,L,I,O4,R4,rfl,rfl,S,st4,U4⟩
  exact⟨_,rfl,x,L.dx,_,rfl,i3,rfl,L,H,X,p,tl,al,rl',d,o,W,n,Rs,Ts,As,Rs,by rw[S];rfl,F,⟨M3,R,rl3,by lia,pm3.1,t60⟩,PP,λH4 O4 R4 I r U4=>fin _ _ _ _ _ (r.e.wgt n) (.rest r.m r.l r.nc (by rw[r.e.pp];have:=r.e.wgt n;lia)) U4,λH4 O4 R4 I g r U4=>fin _ _ _ _ _ r.w (.odds r.c r.g (by have:=r.p;have:=r.w;lia)) U4⟩
 cases st with
 | odds Cf gl pw =>
  rename_i fl;have sp:SpLn n Rs (JeG Ts) k fl:=⟨Cf,R,by lia,by lia,λc=>by have:=gl c;lia⟩;refine Jgf _ _ (VQ (λc=>Jb_ c));refine⟨_,rfl,x,A.dx,_,rfl,i1,rfl,_,rfl,A,H,O1,p,d,k,R1,fl,n,Rs,_,by rw[B];rfl,U1,sp,pm.1,λhp u X W F=>?_,λL u X W o e3 r3 F=>?_⟩
  ·refine V2 (VQ (λc=>Jb_ c));have i3:=F.ins;rw[B]at i3;refine⟨_,rfl,x,C,A.dx,_,_,rfl,i3,T.cl,T.n_paper,si,lS2,λt ht=>?_⟩;have s3:Jcm u u t (JgY "no" A.pp):=QL ht;exact q.no _ t _ (F.t.f.trans s3) af λv ve=>Cf.no hp v ve
  ·refine V2 (Ja_ (λc=>Jap c));have Z:=r3.wgt;have pp3:o.pp.length≤k.pp.length+1:=by
    rcases r3.to with ⟨e,_⟩ | ⟨e,_⟩
    ·rw[e];lia
    ·rw[e,lAq];exact nRq _
   exact gr (e3.trans B) r3.mid Z (by lia) F
 | rest M hl nc pw =>
  refine Jgf _ _ (Ja_ (λc=>absurd c (show ¬Qu (!decide (V.non=V.non)) by decide)));have tln:=M.b.tlen;have bsl:k.bs.length≤1000:=by have h1:=nJ k.ts;have h2:=xB k.ts;rw[←M.b.bs]at h1;lia
  refine⟨_,rfl,x,A.dx,_,rfl,i1,rfl,A,H,O1,p,d,k,R1,by rw[B];rfl,U1,⟨by lia,bsl,λa D=>by have:=(M.b.od a).mp D;lia,M.b.la⟩,?_⟩;cases hp:oV k with
  | none =>
   refine V2 (VQ (λc=>Jb_ c));refine⟨_,rfl,x,A.dx,_,rfl,i1,rfl,A,H,O1,p,d,k,R1,n,by rw[B];rfl,U1,R,M.b.od,M.b.odn,λu th s3 n3 h3=>⟨lS2,λt ht=>?_⟩⟩;have s4:Jcm u u t (JgY "yes" th):=QL ht;have sH:=U1.t.f.trans s3;have all:∀a∈k.od,a∈k.hs∨-a∈k.hs:=λa D=>by
    have:=List.find?_eq_none.mp hp a D;lia
   refine q.yes _ t _ k.hs (sH.trans s4) af (λr hr'=>?_) λr er=>?_
   ·obtain⟨z,z1,z2⟩:=M.yes hl all r hr';have Y:=(ro.row r hr').2 z z1;exact⟨z,z1,Dd z2 Y.1 Y.2 λ_ y=>M.b.tok.cons z2 y⟩
   ·obtain⟨z,z1,z2⟩:=nc r er;refine⟨z,z1,λY=>z2 ?_⟩;obtain⟨a,D,e⟩:=List.mem_map.mp Y;rw[←e];have D:=(M.b.od a).mpr (mi.mp D);split
    ·assumption
    ·rename_i c;exact(all a D).resolve_left c
  | some a =>
   intro u X W F;refine V2 (Ja_ (λc=>Jap c));have D:=List.mem_of_find?_eq_some hp;have hb:=List.find?_some hp;simp only[Bool.and_eq_true,decide_eq_true_eq]at hb;have Z:=z_ n k.ts ((k.la a).getD (-a),-1);exact gr B (M.pick (by lia) hl D hb.1 hb.2 nc) Z (Nat.le_trans pw (Nat.mul_le_mul_left 2 (Nat.le_of_lt Z))) F
def Dg {td:Addr}{tk:Tok}(F:FD K "search" jR f td fd tk)(T:JiS C)(G:HG P w K mg base C CP fI fB fN fC fG fP dI dB dN dC dG dP'):Jdo 9 (VY "most") (oW K CP):=by
 refine FD.okX F oX (λvs H Q E h=>?_) (λcdv Ar outer s H vs Q E Y h=>?_)
 ·obtain⟨p,t,J,v,Ts,As,Rs,d,rfl,_⟩:=h;rfl
 obtain⟨p,t,J,v,Ts,As,Rs,d,rfl,N,k,u,m1,m2,q⟩:=h;have X:=Y.mono (j:=2) (by decide);obtain⟨z2,h2,q2⟩:=Df (base:=base) T G (cdv:=cdv) (outer:=outer) Y;refine VP (Jco (i:=2) oX.nd (yd G.mI G.I X rfl G.gI G.bI .nil ay (Jcn 0 1)) (ad (Xm (i:=3) oX.nd (kq (pv 2) T.cl G.mB G.B Y G.bB .nil ay))
  h2));try dsimp only [Cx.nox,Cx.wish,ag]
 generalize Z:As.length=n at *;have S:=u.n40;refine JkN _ _ (λx dx hx D nd=>?_);have y:(JkZ x) x=some (JH []):=af;have s1:JhU (gb (JkZ x) x):=λb o e=>by
  have L:b≠x:=λz=>by rw[z,hx]at e;cases e
  have W:b≠dx:=λz=>by rw[z,D]at e;cases e
  unfold gb;rw[if_neg L,ai L,ai W];exact e
 have s2:JhU (JkZ x):=λb o e=>by
  have L:b≠x:=λz=>by rw[z,hx]at e;cases e
  have W:b≠dx:=λz=>by rw[z,D]at e;cases e
  rw[ai L,ai W];exact e
 refine⟨x,dx,p,t,J,v,d,Ts,As,Rs,rfl,y,N.pr.same s2,by lia,λA O R H1 M U=>XE rfl⟩;rw[Z]at U;have U:=U.base s1;have m0:1≤d:=by
  have:1≤2 ^ (n+2):=by exact_mod_cast Nat.one_le_two_pow
  lia
 have sb:cP n Rs 0 (hS0 Rs n):=cP.zero rfl rfl rfl rfl (λa=>mi) ((xw n).imp λ{a b} h e=>by lia) (λ_=>rfl) rfl (λ_=>rfl) λ_=>rfl;have i1:=U.ins;rw[M]at i1;refine⟨_,rfl,x,A.dx,_,rfl,i1,rfl,A,H,O,p,t,J,v,d,hS0 Rs n,R,n,Rs,Ts,As,Rs,by rw[M];rfl,U,⟨sb,u.row,S,u.bl,k,m0⟩,N,λH2 O2 R2 S2 r U2=>?_,λH2 O2 R2 S2 fl r U2=>?_⟩
 ·exact q2 H Q p x t J v Ts As Rs d n A H2 .non Z N k u m1 m2 q M ⟨S2,O2,R2,.rest r.m r.l r.nc (by rw[r.p];exact Nat.zero_le _),U2⟩
 ·exact q2 H Q p x t J v Ts As Rs d n A H2 (.int fl) Z N k u m1 m2 q M ⟨S2,O2,R2,.odds r.c r.g (by have:=r.p;lia),U2⟩
end
structure jt (T)(As)(Rs)(c):Prop where
 r:Qu (jq Rs c)
 n:∀r,JkJ T r→∃p∈r,-p∉c
def sV (hs):∀n,dY n hs∈chF n
 | 0=>List.mem_singleton.mpr rfl
 | n+1=>by
  have e:dY (n+1) hs=dY n hs++[if(n:Int)+1∈hs then(n:Int)+1 else -((n:Int)+1)]:=by unfold dY upN;rw[List.range_succ,mAq,mAq];rfl
  rw[e,chF];split
  ·exact List.mem_append_right _ (Jho _ (sV hs n))
  ·exact Qc (Jho _ (sV hs n))
def xC (h:JaL k q):1≤k∧k≤(As.length:Int):=lW h
def eqr_in (h:JkJ T r):JkJ T (r.filter λp=>decide (-(As.length:Int)≤p∧Jlo p∧p≠0)):=λg C e=>by obtain⟨d,f,b⟩:=h g C λp c x y a=>e p (Jhp c (by have:=xC a;lia)) x y a;obtain⟨x,y,a,_⟩:=rS b;exact⟨d,Jhp f (by have:=xC a;lia),b⟩
def xD (j:ChIn As.length c)(e:∀r∈Rs,∀k∈r,Jb9 k)(g:jt T As Rs c):SatE (JeG T) (λk=>decide (k∈c))∧ie (λk=>decide (k∈c)) Rs:=by
 have a:∀p:Int,p≠0→-(As.length:Int)≤p→Jlo p→-p∉c→Qu (hldP (λk=>decide (k∈c)) p):=λp u t l d=>by
  unfold hldP;split
  ·exact dTq ((j.all p (by lia) l).resolve_right d)
  lia
 constructor
 ·intro r s;obtain⟨p,o,d⟩:=g.n _ (eqr_in s);obtain⟨q,b⟩:=List.mem_filter.mp o;have b:=oDq b;exact⟨p,q,a p b.2.2 b.1 b.2.1 d⟩
 ·intro r i;have:=g.r;obtain⟨k,h,k2⟩:=List.any_eq_true.mp (List.all_eq_true.mp this r i);have f:=e r i k h;exact⟨k,h,a k f.1 f.2.1 f.2.2 (j.con k (oDq k2))⟩
abbrev NLw:List Str:=["_law_script","_law_problem","_law_due","_law_held"]
def mq:Xn NLw ["_law_script"] jT:=fsc
section
variable {P:Program} {w:World} {K:W.Frag} {mg:Str→Option Value} {base:Heap} {aK C:Addr} {f fC fB fR fU fH fE fD fS:Addr} {fd dC dB dR' dU dH dE dD dS:FuncData} {tk:Tok}
def law3 (T:Jb4 C)(BH:Jif "_law_choices" fH dH ["_law_atoms"] oP)(BE:Jif "_law_each_held" fE dE (JJ "_law_held") (oO K C))(BD:Jie 4 "_law_denied" fD dD (JJ "_law_held") (oK K C))
  (S:JE 9 fS dS (VY "most") (oW K C))(bS:au K dS (VY "most") [JeH tk])(mS:mg "search"=Ja fS)(kS:JgL K fS)
  {cdv:Value}{A:Around}{outer:List Env}{s:Shared}{H0:Hp}{E:XK}(hr:JiU 9 "law" jT f cdv) :
  ∃t,Jlf (Jfk CX0 P w K mg NLw "law" (ap jT) f cdv A s H0 E).nox ((cG jT).drop 3) ∧
   ∀H Q a p N M X u As Rs v2 D,Jgz K C H p N M X u→(∀r∈Rs,JaM r)→Rs.length≤200→Jep 7→1≤u.length→u.length≤20→(∀H',XR true H') →
    t { nx:=λ_ H'=>Q .non H',rt:=Q } [Ja a,Ja p,v2,D] H:=by
 have Z:=QP (j:=1);have hr4:=QP (j:=4);have hu:=jn hr;have hv:aM (Jga 2000) [JeH tk]:=Qv (Xr _);refine VP (QO (i:=2) mq.nd bZ (Jgh (cC (Jlt BH.ok Z BH.m BH.kp BH.b (Xf (Jct 1)))) (i:=3) mq.nd (ah (JdH (gD (Jda BE.ok Z BE.m BE.kp BE.b 1 3)) (ax (pF hu) (Jda BD.ok hr4 BD.m BD.kp BD.b 1 3) (ba ac) rfl)) (ak (Xm (i:=2) mq.nd bZ))
     aZ)) (Qj (iw ck (ar aA (aW S hr rfl mS kS bS hv ay (Vi 1)) ae) (pv 2))));try dsimp only [Cx.nox,Cx.wish,ag]
 intro H Q a p N M X u As Rs v2 D PD v rl200 a7 t1 t20 q;obtain⟨dx,ys,ho,hl,yl⟩:=PD.pr.lenA;have Y:∀r∈Rs,JjP 100:=λr o=>Jq (v r o).2.1;refine⟨_,rfl,p,C,dx,_,_,rfl,ho,T.cl,T.nA,fc _ _ _,M,ys,rfl,Qg hl,As.length,by rw[yl];rfl,by lia,λH1 l us s1 F I=>?_⟩;refine Jkp l _ F (Jh2 cH (λi σ H'=>Xj H1∧∃d D,σ=[Ja a,Ja p,Jg_ d,D]∧((d="yes"∧∃c∈chF As.length,jt u As Rs c)∨(d="no"∧∀c∈(chF As.length).take i,¬jt u As Rs c))) (λi σ H' h=>by obtain⟨y,_⟩:=h;exact SqL.of (y _ _ F)) (Jr (ao.refl _) "no" D (Jx rfl (λc B=>nomatch B))))
 ·rintro i σ H8 x H2 hi ⟨y,d,w3,rfl,hd⟩ ⟨rfl,hx⟩;obtain⟨c,B⟩:∃c,(chF As.length)[i]?=some c:=Jgp (by rw[←I.1];exact hi);have hcm:=mO B;obtain⟨b,hb,hb2⟩:=I.2 i c B;rw[JcY _ (y _ _ F)]at hb;injection hb with hb;subst hb;have ci:=l_ _ c hcm;have U:=s1.trans y;have hb3:=SqL.of (K:=K) (y _ _ hb2);have no:∀H',Xj H1→¬jt u As Rs c→(Xj H1∧∃d' D,[some (V.ref a),Ja p,Jg_ d,Ja b]=[Ja a,Ja p,Jg_ d',D]∧((d'="yes"∧∃c∈chF As.length,jt u As Rs c)∨(d'="no"∧∀c∈(chF As.length).take (i+1),¬jt u As Rs c))):=λH' s' ng=>by
   refine Jr s' d _ (hd.imp id λ⟨e,h⟩=>⟨e,λc' hc'=>?_⟩);rw[bb B]at hc';rcases mPq hc' with z | z
   ·exact h c' z
   ·rw[mSq z];exact ng
  refine⟨_,rfl,_,rfl,p,N,M,X,b,u,As,Rs,c,rfl,(PD.same U).pr,hb3,Y,λH3 J=>V2 ?_⟩;refine aQ (λc1=>?_) (λc1=>no H3 (y.trans J) λg=>c1 g.r);refine⟨_,rfl,_,rfl,p,N,M,X,b,u,As,Rs,c,rfl,PD.same (U.trans J),J.seq hb3,ci.inn,by rw[ci.len];lia,t1,λH4 l4 ms L s4 h4 pm so R G Cl=>JeR (λl5 hl5=>?_)⟩;obtain⟨H5,eN,s5,n5⟩:=QB hl5 [];rw[eN];have O:=y.trans (J.trans (s4.trans s5));refine⟨.lst ((JkT L).map Dt.int),.lst [],JfC (s5 _ _ h4) _,Jaj n5 aj.nil,(by simp only[dep,jk];decide),_,rfl,?_⟩;by_cases e:JkT L=[]
  ·rw[e];exact b_ (Jr O _ _ (.inl ⟨rfl,c,hcm,c1,wX G Cl pm e⟩))
  ·have e2:Q9 (peq (.lst ((JkT L).map Dt.int)) (.lst [])):=by
    cases h:JkT L with
    | nil=>exact absurd h e
    | cons x xs=>rfl
   rw[e2];exact bK (no H5 O λg=>e (Cs R g.n pm))
 ·rintro σ H2 ⟨y,d,w3,rfl,hd⟩;rw[tO (by rw[I.1];exact nRq _)]at hd;have ro:sU As.length Rs:=Jhe (λr o=>⟨(v r o).2.2,λk hk=>by have:=(v r o).1 k hk;unfold PIn at this;lia⟩) (by lia);have pw:(2:Int) ^ (As.length+2)≤2000:=by
   have:(2:Nat) ^ (As.length+2)≤2 ^ 9:=Nat.pow_le_pow_right (by decide) (by lia);lia
  refine⟨_,rfl,p,N,M,X,u,As,Rs,2000,rfl,PD.same (s1.trans y),by lia,ro,pw,by decide,⟨λH3 t x hs J h3 hR hN=>?_,λH3 t x J h3 hN=>?_⟩⟩
  ·have g:jt u As Rs (dY As.length hs):=by refine⟨?_,hN⟩;unfold jq;rw[List.all_eq_true];intro r o;obtain⟨k,k1,k2⟩:=hR r o;exact List.any_eq_true.mpr ⟨k,k1,dTq k2⟩
   have e:=hd.elim (·.1) λ⟨_,h⟩=>absurd g (h _ (sV hs _));subst e;exact⟨t,_,_,_,rfl,rfl,SqT.of h3,aJ rfl,_,rfl,rfl,q _⟩
  ·have e:=hd.elim (λ⟨_,c,B,g⟩=>absurd (xD (l_ _ c B) (λr o=>(v r o).1) g).2 (hN _ (xD (l_ _ c B) (λr o=>(v r o).1) g).1)) (·.1);subst e;exact⟨t,_,_,_,rfl,rfl,SqT.of h3,aJ rfl,_,rfl,rfl,q _⟩
inductive mr (K):Sp|m{vs H Q E9} (a) (ns:List Int):vs=Vt a→Jir a→Jfh 63→(∀H',XR true H')→mr K vs H Q E9
def ok_law (F:X4 "law" "law" jT)(T:Jb4 C)(c:Jig fC dC (JaZ "_law_k") (jZ K))(z:Jie 6 "_law_problem_by" fB dB ["_law_script","_law_first","_law_terms","_law_atoms"] (rF K C))
  (y:Jie 3 "_law_rows_added" fR dR' ["_law_problem","_law_script","_law_first","_law_many"] (rZ K C))(x:Jie 3 "_law_units_added" fU dU (JJ "_law_cell") (rY K C))
  (BH:Jif "_law_choices" fH dH ["_law_atoms"] oP)(BE:Jif "_law_each_held" fE dE (JJ "_law_held") (oO K C))(BD:Jie 4 "_law_denied" fD dD (JJ "_law_held") (oK K C))
  (S:JE 9 fS dS (VY "most") (oW K C))(bS:au K dS (VY "most") [JeH tk])(mS:mg "search"=Ja fS)(kS:JgL K fS):Jdo 10 ["_law_script"] (mr K):=by
 refine F.ok mq (λvs H Q E h=>?_) (λcdv A outer s H vs Q E u h=>?_)
 ·obtain⟨a,ns,rfl,_⟩:=h;rfl
 obtain⟨a,ns,rfl,e,Z,q⟩:=h;have d:=Jh6 (j:=1);have n:=Jh6 (j:=3);have G:=Jh6 (j:=6);obtain⟨t3,h3,U⟩:=law3 (base:=base) (cdv:=cdv) (outer:=outer) T BH BE BD S bS mS kS u;refine VP (QO (i:=1) mq.nd (Jc3 z.ok G z.m z.kp z.b 0 (JcI ae (aw cD ae (JeM (JdM c.ok d c.m c.kp c.b 0 ae))) (JeM (JdM c.ok d c.m c.kp c.b 0 ae)))) (aY (Jc3 y.ok n y.m y.kp y.b 1 (Va 0 (Xv ae (JeM (JdM c.ok d c.m c.kp c.b 0 ae)))))) (ad (ah (Jfg (JeM (JdM c.ok d c.m c.kp c.b 0 ae))) (XS (JdM x.ok n x.m x.kp x.b 1 (Jc8 cF (JdM c.ok d c.m c.kp c.b 0 ae))))
   aZ)
  h3));try dsimp only [Cx.nox,Cx.wish,ag]
 refine JcH _ _ rfl a ns 0 rfl e (by lia) (by decide) (by decide) (λc0=>⟨_,_,rfl,rfl,(by show(0:Int) < 6;decide),_,_,rfl,rfl,_,rfl,a,ns,1,rfl,e,by lia,by decide,by decide,λc1=>JjL _ _ rfl (by show(0:Int) < 5;decide) ?_⟩);refine⟨a,ns,6,_,_,rfl,e,by lia,by decide,by decide,by lia,by lia,by lia,by lia,λH1 p t o l v As B np nt R O PD L k X=>?_⟩;refine⟨_,rfl,_,rfl,_,rfl,a,ns,2,rfl,B.seq e,by lia,by decide,by decide,λc2=>JjL _ _ rfl (by show(0:Int) < 17;decide) ?_⟩;have D:∀H',JeF H1 o l→SqL K H' a (ns.map V.int):=λH' f'=>(f'.fresh B R O).seq e;refine⟨p,t,o,l,a,v,As,[],ns,18,_,rfl,PD,D,by lia,by decide,by decide,by lia,by lia,by lia,by decide,λH2 R2 g f2 N l2=>?_⟩;rw[List.nil_append]at g;have M:=f2.fresh B R O;refine Jcb _ a ns 4 rfl (M.seq e) (by lia) (by decide) (by decide) (λc4=>JjJ _ _ rfl rfl (by show(0:Int) < 2;decide) _ rfl (VQ (λ_=>?_)))
 ·refine JcH _ _ rfl a ns 4 rfl (M.seq e) (by lia) (by decide) (by decide) (λc5=>JjL _ _ rfl (Vk (by decide)) ?_);refine⟨p,t,o,l,v,As,R2,_,rfl,g,by lia,by lia,λH3 R3 J f3 Y l3=>?_⟩;exact U H3 Q a p t o l v As (R2++R3) _ _ J (λr I=>(mPq I).elim (N r) (Y r)) (by rw[lAq];lia) X L k q
 ·exact U H2 Q a p t o l v As R2 _ _ g N (by lia) X L k q
end
def all_mk {l:W.OpenLaw}{w:World}{K:W.Frag}{h:Heap}{mg:Str→Option Value}{fa aK C R g fs es f1 f2 f3 f4 f5 f6 f7 f8 f9 f10 f11 f12 f13 f14 f15 f16 f17 f18 f19 f20 f21 f22 f23 f24 f25 f26 f27 f28 f29 f30 f31 f32 f33 f34 f35 f36 f37 f38 f39 f40 f41 f42 f43 f44 f45 f46 f47 f48 f49 f50 f51 f52 f53 f54 f55 f56 f57 f58 f59 f60 f61 f62:Addr}(X:K.In h)(G:h.Ns mainGlobals mg)(hfa:mg "law"=some (.ref fa))
  {d1 d2 d3 d4 d5 d6 d7 d8 d9 d10 d11 d12 d13 d14 d15 d16 d17 d18 d19 d20 d21 d22 d23 d24 d25 d26 d27 d28 d29 d30 d31 d32 d33 d34 d35 d36 d37 d38 d39 d40 d41 d42 d43 d44 d45 d46 d47 d48 d49 d50 d51 d52 d53 d54 d55 d56 d57 d58 d59 d60 d61 d62:FuncData}{slK:Array (Option Value)}{t1 t2 t3 t4 t5 t6 t7 ts u1 u2 u3 u4 u5 u6 u7 u8:Tok}{nK:Nat}{ds:FuncData}
  (aC:W.nsIn K mainGlobals "Problem"=some (some (.ref C)))
  (aG:W.nsIn K mainGlobals "Groups"=some (some (.ref R)))
  (aH:W.nsIn K mainGlobals "Hunt"=some (some (.ref g)))
  (y1:FT K "is_word" "is_word" qr f1 d1)
  (y2:FT K "is_name" "is_name" qt f2 d2)
  (y3:FT K "ask_name" "ask_name" qu f3 d3)
  (y4:FT K "once_each" "once_each" qv f4 d4)
  (y5:FT K "place_of" "place_of" qw f5 d5)
  (y6:FT K "given_links" "given_links" W54.s_given_links f6 d6)
  (y7:FT K "alike_links" "alike_links" W54.s_alike_links f7 d7)
  (y8:FT K "links" "links" W54.s_links f8 d8)
  (y9:FT K "groups_of" "groups_of" W54.s_groups_of f9 d9)
  (Z9:FT K "heads" "heads" W54.s_heads f10 d10)
  (Z8:FT K "steps_of" "steps_of" W54.s_steps_of f11 d11)
  (Z7:FT K "way" "way" W54.s_way f12 d12)
  (Z6:FT K "part_pairs" "part_pairs" W54.s_part_pairs f13 d13)
  (Z5:FT K "ways" "ways" W54.s_ways f14 d14)
  (q:FT K "sameness" "sameness" nP f15 d15)
  (Z:FT K "held_same" "held_same" lg f16 d16)
  (Z4:FT K "same_links" "same_links" lu f17 d17)
  (Z3:FT K "clashing_atom" "clashing_atom" nQ f18 d18)
  (Z2:FT K "equal_line" "equal_line" lB f19 d19)
  (Z1:FT K "clash" "clash" nU f20 d20)
  (Z0:FT K "levels" "levels" s_levels f21 d21)
  (ZZ:FT K "part_levels" "part_levels" s_part_levels f22 d22)
  (ZY:FT K "is_replaced" "is_replaced" s_is_replaced f23 d23)
  (ZX:FT K "learnt" "learnt" s_learnt f24 d24)
  (p:FT K "_law_cell_at" "_law_cell_at" sCell f25 d25)
  (ZW:FT K "_law_term_by" "_law_term_by" qC f26 d26)
  (ZV:FT K "_law_woven" "_law_woven" qD f27 d27)
  (ZU:FT K "_law_other_by" "_law_other_by" oa f28 d28)
  (ZT:FT K "_law_problem_by" "_law_problem_by" qG f29 d29)
  (ZS:FT K "_law_units_added" "_law_units_added" jS f30 d30)
  (ZR:FT K "_law_rows_added" "_law_rows_added" lJ f31 d31)
  (ZQ:FT K "_law_merged" "_law_merged" oe f32 d32)
  (ZP:FT K "_law_alike" "_law_alike" lK f33 d33)
  (ZO:FT K "_law_next" "_law_next" qH f34 d34)
  (ZN:FT K "_law_joined_by" "_law_joined_by" qI f35 d35)
  (ZM:FT K "_law_denied" "_law_denied" qJ f36 d36)
  (ZL:FT K "_law_each_held" "_law_each_held" og f37 d37)
  (ZK:FT K "_law_choices" "_law_choices" lL f38 d38)
  (ZJ:FT K "law" "law" jT f39 d39)
  (ZI:FM K C "__init__" "Problem.__init__" qx f40 d40)
  (ZH:FM K C "ask_term" "Problem.ask_term" qy f41 d41)
  (ZG:FM K C "ask_part" "Problem.ask_part" qz f42 d42)
  (ZF:FM K C "add_term" "Problem.add_term" sAdd f43 d43)
  (ZE:FM K C "add_plain" "Problem.add_plain" qA f44 d44)
  (ZD:FM K C "add_same" "Problem.add_same" qB f45 d45)
  (ZC:FM K C "add_row" "Problem.add_row" sRow f46 d46)
  (ZB:FM K R "__init__" "Groups.__init__" W54.s_init f47 d47)
  (Y:FM K R "head" "Groups.head" W54.s_head f48 d48)
  (ZA:FM K R "together" "Groups.together" W54.s_together f49 d49)
  (Zz:FM K R "merge" "Groups.merge" W54.s_merge f50 d50)
  (Zy:FM K g "__init__" "Hunt.__init__" vV f51 d51)
  (U:FM K g "hold" "Hunt.hold" vW f52 d52)
  (Zx:FM K g "watch" "Hunt.watch" vX f53 d53)
  (Zw:FM K g "begin" "Hunt.begin" vY f54 d54)
  (Zv:FM K g "finds" "Hunt.finds" vZ f55 d55)
  (Zu:FM K g "look_at" "Hunt.look_at" v_ f56 d56)
  (Zt:FM K g "grow" "Hunt.grow" wa f57 d57)
  (Zs:FM K g "put" "Hunt.put" we f58 d58)
  (Zr:FM K g "cut" "Hunt.cut" wh f59 d59)
  (Zq:FM K g "learn" "Hunt.learn" wj f60 d60)
  (Zp:FM K g "choose" "Hunt.choose" wm f61 d61)
  (Zo:FM K g "held_parts" "Hunt.held_parts" wo f62 d62)
  (s1:W.nsIn K mainGlobals "SMALL_LETTERS"=some (some (.str abc t1)))
  (s2:W.nsIn K mainGlobals "LONGEST_NAME"=some (some (.int 8 t2)))
  (s3:W.nsIn K mainGlobals "MOST_TERM_PARTS"=some (some (.int 3 t3)))
  (s4:W.nsIn K mainGlobals "MOST_TERMS"=some (some (.int 60 t4)))
  (s5:W.nsIn K mainGlobals "MOST_ATOMS"=some (some (.int 40 t5)))
  (s6:W.nsIn K mainGlobals "MOST_ROW_PARTS"=some (some (.int 20 t6)))
  (s7:W.nsIn K mainGlobals "MOST_ROWS"=some (some (.int 200 t7)))
  (s8:W.nsIn K mainGlobals "KEPT_WORDS"=some (some (.ref aK)))
  (s9:K.lookup aK=some ⟨.type "tuple",none,.seq #[.str "or" u1,.str "and" u2,.str "not" u3,.str "never" u4,.str "always" u5,.str "then" u6,.str "as" u7,.str "unlike" u8] nK,slK⟩)
  (x:W.nsIn K mainGlobals "len"=some none)
  (Zn:W.nsIn K mainGlobals "all"=some none)
  (b:W.nsIn K mainGlobals "range"=some none)
  (c:W.nsIn K mainGlobals "isinstance"=some none)
  (y:W.nsIn K mainGlobals "bool"=some none)
  (d:W.nsIn K mainGlobals "tuple"=some none)
  (z:W.nsIn K mainGlobals "abs"=some none)
  (o:W.nsIn K mainGlobals "reversed"=some none)
  (n:W.nsIn K mainGlobals "enumerate"=some none)
  (f:W.nsIn K mainGlobals "sorted"=some none)
  (j:W.nsIn K mainGlobals "list"=some none)
  (Zm:W.nsIn K mainGlobals "zip"=some none)
  (S:W.nsIn K mainGlobals "dict"=some none)
  (Zl:W.nsIn K mainGlobals "any"=some none)
  (u:W.nsIn K mainGlobals "max"=some none)
  (Zk:W.nsIn K mainGlobals "min"=some none)
  (Zj:W.nsIn K mainGlobals "int"=some none)
  (Zi:W.kitOne K (.type "int") (.type "bool")=some false)
  (Zh:W.plainGet K C Str.empty=true)
  (Zg:W.hasDictIn K C=true)
  (Zf:W.plainOver K C=true)
  (Ze:W.findIn K (.ref C) "__setattr__"=some (some (.builtin "object.__setattr__")))
  (Zd:W.makesIn K C=true)
  (Zc:W.keepIn K (.ref C)=true)
  (Zb:W.plainGet K R Str.empty=true)
  (Za:W.hasDictIn K R=true)
  (Y9:W.plainOver K R=true)
  (Y8:W.findIn K (.ref R) "__setattr__"=some (some (.builtin "object.__setattr__")))
  (Y7:W.makesIn K R=true)
  (Y6:W.keepIn K (.ref R)=true)
  (Y5:W.plainGet K g Str.empty=true)
  (Y4:W.hasDictIn K g=true)
  (Y3:W.plainOver K g=true)
  (Y2:W.findIn K (.ref g) "__setattr__"=some (some (.builtin "object.__setattr__")))
  (Y1:W.makesIn K g=true)
  (Y0:W.keepIn K (.ref g)=true)
  (YZ:W.findIn K (.ref C) "terms"=some none)
  (YY:W.findIn K (.ref C) "atoms"=some none)
  (YX:W.findIn K (.ref C) "rows"=some none)
  (Q:W.findIn K (.ref R) "least"=some none)
  (t:W.findIn K (.ref R) "gathered"=some none)
  (B:W.findIn K (.ref g) "problem"=some none)
  (YW:W.findIn K (.ref g) "most"=some none)
  (O:W.findIn K (.ref g) "known"=some none)
  (L:W.findIn K (.ref g) "paper"=some none)
  (J:W.findIn K (.ref g) "trail"=some none)
  (YV:W.findIn K (.ref g) "held"=some none)
  (D:W.findIn K (.ref g) "looked"=some none)
  (I:W.findIn K (.ref g) "begins"=some none)
  (A:W.findIn K (.ref g) "watched"=some none)
  (r:W.findIn K (.ref g) "watching"=some none)
  (N:W.findIn K (.ref g) "order"=some none)
  (E:W.findIn K (.ref g) "lately"=some none)
  (ys:FD K "search" jR fs es ds ts)
  : ∃fd:FuncData,(∀(s:Shared) (v:Value),BindsTo s fd ⟨[v],[]⟩ [("_law_script",v)])∧∀base:Heap,K.In base→base.Ns mainGlobals mg→aD l.prog w K mg base CX0 10 fa fd ["_law_script"] (mr K):=by have gn:=λ{x:Str} (e:W.nsIn K mainGlobals x=some none)=>W.mg_none_of X G e;have gm:=λ{x:Str}{v:Value} (e:W.nsIn K mainGlobals x=some (some v))=>W.mg_of X G e;have e:=hfa.symm.trans (ZJ.m X G);cases e;have T:Txt K mg aK C:=⟨⟨_,gm s1⟩,⟨_,gm s2⟩,⟨_,gm s3⟩,⟨_,gm s4⟩,⟨_,gm s5⟩,⟨_,gm s6⟩,⟨_,gm s7⟩,gm s8,λH=>.inr ⟨_,_,_,s9,rfl,rfl,(by show 8≤sizeLine;decide),.cons ⟨_,rfl⟩ (.cons ⟨_,rfl⟩ (.cons ⟨_,rfl⟩ (.cons ⟨_,rfl⟩ (.cons ⟨_,rfl⟩ (.cons ⟨_,rfl⟩ (.cons ⟨_,rfl⟩ (.cons ⟨_,rfl⟩ .nil)))))))⟩,gn x,gn Zn,gn b,gn c,gn y,gn d,gn z,⟨Zh,Zg,Zf,Ze⟩,YZ,YY,YX⟩;have TB:TxB K mg:=⟨gn x,gn o,gn z,gn n,gn f,gn d,gn j,gn b⟩;have TG:W54.TxG K mg R:=⟨⟨Zb,Za,Y9,Y8⟩,Q,t,gn Zk,gn u,gn b⟩;have TW:W54.Txt K mg:=⟨gn x,gn j,gn b,gn c,gn Zj,gn y,gn Zk,gn u,gn d,gn n,gn Zm,gn f,gn S,Zi⟩;have TH:TxH K g:=⟨⟨Y5,Y4,Y3,Y2⟩,B,YW,O,L,J,YV,D,I,A,r,N,E⟩;have TE:Le54.Txt K mg:=⟨gn x,gn S,gn b,gn d,gn j,gn Zl,gn Zm,gn o,gn u,gn c,gn Zj,gn y,gn z,Zi⟩;have bs:au K ds ["problem","most"] [.int 2000 ts]:=bind1 ys λ_ _ _ _ _ _ _=>⟨_,rfl,rfl⟩;have b1:au K d1 ["text"] []:=y1.F.b1 λ_ _ _ _ _ _ _=>rfl;have b2:au K d2 ["word"] []:=y2.F.b1 λ_ _ _ _ _ _ _=>rfl;have b3:au K d3 ["word"] []:=y3.F.b1 λ_ _ _ _ _ _ _=>rfl;have b4:au K d4 ["parts"] []:=y4.F.b1 λ_ _ _ _ _ _ _=>rfl;have b5:au K d5 ["thing","things","most"] []:=y5.F.b3 λ_ _ _ _ _ _ _ _ _=>rfl;have b6:au K d6 ["given","groups"] []:=y6.F.b2 λ_ _ _ _ _ _ _ _=>rfl;have b7:au K d7 ["terms","groups"] []:=y7.F.b2 λ_ _ _ _ _ _ _ _=>rfl;have b8:au K d8 ["terms","given"] []:=y8.F.b2 λ_ _ _ _ _ _ _ _=>rfl;have b9:au K d9 ["links"] []:=y9.F.b1 λ_ _ _ _ _ _ _=>rfl;have b10:au K d10 ["many","links"] []:=Z9.F.b2 λ_ _ _ _ _ _ _ _=>rfl;have b11:au K d11 ["links"] []:=Z8.F.b1 λ_ _ _ _ _ _ _=>rfl;have b12:au K d12 ["steps","one","other"] []:=Z7.F.b3 λ_ _ _ _ _ _ _ _ _=>rfl;have b13:au K d13 ["terms","link"] []:=Z6.F.b2 λ_ _ _ _ _ _ _ _=>rfl;have b14:au K d14 ["terms","links","one","other"] []:=Z5.F.b4 λ_ _ _ _ _ _ _ _ _ _=>rfl;have b15:au K d15 ["problem","number"] []:=q.F.b2 λ_ _ _ _ _ _ _ _=>rfl;have b16:au K d16 ["problem","held"] []:=Z.F.b2 λ_ _ _ _ _ _ _ _=>rfl;have b17:au K d17 ["problem","held"] []:=Z4.F.b2 λ_ _ _ _ _ _ _ _=>rfl;have b18:au K d18 ["problem","held","found"] []:=Z3.F.b3 λ_ _ _ _ _ _ _ _ _=>rfl;have b19:au K d19 ["problem","held","found","atom"] []:=Z2.F.b4 λ_ _ _ _ _ _ _ _ _ _=>rfl;have b20:au K d20 ["problem","held"] []:=Z1.F.b2 λ_ _ _ _ _ _ _ _=>rfl;have b21:au K d21 ["trail"] []:=Z0.F.b1 λ_ _ _ _ _ _ _=>rfl;have b22:au K d22 ["trail"] []:=ZZ.F.b1 λ_ _ _ _ _ _ _=>rfl;have b23:au K d23 ["part","why","kept","level_of","last"] []:=ZY.F.b5 λ_ _ _ _ _ _ _ _ _ _ _=>rfl;have b24:au K d24 ["rows","trail","fails"] []:=ZX.F.b3 λ_ _ _ _ _ _ _ _ _=>rfl;have b25:au K d25 ["_law_script","_law_k"] []:=p.F.b2 λ_ _ _ _ _ _ _ _=>rfl;have b26:au K d26 ["_law_problem","_law_cell"] []:=ZW.F.b2 λ_ _ _ _ _ _ _ _=>rfl;have b27:au K d27 ["_law_script","_law_first"] []:=ZV.F.b2 λ_ _ _ _ _ _ _ _=>rfl;have b28:au K d28 ["_law_problem","_law_one","_law_cell"] []:=ZU.F.b3 λ_ _ _ _ _ _ _ _ _=>rfl;have b29:au K d29 ["_law_script","_law_first","_law_terms","_law_atoms"] []:=ZT.F.b4 λ_ _ _ _ _ _ _ _ _ _=>rfl;have b30:au K d30 ["_law_problem","_law_cell"] []:=ZS.F.b2 λ_ _ _ _ _ _ _ _=>rfl;have b31:au K d31 ["_law_problem","_law_script","_law_first","_law_many"] []:=ZR.F.b4 λ_ _ _ _ _ _ _ _ _ _=>rfl;have b32:au K d32 ["_law_roots","_law_one","_law_other"] []:=ZQ.F.b3 λ_ _ _ _ _ _ _ _ _=>rfl;have b33:au K d33 ["_law_terms","_law_roots","_law_one","_law_other"] []:=ZP.F.b4 λ_ _ _ _ _ _ _ _ _ _=>rfl;have b34:au K d34 ["_law_problem","_law_parts","_law_roots"] []:=ZO.F.b3 λ_ _ _ _ _ _ _ _ _=>rfl;have b35:au K d35 ["_law_problem","_law_held"] []:=ZN.F.b2 λ_ _ _ _ _ _ _ _=>rfl;have b36:au K d36 ["_law_problem","_law_held"] []:=ZM.F.b2 λ_ _ _ _ _ _ _ _=>rfl;have b37:au K d37 ["_law_problem","_law_held"] []:=ZL.F.b2 λ_ _ _ _ _ _ _ _=>rfl;have b38:au K d38 ["_law_atoms"] []:=ZK.F.b1 λ_ _ _ _ _ _ _=>rfl;have b40:au K d40 ["self"] []:=ZI.F.b1 λ_ _ _ _ _ _ _=>rfl;have b41:au K d41 ["self","number"] []:=ZH.F.b2 λ_ _ _ _ _ _ _ _=>rfl;have b42:au K d42 ["self","part"] []:=ZG.F.b2 λ_ _ _ _ _ _ _ _=>rfl;have b43:au K d43 ["self","name","parts"] []:=ZF.F.b3 λ_ _ _ _ _ _ _ _ _=>rfl;have b44:au K d44 ["self","name"] []:=ZE.F.b2 λ_ _ _ _ _ _ _ _=>rfl;have b45:au K d45 ["self","one","other"] []:=ZD.F.b3 λ_ _ _ _ _ _ _ _ _=>rfl;have b46:au K d46 ["self","parts"] []:=ZC.F.b2 λ_ _ _ _ _ _ _ _=>rfl;have b47:au K d47 ["self"] []:=ZB.F.b1 λ_ _ _ _ _ _ _=>rfl;have b48:au K d48 ["self","term"] []:=Y.F.b2 λ_ _ _ _ _ _ _ _=>rfl;have b49:au K d49 ["self","one","other"] []:=ZA.F.b3 λ_ _ _ _ _ _ _ _ _=>rfl;have b50:au K d50 ["self","one","other"] []:=Zz.F.b3 λ_ _ _ _ _ _ _ _ _=>rfl;have b51:au K d51 ["self","problem","most"] []:=Zy.F.b3 λ_ _ _ _ _ _ _ _ _=>rfl;have b52:au K d52 ["self","part","why"] []:=U.F.b3 λ_ _ _ _ _ _ _ _ _=>rfl;have b53:au K d53 ["self","number","one","other"] []:=Zx.F.b4 λ_ _ _ _ _ _ _ _ _ _=>rfl;have b54:au K d54 ["self"] []:=Zw.F.b1 λ_ _ _ _ _ _ _=>rfl;have b55:au K d55 ["self","number","other"] []:=Zv.F.b3 λ_ _ _ _ _ _ _ _ _=>rfl;have b56:au K d56 ["self","part"] []:=Zu.F.b2 λ_ _ _ _ _ _ _ _=>rfl;have b57:au K d57 ["self"] []:=Zt.F.b1 λ_ _ _ _ _ _ _=>rfl;have b58:au K d58 ["self","line"] []:=Zs.F.b2 λ_ _ _ _ _ _ _ _=>rfl;have b59:au K d59 ["self","level"] []:=Zr.F.b2 λ_ _ _ _ _ _ _ _=>rfl;have b60:au K d60 ["self","fails"] []:=Zq.F.b2 λ_ _ _ _ _ _ _ _=>rfl;have b61:au K d61 ["self"] []:=Zp.F.b1 λ_ _ _ _ _ _ _=>rfl;have b62:au K d62 ["self"] []:=Zo.F.b1 λ_ _ _ _ _ _ _=>rfl;refine⟨_,ZJ.F.top λ_ _ _ _ _ _ _=>rfl,λbase _ _=>?_⟩;have MKI:Mk K C f40:=⟨Zd,ZI.a,ZI.i,Zc⟩;have MKG:Mk K R f47:=⟨Y7,ZB.a,ZB.i,Y6⟩;have MKH:Mk K g f51:=⟨Y1,Zy.a,Zy.i,Y0⟩;have G1:=Bc (P:=l.prog) (w:=w) (base:=base) y1.F T;have G2:=Be y2.F T G1 b1 y1.k (y1.m X G);have G3:=Bf y3.F ⟨G2,b2,y2.k,y2.m X G⟩;have G4:=Bu (P:=l.prog) (w:=w) (base:=base) y4.F T;have G5:=Bg (P:=l.prog) (w:=w) (base:=base) y5.F T;have G40:=K54.ok_init (P:=l.prog) (w:=w) (base:=base) ZI.F T;have G41:=Bj (P:=l.prog) (w:=w) (base:=base) ZH.F T;have G42:=Bk (P:=l.prog) (w:=w) (base:=base) ZG.F T;have G43:=ok_add ZF.F T ⟨G3,b3,y3.k,y3.m X G⟩ G41 b41 ZH.M ⟨G5,b5,y5.k,y5.m X G⟩;have G44:=Bo ZE.F T ⟨G3,b3,y3.k,y3.m X G⟩ ⟨G5,b5,y5.k,y5.m X G⟩;have G45:=Bq ZD.F T G41 b41 ZH.M ⟨G5,b5,y5.k,y5.m X G⟩;have G46:=ok_row ZC.F T G42 b42 ZG.M ⟨G4,b4,y4.k,y4.m X G⟩;have OW:Own l.prog w K mg base C f40 f43 f44 f45 _ _ _ _:=⟨G40,b40,MKI,gm aC,G43,b43,ZF.M,G44,b44,ZE.M,G45,b45,ZD.M⟩;have G47:=W54.ok_init (P:=l.prog) (w:=w) (base:=base) ZB.F TG;have G48:=W54.ok_head (P:=l.prog) (w:=w) (base:=base) Y.F TG;have G49:=W54.ok_together ZA.F TG Y.M G48 b48;have G50:=W54.ok_merge Zz.F TG Y.M G48 b48;have G6:=W54.ok_given_links y6.F TG TW.enumerate ZA.M G49 b49 Zz.M G50 b50;have G7:=W54.ok_alike_links y7.F TG TW.enumerate TW.tuple Y.M G48 b48 ZA.M G49 b49 Zz.M G50 b50;have G8:=W54.ok_links y8.F TW.len MKG (gm aG) G47 b47 ⟨G6,b6,y6.k,y6.m X G⟩ ⟨G7,b7,y7.k,y7.m X G⟩;have G9:=W54.ok_groups_of y9.F TG MKG (gm aG) G47 b47 Zz.M G50 b50;have G10:=W54.ok_heads Z9.F TG ⟨G9,b9,y9.k,y9.m X G⟩ Y.M G48 b48;have G11:=W54.ok_steps_of (P:=l.prog) (w:=w) (base:=base) Z8.F TW;have G12:=W54.ok_way (P:=l.prog) (w:=w) (base:=base) Z7.F TW;have G13:=W54.ok_pairs (P:=l.prog) (w:=w) (base:=base) Z6.F TW;have G14:=W54.ok_ways Z5.F TW ⟨G11,b11,Z8.k,Z8.m X G⟩ ⟨G12,b12,Z7.k,Z7.m X G⟩ ⟨G13,b13,Z6.k,Z6.m X G⟩;have G15:=BB (P:=l.prog) (w:=w) (base:=base) q.F T;have G16:=Cc Z.F ⟨G15,b15,q.k,(q.m X G)⟩;have G17:=Ce Z4.F T ⟨G15,b15,q.k,(q.m X G)⟩ ⟨G16,b16,Z.k,(Z.m X G)⟩ ⟨G8,b8,y8.k,y8.m X G⟩;have G18:=Cg Z3.F T (gn f) ⟨G15,b15,q.k,(q.m X G)⟩ ⟨G10,b10,Z9.k,Z9.m X G⟩;have G19:=Ci Z2.F T (gn d) ⟨G15,b15,q.k,(q.m X G)⟩ ⟨G16,b16,Z.k,(Z.m X G)⟩ ⟨G14,b14,Z5.k,Z5.m X G⟩;have G20:=Cj Z1.F ⟨G17,b17,Z4.k,Z4.m X G⟩ ⟨G18,b18,Z3.k,Z3.m X G⟩ ⟨G19,b19,Z2.k,Z2.m X G⟩;have G21:=Le54.ok_levels (P:=l.prog) (w:=w) (base:=base) (mg:=mg) Z0.F;have G22:=Le54.ok_part_levels ZZ.F TE ⟨G21,b21,Z0.k,Z0.m X G⟩;have G23:=Le54.ok_is_replaced (P:=l.prog) (w:=w) (base:=base) ZY.F TE;have G24:=Le54.ok_learnt ZX.F TE ⟨G22,b22,ZZ.k,ZZ.m X G⟩ ⟨G23,b23,ZY.k,ZY.m X G⟩;have G52:=CM (P:=l.prog) (w:=w) (base:=base) (mg:=mg) U.F TH;have G53:=CO (P:=l.prog) (w:=w) (base:=base) (mg:=mg) Zx.F TH;have G55:=CS (P:=l.prog) (w:=w) (base:=base) (mg:=mg) Zv.F TH;have G56:=CT Zu.F TH Zv.M G55 b55 U.M G52 b52;have G58:=ok_put Zs.F TH TB Zx.M G53 b53;have G59:=ok_cut (P:=l.prog) (w:=w) (base:=base) Zr.F TH TB;have G61:=CW Zp.F TH TB U.M G52 b52;have G62:=CZ (P:=l.prog) (w:=w) (base:=base) Zo.F TH TB;have G60:=C4 Zq.F TH TB U.M G52 b52 Zr.M G59 b59 Zs.M G58 b58 ⟨G24,b24,ZX.k,ZX.m X G⟩;have G57:=C7 Zt.F TH TB Zu.M G56 b56 Zs.M G58 b58 ⟨G20,b20,Z1.k,Z1.m X G⟩;have G54:=C8 Zw.F TH TB Zx.M G53 b53 U.M G52 b52 Zt.M G57 b57;have G51:=Dc (P:=l.prog) (w:=w) (base:=base) Zy.F TH TB T;have GH:HG l.prog w K mg base g C f51 f54 f60 f61 f57 f62 _ _ _ _ _ _:=⟨MKH,G51,b51,gm aH,Zw.M,G54,b54,Zq.M,G60,b60,Zp.M,G61,b61,Zt.M,G57,b57,Zo.M,G62,b62⟩;have Gs:=Dg (P:=l.prog) (w:=w) (base:=base) ys TH GH;have G25:=B0 (P:=l.prog) (w:=w) (base:=base) p.F T;have G26:=B3 ZW.F T OW;have G27:=B6 ZV.F T (gn j) (gn b) OW ⟨G25,b25,p.k,(p.m X G)⟩;have G28:=B4 (P:=l.prog) (w:=w) (base:=base) ZU.F T (gn b);have G29:=B7 ZT.F T (gn b) OW ⟨G25,b25,p.k,(p.m X G)⟩ ⟨G27,b27,ZV.k,ZV.m X G⟩ ⟨G26,b26,ZW.k,ZW.m X G⟩ ⟨G28,b28,ZU.k,ZU.m X G⟩;have G30:=Ct ZS.F T G46 b46 ZC.M;have G31:=Cv ZR.F T (gn u) G46 b46 ZC.M ⟨G25,b25,p.k,(p.m X G)⟩;have G32:=BR (P:=l.prog) (w:=w) (base:=base) (mg:=mg) ZQ.F;have G33:=BV (P:=l.prog) (w:=w) (base:=base) ZP.F T;have G34:=BY ZO.F T (gn b) (gn z) ⟨G33,b33,ZP.k,ZP.m X G⟩;have G35:=Ck ZN.F T (gn j) (gn b) ⟨G34,b34,ZO.k,ZO.m X G⟩ ⟨G32,b32,ZQ.k,ZQ.m X G⟩;have G36:=Cn ZM.F T (gn f) ⟨G35,b35,ZN.k,ZN.m X G⟩;have G37:=Cw (P:=l.prog) (w:=w) (base:=base) ZL.F T;have G38:=Cz (P:=l.prog) (w:=w) (base:=base) ZK.F T;exact ok_law ZJ.F T ⟨G25,b25,p.k,(p.m X G)⟩ ⟨G29,b29,ZT.k,ZT.m X G⟩ ⟨G31,b31,ZR.k,ZR.m X G⟩ ⟨G30,b30,ZS.k,ZS.m X G⟩ ⟨G38,b38,ZK.k,ZK.m X G⟩ ⟨G37,b37,ZL.k,ZL.m X G⟩ ⟨G36,b36,ZM.k,ZM.m X G⟩ Gs bs (gm ys.a) ys.k
def walk {l:W.OpenLaw}{q:Program}{b:List Str}{t:(Str→Option Value)→Heap→Prop}{i:World→Heap→Prop}{d:DefRec}{K:Params→W.Frag}(j:l.most=some 63)(c:d.params.defaults=[])
  (p:∀(w:World) (h:Heap),i w h→(K w.params).In h)
  (F:∀(w:World) (mg:Str→Option Value) (g:Addr) (h:Heap),(K w.params).In h→h.Ns mainGlobals mg→mg d.name=some (.ref g) →
   ∃e:FuncData,(∀(s:Shared) (u:Value),BindsTo s e ⟨[u],[]⟩ [("_law_script",u)])∧∀base:Heap,(K w.params).In base→base.Ns mainGlobals mg→aD l.prog w (K w.params) mg base CX0 10 g e ["_law_script"] (mr (K w.params))) :
  W.WalkO q b t i l.row.toRowW d [] (λf vs=>PySem.call f vs) :=
 L2.walk_of (n:=63) (k:=10) (x:="_law_script") (CX:=λ_=>CX0) (sp:=λw=>mr (K w.params)) j (by decide) c ⟨rfl,by decide,by decide,rfl⟩ p F (λ_ _ a ns o _ r=>⟨a,ns,rfl,r,o,λ_=>rfl⟩) λ_ _ _ _ _ z=>z
end H54
inductive PySem.W.Fast:Prop|tw2817595628572573767|tw16362160988516317709|tw12002171754827650651|tw1251314646431197530|tw11437217918806397467|tw11849187698679108640|tw17254770254671865232|tw18435906914645559876|tw10714560260943723912|tw11645056153960083740|tw13983685073860186238|tw8681017309588820868|tw7104653137936281586|tw17208014135621558731|tw11863326642764329372|tw3411916126597057705|tw1995822974659417863|tw14464205132484169881|tw14234249874951839218|tw17509547428071023423|tw12994125439880123696|tw14000241155414917934|tw9344145155819127145|tw6447107155106085662|tw2243533119352971440|tw12351395313943253177|tw18308580199865528869|tw6981548721979763865|tw13983582965010675685|tw14035028735934166600|tw10091173431936496418|tw8413556276671891740|tw11684977212650908818|tw4768218962454650783|tw5299102508577348934|tw5466156391936328217|tw12290755899570437678|tw12713118284186835615|tw8696236577926903667|tw12324701197677943281|tw9747417117109428388|tw17129273004311693542|tw1226003526790941927|tw10523268252325554876|tw2483238911243098101|tw16607543698293131981|tw2705562639308931131|tw16533311312735360074|tw7266813458927190815|tw9012855801041582895|tw10126613881228208421|tw3515262807664132830|tw8254647320416351494|tw2975720208009645552|tw14548422936046204670|tw6123011065900921182|tw2459403651637135323|tw13053940765047587192|tw9115377750918973769|tw10331412658986983890|tw5452932783729975801|tw14253034843638793313|tw15754844488149665698|tw2738140003454938820|tw4237018962002317007|tw12095806340624516840|tw827092908498416323|tw16611678018204772249|tw10650406685065608498|tw5138405090478796261|tw15646283051809719761|tw8083192933775595498|tw12929442696223356137|tw12857503927599428843|tw38587915904873310|tw5137438545929775107|tw16762477496664069671|tw15004971774588858240|tw15702914715408742750|tw3694138535807732020|tw13526153911600915204|tw6445092800854533862|tw12122487771821409333|tw8440486269851209101|tw1969823666544602759|tw2945651557964084249|tw13590094468061229997|tw458877360640467576|tw2477233859556314824|tw10231037876896480853|tw6444985639087774382|tw18435085976905778998|tw17083839859538191869|tw15181077900854168880|tw2713176308254325912|tw1843592782487221036|tw3571271184498700259|tw3126471951568451862|tw1051914731892869641|tw11358218694723018162
namespace PySem.W.Fast
def tw14491421866380491818:=0
def tw17726825333775859513:=0
def tw997327296936351463:=0
def tw5579374771613367753:=0
def tw1350705834989861896:=0
def tw6878488659536691077:=0
def tw17985697777551519658:=0
def tw4852598857294897932:=0
def tw15492474487221061989:=0
def tw9800449038148072294:=0
def tw934764840547070759:=0
def tw14783971892406031169:=0
def tw1630552382435228740:=0
def tw10740283151804767305:=0
def tw11339832266095262063:=0
def tw18128100851753190696:=0
def tw16479778154830313850:=0
def tw10496287107489004873:=0
def tw3258291831409863547:=0
def tw13896541972787613638:=0
def tw12524370942064824477:=0
def tw5980161347226370979:=0
def tw6364001683465824437:=0
def tw2993393504325664637:=0
def tw124726327028450305:=0
def tw5543830041139142496:=0
def tw581277555950033678:=0
def tw7926199133712342501:=0
def tw5624475882316867019:=0
def tw2440059570254683346:=0
def tw5660329822746948266:=0
def tw3557504182481701031:=0
def tw13944812174003231314:=0
def tw6844912588092582532:=0
def tw1428837729715462337:=0
def tw4085651984084691347:=0
def tw13367674228402555780:=0
def tw12644213592409477250:=0
def tw4763566896938108778:=0
def tw9069793403630260623:=0
def tw11670388221284539645:=0
def tw2359649177818225535:=0
def tw16072379221849893132:=0
def tw6461382957603952466:=0
def tw13062496561374950283:=0
def tw621572557889248117:=0
def tw7132772912998797825:=0
def tw6455756839967109646:=0
def tw15100653235041189544:=0
def tw5253327633691937741:=0
def tw3848494835066313274:=0
def tw10913148326699648963:=0
def tw5442779080168765381:=0
def tw12864262162358951591:=0
def tw5984032322026773361:=0
def tw8271630842709717250:=0
def tw17804080065998775474:=0
def tw11069274307181518450:=0
def tw766321928103644176:=0
def tw6112154355165483672:=0
def tw18419998813516081606:=0
def tw5627386134731892731:=0
def tw8974450913461292239:=0
def tw4057780303117166321:=0
def tw14928965295358104200:=0
def tw10471544381259326365:=0
def tw9308070759109668447:=0
def tw10569369314667966649:=0
def tw14690522870927047838:=0
def tw14440956720425135609:=0
def tw14018606894520050768:=0
def tw18431651500493335117:=0
def tw10980704282530990878:=0
def tw11148514360439759752:=0
def tw11707354961989776208:=0
def tw14295561808447692436:=0
def tw2078580091868641228:=0
def tw3937310359630077432:=0
def tw4392517739288254968:=0
def tw6200467130749037250:=0
def tw1580011672522869702:=0
def tw1567126270931628357:=0
def tw12303158190218823633:=0
def tw14452796186753888670:=0
def tw10537500442097058923:=0
def tw189779348144000566:=0
def tw942673003927120452:=0
def tw15573430326510371082:=0
def tw4781745826274833922:=0
def tw5812884507936905964:=0
def tw5792452556815379909:=0
def tw4855952394645620023:=0
def tw9366621587198563056:=0
def tw4552031996927607503:=0
def tw4613826435174875187:=0
def tw9241263606334514999:=0
def tw17875646304939335386:=0
def tw4765069585119490934:=0
def tw16277103036533982494:=0
def tw16357290655723994601:=0
def tw3442061758857867332:=0
def tw7933303210536234624:=0
def tw14629879065125690476:=0
def tw17412110599264202557:=0
def tw10351798388810367910:=0
def tw12797063538458707684:=0
def tw16744246184088102238:=0
def tw5390877405859281847:=0
def tw17814316296142891283:=0
def tw5720942259966186275:=0
def tw2043490653111689649:=0
def tw15973205304061247563:=0
def tw6124441724964118032:=0
def tw9711776703697135202:=0
def tw14160628407681057756:=0
def tw2446280479844016465:=0
def tw15628882771902127479:=0
def tw2342978125225679837:=0
def tw4743330019275521798:=0
def tw409140467066981654:=0
def tw1153647803301414627:=0
def tw9414429740248613263:=0
def tw11680991870501334525:=0
def tw12670303943730612368:=0
def tw18324038332449127208:=0
def tw1508553712406355019:=0
def tw12715419129908544123:=0
def tw3170482669311751001:=0
def tw17158232403291723951:=0
def tw1568793917916743478:=0
def tw6212224104019495678:=0
def tw2344782648715190911:=0
def tw7929777352582121529:=0
def tw983373085528615817:=0
def tw16571071166451586338:=0
def tw16659204166491475042:=0
def tw5980070705502665301:=0
def tw14360816107418279726:=0
def tw3953258226735144742:=0
def tw11417109226344687024:=0
def tw12872148401269978289:=0
def tw3432337848772400654:=0
def tw3444393914552555270:=0
def tw15258332992919015294:=0
def tw1915933098436409825:=0
def tw4549999230871989240:=0
def tw13444280128164077100:=0
def tw17720573066644350633:=0
def tw18073958658059030576:=0
def tw6425228423219659850:=0
def tw18127036553293025650:=0
def tw16538596331606528211:=0
def tw6104519933335981104:=0
def tw15648028841551803213:=0
def tw3235443530234697874:=0
def tw13034843929588422556:=0
def tw10357853811496247317:=0
def tw14293528552050457252:=0
def tw11297508293797526659:=0
def tw9129350842791094354:=0
def tw7774313059625935950:=0
def tw12742330187107571776:=0
def tw8736764176935350069:=0
def tw12082092569743537187:=0
def tw13499164328489446162:=0
def tw13413485073656230311:=0
def tw173813538278155727:=0
def tw4436515887109664039:=0
def tw17567902588654999783:=0
def tw8166032286411955027:=0
def tw7539374021648083764:=0
def tw12097608435066739537:=0
def tw10801548708238172097:=0
def tw12476355434372939310:=0
def tw1392267340287893427:=0
def tw8526905091080051053:=0
def tw16098889534868366343:=0
def tw8223968714477973740:=0
def tw14733336588796680419:=0
def tw14684792541379430208:=0
def tw6768248899981265160:=0
def tw3008880154894921784:=0
def tw2646565501793738182:=0
def tw10447182834666570316:=0
def tw11889897599009467807:=0
def tw15317329484869671227:=0
def tw7196378068849802309:=0
def tw15034423062807962297:=0
def tw10924750560609549784:=0
def tw4108548074884078880:=0
def tw11684733919161603116:=0
def tw14144684505946553272:=0
def tw781008242148948305:=0
def tw14864089403835179044:=0
def tw13726182576701205848:=0
def tw4492187985325660076:=0
def tw455969017185724767:=0
def tw4090312192734117046:=0
def tw11618171337162008222:=0
def tw10692594605168367486:=0
def tw6997049976243722585:=0
def tw6202887567508876010:=0
def tw18442027654987728597:=0
def tw15547189944746149783:=0
def tw4380484427752914524:=0
def tw9776024515562646533:=0
def tw7725610381409669086:=0
def tw12370510070323135888:=0
def tw18299560755023202030:=0
def tw2055914579047426975:=0
def tw5237301195324675318:=0
def tw7677525470362945830:=0
def tw8481784302830626335:=0
def tw14110259846494963337:=0
def tw458694306110861067:=0
def tw9894083941327582172:=0
def tw17463010412456052909:=0
def tw1392396283385688374:=0
def tw16241671171258197037:=0
def tw2562857262613393716:=0
def tw3972985607900565347:=0
def tw2490123436124571876:=0
def tw4583503771943206494:=0
def tw18369718957552572409:=0
def tw3016702278191735797:=0
def tw14366081848969931725:=0
def tw15784257331720606439:=0
def tw5532372775031917459:=0
def tw8362734855740587721:=0
def tw4820169654793411811:=0
def tw5151082157118682058:=0
def tw15966450711212035245:=0
def tw1845156512061893171:=0
def tw12183187695474179833:=0
def tw5763482192452437297:=0
def tw9795387351351471649:=0
def tw5889270218565437058:=0
def tw8285240757297874243:=0
def tw8424757422491990106:=0
def tw17232099697244853608:=0
def tw14878930548902214743:=0
def tw654012620889755928:=0
def tw10089719768737917682:=0
def tw7595526259280222661:=0
def tw15626057320370963603:=0
def tw4438734050526911733:=0
def tw10299965830228117078:=0
def tw3303903225893129963:=0
def tw13734553815078618243:=0
def tw2489604234175495811:=0
def tw11546836232830071984:=0
def tw8085568653367456820:=0
def tw3727517647940249192:=0
def tw13002438072771202770:=0
def tw17193316240840166237:=0
def tw9977037469306629630:=0
def tw11390543503316631479:=0
def tw6307681877173602890:=0
def tw7737625157901218471:=0
def tw232915715612688275:=0
def tw10757480950005357558:=0
def tw3966170558743727489:=0
def tw10025667910133243323:=0
def tw4725799950518478339:=0
def tw9794580325375524432:=0
def tw5619431522151911158:=0
def tw9227160323130530365:=0
def tw15503384748084521167:=0
def tw14240862017806485039:=0
def tw17446240313292088574:=0
def tw14469535902284070418:=0
def tw4344644525724128150:=0
def tw5575329179103828334:=0
def tw8447354573619234584:=0
def tw3658974236760909702:=0
def tw7822694685182755022:=0
def tw6747132630234061495:=0
def tw10994561344785254213:=0
def tw14070632969491810112:=0
def tw3972733246912809242:=0
def tw3060881501338904938:=0
def tw17054736145763655824:=0
def tw13052588046177535638:=0
def tw17786242132087764054:=0
def tw3464794285899373790:=0
def tw5633146966573477490:=0
def tw2284872807438623800:=0
def tw14075764547171661978:=0
def tw2379801657427112977:=0
def tw6166811078691778962:=0
def tw2386575680612339980:=0
def tw6828188400453568082:=0
def tw3747550934715995650:=0
def tw2879949858688235675:=0
def tw15101263811662776798:=0
def tw5877930960103730615:=0
def tw12655340218467170345:=0
def tw611857197535865785:=0
def tw3220071553368460119:=0
def tw7306450905050267086:=0
def tw5896157235268127598:=0
def tw3722977532081568776:=0
def tw13871816260532197055:=0
def tw12492415383102774876:=0
def tw6886493065491841367:=0
def tw15440471982382629537:=0
def tw12294930365156614074:=0
def tw15135950329667319888:=0
def tw8084678184435060386:=0
def tw8440699138452641521:=0
def tw2392847818724397267:=0
def tw17439829131690405948:=0
def tw16932260122722026062:=0
def tw15139688223477628855:=0
def tw14619768924203322176:=0
def tw9804720941441457875:=0
def tw4679945027892409805:=0
def tw1053188158198915248:=0
def tw12831335553776766746:=0
def tw9632332423543727219:=0
def tw254290235919250092:=0
def tw12607262811984977591:=0
def tw17478044740337239015:=0
def tw7115204908997036096:=0
def tw812356299935245725:=0
def tw3525905450404059252:=0
def tw13223517672684751351:=0
def tw3983070788267564027:=0
def tw13111690108066635337:=0
def tw16109432128741924942:=0
def tw7180457958159708531:=0
def tw1015843469231911999:=0
def tw4881590037846460105:=0
def tw4800308726710349206:=0
def tw12594947760462327930:=0
def tw12217344193424477768:=0
def tw16746987668890707718:=0
def tw13559512105811350127:=0
def tw2221241120007072351:=0
def tw14028675610822358406:=0
def tw14506491746499655982:=0
def tw12099803663633350101:=0
def tw11219718511203381859:=0
def tw6159298299398777152:=0
def tw5643261259218566030:=0
def tw11071302653956732655:=0
def tw2827814258852461792:=0
def tw9089163613808339853:=0
def tw6831081975483557201:=0
def tw10852522910014706338:=0
def tw17560149185306961119:=0
def tw3686366240334222152:=0
def tw15733804347359433850:=0
def tw6036025852817077415:=0
def tw3505706937592256801:=0
def tw3728482106549463979:=0
def tw7337779762480477442:=0
def tw8117394146170538475:=0
def tw9177894479151963739:=0
def tw15214665562638432048:=0
def tw6024026833403253341:=0
def tw8372905664039782556:=0
def tw2081064896770520997:=0
def tw4885756187087885655:=0
def tw2666070872332253533:=0
def tw9963777755525257246:=0
def tw2400340372752247150:=0
def tw6185300383595612062:=0
def tw15556426214364352772:=0
def tw10135964640693460545:=0
def tw18390596435973873464:=0
def tw6602211115477329151:=0
def tw14202938870248603526:=0
def tw5025835518529726769:=0
def tw12002734374440090193:=0
def tw10211398212578580095:=0
def tw3863990168127254419:=0
def tw9957223162881774884:=0
def tw11940353650113977576:=0
def tw16066979263654861141:=0
def tw5615200724585586776:=0
def tw16000512437671092220:=0
def tw15377723383297740536:=0
def tw17152072795177396912:=0
def tw568122961067025501:=0
def tw4120017506953446422:=0
def tw17197553868927593029:=0
def tw15388893595278588265:=0
def tw2110957914938369115:=0
def tw9930081322499948900:=0
def tw6196196999975189857:=0
def tw6495453693415446555:=0
def tw14932925961732977161:=0
def tw3864168118329595461:=0
def tw18272389040065748201:=0
def tw8361008555129015920:=0
def tw2941521408534359664:=0
def tw246735968589666783:=0
def tw5049859378949396889:=0
def tw8902976489990114433:=0
def tw17802809662061972560:=0
def tw17602384651427575893:=0
def tw3347418589609606073:=0
def tw10497474894509325091:=0
def tw18367517530306102460:=0
def tw10108154776645511573:=0
def tw6098160625964426065:=0
def tw3112655113324309630:=0
def tw2459000951719311331:=0
def tw6945544574443447080:=0
def tw12895273878253841327:=0
def tw17435205169091563046:=0
def tw13857006525264973580:=0
def tw1974814104064407992:=0
def tw12051024053479263400:=0
def tw11838389835999006496:=0
def tw13160765242999451227:=0
end PySem.W.Fast
open PySem PySem.W PyProof.Rows
set_option maxRecDepth 100000 in
set_option maxHeartbeats 0 in
theorem PySem.Challenge.cw_yesorno_k54_plain_search_holds : PySem.Challenge.rw_yesorno_k54_plain_search.Holds := by
 w_on;o_law;k_head;(case hw=>w_witness2)
 k_fill
 refine H54.walk (l:=PySem.Challenge.rw_yesorno_k54_plain_search) rfl rfl (λw h Y=>W.kIn_of Y) ?F
 case F =>
  intro w mg fa h KX G hmg;apply H54.all_mk KX G hmg
  iterate 3 ·k_is
  iterate 39 ·exact L2.ft_in (by k_is) (by k_is) (by k_is) (by k_is)
  iterate 23 ·exact L2.fm_in (by k_is) (by k_is) (by k_is) (by k_is) (by k_is)
  iterate 26 ·k_is
  ·kit_is
  iterate 35 ·k_is
  ·exact H54.fd_in (by k_is) (by k_is) (by k_is) (by k_is) (by k_is)
