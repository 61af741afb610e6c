import PyProof.Rows.All
import Wide.All
import OpenK.AllK
import Wide.FinOn
import Lean
import PyProof.EqAt
import PyProof.EqKinds
import PyProof.TupleCall
import PySem.Challenge.RW_yesorno_k98_follows
set_option bootstrap.genMatcherCode false
set_option Elab.async false
set_option linter.all false
set_option compiler.extract_closed false
set_option genSizeOf false
set_option maxRecDepth 100000
set_option maxHeartbeats 8000000
namespace J
open Lean
def n(k:Name)(a:Array Syntax):Syntax:=.node .none k a
def t(s:String):Syntax:=.atom .none s
def q(s:String)(a:Array Syntax):Syntax:=n (.str `Lean.Parser.Term s) a
def c(a:Array Syntax):Syntax:=n `null (a.foldl (λb x=>if b.isEmpty then #[x] else (b.push (t ",")).push x) #[])
def a(x:Array Syntax):Syntax:=if x.size<2 then x.getD 0 .missing else q "app" #[x[0]!,n `null (x.extract 1 x.size)]
def l(x y:Array Syntax)(s:String):Syntax:=
 let r:=(s.drop 1).toString
 let h:=q "hole" #[t "_"]
 let f:=s.front
 if f=='$' then x[r.toNat!]! else if f=='%' then y[r.toNat!]! else if s=="_" then h else if s=="?_" then q "syntheticHole" #[t "?",h] else if f=='.' then q "dotIdent" #[t ".",mkIdent r.toName] else if f.isDigit then n `num #[t s] else if f=='"' then n `str #[t s] else mkIdent s.toName
def g(s:String)(e:Array Syntax):Syntax:=if s=="⟨" then q "anonymousCtor" #[t s,c e,t "⟩"] else if s=="[" then n `«term[_]» #[t s,c e,t "]"] else if s=="(" then e[0]! else q "namedArgument" #[t "(",mkIdent (s.dropEnd 2).toString.toName,t ":=",e[0]!,t ")"]
def k(x y:Array Syntax):Nat→List String→Array Syntax→Array Syntax→Option (String×Syntax)→Array Syntax×List String
|0,r,_,e,_=>(e,r)
|m+1,r,b,e,p=>
 let z:=e.push (match p with|none=>a b|some (o,w)=>if o=="→" then q "arrow" #[w,t o,a b] else n (.mkSimple ("term_"++o++"_")) #[w,t o,a b])
 match r with
 |[]=>(z,[])
 |v::r=>if [")","⟩","]"].contains v then (z,r) else if v=="," then k x y m r #[] z none else if ["(","⟨","["].contains v then
   let (s2,r):=match v,r with|"(",q::r'=>if q.endsWith ":=" then (q,r') else (v,r)|_,_=>(v,r)
   let (u,r):=k x y m r #[] #[] none
   k x y m r (b.push (g s2 u)) e p
  else if ["=","≠","≤","<","∈","∉","∧","∨","→","+","++","::","-","×"].contains v then k x y m r #[] e (some (v,a b)) else k x y m r (b.push (l x y v)) e p
def w(s:String):List String:=((s.foldl (λ(b:List String×String) d=>if "()⟨⟩[], ".contains d then (if d==' ' then (if b.2=="" then b.1 else b.2::b.1,"") else (d.toString::(if b.2=="" then b.1 else b.2::b.1),"")) else (b.1,b.2.push d)) ([],"")) |>(λb=>if b.2=="" then b.1 else b.2::b.1)).reverse
def u(s:String)(a:Array Syntax):Syntax:=n (`Lean.Parser.Tactic++s.toName) a
def p:Nat→Syntax→Syntax
|0,s=>s
|m+1,s=>if s.isIdent then u "rcasesPat.one" #[s] else if s.getNumArgs<2 then u "rcasesPat.ignore" #[t "_"] else u "rcasesPat.tuple" #[t "⟨",n `null (s[1].getArgs.map λx=>if x.isAtom then x else u "rcasesPatLo" #[u "rcasesPatMed" #[n `null #[p m x]],n `null #[]]),t "⟩"]
theorem x{a:Prop}(h:∀G:Prop,(a→G)→G):a:=h a id
def T:="
V_a FT K $0 $0 $1 $2 $3
Ja some (.ref $0)
Xa $0 = some $1
Qa aa (pv $0) $1
Va upd $0 $1 (.lst $2)
Xb wpAny (model $0 $1) $2 $3 $4 $5 $6
Qb Xa $0 (.lst $1)
Vb Inv $0 pins $1 $2 $3
Jc W.nsIn $0 mainGlobals $1
Xc ae $0 (ae $1 $2)
Qc aa $0 ac
Vc starEach $0 X.env
Jd cz PySem.F.plainAttrs_list $0 $1 $2 $3 $4
Xd aS $0 $1 $2 $3 base $4 $5 $6 $7 $8 $9
Qd ⟨$0,rfl,$1⟩
Vd .inl (SqL.of $0)
Je some (.int $0)
Xe List.mem_cons_of_mem _ $0
Ve Jd PySem.F.slot_list_append PySem.F.type_list_append $0 $1 $2
Jf List ($0 × $1)
Vf ⟨$0,rfl⟩
Jg aI $0 (pv $1) $2
Xg ap $0 H'
Qg W.findIn $0 (.ref $1) $2
Vg eval $0 X.env
Jh Hu $0 $1 $2 $3 $4 $5 $6 most $7 $8 $9
Xh Xa (H $0) $1
Vh Qa $0 ac
Qi aj (aT $0)
Vi $0 ≤ sizeLine
Jj List.mem_append_right _ $0
Xj nwH $0 (.lst $1)
Qj ⟨$0,$1,?_⟩
Vj aN $0 $1 (ai $2)
Jk absurd $0 Bool.false_ne_true
Qk Xa (X.env.kindOf $0) $1
Vk au $0 $1 rfl $2 $3 $4 .nil $5 $6
Jl $0 = Value.ref $1
Xl Q (.ref $0) $1
Ql Xa (X.env.cells.lookup $0) $1
Jm aw $0 $1 $2 %7
Qm some (.builtin $0)
Qn aB $0 $1 rfl (Or.inl rfl) $2
Vn Vb $0 σ $1 $2
Jo FB $0 $1 $2 $3 base $4 $5 $6 $7 $8 $9 $10
Xo upd $0 $1 (.dK $2)
Qo wpAny_bind (wpAny_pure $0)
Xp model X.prog $0
Qp .cons $0 (.cons $1 $2)
Vp List (List $0)
Jq Nat.lt_of_lt_of_le (hLq $0) $1
Xq model prog $0
Qq Xa (W.kitOne $0 $1 $2) $3
Vq $0 = true
Jr Vk $0 $1 $2 $3 $4 $5 (Qa $6 $7)
Xr List.mem_append_left _ $0
Qr .inl ⟨$0,$1⟩
Js aV (pv $0) rfl
Xs ⟨$0,$1,$2,rfl,$3⟩
Vs relabel scope $0
Jt upd $0 $1 (.tup $2)
Xt [\"problem\",$0]
Qt $0 < s.heap.objs.size
Xu br $0 (Sum.inl $1)
Qu $0 = none
Vu Qu (H $0)
Jv ⟨$0,$1,rfl,$2⟩
Xv nwH $0 (.tup $1)
Vv s.heap.objs.size + $0
Jw Jm K $0 $1
Vw eG $0 $1 $2 $3 %0 %0 $4 $5 %0 $6 $7 $8 $9 $10
Jx Q (.bl $0) $1
Qx OpR $0 (compareOp $1) $2
Vx Nat.le_trans $0 %1
Jy Jg $0 $1 af
Xy Xa (H' $0) $1
Vy Vn X $0 $1
Jz SqL K $0 $1 $2
Xz List.mem_map.mpr ⟨$0,$1,$2⟩
Vz [.ref $0]
JA cL $0 $1 $2 PyProof.Rows.Boot.tuple $3
XA lrn $0 ts $1 $2
QA Xa $0 none
VA p.natAbs ≤ $0
XB aa $0 (Qc $1)
QB $0 = .ref $1
VB aF $0 rfl $1 $2 $3
JC Jy aQ $0
XC Has.tup' $0 (ar.ints $1)
QC SqT K $0 $1 $2
VC $0 < cLine
XD Qb (H $0) $1
QD Vy H $0
VD Calls.callWith_builtin $0 (Calls.evalArgs_plain $1)
XE upd H $0 $1
QE ⟨$0,SqL.of $1⟩
VE PE X $0 $1
JF cg $0 $1 %4
QF .ins C $0 $1
VF backTo $0 (Vc $1)
JG List.mem_filter.mpr ⟨$0,$1⟩
XG [$0,\"_law_parts_here\",$1]
QG Qu (mg $0)
VG XG \"_law_problem_here\" $0
JH Xc (Qn $0 $1 $2) $3 $4
XH ar K $0 $1 $2
VH ah $0 $1 rfl (Or.inl rfl)
JI wpAny_bind (wpAny_holding $0)
QI Qd _ $0
VI ⟨$0,?_⟩
JJ .Call (.Name $0 $1) $2 $3 $4
XJ cnt (ts.take $0)
QJ lvF ts $0
QK fZ $0 $1 $2 %0 %0 %0
JL ⟨%1,$0⟩
QL $0 → Option $1
VL [\"self\",$0]
JM Xg $0 → $1
QM $0 = false
VM ts.length - $0
JN Qj _ $0
QN absurd $0 %4
VN ns.getD $0 0
JO wpAny_pyIter_list $0 ?_
QO envOfC $0 $1 s.heap.objs.size $2 $3
VO ⟨$0,$1,rfl,$2,$3⟩
JP PySem.W.kia_one $0 I.kIn $1 $2 $3 $4
QP Has.lst' (SqL.of $0) $1
VP Xa (sc.names.lookup $0) $1
JQ Qb (H' $0) $1
VQ Xd $0 w $1 mg CX0 $2 $3 $4 $5 $6
QR VQ P K $0 $1 $2 $3 $4
VR absurd z $0
QS VB $0 $1 bLq $2
JT Xy $0 (.tup $1)
QT ⟨$0,rfl,$1,$2,$3,$4⟩
VT hr.mono $0 %1
JU [$0,.ref $1]
QU absurd %0 $0
VU XA Rs $0 $1
QV ps.length ≤ $0
VV JU (.str $0) $1
JW Inv X $0 $1 $2 $3
QW fw $0 $1 $2 $3 (PyProof.Rows.callWith_type1 $4 $5 $6)
VW ay $0 rfl
JX Qa $0 (Qc $1)
QX codeAny_builtin $0 ?_
VX Around.under_plainId $0 _
JY U.u.pp.keep $0 U.u.pn
VY bo $0 %2
QZ VO $0 $1 (.inl $2) (.inl $3)
VZ QS $0 T.len $1
J0 X.s₀.heap.objs.size ≤ $0
V0 wpAny _ $0 $1 $2 $3 $4
Q1 wpAny_bind (wpAny_specialOf $0 $1 $2)
V1 $0 ≠ X.env.locals
J2 absurd $0 (Nat.not_lt_zero $1)
Q2 I.hok.fresh (nRq $0)
V2 aX $0 $1 af
Q3 $0 ≤ 1000
V3 Jf $0 Int
J4 wpAny_bind (wpAny_seqItems $0 $1 $2)
V4 Fun K $0 $1 $2 f fd
J5 Vu $0 → $1
Q5 ⟨$0,$1,I.tok $2,$3,$4⟩
V5 zaR (top $0) $1
J6 Xb prog $0 $1 $2 $3 $4 $5
Q6 Jr $0 $1 $2 $3 $4 aJ $5 $6
V6 Qa $0 (Vh $1)
J7 XH H $0 $1
Q7 Q (.int $0) $1
J8 atI [V.str $0,$1] $2
Q8 J8 $0 (V.ref $1) $2
V8 ⟨_,$0⟩
J9 bo %2 $0
Q9 Xb X.prog X.w $0 $1 $2 $3 $4
V9 $0 :: rest
J_ cO $0 (.builtin $1) $2
X_ U.u.kn.keep $0 (dX $1)
V_ Jh K C $0 $1 $2 $3 pr $4 $5 $6
Jaa plainId_quiet PySem.F.plain_max_loop $0
Jab Nat.ne_of_lt (Jq $0 $1)
Jac cL $0 $1 $2 PyProof.Rows.Boot.list $3
Jae [\"_law_things_here\",$0]
Jaf PySem.W.findIn $0 (.ref $1) $2
Jag wpAny_pure (wpAny_pure $0)
Jah wpAny_bind (wpAny_tryCatch $0)
Jai wpAny_bind (wpAny_rule $0)
Jaj Value.int $0 t
Jak absurd $0 %1
Jal VB $0 $1 PyProof.Rows.Boot.abs $2
Jam h $0 List.mem_cons_self
Jan ⟨$0,%4,$1⟩
Jao sIx items.size $0 $1
Jap Xa (K.lookup $0) $1
Jaq wpAny_bind (wpAny_standAt $0)
Jar PySem.W.instObj $0 s.heap.objs.size
Jas $0 = Value.bool $1
Jat tC (.int $0)
Jau U.u.tr.keep $0 (dr $1)
Jax ik $0 $1 $2 $3 %0 %0 $4 $5 %0 $6 $7 $8 $9 $10 $11
Jay Xs (.bl $0) $1 $2 $3
Jaz JU (.ref $0) $1
JaA PW.pt (cG $0 $1)
JaB Heap.SameBut $0 s.heap $1
JaC wpAny_bind (wpAny_typeOf $0 $1)
JaD aj (bD $0)
JaF .inr ⟨$0,$1⟩
JaG X.A.units + $0
JaH bJ $0 (tkv $1)
JaI zbP $0 (Sum.inl $1)
JaJ Xh $0 (.dK $1)
JaL k $0 %4 $1 $2
JaM $0 < sizeLine
JaN Qq $0 (.ref $1) $2 $3
JaO ar.append $0 (ar.one $1)
JaQ TOk $0 ts
JaS [\"_law_things_here\",\"_law_plain_here\",$0,$1]
JaU wpAny_pure ⟨$0,$1⟩
JaW Xa $0 true
JaX Xs (.ref $0) $1 $2 $3
JaY JaX s.heap.objs.size $0 $1 $2
JaZ zby $0 $1 most $2
Ja0 xs.length = $0
Ja1 Qc (Js $0)
Ja2 JaN $0 $1 (.ref $2) $3
Ja3 Loc X.env.scope $0
Ja4 List.replicate $0 none
Ja5 [\"_law_script\",$0]
Ja6 OpR $0 (binaryOp $1) $2
Ja7 bsF $0 (S.ts.take $1)
Ja9 Jw $0 (VL $1)
Ja_ J7 (Rs.map $0) $1
Jba zaz kvs $0 $1
Jbb cc PassesOwn.leaving $0 $1 $2 $3
Jbc Q9 X.A $0 $1 $2 $3
Jbd Jbc $0 $1 X.xe $2
Jbe .builtin $0 ⟨$1,$2⟩
Jbf Rch most $0 $1
Jbg assignEach $0 X.env
Jbh List.replicate k $0
Jbi ps.any (zaO $0)
Jbj VC (JaG $0)
Jbk Has $0 $1 $2 (.ref $3)
Jbl Xa $0 (Qm $1)
Jbm ⟨rfl,$0⟩
Jbn ⟨$0,rfl,$1,$2⟩
Jbo $0 < ts.length
Jbp Addr × $0
Jbq typeLookup (.type $0) $1
Jbr [\"problem\",$0,$1]
Jbs cI (VH $0 $1) $2
Jbw cx (pv $0) T.cl $1 $2 $3 $4 .nil $5 $6
Jbx [\"_law_names_here\",$0]
Jby Jz $0 $1 xs
Jbz ⟨$0,$1,rfl⟩
JbA kvs.length ≤ $0
JbB List.any_eq_true.mpr ⟨$0,$1,$2⟩
JbC a_ $0 (Ar.deeper $1)
JbE cnt (S.ts.take $0)
JbG aZ S.rs S.ts $0
JbH wpAny_of_eq $0 $1 ?_
JbI .Name x $0
JbJ bp %7 $0
JbK Xa (Jc $0 $1) $2
JbL [\"self\",$0,$1]
JbM JbL \"part\" $0
JbN cm (Jat $0) $1
JbO call (.builtin $0) $1
JbP Xh $0 (.tup $1)
JbQ wpAny_bind (wpAny_bind $0)
JbR I.hok $0 _ $1
JbS typeOf (.ref $0)
JbT .inr (SqT.of $0)
JbU Jv $0 $1 rfl
JbX QC $0 $1 (ps.map V.int)
JbY List.length_filter_le _ $0
JbZ aY Rs $0
Jb0 ⟨$0,rfl,$1,$2,$3,$4,$5,$6,$7,$8,$9,$10⟩
Jb3 JbL $0 \"other\"
Jb7 V_ $0 $1 $2 A $3 hs $4
Jb8 za9 (JbJ $0)
Jb9 swapsWith $0 $1 $2 X.env
Jb_ a_ $0 (A.deeper $1)
Jca .ok (.ret $0)
Jcb cc PassesOwn.never rfl $0 $1 $2
Jcc Jcb $0 (VH $1 $2) $3
Jcd Jbm (I.turned $0 $1 $2 $3 $4 $5 $6)
Jce Nat.ne_of_lt (hLq $0)
Jcf $0 = Value.none
Jcg JM $0 (J5 $1 $2)
Jch aq (bV $0 $1)
Jci $0 ≤ ts.length
Jcj aA $0 (pv $1) $2
Jck Y.mono $0 %1
Jcl Z.mono $0 %1
Jcn Txt $0 mg aK $1 $2 $3
Jco Jcn $0 $1 $2 CM
Jcq absurd $0 (Nat.lt_irrefl $1)
Jcr Jby H $0
Jcs some (.str $0)
Jct Q (.str $0) $1
Jcv aO $0 $1 $2 $3 $4 base $5 $6 $7 $8 $9 $10 outer $11 $12 $13
Jcw cY (cD $0)
Jcy Qu (X.mg $0)
Jcz Nat.le_trans I.ok.bsz $0
JcA wpAny_pyIter_tuple $0 ?_
JcB bX bY $0
JcC XG \"_law_things_here\" $0
JcD J8 $0 (V.str $1) $2
JcE JaS $0 \"_law_parts_here\"
JcG aZ $0 ts $1
JcH JcG Rs $0
JcI Xc $0 $1 (Qi $2)
JcJ bU X.prog X.w $0 $1 $2 $3
JcK Jb7 $0 $1 $2 $3 R
JcL absurd rfl $0
JcM PySem.W.keepIn $0 (.ref $1)
JcO zaf X N' scope $0 $1 $2 $3
JcP XE $0 (.own $1)
JcQ VZ $0 (Vh $1)
JcR Jco K $0 CP
JcS JcK $0 $1 $2 S
JcT JcS $0 O $1
JcU cv $0 $1 (cnt $2) $3 $4
JcV QS $0 TB.len $1
JcW JcD \"plain\" $0 $1
JcX ⟨$0,$1,$2,rfl,$3,$4,$5,$6⟩
JcZ $0 → Xl $1 $2
Jc0 JcZ $0 $1 H'
Jc1 upd $0 $1 (QF $2 $3)
Jc2 JaJ $0 kvs
Jc4 Q6 $0 $1 $2 $3 $4 $5 (Qc $6)
Jc5 JaD (Jbw $0 $1 $2 $3 $4 $5 $6)
Jc6 bc $0 us
Jc7 Int × $0
Jc8 [.int $0,$1]
Jc9 Jc8 $0 (.int $1)
Jc_ tO (nRq $0)
Jda CX1 P $0
Jdb [\"_law_cell\",$0]
Jdc gJ %1 $0
Jdd ae $0 (Qi $1)
Jde Xa (scope.names.lookup $0) .local
Jdf List.replicate m $0
Jdg aW $0 _
Jdh Vf (Jdg $0)
Jdi List.take_append_of_le_length (nRq $0)
Jdj [$0,.ref $1,$2]
Jdk Jdj (.ref $0) $1 $2
Jdl Jdk $0 $1 (.int $2)
Jdm assignInOrder_cons (wpAny_bindName $0)
Jdn findIn $0 (.ref $1) $2
Jdo [\"_law_problem_here\",$0,$1,$2]
Jdq Jdo \"_law_names_here\" \"_law_parts_here\" $0
Jdr QL $0 Value
Jdt base.Ns mainGlobals $0
Jdu wpAny_bind (wpAny_letGo $0)
Jdv JcT $0 H
Jdw .int $0 t
Jdx .cons $0 .nil
Jdy $0 = .function
Jdz Clo $0 scope $1
JdA ys.length = $0
JdB bsz $0 %5
JdC Xs $0 rfl $1 $2
JdD QT $0 $1 rfl $2 $3
JdE Jbs $0 $1 (Jbs $2 $3 $4)
JdF HT.sIx xs.length $0 $1
JdG PW.pt (gc $0 $1)
JdH ap $0 (Jt $1 $2 $3)
JdI XC (SqT.of $0) $1
JdJ V2 $0 (pv $1)
JdK J7 (ts.map $0) $1
JdN ix1 (QZ $0 rfl rfl rfl)
JdO .BoolOp $0 $1 pos
JdP ns.length ≤ $0
JdQ Builtin.Tuple.tupleItemsOf (.ref $0)
JdR ts.length ≤ $0
JdS Vq (X.fn $0)
JdT Vq (zaM $0)
JdU Q5 (.int $0) $1 $2 $3 $4
JdV wpAny_Call_method_late $0 $1 $2 rfl $3
JdW List.take_append_drop i $0
JdX aa $0 (aa $1 $2)
JdY .int 2000 $0
JdZ gb $0 $1 $2 PyProof.Rows.Boot.tuple $3
Jd0 Qk $0 .free
Jd1 Qk $0 .cell
Jd2 $0 ∧ VA $1
Jd4 JaH %7 $0
Jd5 Ja2 $0 $1 $2 false
Jd6 U.at' $0 rfl rfl
Jd7 Jd2 $0 As.length
Jd8 Walks.list $0 $1 $2 $3 a.toArray
Jea a.toArray.size - $0
Jeb ⟨$0,pl.isList.push $1⟩
Jec A.units + $0
Jed VC (Jec $0)
Jef $0 ∈ abc.cps.toList
Jeg $0 = s.heap.objs.size
Jeh Xa (S.wt $0) $1
Jei Vq (W.excIn $0 $1 $2 $3)
Jej JU (.int $0) $1
Jek W.exmOne $0 (.ref $1) (.ref $2)
Jem i_ $0 $1 $2 %1 $3
Jen Q .non $0
Jeo wpAny_call (codeAny_call_builtin $0 $1 $2)
Jep cJ $0 $1 $2 $3 (VI $4)
Jeq JaS \"_law_values_here\" $0
Jer wpAny_passesOwn K $0
Jes .ref $0 :: $1
Jet [s.heap.objs.size,$0]
Jeu u.TypeIs $0 \"list_reverseiterator\"
Jev Jx true $0
Jew V0 A.in1 $0 $1 $2 $3
Jex Jbr \"parts\" $0
Jey JbN $0 (JbN $1 $2)
Jez .inl ⟨rfl,_,SqL.of $0⟩
JeA J.stop i $0
JeB ew $0 $1 $2 (.type $3)
JeC if_pos (dTq $0)
JeD W.mroIn $0 $1 (.type $2)
JeE Qr %1 $0
JeF QR $0 f fd $1 $2
JeG tupleKind (ck $0 $1)
JeH Un $0 $1 $2 $3 s.heap $4
JeJ ys.length ≤ $0
JeK Nat.add_le_add_left $0 _
JeL Has.tup' (SqT.of $0) $1
JeM D.rt (.bl $0) $1
JeN ap $0 (Va $1 $2 $3)
JeO Qr (SqL.of $0) $1
JeP wpAny_Call_Name_kw (iH $0 $1 $2 $3 $4)
JeQ wgt n $0 $1
JeR zat $0 c $1
JeS wpAny_bind (wpAny_tupleItemsOf $0 $1 $2)
JeT ⟨$0,rfl,$1,$2,$3,$4,$5,$6,$7,$8,$9,$10,$11,$12⟩
JeU Qp $0 $1 .nil
JeV Jai (wpAny_pure $0)
JeX $0 :: X.outer
JeY h.IsListIter $0 $1 i
JeZ .call (.ref $0) $1
Je0 Has $0 H $1 $2
Je1 atKey $0 k
Je3 atS kvs $0
Je4 r.length ≤ $0
Je5 Xa (env.cells.lookup $0) $1
Je6 backToKw $0 (keywordEach $1 X.env)
Je7 XD $0 xs
Je9 JaD (Ve $0 $1 $2)
Jfa pyNext (.ref $0)
Jfb s.heap.IsSliceOf $0 $1 $2 .none
Jfc .inr ⟨$0,$1,$2,$3,$4,$5⟩
Jfd b $0 List.mem_cons_self
Jfe $0 ++ L.drop $1
Jff Paired fU $0 $1
Jfg TxB $0 mg $1
Jfh Vq (PySem.W.plainGet $0 $1 $2)
Jfi Vq (W.keepIn $0 (.ref $1))
Jfj JaZ $0 pr $1
Jfk Jdj $0 $1 (.ref $2)
Jfl Jfg $0 CL
Jfn E (.ref $0) none $1
Jfo QC H $0 $1
Jfp Jfo $0 xs
Jfq JbL \"problem\" $0
Jfr JeR $0 r
Jfs xs.map (entryOfKey $0)
Jft $0 :: es
Jfu Vc (Jft $0)
Jfv .inl (lookup_relabel_local $0)
Jfw .inr (lookup_relabel_local $0)
Jfx r.any (zaT $0)
Jfz [$0,\"_law_things_here\",\"_law_parts_here\"]
JfA Vk $0 $1 $2 $3 $4 aJ $5
JfB JH $0 $1 $2 (Qn $3 $4 $5) $6
JfC Jbl (Qg $0 $1 $2) $3
JfD aF $0 rfl T.isi PyProof.Rows.Boot.isinstance $1
JfE JfD $0 (JX $1 $2)
JfF Vis X.env.scope $0
JfG ⟨$0,%7⟩
JfH bindArgs $0 (JfG $1)
JfI List.take_sublist _ $0
JfJ [.ref $0,$1]
JfK JfJ $0 (.int $1)
JfL plainId_quiet $0 _
JfM br kvs $0
JfN aY S.rs $0
JfO absurd $0 %5
JfP gv X.prog $0
JfQ X.tryc pins $0
JfR W.plainGet $0 $1 Str.empty
JfS di $0 $1 rfl %0 %0
JfT Qq $0 $1 (.type $2) $3
JfU Xu kvs $0
JfV QB $0 $1 → $2
JfW VF cpos $0
JfX QT $0 $1 $2 rfl $3
JfZ VU f $0
Jf0 JcQ bO $0
Jf1 JfT $0 (.type $1) $2 $3
Jf2 bn $0 u
Jf3 .Constant $0 $1 pos
Jf4 wpAny_bind (wpAny_updateSeq $0 $1 $2)
Jf5 ⟨$0,rfl,$1,$2,$3,$4,$5,$6,$7,$8,$9,$10,$11⟩
Jf6 ⟨lS0,$0⟩
Jf7 Q8 \"yes\" $0 $1
Jf8 List.nodup_append.mpr (Jan $0 $1)
Jga Jcg $0 $1 (Jc0 $2 $3)
Jgb $0 = Sum.inl $1
Jgc $0 = pure $1
Jge some $0 :: $1
Jgg absurd $0 %0
Jgi $0 ≤ PySem.sizeLine
Jgj JcB (pv $0)
Jgl JfA $0 $1 $2 $3 $4 (Vh $5)
Jgm Jf5 $0 $1 $2 $3 $4 $5 $6 rfl $7 $8 $9 $10
Jgn Builtin.Slice.slicePlaces $0 $1 1
Jgo bs.getD $0 true
Jgp zaz $0 (Sum.inl $1) $2
Jgq aB $0 $1 $2 (Or.inr $3) $4
Jgr [$0,V.ref $1,$2]
Jgs Jgr (V.ref $0) $1 $2
Jgu atI (Jgs $0 $1 (V.ref $2)) $3
Jgv L.mono $0 %1
Jgw x.mono $0 %1
Jgx Jf Str $0
Jgy Qu (H' $0)
JgA bS Rs ts $0 ts.length
JgD Jo P w K mg CX0 $0 $1 $2 $3 $4 $5
JgE J_ $0 \"isinstance\" $1
JgF V_ $0 $1 $2 $3 $4 S.hs $5
JgG JbL $0 \"tables\"
JgH Xo $0 $1 (Jd4 $2)
JgJ Jc8 $0 (.bl true)
JgK PA $0 (Jft $1) $2
JgL I.pin p $0
JgM hG _ $0
JgN cO $0 (.type $1) $2
JgO ⟨%5,$0⟩
JgP Jf Addr $0
JgR PyProof.Rows.envOfC $0 (ai $1) s.heap.objs.size $2 cdv
JgS JgR \"_law_refusals\" $0 $1
JgT QM (behindInMarks $0 $1)
JgU Jab $0 I.ok.above
JgV JbK $0 $1 (some $2)
JgW Jc1 (JcP $0 $1) $2 $3 $4
JgX Jdk $0 $1 (.ref $2)
JgY d.hok.fresh (nRq $0)
JgZ $0 = ps.length
Jg0 absurd (hLq $0) $1
Jg1 N'.length = $0
Jg2 Nat.le_of_lt (cR $0)
Jg3 CmpOf.ints_gt $0 (iv $1)
Jg4 zs.length = $0
Jg6 aA $0 (JC $1) $2
Jg7 Jap $0 ⟨$1,$2,$3,$4⟩
Jg8 JaA $0 (dJ $1)
Jha Jd2 (p ≠ 0) $0
Jhb JeF 1 $0 $1
Jhc $0 × Value
Jhd .Attribute $0 f $1
Jhe congrArg Prod.fst $0
Jhf Wk $0 xs.length $1
Jhg Jf Key $0
Jhh aa $0 (Vh $1)
Jhi JG (List.mem_reverse.mpr $0) $1
Jhj cP (pv 0) $0 rfl
Jhk JdD $0 $1 (V8 $2) $3
Jhl .inr ⟨$0,$1,$2,$3⟩
Jhm I.base.free b $0 $1 $2 $3
Jhn ⟨$0,$1,I.bare,$2,$3,$4,$5,$6,$7,$8,$9⟩
Jhq .Subscript $0 $1 pos
Jhr ⟨$0,$1,$2,$3,$4,rfl,$5,$6,$7,$8,$9⟩
Jhs ⟨$0,$1,$2,$3,$4,rfl,$5,$6,$7⟩
Jht PySem.F.args_dict_get_3 _ $0 $1
Jhu ⟨$0,$1,%5⟩
Jhw cB S.rs S.ts $0
Jhx .ext (fc $0 $1)
Jhy aA $0 $1 af
Jhz dA (.plain $0)
JhB QI (bq $0)
JhC HOk X.prog X.w $0 $1
JhD Value.str $0 t
JhE .cons r $0
JhF s.heap.objs.size ≤ $0
JhG .Assign [$0] $1 $2
JhH xs.length ≤ $0
JhI $0 < 1000
JhJ eval $0 env
JhK .Name $0 py
JhL $0 = S.ts.length
JhM S.cut $0 la
JhN List.nodup_cons.mpr ⟨$0,$1⟩
JhQ bu K $0 $1 p $2 $3 $4 $5 $6 Rs
JhT JhQ $0 $1 tl al rl $2 $3
JhU JhT $0 $1 $2 As
JhV Rs.length ≤ $0
JhW kvs.length + $0
JhX $0 < xs.length
JhY Xa (bootBuiltins $0) $1
JhZ J7 $0 xs
Jh0 JcV $0 (Ja1 $1)
Jh1 .frz $0 (.dK kvs)
Jh2 I.freeC x $0 $1
Jh3 h.Ns mainGlobals $0
Jh4 fvs $0 ix
Jh5 aX $0 (pv $1) $2
Jh7 Jd PySem.F.slot_list_extend PySem.F.type_list_extend $0 $1 $2
Jh8 Vq (peq $0 $1)
Jh9 bQ (XB $0 $1)
Jib bQ (JX $0 $1)
Jic QA (Qg K $0 $1)
Jid JdU $0 $1 $2 (Vf $3) $4
Jie JeT $0 $1 $2 $3 $4 rfl $5 $6 $7 $8 $9 $10 $11
Jif Je0 K $0 $1
Jig Xh $0 (QF dx $1)
Jii HOk P w $0 $1
Jij $0 ≠ \"__name__\"
Jik SqL X.K $0 $1 $2
Jim cy $0 $1 $2 $3 ?_ ?_
Jin Xh $0 $1 → $2
Jio Vq (W.hasDictIn $0 $1)
Jip Vq (W.plainOver $0 $1)
Jiq Jw $0 (Xt $1)
Jir QA (Jc K $0)
Jis JdG $0 (gP $1)
Jit JeQ 0 $0
Jiu JgD 1 $0 $1 $2 $3 $4
Jiv Jin $0 $1 (Xy $2 $3)
Jiw Ans most $0 $1
Jix aq (Ne.symm $0)
Jiy qk $0 $1 $2 $3 PySem.F.excBase_ValueError $4 $5
Jiz c (dTq $0)
JiA ⟨$0,%1,$1⟩
JiB a $0 %1 $1
JiC .inl (Vf $0)
JiD Vq (PySem.W.hasDictIn $0 $1)
JiE Qc (JC $0)
JiF JM H $0
JiG Jb9 $0 (some $1) $2
JiH JdC _ $0 $1
JiI JeH (frs $0) $1 $2 $3 $4
JiJ JiI X.stack $0 $1 $2 $3
JiK Jg7 $0 $1 $2 (.func $3) $4
JiL congrArg Array.toList $0
JiM model $0 w
JiN $0 = Value.type $1
JiO Nat.le_trans $0 hz
JiP SeqAt.EqAt $0 s $1 $2 $3
JiQ fk a.negs $0
JiS aA $0 $1 $2 rfl
JiT absurd %6 $0
JiU Vq (nol $0)
JiV foldedSetIterable iter X.env $0
JiW V2 cw $0
JiX J5 $0 (Xl $1 $2)
JiY JbU _ $0
JiZ Jb0 _ $0 $1 $2 $3 rfl $4 $5 $6 $7 $8
Ji0 JcJ $0 s.heap $1 $2
Ji1 Jfo $0 (VV $1 $2)
Ji2 JfC $0 $1 \"__setattr__\" $2
Ji4 Jii H $0
Ji5 Jiu \"_law_cell_at\" $0 $1 $2 $3
Ji6 [.int $0]
Ji7 PySem.W.fnOf $0 $1 $2 $3 $4 $5 $6 $7 $8 $9 cdv $10
Ji8 Walks.tuple $0 $1 $2 (Nat.ne_of_lt $3) $4
Ji9 ⟨$0,$1,$2,%5,$3⟩
Ji_ List.any_eq_false.mp $0 p $1
Jja cL $0 $1 $2 PyProof.Rows.Boot.dict $3
Jjb ⟨$0,$1,$2,$3,rfl,$4,$5,$6,$7,$8⟩
Jjc gb $0 $1 $2 PyProof.Rows.Boot.list $3
Jjd [\"_law_terms_here\",$0]
Jje Vj $0 (Xt $1) $2
Jjg attributeBase $0 $1 X.env (Vg $2)
Jjh JeM true $0
Jji call_meetsIn PySem.F.slot_dict_get $0 PySem.F.entry_dict_get $1 $2 $3
Jjj JiW (JdJ $0 $1)
Jjk wpAny_truthy_bool ⟨$0,$1,$2⟩
Jjl $0 = .int $1
Jjm Q (.bool $0) $1
Jjn s.TypeIs (.ref $0) $1
Jjo compareOp $0 $1 (.ref $2)
Jjp $0 < h.objs.size
Jjq $0 < S.ts.length
Jjr Heap.FlyingW $0 $1 $2 (.ref $3) $4 $5
Jjs W.kitCls $0 $1 (.type $2)
Jjt ae $0 (aj $1)
Jju Va H $0 $1
Jjv Qr $0 (.inl $1)
Jjw Value.ref (Vv $0)
Jjx Jay $0 H $1 $2
Jjy Jie $0 $1 $2 $3 $4 rfl $5 $6 $7 $8 $9 $10
Jjz KV kvs $0
JjA J.go i $0
JjB $0 = Option.none
JjC R (.error $0) $1
JjD $0 < ns.length
JjE eD $0 $1 s.heap $2 $3
JjF SD $0 $1 $2 $3 kvs
JjG eQ $0 rfl $1 $2
JjH As.length ≤ $0
JjI W $0 $1 $2 (Va $3 $4 $5)
JjJ Qi (pv $0)
JjK QL Int $0
JjL Xo $0 $1 (JaI $2 $3)
JjM JaW (Jek $0 $1 $2)
JjN Jfj $0 lk
JjO JfS $0 ok
JjP Jgm $0 $1 $2 $3 $4 $5 $6 rfl $7 $8 $9
JjQ JhZ (T.map $0)
JjR JfV $0 $1 ($2 → ($3 → $4))
JjS I.cell $0 c $1
JjT .Tuple $0 $1 pos
JjU f.fpOk $0 (f.hok.fresh $1)
JjV PySem.W.lookIn name $0
JjW backTo cpos $0
JjX hitD X.K $0 $1
JjY zcH $0 vals $1
JjZ [$0,\"groups\"]
Jj0 List $0 → $1
Jj1 Vq (W.makesIn $0 $1)
Jj2 aa $0 (XB $1 $2)
Jj3 Txt.slice $0 none (some $1)
Jj4 JbL $0 \"parts\"
Jj5 JbU $0 rfl
Jj6 Jcc (cT $0) $1 $2 $3
Jj8 JcO $0 $1 a b
Jj9 JfC $0 $1 \"__getattribute__\" $2
Jj_ BindsTo $0 $1 (JfG $2) $3
Jka Jcv $0 $1 $2 $3 $4 $5 $6 (ai $7) $8 cdv $9 $10 $11 $12
Jkb Jiw (hS0 $0 $1) $2
Jkc cA (hx $0 $1)
Jke aX $0 af $1
Jkf .ref (cl $0)
Jkg JJ \"reversed\" $0 $1 $2 $3
Jkh JP $0 True.intro $1 $2 $3
Jki Q6 $0 $1 $2 $3 $4 $5 (Vh $6)
Jkj QM (Jbi $0)
Jkk Jan (hY $0) %4
Jkl tryCatch (Jfa $0) $1
Jkn JhU $0 H T
Jko JiF (Jev $0)
Jkr PySem.W.isFn $0 (.ref $1)
Jks Nat.min_le_right _ $0
Jku ar X.K $0 $1 $2
Jkv iL I.hok $0
Jkw ck X.prog $0
Jkx bJ kvs $0
Jky argBest $0 k
Jkz ⟨$0,$1,$2,a.toArray.size,$3,$4,$5,$6,$7,$8,$9,$10,$11,$12⟩
JkA $0 < 199900
JkB U.set $0 rfl $1 $2 $3 $4
JkC zbu $0 (.ref $1) $2
JkD cq dc $0
JkE gQ $0 (ic $1)
JkF TxH K $0
JkG eA.k $0 $1 (hln $2)
JkH absurd c $0
JkI n.mono $0 %1
JkJ PapG As.length $0 $1
JkK R.mono $0 %1
JkL B.mono $0 %1
JkM Qd rfl $0
JkN Jv rfl $0 $1
JkO Jx false $0
JkP JQ $0 ys
JkQ Ja_ $0 xs
JkR Jba k $0
JkS Jbz _ $0
JkT JbP $0 (k.map $1)
JkW Jbl (Jdn $0 $1 $2) $3
JkX gR $0 (JdE $1 $2 $3 $4 $5)
JkY JeF $0 (Xt $1) $2
Jk0 Jfk (.str \"learnt\") $0 $1
Jk1 Jg6 bZ $0 $1
Jk2 Jiu \"_law_mixed\" $0 $1 $2 $3
Jk3 JiS $0 $1 (pv $2)
Jk4 JjG $0 $1 (Vf $2)
Jk5 aq (Nat.ne_of_lt $0)
Jk6 I.hok b $0 $1
Jk7 some (.bl $0)
Jk8 upd $0 $1 _
Jk9 ⟨$0,$1,$2,$3,%5,$4,$5⟩
Jk_ dt $0 ts $1
Jla Jk_ Rs $0
Jlb S.put l $0 $1
Jlc ej (pv $0)
Jld eT (pv $0)
Jle bM (Qc $0)
Jlf bD (Ve $0 $1 $2)
Jlg Vq (PySem.W.codeIn $0 $1 $2)
Jlh Jt $0 s.heap.objs.size $1
Jli Q8 \"no\" $0 $1
Jlj V8 (gG $0)
Jlk JeD $0 $1 \"BaseException\"
Jlm JfX _ rfl _ $0
Jln JiF (Jc0 $0 $1)
Jlo JiF (Jfn $0 $1)
Jlq PySem.W.instObj C $0
Jlr tAsg $0 (ie $1)
Jls $0 ≠ .cell
Jlu Jg1 ($0 + ix.length)
Jlv congrArg Prod.snd $0
Jlw gy $0 $1 $2 most $3 $4
Jlx U.newF $0 (.tup $1)
Jly eU $0 (pv $1) $2 $3
Jlz $0 ≤ most
JlA il $0 \"tuple\"
JlB za9 (M.take $0)
JlC [\"_law_cell\",$0,$1]
JlD JlC $0 \"_law_atoms\"
JlE Looks $0 $1 $2 (.ref $3)
JlF wpAny_cRoomFor $0 ?_
JlG Jl $0 b
JlH VE $0 ta
JlI QF A.dx $0
JlJ JlI (Jfj $0 $1)
JlK .Call (.Attribute $0 $1 apos) $2 $3 $4
JlL Xa (X.env.scope.names.lookup $0) .local
JlM Ja9 $0 \"part\"
JlN Jbr \"rows\" $0
JlO Nat.le_trans (JbY $0) $1
JlP JcJ $0 $1 s.heap.objs.size $2
JlQ SqL.of (Jd6 $0)
JlR W.fnOf $0 $1 (zbv $2) (zas $3) $4 $5 $6 $7 $8 $9 $10 $11
JlS Jff kvs $0
JlT ig rfl T.range $0
JlU JgV $0 $1 (.int $2 $3)
JlV Jhy $0 (Jf0 $1)
JlW Jic $0 \"__getattr__\"
JlX Jcc (JlT $0) $1 $2 $3
JlY I.base.there b $0 $1 $2
JlZ ⟨⟨$0,$1,$2⟩,$3⟩
Jl0 congrArg not $0
Jl1 ⟨some $0,$1,$2⟩
Jl2 Jl1 \"default\" $0 $1
Jl3 d.at' $0 rfl $1
Jl4 l_ PassesOwn.never $0 $1
Jl5 cS As.length $0
Jl7 agF $0 Rs ps
Jl8 jE $0 $1 s.heap $2 $3
Jl9 Vq (W.codeIn $0 $1 $2)
Jl_ Jz $0 $1 (ps.map $2)
Jma Vj $0 (VL $1) $2
Jmb V4 \"__init__\" $0 $1
Jmc Jao $0 lo
Jmd Jbn _ $0 $1
Jme Txt.slice $0 (some $1) none
Jmf Xd $0 $1 $2 mg (Jda $3) $4 $5 $6 $7 $8
Jmg J.yld i $0 x $1
Jmh Jmg H' $0
Jmj Vq (JcU ts $0 ts $1 $2)
Jmk Je9 cQ (pv $0) $1
Jml Jhn $0 I.os $1 $2 $3 I.free I.freeC $4 $5 $6
Jmm JiZ $0 $1 $2 $3 $4 $5 $6 $7 ?_
Jmn Jz $0 $1 (ns.map V.int)
Jmo Jjx $0 I $1
Jmp Jjx $0 (I.tok $1) $2
Jmq dh $0 none (some $1)
Jms Jc4 c.ok $0 c.m c.kp c.b $1 $2
Jmt Jk1 $0 bz
Jmu $0 → (Jkn $1 → $2)
Jmv Jmf $0 $1 $2 $3 $4 $5 $6 (VL $7) $8
Jmy Jmm $0 $1 $2 $3 $4 c.cl $5 $6
JmB Jml $0 I.base I.loc I.cell $1 I.hok I.len
JmC SqT X.K $0 $1 $2
JmD s.heap.IsTuple a $0
JmE $0 ≤ xs.length
JmF $0 = V.int $1
JmG JmF (V.int $0) $1
JmH S.wg $0 ++ $1
JmI Option $0 → $1
JmJ HSt $0 $1 most $2 $3
JmK $0 ≠ s.heap.objs.size
JmL $0 < f.heap.objs.size
JmM $0 < c.heap.objs.size
JmN Xa (atI $0 $1) $2
JmO Xg $0 ∧ $1
JmP ae (Qn $0 $1 $2) $3
JmQ JT $0 $1 → $2
JmR JmQ $0 $1 (JmQ $2 $3 $4)
JmS JW $0 $1 H $2
JmT JmS $0 $1 s
JmU JmT a $0
JmW ⟨$0,ih %0 %0⟩
JmX Q3 $0 → $1
JmY $0 → JmX $1 $2
JmZ JaA $0 (cG $1 $2)
Jm1 R (Jca $0) $1
Jm2 Jch q $0
Jm3 fh $0 $1 $2 (Jdh $3) $4 $5
Jm4 JgD $0 $1 $2 $3 (Xt $4) $5
Jm5 Jhj (bM $0)
Jm8 e (Sum.inl.inj $0)
Jm9 Mut (H $0)
Jm_ some (.lst $0)
Jna ap H $0
Jnb .inr (.inr $0)
Jnc ji I.hok $0
Jnd jj I.hok $0
Jne inV $0 (ps.map $1)
Jnf bp $0 (ps.take $1)
Jng HT.sIx $0 $1 (some $2)
Jnh cnt (d.ts.take $0)
Jni s.heap.DictOfH $0 $1 xs
Jnj be $0 $1 aU
Jnk Jnj $0 cb
Jnl cf K $0 $1 $2
Jnm Jnl C $0 $1
Jnn Jnm \"hold\" $0
Jno SqL.of (d $0 $1 $2)
Jnp $0 ≤ S.ts.length
Jnq X.A.in1.units + $0
Jnr S.ts.length ≤ $0
Jns S.rs.length ≤ $0
Jnt .inr (Vf $0)
Jnu aj (Qn $0 $1 $2)
Jnv Vq (fY $0)
Jnw Jw $0 [$1]
Jnx Jnw $0 \"self\"
Jny QB x $0
Jnz XE a $0
JnA VE e $0
JnB QP $0 (ar.ints $1)
JnC V8 (gm $0)
JnD JcX $0 rfl $1 $2 $3 $4 $5
JnE wpAny_bind (wpAny_isInstance $0 isSubtype_tuple_tuple $1)
JnF JbK K $0 (Ja $1)
JnG Je0 X.K $0 $1
JnH Je6 cpos $0
JnI Jfo $0 (hs.map $1)
JnJ JaY $0 (I.laid $1 $2 (nRq $3) $4) $5
JnK JA $0 rfl T.tuple $1
JnL SqI K $0 $1 ps
JnM call_meets $0 (JkS $1) $2 $3 $4 $5
JnN .ListComp elt [⟨$0,iter,$1,0⟩] scope pos
JnO JnN tg $0
JnP ⟨_,$0,$1⟩
JnQ .int $0 u
JnR .frz o $0
JnS o.data = $0
JnT JnS (.dict es $0)
JnU JnS (.seq $0 $1)
JnV .int $0 s.toks
JnW getMethod $0 $1 pl
JnX cellsFrom $0 $1 %7
JnY Inv $0 %7 $1 $2 $3
JnZ operate $0 (getItem $1 $2)
Jn0 d.params.defaults = $0
Jn1 .int $0 0
Jn4 argBest u $0
Jn5 Lev $0 $1 ts
Jn6 $0 ∈ negs $1
Jn9 bS Rs ts f $0
Jn_ $0 → Bool
Joa ⟨$0,$1,PySem.F.plainAttrs_dict,$2,$3,$4,$5,$6⟩
Job Fr1 $0 H' $1
Joc $0 ≠ Sum.inl $1
Jod aI $0 $1 (pv $2) $3
Joe sz $0 %5
Jof Xa $0 X.env.locals
Jog VF pos $0
Joh Call_ (QW $0 $1 $2 $3 $4 $5 $6)
Joi JaO (ar.keep $0 $1 $2) $3
Joj hx _ (SqL.of $0)
Jok Ja9 $0 \"parts\"
Jol Jbr $0 \"found\"
Jom JbX H $0
Jon Jct $0 H'
Joo Jfi K $0
Jop Jf1 $0 $1 $2 false
Joq ⟨%7,$0,ar.nil⟩
Jor Jif d $0
Jos JiH _ $0
Jot Jju $0 us
Jou Jju l $0
Jov JjP $0 $1 $2 rfl $3 $4 $5 $6 $7 $8
Jow JjR $0 $1 $2 $3 ($4 → $5)
Jox PI $0 $1 iter wi
Joy bc (ns.map V.int) $0
Joz Jmo _ $0
JoA S.ts.take j ++ [$0]
JoB upd $0 a $1
JoC JoB $0 u
JoD zbu f $0 $1
JoE wpAny_call_entry $0 $1 $2 ?_ $3
JoF Array (Option $0)
JoG bj H $0
JoH ns.length - $0
JoI Two $0 O $1
JoM [\"part\",$0,\"kept\",\"level_of\",\"last\"]
JoN kt.sq (SqT.of $0)
JoO ar.one (XC $0 $1)
JoP VZ $0 (Ja1 $1)
JoQ Jbn $0 (QE $1 $2) $3
JoS Jw $0 (JbM \"why\")
JoU Jep $0 $1 hly $2 $3
JoV JeA $0 ∧ $1
JoW A.under (Jbe $0 (Jes $1 $2) $3)
JoX k $0 _ (.inl rfl) $1
JoY JoX $0 e
JoZ JgR \"_law_plain\" $0 $1
Jo0 JiZ $0 $1 $2 $3 $4 $5 $6 rfl $7
Jo1 Jjs $0 $1 \"ValueError\"
Jo2 JmU $0 → $1
Jo3 JnK $0 (Vh $1)
Jo4 Xa (mg $0) (Jdw $1)
"
end J
set_option hygiene false
local macro_rules|`($f:ident $x*)=>do
 let n:=f.getId.toString
 unless n.length<4&&n.length>1&&"JXQV".contains n.front do Lean.Macro.throwUnsupported
 match J.T.splitOn ("\n"++n++" ") with
 |[_,r]=>return (J.k x.raw #[←`(by decide +kernel),←`(by decide),←`(λ_=>?_),←`(λ_ _=>?_),←`(by simp),←`(by lia),←`(by rfl),←`([]),←`(ix1 ⟨_,rfl,rfl,.inl rfl,.inl rfl⟩)] 999 (J.w (r.splitOn "\n").head!) #[] #[] none).1[0]!
 |_=>Lean.Macro.throwUnsupported
local macro_rules|`(tactic|let $x:term:=$e)=>do
 let o←`(tactic|obtain $(⟨J.p 99 x⟩):rcasesPat:=$e)
 if (x.raw.getRange?.getD default).bsize<13 then return o
 `(tactic|(refine _root_.J.x λG_ k_=>?_;$o:tactic;refine k_ ?_;try clear k_ G_))
local macro_rules|`(tactic|rfl')=>`(tactic|try dsimp only [Cx.nox,Cx.wish,aO])
local macro_rules|`(command|init_quot)=>do
 let mut a:=#[]
 let t:=[49,105,139,154,169,184,199,214,229,244,279,295,360,436,491,524,616,692,772]
 let c:=`PySem.Challenge.cw_yesorno_k98_follows_holds
 for n in [`PySem.Challenge.pw_yesorno_k98_follows,`PySem.Challenge.rw_yesorno_k98_follows,c.str "view_39",c.str "env_41"]++([39,46,842].map λi=>c.str s!"heap_{i}")++((List.range 804).map λi=>c.str s!"o_{i+39}")++(t.map λi=>c.str s!"sts_{i}")++((842::48::t).map λi=>c.str s!"tree_{i-1}") do
  a:=a.push (←`(def $(Lean.mkIdent (.str `PySem.W.Fast s!"tw{n.hash}")):ident:True:=⟨⟩))
 return Lean.mkNullNode a
noncomputable section
def lM{α β}{l:List α}(f:α→β):(l.map f).length=l.length:=List.length_map f
def lAq{α}{a b:List α}:(a++b).length=a.length+b.length:=List.length_append
def mAq{α β}{f:α→β}{a b:List α}:(a++b).map f=a.map f++b.map f:=List.map_append
def lS{α}{a:α}:[a].length=1:=rfl
def mO{α}{l:List α}{i:Nat}{a:α}(h:l[i]?=some a):a∈l:=List.mem_of_getElem? h
def mPq{α}{a:α}{s t:List α}(h:a∈s++t):a∈s∨a∈t:=List.mem_append.mp h
def mS{α}{a b:α}(h:a∈[b]):a=b:=List.mem_singleton.mp h
def gEq{α}{i:Nat}{a:α}{l:List α}(h:l[i]?=some a):∃h,l[i]=a:=List.getElem?_eq_some_iff.mp h
def gG{α}{l:List α}{i:Nat}(h:i<l.length):l[i]?=some l[i]:=List.getElem?_eq_getElem h
def sA{α}{l:List α}:l.toArray.size=l.length:=List.size_toArray
def nRq(n:Nat):n≤n:=Nat.le_refl n
def tO{α}{i:Nat}{l:List α}(h:l.length≤i):l.take i=l:=List.take_of_length_le h
def dTq{p:Prop}[Decidable p](h:p):decide p=true:=decide_eq_true h
def oDq{p:Prop}[Decidable p](h:decide p=true):p:=of_decide_eq_true h
def dFq{p:Prop}[Decidable p](h:¬p):decide p=false:=decide_eq_false h
def hG{h:PySem.Heap}{a:PySem.Addr}{u:PySem.Obj}(o:PySem.Obj)(e:h.get? a=some u):(h.push o).get? a=some u:=PySem.Heap.get?_push_of_some o e
def bLq:PySem.bootBuiltins "len"=some (.builtin "len"):=PySem.boot_len
def hLq{h:PySem.Heap}{a:PySem.Addr}{o:PySem.Obj}(e:h.get? a=some o):Jjp a:=PySem.Heap.lt_size e
namespace L2
open PySem PySem.Spec PyProof.Rows
abbrev Key:=Sum Int Str
noncomputable def zgt:Key→Jn_ Value
  | .inl k,v=>Value.isInt k v
  | .inr x,v=>Value.isStrOf x v
noncomputable def keyH (w:World):Key→Int
  | .inl k=>hashInt k
  | .inr x=>hashStr w x
def gO:∀ {k:Key} {v:Value},Vq (zgt k v)→(∃i t,Jgb k i∧v=Jaj i)∨(∃x t,k=Sum.inr x∧v=JhD x)
  | .inl i,v,h=>by let⟨t,e⟩:=Value.isInt_shape h;exact .inl (Jv i t e)
  | .inr x,v,h=>by let⟨t,e⟩:=Value.isStrOf_shape h;exact .inr (Jv x t e)
def yz (i)(t):Vq (zgt (.inl i) (Jdw i)):=by simp [zgt,Value.isInt]
def yA (x)(t):Vq (zgt (.inr x) (.str x t)):=by simp [zgt,Value.isStrOf]
def key_ll (a b):decide (Jgb (Sum.inl a:Key) b)=(a == b):=by
  by_cases e:a=b
  · subst e;simp
  · have h:¬(Sum.inl a:Key)=Sum.inl b:=λq=>Jm8 q;rw[dFq h];exact(beq_eq_false_iff_ne.mpr e).symm
def key_rr (a b):decide ((Sum.inr a:Key)=Sum.inr b)=decide (a=b):=by
  by_cases e:a=b
  · subst e;simp
  · have h:¬(Sum.inr a:Key)=Sum.inr b:=λq=>e (Sum.inr.inj q);rw[dFq h,dFq e]
def key_lr (a)(b):decide ((Sum.inl a:Key)=Sum.inr b)=false:=dFq (λq=>nomatch q)
def key_rl (a)(b):decide (Jgb (Sum.inr a:Key) b)=false:=dFq (λq=>nomatch q)
def ck (prog)(w):PySem.KeyKind prog w Key where
  is:=zgt
  hash:=keyH w
  inj:=λv a b l f=>by
    rcases gO l with ⟨i,t,rfl,rfl⟩ | ⟨x,t,rfl,rfl⟩
    · rcases gO f with ⟨j,u,rfl,e⟩ | ⟨y,u,rfl,e⟩
      · injection e with c _;rw[c]
      · exact nomatch e
    · rcases gO f with ⟨j,u,rfl,e⟩ | ⟨y,u,rfl,e⟩
      · exact nomatch e
      · injection e with c _;rw[c]
  byValue:=λk v h=>by rcases gO h with ⟨i,t,rfl,rfl⟩ | ⟨x,t,rfl,rfl⟩ <;> rfl
  pyHash:=λd h=>by
    rcases gO d with ⟨i,t,rfl,rfl⟩ | ⟨x,t,rfl,rfl⟩
    · exact wpAny_pyHash_int h
    · exact wpAny_pyHash_str h
  eqBool:=λg d h=>by
    rcases gO g with ⟨i,t,rfl,rfl⟩ | ⟨x,t,rfl,rfl⟩
    · rcases gO d with ⟨j,u,rfl,rfl⟩ | ⟨y,u,rfl,rfl⟩
      · rw[key_ll]at h;exact wpAny_eqBool_int h
      · rw[key_lr]at h;exact SeqAt.EqAt.int_str i t y u _ _ _ _ h
    · rcases gO d with ⟨j,u,rfl,rfl⟩ | ⟨y,u,rfl,rfl⟩
      · rw[key_rl]at h;exact SeqAt.EqAt.str_int x t j u _ _ _ _ h
      · rw[key_rr]at h;exact wpAny_eqBool_str h
  «strs»:=λk x t v h=>by
    rcases gO h with ⟨i,u,rfl,e⟩ | ⟨y,u,rfl,e⟩
    · exact nomatch e
    · injection e with c _;subst c;cases v <;> rfl
def yB (prog)(w)(i)(t):(ck prog w).is (.inl i) (Jdw i)=true:=yz i t
def lY (prog)(w)(x)(t):(ck prog w).is (.inr x) (.str x t)=true:=yA x t
inductive V where
  | non | bl (b:Bool) | int (i:Int) | str (x:Str) | byt (b:Array UInt8) | flt (b:UInt64) | ref (a:Addr) | ty (n:String)
  deriving DecidableEq
def bn:V→Value→Prop
  | .non,u=>Jcf u
  | .bl b,u=>Jas u b
  | .int i,u=>∃t,u=Jaj i
  | .str x,u=>∃t,u=JhD x
  | .byt b,u=>∃t,u=Value.bytes b t
  | .flt b,u=>∃t,u=Value.float b t
  | .ref a,u=>Jl u a
  | .ty n,u=>JiN u n
abbrev bc:List V→List Value→Prop:=Paired bn
def bc.length (r:Jc6 xs):Ja0 us.length:=Paired.length r
theorem bc.get:∀ {xs:List V} {us:List Value} {i:Nat} {x:V},Jc6 xs→xs[i]?=some x→∃u,us[i]?=some u∧Jf2 x
  | _,_,_,_,.nil,e=>by simp at e
  | _,_,0,_,JhE _,e=>by simp at e;subst e;exact QI r
  | _,_,i+1,x,.cons _ t,e=>by let⟨u,b,a⟩:=bc.get t (by simpa using e);exact⟨u,by simpa using b,a⟩
theorem bc.append:∀ {xs ys:List V} {us a:List Value},Jc6 xs→bc ys a→bc (xs++ys) (us++a)
  | _,_,_,_,.nil,s=>s
  | _,_,_,_,JhE t,s=>JhE (bc.append t s)
theorem bc.take:∀ {xs:List V} {us:List Value} (n:Nat),Jc6 xs→bc (xs.take n) (us.take n)
  | _,_,0,_=>.nil
  | _,_,_+1,.nil=>.nil
  | _,_,n+1,.cons r t=>JhE (bc.take n t)
theorem bc.drop:∀ {xs:List V} {us:List Value} (n:Nat),Jc6 xs→bc (xs.drop n) (us.drop n)
  | _,_,0,r=>r
  | _,_,_+1,.nil=>.nil
  | _,_,n+1,.cons _ t=>bc.drop n t
def cX:Option V→Option Value→Prop
  | some v,some u=>Jf2 v
  | none,none=>True
  | _,_=>False
def KV {a:Type}:Jf a V→Jf a Value→Prop:=Paired λ p q=>p.1=q.1∧bn p.2 q.2
noncomputable def kV:Key→V
  | .inl i=>.int i
  | .inr x=>.str x
inductive HO where
    | lst (xs:List V)
    | tup (xs:List V)
    | dK (kvs:List (Key × V)) | dT (kvs:List (List Key × V))
    | set (S:Int→Bool)(n:Nat)
    | ins (C dx:Addr)(fs:List (Str × V))
    | own (x:Addr)
    | xd (fs:List (Str × V))
    | met (f x:Addr)
    | rng (lo hi:Int)
    | frz (o:Obj)(u:HO)
    | tbl (ps:Array Value)
    | ext (φ:Heap→Prop)
abbrev Hp:=QL Addr HO
noncomputable def upd (H:Hp)(a:Addr)(o:HO):Hp:=λb=>if b=a then some o else H b
def ao:upd H a o a=some o:=by unfold upd;rw[if_pos rfl]
def aq (h:b≠a):upd H a o b=H b:=by unfold upd;rw[if_neg h]
def lZ:JoC (Jnz o)=upd H a u:=by funext b;unfold upd;split <;> rfl
def eM {H:Hp}{a b:Addr}{o u:HO}(h:Xh a o)(h':Xh b u)(d:o≠u):a≠b:=by intro e;subst e;rw[h]at h';exact d (Option.some.inj h')
def bV {H:Hp}{a b:Addr}{o:HO}(h:Xh a o)(h':Vu b):a≠b:=by intro e;subst e;rw[h]at h';cases h'
def fu (h:Heap)(a:Addr)(items:Array Value):Prop:=∃o,h.get? a=some o∧(o.cls,o.dict)=(Value.type "tuple",none)∧∃n,JnU items n
def fu.up (x:fu h a items):IsTup h a items:=let ⟨o,e,c,d⟩:=x;⟨o,e,(Prod.mk.inj c).1,d⟩
def fu.lt (x:fu h a items):Jjp a:=x.up.lt
def fu.new (h:Heap)(items):fu (h.push { cls:=.type "tuple",data:=.seq items }) h.objs.size items:=VO _ (Heap.get?_push_size _ rfl) _ rfl
section
variable (P:Program) (w:World)
def bU (H:Hp)(h:Heap)(a:Addr):HO→Prop
  | .lst xs=>Vi xs.length∧∃b n,bc xs b∧h.get? a=some { cls:=.type "list",data:=.seq b.toArray n }
  | .tup xs=>Vi xs.length∧∃b:List Value,bc xs b∧fu h a b.toArray
  | .dK kvs=>Vi kvs.length∧QM (a == sysModules)∧∃vs,Jjz vs∧h.DictOf (ck P w) a vs
  | .dT kvs=>Vi kvs.length∧QM (a == sysModules)∧∃xs:Jf (List Key) (Jbp Value),
      Paired (λ p q=>p.1=q.1∧JbP q.2.1 (p.1.map kV)∧bn p.2 q.2.2) kvs xs ∧
      ∃o es l,h.get? a=some o∧o.ExactDict∧JnT l∧es.toList=Jfs (JeG P w)∧(xs.map (·.1)).Nodup
  | .set S n=>h.SetOf (intKind P w) a S n
  | .ins C e d=>Xh e (.own a)∧Q3 d.length∧e≠a∧h.get? a=some (Jlq e) ∧
      ∃c,h.Ns1 e c∧(∀f,cX (d.lookup f) (c f))∧PySem.Within c (d.map (·.1))
  | .own _=>∃o,h.get? a=some o
  | .xd d=>∃c,h.Ns1 a c∧∀f,cX (d.lookup f) (c f)
  | .rng lo k=>∃t u v,h.get? a=some { cls:=.type "range",data:=.fields #[Jdw lo,JnQ k,.int 1 v] }
  | .frz o u=>h.get? a=some o∧bU H h a u
  | .tbl ps=>h.get? a=some { cls:=.none,data:=.fields ps }
  | .met f x=>h.get? a=some (PySem.W.methodObj (.ref f) (.ref x))
  | .ext g=>g h∧(∃o,h.get? a=some o)∧∀j i:Heap,g j→(∀o,j.get? a=some o→i.get? a=some o)→g i
def HOk (H:Hp)(h:Heap):Prop:=∀a o,Jin a o (bU P w H h a o)
end
section
variable {P:Program} {w:World} {H H':Hp} {h h':Heap} {a:Addr} {o:HO}
def bU.lt (x:bU P w H h a o):Jjp a:=by
  cases o with
  | lst xs=>obtain⟨_,_,_,_,e⟩:=x;exact hLq e
  | tup xs=>obtain⟨_,_,_,p⟩:=x;exact p.lt
  | dK kvs=>obtain⟨_,_,_,_,o,_,_,e,_⟩:=x;exact hLq e
  | dT kvs=>obtain⟨_,_,_,_,o,_,_,e,_⟩:=x;exact hLq e
  | set S n=>obtain⟨o,_,_,_,e,_⟩:=x;exact hLq e
  | ins C i b=>obtain⟨_,_,_,e,_⟩:=x;exact hLq e
  | own y=>obtain⟨_,e⟩:=x;exact hLq e
  | xd b=>obtain⟨_,⟨_,_,_,e,_⟩,_⟩:=x;exact hLq e
  | rng lo g=>obtain⟨_,_,_,e⟩:=x;exact hLq e
  | frz d u=>obtain⟨e⟩:=x;exact hLq e
  | tbl ps=>exact hLq (show h.get? a=some _ from x)
  | met f y=>exact hLq (show h.get? a=some _ from x)
  | ext c=>obtain⟨_,⟨_,e⟩,_⟩:=x;exact hLq e
theorem Paired.mapP:∀ {d:List α} {c:List β},Paired F d c→(∀a b,F a b→G a b)→Paired G d c
  | _,_,.nil,_=>.nil
  | _,_,JhE t,f=>.cons (f _ _ r) (Paired.mapP t f)
def bU.stay (x:bU P w H h a o)(k:∀b u,(b=a∨Xh b (.own a))→h.get? b=some u→h'.get? b=some u)
    (D:∀b,Jiv b (.own a) b (.own a))(B:∀b xs,JbP b xs→JT b xs):bU P w H' h' a o:=by
  induction o with
  | lst xs=>obtain⟨z,j,n,r,e⟩:=x;exact⟨z,j,n,r,JoY _⟩
  | tup xs=>obtain⟨z,j,r,g,e,c⟩:=x;exact⟨z,j,r,g,JoY _,c⟩
  | dK kvs=>obtain⟨z,y,vs,r,g,es,i,e,c⟩:=x;exact⟨z,y,vs,r,g,es,i,JoY _,c⟩
  | dT kvs =>
    let⟨z,y,xs,r,g,es,i,e,c⟩:=x;exact⟨z,y,xs,Paired.mapP r λp q z=>⟨z.1,B _ _ z.2.1,z.2.2⟩,g,es,i,JoY _,c⟩
  | set S n=>obtain⟨g,es,i,t,e,c⟩:=x;exact⟨g,es,i,t,JoY _,c⟩
  | ins C J E =>
    let⟨d,z,s,e,l,⟨od,es,i,F,c⟩,r⟩:=x;exact⟨D _ d,z,s,JoY _,l,⟨od,es,i,k _ _ (.inr d) F,c⟩,r⟩
  | own y=>obtain⟨g,e⟩:=x;exact⟨g,JoY _⟩
  | xd E=>obtain⟨l,⟨od,es,i,e,c⟩,r⟩:=x;exact⟨l,⟨od,es,i,JoY _,c⟩,r⟩
  | rng lo I=>obtain⟨t,u,v,e⟩:=x;exact⟨t,u,v,JoY _⟩
  | frz g u A=>obtain⟨e,q⟩:=x;exact⟨JoY _,A q⟩
  | tbl ps =>
    have e:=x;exact JoY a
  | met f y =>
    have e:=x;exact JoY a
  | ext G=>obtain⟨p,⟨o,e⟩,st⟩:=x;exact⟨st _ _ p λo q=>JoX _ q,⟨o,JoY _⟩,st⟩
def HOk.lt (x:Ji4 h)(e:Xh a o):Jjp a:=(x a o e).lt
def HOk.fresh (x:Ji4 h)(e:h.objs.size≤a):Vu a:=by
  cases q:H a with
  | none=>rfl
  | some u=>exact Jcq (Nat.lt_of_lt_of_le (x.lt q) e) _
def HOk.kept (x:Ji4 h)(k:∀b u,h.get? b=some u→h'.get? b=some u):Ji4 h':=λa o e =>
  (x a o e).stay (λb u _ q=>k b u q) (λ_ q=>q) λ_ _ q=>q
def HOk.laid (x:Ji4 h)(k:∀b u,h.get? b=some u→h'.get? b=some u)(i:h.objs.size≤a)(d:bU P w (Jnz o) h' a o):Jii (Jnz o) h':=λb u e=>by
  have f:=x.fresh i;by_cases g:b=a
  · subst g;rw[ao]at e;cases e;exact d
  · rw[aq g]at e;exact(x b u e).stay (λc v _ q=>k c v q) (λc q=>by rw[Jm2 f];exact q) λc xs q=>by rw[Jm2 f];exact q
end
def Rd (H:Hp)(a:Addr)(u:HO):Prop:=Xh a u∨∃o,Xh a (JnR u)
def Rd.ok (r:Rd H a u)(x:Ji4 h):bU P w H h a u:=by
  rcases r with r | ⟨o,r⟩
  · exact x a u r
  · let⟨_,q⟩:=x a _ r;exact q
def Mut:Option HO→Prop
  | some (.lst _)=>True
  | some (.dK _)=>True
  | some (.dT _)=>True
  | some (.set _ _)=>True
  | some (.ins _ _ _)=>True
  | some (.ext _)=>True
  | _=>False
section
variable {P:Program} {w:World} {H:Hp} {h h':Heap} {x e:Addr} {o':HO}
def HOk.write (s:Ji4 h)(g:Jm9 x)(p:e=x∨Xh e (.own x))(k:∀b u,b≠e→h.get? b=some u→h'.get? b=some u)(n:∃u,h'.get? e=some u)
    (l:bU P w (XE x o') h' x o'):Jii (XE x o') h':=λb u q=>by
  have d:∀c y,Jin c (.own y) (c≠x):=λc y r z=>by subst z;rw[r]at g;exact g
  have f:∀c xs,JbP c xs→c≠x:=λc xs r z=>by subst z;rw[r]at g;exact g
  by_cases j:b=x
  · subst j;rw[ao]at q;cases q;exact l
  · rw[aq j]at q;by_cases a:b=e
    · have o:H b=some (.own x):=by
        rcases p with z | z
        · exact absurd (a.trans z) j
        · rw[a];exact z
      rw[q]at o;cases o;let⟨v,t⟩:=n;exact⟨v,by rw[a];exact t⟩
    · refine(s b u q).stay (λc v i r=>k c v ?_ r) (λc r=>by rw[aq (d c b r)];exact r) λc xs r=>by rw[aq (f c xs r)];exact r
      rcases i with rfl | i
      · exact a
      · rintro rfl;rcases p with z | z
        · exact d c b i z
        · rw[i]at z;cases z;exact j rfl
end
structure Un (fs ex:List Addr)(H H':Hp)(h h':Heap):Prop where
  keep:∀b o,h.get? b=some o→Vu b→b∉fs→b∉ex→h'.get? b=some o
  slot:∀b o,h.get? b=some o→Vu b→b∈fs→b∉ex→∃sl,h'.get? b=some { o with slots:=sl }
  free:∀b o,h.get? b=some o→Vu b→b∉ex→Jgy b
  there:∀b o,h.get? b=some o→b∉ex→∃o',h'.get? b=some o'
  tups:∀b xs,JbP b xs→JT b xs
  frzs:∀b o u,Jiv b (JnR u) b (JnR u)
  tbls:∀b ps,Xh b (.tbl ps)→∃more,Xy b (.tbl (ps++more))
section
variable {fs fs' ex ex':List Addr} {H H1 H2:Hp} {h h1 h2 h':Heap} {a x e:Addr} {o:HO}
def Un.any (u:Un fs ex H H1 h h1){b:Addr}{c:Obj}(q:h.get? b=some c)(n:Vu b)(d:b∉ex):∃g,h1.get? b=some { c with slots:=g }:=by
  by_cases f:b∈fs
  · exact u.slot b c q n f d
  · exact⟨c.slots,u.keep b c q n f d⟩
def Un.trans (a:Un fs ex H H1 h h1)(b:Un fs ex H1 H2 h1 h2):Un fs ex H H2 h h2 where
  keep:=λc d q n i f=>b.keep c d (a.keep c d q n i f) (a.free c d q n f) i f
  slot:=λc d q n i f=>by let⟨s,g⟩:=a.slot c d q n i f;let⟨j,l⟩:=b.slot c _ g (a.free c d q n f) i f;exact⟨j,l⟩
  free:=λc d q n f=>by let⟨k,g⟩:=a.there c d q f;exact b.free c k g (a.free c d q n f) f
  there:=λc d q f=>by let⟨k,g⟩:=a.there c d q f;exact b.there c k g f
  tups:=λc xs q=>b.tups c xs (a.tups c xs q)
  frzs:=λc d xs q=>b.frzs c d xs (a.frzs c d xs q)
  tbls:=λc ps q=>by let⟨r,g⟩:=a.tbls c ps q;let⟨p,l⟩:=b.tbls c _ g;exact⟨r++p,by rw[l,Array.append_assoc]⟩
def Un.kept (k:∀b u,h.get? b=some u→h'.get? b=some u):Un fs ex H H h h' :=
  ⟨λb c q _ _ _=>k b c q,λb c q _ _ _=>⟨c.slots,k b c q⟩,λ_ _ _ n _=>n,λb c q _=>⟨c,k b c q⟩,λ_ _ q=>q,λ_ _ _ q=>q,λ_ ps q=>⟨#[],by rw[q];simp⟩⟩
def Un.refl:Un fs ex H H h h:=Un.kept λ_ _ q=>q
def Un.laid (k:∀b u,h.get? b=some u→h'.get? b=some u)(d:h.objs.size≤a)(c:Vu a):Un fs ex H (Jnz o) h h' where
  keep:=λb u q _ _ _=>k b u q
  slot:=λb u q _ _ _=>⟨u.slots,k b u q⟩
  free:=λb u q n _=>by rw[aq (Jab q d)];exact n
  there:=λb u q _=>⟨u,k b u q⟩
  tups:=λb xs q=>by rw[Jm2 c];exact q
  frzs:=λb u xs q=>by rw[Jm2 c];exact q
  tbls:=λb ps q=>⟨#[],by rw[Jm2 c,q];simp⟩
def Un.write (d:Jm9 x)(l:e=x∨Xh e (.own x))(k:∀b u,b≠e→h.get? b=some u→h'.get? b=some u)(g:∃u,h'.get? e=some u):Un fs ex H (XE x o) h h':=by
  have i:∀b,J5 b (b≠x):=λb n z=>by subst z;rw[n]at d;exact d
  have j:∀b,J5 b (b≠e):=λb n z=>by
    subst z;rcases l with r | r
    · exact i b n r
    · rw[n]at r;cases r
  have f:∀b u,Xh b u→¬Mut (some u)→b≠x:=λb u q nm z=>by subst z;rw[q]at d;exact nm d
  refine⟨λb u q n _ _=>k b u (j b n) q,λb u q n _ _=>⟨u.slots,k b u (j b n) q⟩,λb u q n _=>by rw[aq (i b n)];exact n,λb u q _=>?_,λb xs q=>by rw[aq (f b _ q λz=>z)];exact q,λb u xs q=>by rw[aq (f b _ q λz=>z)];exact q,λb ps q=>⟨#[],by rw[aq (f b _ q λz=>z),q];simp⟩⟩
  by_cases c:b=e
  · subst c;exact g
  · exact⟨u,k b u c q⟩
end
noncomputable def trk (h:Heap)(H:Hp):List Addr:=(List.range h.objs.size).filter λa=>(H a).isSome
def jI (h:Heap)(H:Hp):Heap:=PySem.W.hideAll h (trk h H)
def yC (h)(H):(jI h H).objs.size=h.objs.size:=PySem.W.hideAll_size _ _
def yD (e:h.get? b=some o)(n:Vu b):(jI h H).get? b=some o :=
  PySem.W.hideAll_get _ e λa=>by have q:=(List.mem_filter.mp a).2;rw[n]at q;simp at q
def yE (e:(jI h H).get? b=some o):h.get? b=some o∧Vu b:=by
  have a:=PySem.W.of_hideAll _ e;refine VI a;cases q:H b with
  | none=>rfl
  | some x =>
    have c:b∈trk h H:=JG (List.mem_range.mpr (hLq a)) (by simp [q]);have z:(jI h H).get? b=none:=PySem.W.hideAll_none _ c;rw[z]at e;cases e
noncomputable def zrD (g h:Heap)(L:Addr):JgP Obj:=(List.range h.objs.size).filterMap λa=>if a=L∨(g.get? a).isSome=true then none else(h.get? a).map λo=>(a,o)
def rest (g h:Heap)(L d:Addr):JgP Obj:=(zrD g h L).filter λp=>decide (p.1≠d)
structure Mod (K:PySem.W.Frag)(mg)(base):Prop where
  kin:K.In base
  glob:Jdt mg
  blt:∃mb,base.Ns builtinsNs mb∧∀x:Str,Jij x→mb x=bootBuiltins x
  nolimit:base.NoLimit
structure Cx where
  prog:Program
  w:World
  K:PySem.W.Frag
  mg:Jdr Str
  base:Heap
  A:Around
  N:List Str
  s₀:Shared
  H₀:Hp
  env:Env
  outer:List Env
  stack:List Env
  ex:List Addr
  fn:Jn_ Str
  calm:Bool
  pn:JgP Obj
  xe:Value→Shared→Prop
noncomputable def frs (l:List Env):List Addr:=l.filterMap (·.frame)
abbrev Cx.fs (X:Cx):List Addr:=frs X.outer
def Vis (sc:Scope)(x:Str):Prop:=VP x .local∨VP x .cell∨VP x .free
def Loc (sc:Scope)(x:Str):Prop:=VP x .local∨VP x .cell
def Look (env:Env)(h:Heap)(m:Jdr Str)(x:Str)(u:Value):Prop :=
  (Xa (env.kindOf x) .local∧Xa (m x) u)∨((Xa (env.kindOf x) .cell∨Xa (env.kindOf x) .free)∧∃c,Je5 x c∧h.IsCell c (some u))
structure Cx.Ok (X:Cx):Prop where
  mod:Mod X.K X.mg X.base
  kind:Jdy X.env.scope.kind
  glob:X.env.globals=mainGlobals
  blt:X.env.builtins=builtinsNs
  above:J0 X.env.locals
  inj:∀x y c,Ql x c→Ql y c→x=y
  has:∀x,(Jd1 x∨Jd0 x)→∃c,Ql x c
  cab:∀x c,JdS x→Ql x c→J0 c
  hd:Vq X.calm→Qu X.A.handled
  frames:Xa X.A.frames X.stack
  stk:X.stack=X.outer∨(X.stack=JeX X.env∧Jof X.env.frame)
  exf:∀b∈X.ex,V1 b∧∀x c,Ql x c→c≠b
  bs:∀b o,X.base.get? b=some o→X.s₀.heap.get? b=some o∧Qu (X.H₀ b)
  bsz:X.base.objs.size≤X.s₀.heap.objs.size
  noex:∀b o,X.base.get? b=some o→b∉X.ex
  exfs:∀b∈X.ex,b∉X.fs
  funs:X.s₀.heap.FunFrames X.base X.outer
  frf:∀b∈X.fs,Qu (X.H₀ b)
structure Inv (X:Cx)(pins)(σ:List (Option V))(H)(s:Shared):Prop where
  ok:X.Ok
  os:s.os=X.s₀.os
  bare:AllBare s.gens
  base:Un X.fs X.ex X.H₀ H X.s₀.heap s.heap
  loc:∃m,s.heap.Ns X.env.locals m∧∀(i:Nat) (x) (v),X.N[i]?=some x→σ[i]?=some (some v)→JfF x→∃u,Jf2 v∧Look X.env s.heap m x u
  cell:∀x c,Ql x c→∃v,s.heap.IsCell c v
  free:Vu X.env.locals
  freeC:∀x c,Ql x c→Vu c
  pin:∀p∈X.pn++pins,s.heap.get? p.1=some p.2∧Vu p.1∧V1 p.1∧p.1∉X.fs∧∀v,p.2.data≠.cell v
  hok:JhC H s.heap
  len:σ.length=X.N.length
section
variable {X:Cx} {pins:List (Jbp Obj)} {σ:List (Option V)} {H H':Hp} {s:Shared} {h':Heap}
def Cx.Ok.nofr (a:X.Ok){b:Addr}{o:Obj}(e:X.base.get? b=some o):b∉X.fs:=λc=>by have:=(a.funs.mem c).1;rw[e]at this;cases this
def Inv.bs (I:QD s):∀b o,X.base.get? b=some o→s.heap.get? b=some o∧Vu b:=λb o e =>
  ⟨I.base.keep b o (I.ok.bs b o e).1 (I.ok.bs b o e).2 (I.ok.nofr e) (I.ok.noex b o e),Jhm o (I.ok.bs b o e).1 (I.ok.bs b o e).2 (I.ok.noex b o e)⟩
def Inv.bk (I:QD s):∀b o,X.base.get? b=some o→s.heap.get? b=some o:=λb o e=>(I.bs b o e).1
def Inv.mod (I:QD s):Mod X.K X.mg X.base:=I.ok.mod
def Inv.kIn (I:QD s):X.K.In s.heap:=I.ok.mod.kin.keeps I.bk
def Inv.fr (I:QD s):∃m,Fr X.base X.env.locals s.heap m :=
  let ⟨m,hn,_⟩:=I.loc
  ⟨m,hn,I.bk,Jcz I.ok.above⟩
def Inv.lt (I:QD s):Qt X.env.locals:=let ⟨_,hn,_⟩:=I.loc;hn.lt
def Inv.sz (I:QD s):J0 s.heap.objs.size:=Nat.le_trans I.ok.above (Nat.le_of_lt I.lt)
def Inv.nofs (I:QD s){a:Addr}(h:JhF a):a∉X.fs:=λc=>by let⟨_,o,b,_⟩:=I.ok.funs.mem c;exact Jcq (Jq b (Nat.le_trans I.sz h)) _
def Inv.cne (I:QD s):∀x c,Ql x c→V1 c:=λx c e z=>by let⟨v,o,d,f⟩:=JjS x e;let⟨m,⟨g,es,h,a,b,_⟩,_⟩:=I.loc;rw[z,a]at d;cases d;rw[b]at f;cases f
def Inv.funs (I:QD s):s.heap.FunFrames X.base X.outer:=by
  have f:∀l,(∀b∈frs l,b∈X.fs)→X.s₀.heap.FunFrames X.base l→s.heap.FunFrames X.base l:=by
    intro l
    induction l with
    | nil=>intro _ _;trivial
    | cons env r g =>
      intro hs k;let⟨n,⟨L,o,a,j,i,p⟩,h⟩:=k;have d:=hs L (by unfold frs;rw[List.filterMap_cons,a];exact List.mem_cons_self);let⟨q,e⟩:=I.base.slot L o i (I.ok.frf L d) d λz=>I.ok.exfs L z d;exact⟨n,⟨L,_,a,j,e,p⟩,g (λb c=>hs b (by unfold frs;rw[List.filterMap_cons,a];exact Xe c)) h⟩
  exact f X.outer (λ_ c=>c) I.ok.funs
def Inv.stack (I:QD s):s.heap.FunFrames X.base X.stack:=by
  rcases I.ok.stk with e | ⟨e,b⟩
  · rw[e];exact I.funs
  · rw[e];let⟨m,a,_⟩:=I.loc;refine .cons (by rw[I.ok.kind];decide) b a ?_ I.funs;exact Heap.get?_none_of_le (Jcz I.ok.above)
def Inv.stkSub (I:QD s):∀b∈frs X.stack,b∈X.env.locals :: X.fs:=λb a=>by
  rcases I.ok.stk with e | ⟨e,c⟩
  · rw[e]at a;exact List.mem_cons_of_mem _ a
  · rw[e]at a;unfold frs at a;rw[List.filterMap_cons,c]at a;exact a
def Inv.stkFree (I:QD s):∀b∈frs X.stack,Vu b:=λb a=>by
  rcases List.mem_cons.mp (I.stkSub b a) with e | a
  · rw[e];exact I.free
  · let⟨_,o,c,_⟩:=I.ok.funs.mem a;exact I.base.free b o c (I.ok.frf b a) λz=>I.ok.exfs b z a
def Inv.step {g':Array GenState}{t':Nat}{d':Drawn}{ch:List Addr}(I:QD s)
    (j:∀b∈ch,(b∈X.ex∨J0 b)∧V1 b∧(∀x c,Ql x c→c≠b)∧∀p∈X.pn++pins,p.1≠b)
    (h:∀b o,V1 b→b∉X.fs→b∉ch→s.heap.get? b=some o→Vu b→h'.get? b=some o)
    (B:∀b o,V1 b→b∈X.fs→b∉ch→s.heap.get? b=some o→Vu b→∃P,h'.get? b=some { o with slots:=P })(f:∀b o,b∉ch→s.heap.get? b=some o→Vu b→Jgy b)
    (C:∀b o,b∉ch→s.heap.get? b=some o→∃J,h'.get? b=some J)
    (F:∀b xs,JbP b xs→JT b xs)(M:∀b o u,Jiv b (JnR u) b (JnR u))(G:∀b ps,Xh b (.tbl ps)→∃L,Xy b (.tbl (ps++L)))
    (ns:∀m,s.heap.Ns X.env.locals m→h'.Ns X.env.locals m)(Q:JhC H' h')(hg:AllBare g') :
    Inv X pins σ H' { s with heap:=h',gens:=g',drawn:=d',toks:=t' }:=by
  have K:∀b o,X.s₀.heap.get? b=some o→V1 b:=λb o e=>JgU e;have y:∀b o,X.s₀.heap.get? b=some o→b∉X.ex→b∉ch:=λb o e a D=>by
    rcases(j b D).1 with z | z
    · exact a z
    · exact absurd (Jq e z) (Nat.lt_irrefl _)
  have t:∀x c,Ql x c→∀v,s.heap.IsCell c v→h'.IsCell c v:=λx c e v ⟨o,E,R⟩=>by
    have g:c∉ch:=λz=>(j c z).2.2.1 x c e rfl;by_cases U:c∈X.fs
    · let⟨P,q⟩:=B c o (I.cne x c e) U g E (Jh2 c e);exact JnP q R
    · exact⟨o,h c o (I.cne x c e) U g E (Jh2 c e),R⟩
  refine⟨I.ok,I.os,hg,⟨λb o e n D a=>?_,λb o e n D a=>?_,λb o e n a=>?_,λb o e a=>?_,λb xs e=>F b xs (I.base.tups b xs e),λb o xs e=>M b o xs (I.base.frzs b o xs e),λb ps e=>?_⟩,?_,λx c e=>?_,?_,λx c e=>?_,λp T=>?_,Q,I.len⟩
  · exact h b o (K b o e) D (y b o e a) (I.base.keep b o e n D a) (Jhm o e n a)
  · let⟨P,A⟩:=I.base.slot b o e n D a;let⟨O,N⟩:=B b _ (K b o e) D (y b o e a) A (Jhm o e n a);exact⟨O,N⟩
  · let⟨J,A⟩:=JlY o e a;exact f b J (y b o e a) A (Jhm o e n a)
  · let⟨J,A⟩:=JlY o e a;exact C b J (y b o e a) A
  · let⟨Y,A⟩:=I.base.tbls b ps e;let⟨W,N⟩:=G b _ A;exact⟨Y++W,by rw[N,Array.append_assoc]⟩
  · let⟨m,Z,hl⟩:=I.loc;refine⟨m,ns m Z,λi x v A N e3=>?_⟩;let⟨u,r,l⟩:=hl i x v A N e3;refine Qj u r;rcases l with l | ⟨k,c,e,z⟩
    · exact .inl l
    · exact .inr ⟨k,c,e,t x c e _ z⟩
  · let⟨v,z⟩:=JjS x e;exact⟨v,t x c e v z⟩
  · let⟨m,⟨o,_,_,E,_⟩,_⟩:=I.loc;exact f _ o (λz=>(j _ z).2.1 rfl) E I.free
  · let⟨v,o,E,R⟩:=JjS x e;exact f c o (λz=>(j c z).2.2.1 x c e rfl) E (Jh2 c e)
  · let⟨e,n,S,nf,d⟩:=JgL T;have g:p.1∉ch:=λz=>(j p.1 z).2.2.2 p T rfl;exact⟨h p.1 p.2 S nf g e n,f p.1 p.2 g e n,S,nf,d⟩
def Inv.un {t':Nat}(I:QD s)(u:JeH X.fs [] H H' h')(c:JhC H' h'):Vy H' { s with heap:=h',toks:=t' }:=by
  let⟨m,⟨o,es,t,h,r⟩,_⟩:=id I.loc;let⟨l,k⟩:=u.any h I.free (by simp);exact I.step (g':=s.gens) (d':=s.drawn) (ch:=[]) (λ_ z=>nomatch z) (λb o _ d _ e n=>u.keep b o e n d (by simp)) (λb o _ d _ e n=>u.slot b o e n d (by simp)) (λb o _ e n=>u.free b o e n (by simp)) (λb o _ e=>u.there b o e (by simp)) u.tups u.frzs u.tbls (λq j=>by let⟨p,f,g,a,i⟩:=j;rw[h]at a;cases a;exact⟨_,f,g,k,i⟩) c I.bare
def Inv.call {g':Array GenState}{t':Nat}{d':Drawn}{ch:List Addr}(I:QD s)(u:JiJ ch H H' h')(g:JhC H' h')(t:AllBare g')
    (f:∀b∈ch,(b∈X.ex∨J0 b)∧V1 b∧(∀x c,Ql x c→c≠b)∧∀p∈X.pn++pins,p.1≠b) :
    Inv X pins σ H' { s with heap:=h',gens:=g',drawn:=d',toks:=t' }:=by
  let⟨m,⟨o,es,C,k,r⟩,_⟩:=id I.loc;let⟨y,h⟩:=u.any k I.free λz=>(f _ z).2.1 rfl;exact I.step f (λb o h v a e n=>u.keep b o e n (λz=>(List.mem_cons.mp (I.stkSub b z)).elim h v) a) (λb o _ _ a e n=>u.any e n a) (λb o a e n=>u.free b o e n a) (λb o a e=>u.there b o e a) u.tups u.frzs u.tbls (λB q=>by let⟨A,i,j,d,l⟩:=q;rw[k]at d;cases d;exact⟨_,i,j,h,l⟩) g t
def Inv.turned {t':Nat}{it:Addr}(I:QD s)(k:∀b o,b≠it→s.heap.get? b=some o→h'.get? b=some o)(h:Vu it)(f:V1 it)
    (w:it∈X.ex∨J0 it)(t:∀x c,Ql x c→c≠it)(l:∀p∈X.pn++pins,p.1≠it):QD { s with heap:=h',toks:=t' }:=by
  have d:∀b u,Jin b u (b≠it):=λb u e z=>by rw[z,h]at e;cases e
  refine I.step (g':=s.gens) (d':=s.drawn) (ch:=[it]) (λb j=>?_) (λb o _ _ a e _=>k b o (λz=>a (by simp [z])) e) (λb o _ _ a e _=>⟨o.slots,k b o (λz=>a (by simp [z])) e⟩) (λ_ _ _ _ n=>n)
    (λb o a e=>⟨o,k b o (λz=>a (by simp [z])) e⟩) (λ_ _ e=>e) (λ_ _ _ e=>e) (λb ps e=>⟨#[],by rw[e];simp⟩) (λm i=>?_) (λb u e=>?_) I.bare
  · have e:b=it:=by simpa using j
    subst e;exact⟨w,f,t,l⟩
  · let⟨o,es,y,g,r⟩:=i;exact⟨o,es,y,k _ o (Ne.symm f) g,r⟩
  · refine(Jk6 u e).stay (λc v a q=>k c v ?_ q) (λ_ q=>q) λ_ _ q=>q;rcases a with z | z
    · rw[z];exact d b u e
    · exact d c _ z
def Inv.tok (I:QD s)(t):QD { s with toks:=t }:=I.un (h':=s.heap) (t':=t) Un.refl I.hok
def Inv.kept (I:QD s)(k:∀b u,s.heap.get? b=some u→h'.get? b=some u):QD { s with heap:=h',toks:=t' }:=I.un (Un.kept k) (I.hok.kept k)
def Inv.laid (I:QD s)(k:∀b u,s.heap.get? b=some u→h'.get? b=some u)(d:JhF a)(c:JcJ (Jnz o) h' a o) :
    Inv X pins σ (Jnz o) { s with heap:=h',toks:=t' }:=I.un (Un.laid k d (I.hok.fresh d)) (I.hok.laid k d c)
def Inv.write (I:QD s)(d:Jm9 x)(f:e=x∨Xh e (.own x))(k:∀b u,b≠e→s.heap.get? b=some u→h'.get? b=some u)(a:∃u,h'.get? e=some u)
    (c:JcJ (XE x o) h' x o):Vy (XE x o) { s with heap:=h',toks:=t' }:=I.un (Un.write d f k a) (I.hok.write d f k a c)
def Inv.pins_of (I:QD s)(h:∀p∈pins',s.heap.get? p.1=some p.2∧Vu p.1∧V1 p.1∧p.1∉X.fs∧∀v,p.2.data≠.cell v):JmT pins' σ :=
  (JmB I.ok (λp a=>(mPq a).elim (λz=>JgL (Xr z)) (h p)))
def uf {N:List Str}(c:N.Nodup){i j:Nat}{x:Str}(a:N[i]?=some x)(b:N[j]?=some x):i=j:=by let⟨g,e⟩:=gEq a;let⟨f,d⟩:=gEq b;exact(List.getElem_inj c).mp (e.trans d.symm)
def ug {M:Model}{A:Around}{E:Value→Shared→Prop}{i:Nat}{x:Str}{v:V}{u:Value}{Q:Unit→Shared→Prop}(I:QD s)(hN:X.N.Nodup)(R:X.N[i]?=some x)(t:Ja3 x)(r:Jf2 v)
    (h:∀s',Vb X (σ.set i (some v)) H s'→(∃a,JaB a s'.heap∧(a=X.env.locals∨Ql x a))→Q () s')(hf:JdS x∨X.env.scope.names.lookup x=some .local:=by first | exact .inl rfl | exact .inr rfl | assumption):wpAny M A (storeName X.env x u) Q E s:=by
  let⟨m,hn,hl⟩:=id I.loc;have S:QM (X.env.scope.kind == .class||(X.env.scope.kind == .module&&X.env.locals != X.env.globals)):=by rw[I.ok.kind];rfl
  have F:i<σ.length:=by rw[I.len];exact(gEq R).1
  have L:=I.cne;have f:∀ {a:Addr} {h':Heap},(∃o,s.heap.get? a=some o∧Vu a)→JaB a h'→HOk X.prog X.w H h':=λ{a h'} ha hs b ob e=>by
    let⟨_,_,B⟩:=ha;refine(Jk6 ob e).stay (λc W l q=>(hs.2 c ?_).trans q) (λ_ q=>q) λ_ _ q=>q;rintro rfl;rcases l with rfl | l
    · rw[B]at e;cases e
    · rw[B]at l;cases l
  rcases t with D | D
  · refine wpAny_storeName_local D hn (λh' hn' hs=>?_) S;let⟨oL,_,_,hoL,_⟩:=id hn;refine h _ (Jml I.ok ⟨λb o e n K t=>?_,λb o e n K t=>?_,I.base.free,λb o e t=>?_,I.base.tups,I.base.frzs,I.base.tbls⟩ (JnP hn' (λj y v' g C e3=>?_)) (λy c e=>?_) (λp hp=>?_) (f ⟨oL,hoL,I.free⟩ hs) (by simpa using I.len)) (JnP hs (.inl rfl))
    · exact(hs.2 b (JgU e)).trans (I.base.keep b o e n K t)
    · let⟨sl,g⟩:=I.base.slot b o e n K t;exact⟨sl,(hs.2 b (JgU e)).trans g⟩
    · let⟨o',g⟩:=JlY o e t;exact⟨o',(hs.2 b (JgU e)).trans g⟩
    · by_cases G:j=i
      · subst G;rw[R]at g;cases g;rw[List.getElem?_set_self F]at C;cases C;exact⟨u,r,Qr D (by simp)⟩
      · rw[List.getElem?_set_ne (Ne.symm G)]at C;let⟨u',r',q⟩:=hl j y v' g C e3;refine Qj u' r';rcases q with ⟨k,e⟩ | ⟨k,c,e,z⟩
        · refine Qr k ?_;have:y≠x:=λe=>G (uf hN g (e ▸ R));simp [this,e]
        · exact .inr ⟨k,c,e,z.sameBut hs (L y c e)⟩
    · let⟨W,z⟩:=JjS y e;exact⟨W,z.sameBut hs (L y c e)⟩
    · let⟨e,n,Y,nf,d⟩:=JgL hp;exact⟨(hs.2 p.1 Y).trans e,n,Y,nf,d⟩
  · have J:JdS x:=by
      rcases hf with z | z
      · exact z
      · rw[z]at D;cases D
    let⟨c,l⟩:=I.ok.has x (.inl D);let⟨W,z⟩:=JjS x l;refine wpAny_storeName_cell I.ok.kind D l z (λh' U hs=>?_);let⟨oc,P,O⟩:=id z;refine h { s with heap:=h' } (Jml I.ok ⟨λb o e n K t=>?_,λb o e n K t=>?_,I.base.free,λb o e t=>?_,I.base.tups,I.base.frzs,I.base.tbls⟩ ⟨m,hn.sameBut hs (Ne.symm (L x c l)),λj y v' g C e3=>?_⟩ (λy Z e=>?_) (λp hp=>?_) (f ⟨oc,P,Jh2 c l⟩ hs) (by simpa using I.len)) ⟨c,hs,.inr l⟩
    · exact(hs.2 b (Jab e (I.ok.cab x c J l))).trans (I.base.keep b o e n K t)
    · let⟨sl,g⟩:=I.base.slot b o e n K t;exact⟨sl,(hs.2 b (Jab e (I.ok.cab x c J l))).trans g⟩
    · let⟨o',g⟩:=JlY o e t;exact⟨o',(hs.2 b (Jab e (I.ok.cab x c J l))).trans g⟩
    · by_cases G:j=i
      · subst G;rw[R]at g;cases g;rw[List.getElem?_set_self F]at C;cases C;exact⟨u,r,Jhl (.inl D) c l U⟩
      · rw[List.getElem?_set_ne (Ne.symm G)]at C;let⟨u',r',q⟩:=hl j y v' g C e3;refine Qj u' r';rcases q with q | ⟨k,Z,e,z'⟩
        · exact .inl q
        · refine Jhl k Z e (z'.sameBut hs ?_);rintro rfl;exact G (uf hN g (I.ok.inj _ _ _ e l ▸ R))
    · by_cases T:Z=c
      · subst T;exact V8 U
      · let⟨w2,z2⟩:=I.cell y Z e;exact⟨w2,z2.sameBut hs T⟩
    · let⟨e,n,Y,nf,d⟩:=JgL hp;refine⟨(hs.2 p.1 ?_).trans e,n,Y,nf,d⟩;intro q;rw[q,P]at e;have q':=Option.some.inj e;exact d W (by rw[←q'];exact O)
def iY (I:QD s)(d:X.N.Nodup)(b:X.N[i]?=some x)(a:Ja3 x)(r:Jf2 v)
    (h:∀s',Vb X (σ.set i (some v)) H s'→Q () s')(c:JdS x∨X.env.scope.names.lookup x=some .local:=by first | exact .inl rfl | exact .inr rfl | assumption):wpAny M A (storeName X.env x u) Q E s :=
  ug I d b a r (λs' e _=>h s' e) c
def Inv.call' (I:QD s)(g:s'.os=s.os)(u:JiJ ch H H' s'.heap)(a:JhC H' s'.heap)(h:AllBare s'.gens)
    (d:∀b∈ch,(b∈X.ex∨J0 b)∧V1 b∧(∀x c,Ql x c→c≠b)∧∀p∈X.pn++pins,p.1≠b):Vy H' s':=by let⟨h',g',d',t',f⟩:=s';have e:=g;subst e;exact I.call (g':=g') (t':=t') (d':=d') u a h d
end
abbrev XK:=Value→Option Addr→Hp→Prop
abbrev St:=List (Option V)
abbrev VK:=V→Hp→Prop
abbrev TE:=St→Hp→VK→Prop
abbrev TT:=St→Hp→(Bool→Hp→Prop)→Prop
abbrev TA:=St→Hp→(List V→Hp→Prop)→Prop
structure iG where
  nx:St→Hp→Prop
  rt:VK
  bk:St→Hp→Prop:=λ_ _=>False
  ct:St→Hp→Prop:=λ_ _=>False
abbrev TS:=iG→St→Hp→Prop
def EP (X:Cx)(a:JgP Obj)(b:St)(Q:VK)(u:Value)(s':Shared):Prop:=∃v H',JW a b H' s'∧Jf2 v∧Q v H'
def TP (X:Cx)(a:JgP Obj)(c:St)(Q:Bool→Hp→Prop)(b:Bool)(s':Shared):Prop:=∃H',JW a c H' s'∧Q b H'
def AP (X:Cx)(a:JgP Obj)(b:St)(Q:List V→Hp→Prop)(us:List Value)(s':Shared):Prop:=∃vs H',JW a b H' s'∧Jc6 vs∧Q vs H'
def SP (X:Cx)(b:JgP Obj)(D:iG)(f:Flow)(s':Shared):Prop :=
  match f with
  | .next=>∃a H',JW b a H' s'∧D.nx a H'
  | .brk=>∃a H',JW b a H' s'∧D.bk a H'
  | .cont=>∃a H',JW b a H' s'∧D.ct a H'
  | .ret u=>∃v a H',JW b a H' s'∧Jf2 v∧D.rt v H'
def PE (X:Cx)(e:Expr)(t:TE):Prop :=
  ∀a s (b:St) H Q,Jo2 b (t b H Q→Jbd (Vg e) (EP X a b Q) s)
def PT (X:Cx)(e:Expr)(t:TT):Prop :=
  ∀a s (b:St) H Q,Jo2 b (t b H Q→Jbd (isTrue e X.env (Vg e)) (TP X a b Q) s)
def PW (X:Cx)(e:Expr)(t:TT):Prop :=
  ∀b a s (c:St) H Q,Jo2 c (t c H Q→Jbd (isTrue e X.env b) (TP X a c Q) s)
def PW.pt (h:PW X e t):PT X e t:=h _
def PA (X:Cx)(es:List Expr)(t:TA):Prop :=
  ∀c a s (b:St) H Q,Jo2 b (t b H Q→Jbd (spliced (VF c es)) (AP X a b Q) s)
def PS (X:Cx)(st:Stmt)(t:TS):Prop :=
  ∀a s (b:St) H D,Jo2 b (t D b H→Jbd (exec st X.env) (SP X a D) s)
def PSs (X:Cx)(st:List Stmt)(t:TS):Prop :=
  ∀a s (b:St) H D,Jo2 b (t D b H→Jbd (execs st X.env) (SP X a D) s)
def thn (h:wpAny M A t Q E s)(b:∀a s,Q a s→Q' a s):wpAny M A t Q' E s:=wpAny_mono h b λ_ _ x=>x
section
variable {X:Cx}
inductive ia (i:Nat):TE|m{σ H Q} v:σ[i]?=some (some v)→Q v H→ia i σ H Q
def tC (v:V):TE:=λ_ H Q=>Q v H
def pe_var (w:X.N[i]?=some x)(o:JfF x)(g:QM (x == ("__debug__":Str)):=by decide)(j:QM (x == ("__classdict__":Str)):=by decide):VE (JbI pos) (ia i):=by
  intro f s n H Q I h;let⟨v,e,h⟩:=h;let⟨m,p,t⟩:=I.loc;let⟨u,r,l⟩:=t i x v w e o;have d:EP X f n Q u s:=⟨v,H,I,r,h⟩;rcases l with ⟨b,q⟩ | ⟨b,c,k,a⟩
  · exact wpAny_Name (wpAny_loadName_local I.ok.kind b p q d) g
  · rcases b with b | b
    · exact wpAny_Name (wpAny_loadName_cell I.ok.kind b k a d) g
    · exact wpAny_Name (wpAny_loadName_free I.ok.kind b k a d j) g
def af:VE (Jf3 (.int i) j) (Jat i):=λ_ _ _ H _ I h=>wpAny_Constant_int (Jid i H _ _ h)
def cN:VE (Jf3 (.bool b) j) (tC (.bl b)):=λ_ _ _ H _ I h=>Constant_bool (Jmo b h)
def eP:VE (Jf3 .none j) (tC .non):=λ_ _ _ H _ I h=>Constant_none (Xs .non H I h)
def bz:VE (Jf3 (.str x) j) (tC (.str x)):=λ_ _ _ H _ I h=>Calls.Constant_str (Q5 (.str x) H _ (Vf _) h)
def Gl (X:Cx)(x:Str):Prop:=Qk x .globalImplicit
def iH (I:QD s)(b:Gl X x)(a:Xa (X.mg x) u)(h:Q u s)
    (c:QM (x == ("__debug__":Str)):=by decide):Jbc (Vg (JbI pos)) Q E s :=
  Calls.Name_function_global I.ok.kind b (Calls.loadGlobal_global (by rw[I.ok.glob];exact I.mod.glob.keeps I.bk) a h) c
def fw (I:QD s)(d:Gl X x)(c:Jcy x)(a:JhY x u)(h:Q u s)
    (b:Jij x:=by decide)(e:QM (x == ("__debug__":Str)):=by decide):Jbc (Vg (JbI pos)) Q E s:=by let⟨i,g,f⟩:=I.mod.blt;exact Calls.Name_function_global I.ok.kind d (Calls.loadGlobal_builtin (by rw[I.ok.glob];exact I.mod.glob.keeps I.bk) c (by rw[I.ok.blt];exact g.keeps I.bk) ((f x b).trans a) h) e
def eQ (b:Gl X x)(a:Xa (X.mg x) u)(r:Jf2 v)(c:QM (x == ("__debug__":Str)):=by decide):VE (JbI pos) (tC v) :=
  λ_ _ _ H _ I h=>iH I b a ⟨v,H,I,r,h⟩ c
def gb (d:Gl X x)(c:Jcy x)(a:JhY x u)(r:Jf2 v)(b:Jij x:=by decide)(e:QM (x == ("__debug__":Str)):=by decide):VE (JbI pos) (tC v) :=
  λ_ _ _ H _ I h=>fw I d c a ⟨v,H,I,r,h⟩ b e
variable {a b:Expr} {ta tb:TE} {pos:Pos}
def PC (X:Cx)(op:CmpOp)(a b:Expr)(t:TE):Prop :=
  ∀c s (f:St) H Q,JmT c f→t f H Q →
    wpAny (Xp X.w) X.A (Vg a) (λv e=>Jbd (Vg b) (λu d=>Jbd (compareOp op v u) (EP X c f Q) d) e) X.xe s
inductive isB:V→Hp→(Bool→Hp→Prop)→Prop|m{x H Q} c:x=.bl c→Q c H→isB x H Q
def tB (t:TE):TT:=λc H Q=>t c H λx d=>isB x d Q
def fg (h:PC X op a b t)(f:JgT op b:=by first | exact nobehind _ (by decide) (by decide) | rfl):PT X (.Compare a [op] [b] pos) (tB t):=by intro e s g H Q I j;refine wpAny_isTrue_Compare1 (thn (h e s g H _ I j) λv r f=>thn f λu p k=>thn k λc o h_=>?_) f;let⟨x,n,l,i,q1⟩:=h_;let⟨d,rfl,q⟩:=q1;cases i;exact Jjk n l q
def cD (h:JnA t)(k:∀c,isTrue e X.env c=(do let v ←c;standAt e.pos;holding [v] (truthy v)):=by intro _;rfl):PT X e (tB t):=by intro f s g H Q I j;refine isTrue_plain (thn (h f s g H _ I j) λv o h_=>?_) (k _);let⟨x,n,l,i,q1⟩:=h_;let⟨d,rfl,q⟩:=q1;cases i;exact Jjk n l q
variable {tA tB':TT} {rest:List Expr}
def tAnd (t u:TT):TT:=λd H Q=>t d H λc e=>if Vq c then u d e Q else Q false e
def tOr (t u:TT):TT:=λd H Q=>t d H λc e=>if Vq c then Q true e else u d e Q
def tNot (t:TT):TT:=λd H Q=>t d H λc e=>Q (!c) e
def gP (g:PT X a tA):PW X (JdO .And [a]) tA:=by
  intro i d s f H Q I h;refine isTrue_and (thn (g d s f H Q I h) λc j e=>?_);cases c with
  | true=>exact isTrue_and_nil e
  | false=>exact e
def dJ (g:PT X a tA):PW X (JdO .Or [a]) tA:=by
  intro i d s f H Q I h;refine isTrue_or (thn (g d s f H Q I h) λc j e=>?_);cases c with
  | false=>exact isTrue_or_nil e
  | true=>exact e
def gc (l:PT X a tA)(k:PW X (JdO .And (V9 b)) tB'):PW X (JdO .And (a :: V9 b)) (tAnd tA tB'):=by
  intro i d s e H Q I h;refine isTrue_and (thn (l d s e H _ I h) λc j ⟨g,f,q1⟩=>?_);cases c with
  | true=>exact k i d j e g Q f q1
  | false=>exact⟨g,f,q1⟩
def cG (l:PT X a tA)(k:PW X (JdO .Or (V9 b)) tB'):PW X (JdO .Or (a :: V9 b)) (tOr tA tB'):=by
  intro i d s e H Q I h;refine isTrue_or (thn (l d s e H _ I h) λc j ⟨g,f,q1⟩=>?_);cases c with
  | true=>exact⟨g,f,q1⟩
  | false=>exact k i d j e g Q f q1
def cY (f:PT X a tA):PT X (.UnaryOp .Not a pos) (tNot tA):=by intro d s e H Q I h;exact isTrue_not (f d s e H (λc g=>Q (!c) g) I h)
def tAndV (ta tb:TE):TE:=λd H Q=>ta d H λx e=>∃c,x=.bl c∧if Vq c then tb d e Q else JkO e
def tNotV (ta:TE):TE:=λd H Q=>ta d H λx e=>∃c,x=.bl c∧Jx (!c) e
def ic (h:VE a t):VE (JdO op [a]) t:=λc s d H Q I e=>BoolOp_one (h c s d H Q I e)
def gQ (l:JlH a)(k:VE (JdO .And (V9 b)) tb):VE (JdO .And (a :: V9 b)) (tAndV ta tb):=by
  intro d s e H Q I h;refine BoolOp_and (thn (l d s e H _ I h) λv i h_=>?_);let⟨x,g,f,j,q1⟩:=h_;let⟨c,rfl,q1⟩:=q1;cases j;refine wpAny_truthy_bool ?_;cases c with
  | true=>exact k d i e g Q f q1
  | false=>exact Jay false g f q1
def pe_not (g:JlH a):VE (.UnaryOp .Not a pos) (tNotV ta):=by intro d s e H Q I h;refine UnaryOp_ (thn (g d s e H _ I h) λv k h_=>?_);let⟨x,j,i,f,q1⟩:=h_;let⟨c,rfl,q1⟩:=q1;cases f;exact not_of (wpAny_truthy_bool (Jay (!c) j i q1))
def tIf (t:TT)(ta tb:TE):TE:=λd H Q=>t d H λc e=>if Vq c then ta d e Q else tb d e Q
def iZ (k:PT X c tA)(n:JlH a)(l:VE b tb):VE (.IfExp c a b pos) (tIf tA ta tb):=by
  intro e s f H Q I h;refine wpAny_IfExp (thn (k e s f H _ I h) λd g ⟨j,i,q1⟩=>?_);cases d with
  | true=>exact n e g f j Q i q1
  | false=>exact l e g f j Q i q1
end
def SqL (K:PySem.W.Frag)(H:Hp)(a:Addr)(xs:List V):Prop :=
  Rd H a (.lst xs) ∨
    ∃o b n,Jap a o∧o.cls=.type "list"∧Qu o.dict∧JnU b n∧Vi b.size∧bc xs b.toList
def SqT (K:PySem.W.Frag)(H:Hp)(a:Addr)(xs:List V):Prop :=
  Rd H a (.tup xs) ∨
    ∃o b n,Jap a o∧(o.cls,o.dict)=(Value.type "tuple",none)∧JnU b n∧Vi b.size∧bc xs b.toList
noncomputable def absV:QL Value V
  | .none=>some .non
  | .bool b=>Jk7 b
  | .int i _=>Je i
  | .str x _=>Jcs x
  | .bytes b _=>some (.byt b)
  | .float b _=>some (.flt b)
  | .ref a=>Ja a
  | .type n=>some (.ty n)
  | _=>none
def bn.abs (r:Jf2 x):absV u=some x:=by
  cases x with
  | non=>cases r;rfl
  | bl _=>cases r;rfl
  | int _=>obtain⟨t,rfl⟩:=r;rfl
  | str _=>obtain⟨t,rfl⟩:=r;rfl
  | byt _=>obtain⟨t,rfl⟩:=r;rfl
  | flt _=>obtain⟨t,rfl⟩:=r;rfl
  | ref _=>cases r;rfl
  | ty _=>cases r;rfl
def bn.inj (r:Jf2 x)(q:Jf2 y):x=y:=Option.some.inj (r.abs.symm.trans q.abs)
theorem bc.inj:∀ {xs ys:List V} {us:List Value},Jc6 xs→Jc6 ys→xs=ys
  | _,_,_,.nil,.nil=>rfl
  | _,_,_,JhE t,.cons a t'=>by rw[r.inj a,bc.inj t t']
section
variable {X:Cx} {pins:List (Jbp Obj)} {σ:St} {H:Hp} {s:Shared} {a:Addr} {xs ys:List V}
def SqL.of {K:PySem.W.Frag}(h:Je7 a):Jcr a:=.inl (.inl h)
def SqT.of {K:PySem.W.Frag}(h:JbP a xs):Jfp a:=.inl (.inl h)
def Inv.list (I:QD s)(h:Jik H a xs):∃b:List Value,bc xs b∧PlainL s.heap a b.toArray∧Vi xs.length:=by
  rcases h with h | ⟨o,b,n,c,f,d,hs,hz,r⟩
  · let⟨z,b,n,r,e⟩:=h.ok I.hok;exact⟨b,r,⟨_,n,e,rfl,rfl,rfl⟩,z⟩
  · refine⟨b.toList,r,⟨o,n,I.kIn a o c,f,d,by simpa using hs⟩,?_⟩;have e:=r.length;simp only[Array.length_toList]at e;lia
def Inv.tupD (I:QD s)(h:JmC H a xs):∃b:List Value,bc xs b∧fu s.heap a b.toArray∧Vi xs.length:=by
  rcases h with h | ⟨o,b,n,c,d,hs,hz,r⟩
  · let⟨z,b,r,p⟩:=h.ok I.hok;exact⟨b,r,p,z⟩
  · refine⟨b.toList,r,⟨o,I.kIn a o c,d,n,by simpa using hs⟩,?_⟩;have e:=r.length;simp only[Array.length_toList]at e;lia
def Inv.tuple (I:QD s)(h:JmC H a xs):∃b:List Value,bc xs b∧IsTup s.heap a b.toArray∧Vi xs.length:=by let⟨b,r,p,z⟩:=I.tupD h;exact⟨b,r,p.up,z⟩
def Inv.list_inj (I:QD s)(h:Jik H a xs)(h':Jik H a ys):xs=ys:=by
  let⟨b,r,⟨o,n,e,_,_,d⟩,_⟩:=I.list h;let⟨its',f,⟨i,j,c,_,_,d'⟩,_⟩:=I.list h';rw[e]at c;cases c;rw[d]at d';injection d' with g _;have:b=its':=by simpa using JiL g
  subst this;exact r.inj f
def Inv.tuple_inj (I:QD s)(h:JmC H a xs)(h':JmC H a ys):xs=ys:=by
  let⟨b,r,⟨o,e,_,n,d⟩,_⟩:=I.tuple h;let⟨its',f,⟨i,c,_,j,d'⟩,_⟩:=I.tuple h';rw[e]at c;cases c;rw[d]at d';injection d' with g _;have:b=its':=by simpa using JiL g
  subst this;exact r.inj f
end
abbrev Cx.wish (X:Cx)(E:Value→Shared→Prop):Cx:={ X with xe:=E }
abbrev Cx.nox (X:Cx):Cx:=X.wish λ_ _=>False
def Cx.Ok.wish {X:Cx}(a:X.Ok)(E):(X.wish E).Ok :=
  ⟨a.mod,a.kind,a.glob,a.blt,a.above,a.inj,a.has,a.cab,a.hd,a.frames,a.stk,a.exf,a.bs,a.bsz,a.noex,a.exfs,a.funs,a.frf⟩
def Cx.Ok.unwish {X:Cx}{E:Value→Shared→Prop}(a:(X.wish E).Ok):X.Ok :=
  ⟨a.mod,a.kind,a.glob,a.blt,a.above,a.inj,a.has,a.cab,a.hd,a.frames,a.stk,a.exf,a.bs,a.bsz,a.noex,a.exfs,a.funs,a.frf⟩
section
variable {X:Cx} {pins:List (Jbp Obj)} {σ:St} {H:Hp} {s:Shared} {E:Value→Shared→Prop}
def Inv.wish (I:QD s)(E):Vn (X.wish E) H s:=JmB (I.ok.wish E) I.pin
def Inv.unwish (I:Vn (X.wish E) H s):QD s:=JmB I.ok.unwish I.pin
def SP.unwish (h:SP (X.wish E) pins D f s'):SP X pins D f s':=by
  cases f with
  | next=>obtain⟨a,H',I,q⟩:=h;exact⟨a,H',I.unwish,q⟩
  | brk=>obtain⟨a,H',I,q⟩:=h;exact⟨a,H',I.unwish,q⟩
  | cont=>obtain⟨a,H',I,q⟩:=h;exact⟨a,H',I.unwish,q⟩
  | ret u=>obtain⟨v,a,H',I,r,q⟩:=h;exact⟨v,a,H',I.unwish,r,q⟩
def PE.nox (h:PE X.nox e t):JnA t:=λpins s σ H Q I a =>
  wpAny_mono (h pins s σ H Q (I.wish _) a) (λ_ _ ⟨v,H',b,r,q⟩=>⟨v,H',b.unwish,r,q⟩) λ_ _ z=>False.elim z
def PT.nox (h:PT X.nox e t):PT X e t:=λpins s σ H Q I a =>
  wpAny_mono (h pins s σ H Q (I.wish _) a) (λ_ _ ⟨H',b,q⟩=>⟨H',b.unwish,q⟩) λ_ _ z=>False.elim z
def PSs.nox {st:List Stmt}{t:TS}(h:PSs X.nox st t):PSs X st t:=λpins s σ H D I a =>
  wpAny_mono (h pins s σ H D (I.wish _) a) (λ_ _ q=>q.unwish) λ_ _ z=>False.elim z
end
section
variable {X:Cx} {st:Stmt} {rest:List Stmt} {t u:TS} {e:Expr} {te:TE} {pos:Pos}
def oQ:TS:=λ⟨n,_,_,_⟩ a H=>n a H
def tSeq (t u:TS):TS:=λ⟨n,r,b,c⟩ a H=>t ⟨u ⟨n,r,b,c⟩,r,b,c⟩ a H
def aU:PSs X [] oQ:=λ_ _ a H _ I h=>wpAny_execs_nil ⟨a,H,I,h⟩
def ae (i:PS X st t)(g:PSs X rest u):PSs X (V9 st) (tSeq t u):=by
  intro a s c H D I h;refine wpAny_execs_cons (thn (i a s c H { D with nx:=u D } I h) λf d q=>?_);cases f with
  | next =>
    let⟨b,H',j,q⟩:=q;exact g a d b H' D j q
  | ret v=>exact q
  | brk=>exact q
  | cont=>exact q
def aj (c:PS X st t):PSs X [st] t:=by
  intro a s b H D I h;refine wpAny_execs_cons (thn (c a s b H D I h) λf d q=>?_);cases f with
  | next=>exact wpAny_execs_nil q
  | ret v=>exact q
  | brk=>exact q
  | cont=>exact q
def Inv.quiet (I:QD s):QM (interactive X.env):=by simp [interactive,I.ok.kind]
def tDrop (te:TE):TS:=λ⟨n,_,_,_⟩ a H=>te a H λ_ b=>n a b
def bD (c:JnA te)(hs:Jb9 e none pos.line=pure false:=by rfl):PS X (.Expr e pos) (tDrop te):=by intro a s b H D I h;exact wpAny_Expr_any (thn (c a s b H _ I h) λv g ⟨x,f,d,i,q1⟩=>⟨b,f,d,q1⟩) I.quiet hs
def tRet (te:TE):TS:=λ⟨_,r,_,_⟩ a H=>te a H r
def aT (d:JnA te):PS X (.Return (some e) pos) (tRet te):=by intro a s b H D I h;exact wpAny_Return_some (thn (d a s b H _ I h) λv i ⟨x,g,f,c,q1⟩=>⟨x,b,g,f,c,q1⟩)
def tIfS (c:TT)(t u:TS):TS:=λD a H=>c a H λb d=>if Vq b then t D a d else u D a d
def be (l:PT X c tc)(o:PSs X a t)(n:PSs X b u):PS X (.If c a b pos) (tIfS tc t u):=by
  intro f s g H D I h;refine wpAny_If (thn (l f s g H _ I h) λd i ⟨k,j,q1⟩=>?_);cases d with
  | true=>exact o f i g k D j q1
  | false=>exact n f i g k D j q1
def uh:TS:=λ_ _ _=>False
end
abbrev TG:=V→St→Hp→(St→Hp→Prop)→Prop
abbrev TGs:=List V→St→Hp→(St→Hp→Prop)→Prop
def PG (X:Cx)(a:Expr)(t:TG):Prop :=
  ∀b s (d:St) H v u Q,JmT b d→Jf2 v→t v d H Q →
    wpAny (Xp X.w) X.A (assign a X.env u) (λ_ s'=>∃c H',JW b c H' s'∧Q c H') X.xe s
def PGs (X:Cx)(ts:List Expr)(t:TGs):Prop :=
  ∀a s (c:St) H vs us Q,JmU c→Jc6 vs→t vs c H Q →
    wpAny (Xp X.w) X.A (assignInOrder ((Jbg ts).map (·.2)) us) (λ_ s'=>∃b H',JW a b H' s'∧Q b H') X.xe s
abbrev TSet:=V→V→V→Hp→(Hp→Prop)→Prop
def PSet (X:Cx)(t:TSet):Prop :=
  ∀a s (b:St) H o i v c d u Q,JmU b→bn o c→bn i d→Jf2 v→t o i v H Q →
    wpAny (Xp X.w) X.A (setItem c d u) (λ_ s'=>∃H',JW a b H' s'∧Q H') X.xe s
abbrev TIp:=V→V→Hp→VK→Prop
def PIp (X:Cx)(op:Operator)(t:TIp):Prop :=
  ∀a s (b:St) H x y v u Q,JmU b→bn x v→Jf2 y→t x y H Q →
    wpAny (Xp X.w) X.A (inplaceOp op v u) (EP X a b Q) X.xe s
section
variable {X:Cx} {pos:Pos}
def ie (i:Nat):TG:=λv a H Q=>Q (a.set i (some v)) H
def ah (e:X.N.Nodup)(c:X.N[i]?=some x)(b:Ja3 x)(d:JdS x∨X.env.scope.names.lookup x=some .local:=by first | exact .inl rfl | exact .inr rfl | assumption):PG X (JbI pos) (ie i):=by intro a s g H v u Q I r h;exact wpAny_assign_Name (iY I e c b r (λs' f=>⟨_,H,f,h⟩) d)
def gNil:TGs:=λvs a H Q=>vs=[]∧Q a H
inductive gCons (t:TG)(u:TGs):TGs|m{vs σ H Q} v r:vs=v :: r→(t v σ H λσ' H'=>u r σ' H' Q)→gCons t u vs σ H Q
def gf:PGs X [] gNil:=by intro a s b H vs us Q I r h;let⟨e,h⟩:=h;subst e;cases r;exact assignInOrder_nil ⟨b,H,I,h⟩
def cI (i:PG X e t)(g:PGs X es u)
    (hs:(Jbg (Jft e)).map (·.2)=assign e X.env :: (Jbg es).map (·.2):=by rfl):PGs X (Jft e) (gCons t u):=by
  intro a s c H vs us Q I r h;let⟨v,n,j,h⟩:=h;subst j;cases r with
  | cons r f =>
    rw[hs];refine assignInOrder_cons (thn (i a s c H _ _ _ I r h) λ_ d h_=>?_);let⟨b,l,k,q1⟩:=h_;exact g a d b l _ _ Q k f q1
inductive gTup (K:PySem.W.Frag)(n)(t:TGs):TG|m{v σ H Q} a xs:Jow v a (Jfp a) (Ja0 n) (t xs σ H Q) (gTup K n t v σ H Q)
def gR (y:Vq X.calm)(h:PGs X es t)
    (w:(Jbg es).length=n:=by rfl)(f:(Jbg es).findIdx? (·.1)=none:=by rfl):PG X (JjT es k) (gTup X.K n t):=by intro c s g H v u Q I r d;let⟨a,xs,z,q,x,d⟩:=d;subst z;cases r;let⟨j,i,p,hz⟩:=I.tuple q;refine assign_Tuple_tuple (I.ok.hd y) p (by simp [w,←x,i.length]) f λh' l=>?_;have A:=I.kept (t':=s.toks) λb o e=>l b o (Jce e) e;exact h c _ g H xs _ Q A (by simpa using i) d
def gSub (b c:TE)(t:TSet):TG:=λv a H Q=>b a H λo f=>c a f λi e=>t o i v e λd=>Q a d
def pg_sub (n:VE o to)(p:VE i ti)(hs:PSet X t)
    (q:∀v,assign (Jhq o i) X.env v=(do
      let b ←holding [v] (Vg o)
      let c ←holding [v,b] (Vg i)
      standAt pos
      holding [v,b,c] (setItem b c v)
      release [v,b,c] []):=by intro _;rfl):PG X (Jhq o i) (gSub to ti t):=by intro a s d H v u Q I r h;rw[q];refine JI (thn (n a s d H _ I h) λb f h_=>?_);let⟨x,D,A,j,q1⟩:=h_;refine JI (thn (p a f d D _ A q1) λc e h_=>?_);let⟨y,C,z,g,l⟩:=h_;refine Jaq (JI (thn (hs a e d C x y v b c u _ z j g r l) λ_ E ⟨B,w,k⟩=>?_));exact wpAny_release ⟨d,B,w,k⟩
def tAsg (te:TE)(g:TG):TS:=λ⟨n,_,_,_⟩ a H=>te a H λx b=>g x a b n
def ps_asg (j:JnA te)(i:PG X tg g)(hs:swapsWithSole [tg] e pos.line X.env=pure false:=by rfl)(f:swappedStores [tg] e X.env=pure none:=by rfl)
    (k:(Jbg [tg]).map (·.2)=[assign tg X.env]:=by rfl):PS X (JhG tg e pos) (tAsg te g):=by intro a s b H D I h;refine wpAny_Assign_stores (thn (j a s b H _ I h) λv c h_=>?_) hs f;let⟨x,n,l,d,q1⟩:=h_;rw[k];exact thn (i a c b n x v _ l d q1) λ_ o q=>q
def aB (k:X.N.Nodup)(f:X.N[i]?=some x)(d:Ja3 x)(j:JnA te)(hs:JiG e (JbI pos') pos.line=pure false:=by rfl)(g:JdS x∨X.env.scope.names.lookup x=some .local:=by first | exact .inl rfl | exact .inr rfl | assumption) :
    PS X (JhG (JbI pos') e pos) (Jlr te i):=by intro a s b H D I h;refine wpAny_Assign_Name (thn (j a s b H _ I h) λv q h_=>?_) hs;let⟨y,o,n,c,q1⟩:=h_;exact iY n k f d c (λp l=>⟨_,o,l,q1⟩) g
inductive tAug (i)(te:TE)(ti:TIp):TS|m{D σ H} x:σ[i]?=some (some x)→(te σ H λy H1=>ti x y H1 λz H2=>D.nx (σ.set i (some z)) H2)→tAug i te ti D σ H
def ps_aug (P:X.N.Nodup)(p:X.N[i]?=some x)(n:Ja3 x)(M:JnA te)(F:PIp X op ti)(L:JdS x∨X.env.scope.names.lookup x=some .local:=by first | exact .inl rfl | exact .inr rfl | assumption) :
    PS X (.AugAssign (JbI pos') op e pos) (tAug i te ti):=by
  intro a s o H D I h;let⟨v,Q,h⟩:=h;let⟨m,G,K⟩:=I.loc;have j:JfF x:=by rcases n with k | k;exact .inl k;exact .inr (.inl k)
  let⟨u,r,l⟩:=K i x v p Q j;refine wpAny_AugAssign_Name ?_;have q:Jbd (Vg e) (λw g=>Jbd (inplaceOp op u w) (λr f=>Jbd (storeName X.env x r) (λ_=>SP X a D .next) f) g) s:=by refine thn (M a s o H _ I h) λw t h_=>?_;let⟨y,W,T,C,q1⟩:=h_;refine thn (F a t o W v y u w _ T r C q1) λz s2 h_=>?_;let⟨Y,U,S,B,E⟩:=h_;exact iY S P p n B (λZ R=>⟨_,U,R,E⟩) L
  rcases l with ⟨b,J⟩ | ⟨b,c,O,d⟩
  · exact wpAny_loadName_local I.ok.kind b G J q
  · rcases b with b | b
    · exact wpAny_loadName_cell I.ok.kind b O d q
    · rcases n with k | k
      · have:X.env.scope.names.lookup x=some .free:=b;rw[k]at this;cases this
      · have:X.env.scope.names.lookup x=some .free:=b;rw[k]at this;cases this
inductive ipI (f:Int→Int→Int):TIp|m{x y H Q} i j:Jjl x i→Jjl y j→Q7 (f i j) H→ipI f x y H Q
def ip_add:PIp X .Add (ipI λi j=>i+j):=by intro a s f H x y v u Q I c b h;let⟨i,j,e,d,q⟩:=h;subst e;subst d;let⟨t,rfl⟩:=c;let⟨t',rfl⟩:=b;exact iadd_int (Jid _ H _ _ q)
end
section
variable {X:Cx} {pos:Pos}
def tWhile (c:TT)(tb:TS):TS:=λD a H=>∃W:Nat→St→Hp→Prop,(∃m,W m a H)∧∀m a H,W m a H →
  c a H λb f=>if Vq b then ∃N:St→Hp→Prop,(∀d H',N d H'→∃e,e<m∧W e d H')∧tb { D with nx:=N,ct:=N,bk:=D.nx } a f else D.nx a f
def l_ (u:PassesOwn (Xp X.w) X.A X.env X.xe)(L:PT X c tc)(M:PSs X body tb):PS X (.While c body [] pos) (tWhile tc tb):=by
  intro d s C H D I h;let⟨W,⟨K,F⟩,i⟩:=h;refine wpAny_While (codeAny_whileLoop (λn s'=>∃g H',JW d g H' s'∧W n g H') ?_ K ⟨C,H,I,F⟩);rintro n J ⟨e,B,O,E⟩;refine wpAny_passesOwn u (thn (L d J e B _ O (i n e B E)) λb G ⟨z,y,l⟩=>?_);cases b with
  | true =>
    let⟨N,x,l⟩:=l;rw[if_pos rfl];refine wpAny_passesOwn u (thn (M d G e z _ y l) λf P k=>?_);cases f with
    | next =>
      let⟨a,j,t,p⟩:=k;let⟨q,r,o⟩:=x a j p;exact⟨q,r,a,j,t,o⟩
    | cont =>
      let⟨a,j,t,p⟩:=k;let⟨q,r,o⟩:=x a j p;exact⟨q,r,a,j,t,o⟩
    | brk=>exact k
    | ret v=>exact k
  | false =>
    rw[if_neg Bool.false_ne_true];exact wpAny_execs_nil ⟨e,z,y,l⟩
end
structure It where
  go:Nat→Hp→Prop
  yld:Nat→Hp→V→Hp→Prop
  stop:Nat→Hp→Prop
def eg (X:Cx)(a:JgP Obj)(H:Hp)(b:Addr):Prop :=
  H b=none∧V1 b∧b∉X.fs∧(b∈X.ex∨J0 b)∧(∀x c,Ql x c→c≠b)∧∀p∈X.pn++a,p.1≠b
def Inv.fpOk (I:QD s)(a:JhF b)(f:Jgy b):eg X pins H' b:=by
  refine⟨f,Nat.ne_of_gt (Nat.lt_of_lt_of_le I.lt a),I.nofs a,.inr (Nat.le_trans I.sz a),λx c e z=>?_,λp d z=>?_⟩
  · let⟨v,q⟩:=JjS x e;exact absurd (Nat.lt_of_lt_of_le q.lt (by rw[z];exact a)) (Nat.lt_irrefl _)
  · exact Jcq (Jq (JgL d).1 (by rw[z];exact a)) _
structure gS (P)(w)(K:PySem.W.Frag)(tg)(J:It)(fp:List Addr)(it)(tn:Nat→Heap→Prop):Prop where
  mem:it∈fp
  obj:∀i h,tn i h→∀b∈fp,∃o,h.get? b=some o∧∀v,o.data≠.cell v
  keep:∀i h h',tn i h→(∀b∈fp,∀o,h.get? b=some o→h'.get? b=some o)→tn i h'
  item:∀(X),X.prog=P→X.w=w→X.K=K→Vq X.calm→∀(i) (pins) (s) (σ:St) (H) (E),QD s→(∀b∈fp,eg X pins H b)→tn i s.heap→JjA H →
    wpAny (JiM P) X.A (Jfa it) (λr s1=>∃u,Xa r u ∧
      Xb P w X.A (letOwnedTupleGo tg (.ref it) u) (λ_ s2=>∃x H',Vy H' s2∧Jf2 x∧Jmg H H'∧tn (i+1) s2.heap∧∀b∈fp,Jgy b) E s1) E s
  done:∀(X),X.prog=P→X.w=w→X.K=K→Vq X.calm→∀(i) (pins) (s) (σ:St) (H) (E),QD s→(∀b∈fp,eg X pins H b)→tn i s.heap→JeA H →
    wpAny (JiM P) X.A (Jfa it) (λr s1=>Qu r∧QD s1) E s
  self:∀(A) (i) (s) (Q) (E),tn i s.heap→Xl it s→Xb P w A (pyIter (.ref it)) Q E s
abbrev TI:=St→Hp→(It→Hp→Prop)→Prop
def PIE (X:Cx)(a:JgP Obj)(g:St)(h:Expr)(R:It→Hp→Prop)(c:Value)(e:Shared):Prop :=
  ∃it f d J H',QB c it∧JW a g H' e∧gS X.prog X.w X.K h J f it d∧d 0 e.heap∧(∀b∈f,eg X a H' b)∧R J H'
def PI (X:Cx)(e b:Expr)(d:TI):Prop :=
  ∀a s (c:St) H R,JmU c→d c H R →
    wpAny (Xp X.w) X.A (Vg b) (λv f=>Jbd (pyIter v) (PIE X a c e R) f) X.xe s
def i_ (b:s.heap.get? it=some o)(e:o.cls=.type n)(d:JnS (.fields vs))
    (c:["enumerate","zip","dict_itemiterator","dict_reverseitemiterator","odict_iterator","itertools.zip_longest","itertools.pairwise"].contains n=false)(a:Q () s):wpAny M A (letOwnedTupleGo tg (.ref it) u) Q E s:=by
  cases tg <;> first
    | exact wpAny_pure a
    | (cases u <;> first
        | exact wpAny_pure a
        | (refine wpAny_bind (wpAny_load b ?_)
           rw[e,d];show wpAny M A (if(["enumerate","zip","dict_itemiterator","dict_reverseitemiterator","odict_iterator","itertools.zip_longest","itertools.pairwise"].contains n&&vs[0]? == some (rawInt _))=true then _ else _) Q E s
           rw[if_neg (by intro h;rw[c,Bool.false_and]at h;cases h)];exact wpAny_pure a))
noncomputable def Itl (K:PySem.W.Frag)(a:Addr):It :=
  ⟨λi H=>∃xs x,Jcr a∧xs[i]?=some x,λi H x H'=>H'=H∧∀xs,Jcr a→xs[i]?=some x,λi H=>∃xs,Jcr a∧JhH i⟩
noncomputable def Itt (K:PySem.W.Frag)(a:Addr):It :=
  ⟨λi H=>∃xs x,Jfp a∧xs[i]?=some x,λi H x H'=>H'=H∧∀xs,Jfp a→xs[i]?=some x,λi H=>∃xs,Jfp a∧JhH i⟩
noncomputable def Itr (lo:Int)(n:Nat):It:=⟨λi _=>i<n,λi H x H'=>H'=H∧Jjl x (lo+i),λi _=>n≤i⟩
def ui {P:Program}{w:World}{K:PySem.W.Frag}{O:Expr}(a it):gS P w K O (Itl K a) [it] it (λi h=>JeY it a) where
  mem:=by simp
  obj:=λi h st b g=>by
    have e:b=it:=by simpa using g
    subst e;let⟨o,e,c,d⟩:=st;exact⟨o,e,λv z=>by rw[d]at z;cases z⟩
  keep:=λi h h' st k=>st.at λo e=>JaL it o e
  item:=by intro X B y C N i f s M H E I n st A;subst B y C;let⟨xs,x,l,t⟩:=A;let⟨r,q,p,hz⟩:=I.list l;let⟨u,T,R⟩:=q.get t;let⟨L,J,U,G,F,D⟩:=n it (by simp);refine wpAny_pyNext_list_item st p.isList (by simpa using T) λh' j Q=>?_;have Z:=I.turned (t':=s.toks) (λb o g e=>(Q.2 b g).trans e) L J G F D;let⟨o,e,c,d⟩:=id j;exact Qd u (Jem e c d ⟨x,H,Z,R,Jbm (λys S=>by rw[I.list_inj S l];exact t),j,λb g=>(n b g).1⟩)
  done:=by intro X B y C N i f s M H E I n st A;subst B y C;let⟨xs,l,t⟩:=A;let⟨r,q,p,hz⟩:=I.list l;let⟨L,J,U,G,F,D⟩:=n it (by simp);have hl:=q.length;exact wpAny_pyNext_list_end (I.ok.hd N) st p.isList (by simp;lia) λh' Y=>Jcd (t':=s.toks) (λb o g e=>Y b o g e) L J G F D
  self:=λ_ _ _ _ _ st h=>wpAny_pyIter_listiter st h
def uj {P:Program}{w:World}{K:PySem.W.Frag}{O:Expr}(a it):gS P w K O (Itt K a) [it] it (λi h=>h.IsTupleIter it a i) where
  mem:=by simp
  obj:=λi h st b j=>by
    have e:b=it:=by simpa using j
    subst e;let⟨o,e,c,d⟩:=st;exact⟨o,e,λv z=>by rw[d]at z;cases z⟩
  keep:=λi h h' st k=>st.at λo e=>JaL it o e
  item:=by intro X B y C N i f s M H E I q st A;subst B y C;let⟨xs,x,n,t⟩:=A;let⟨g,r,p,hz⟩:=I.tuple n;let⟨u,T,R⟩:=r.get t;let⟨L,J,U,G,F,D⟩:=q it (by simp);refine wpAny_pyNext_tuple_item st (show JmD g.toArray from p) (by simpa using T) λh' l Q=>?_;have Z:=I.turned (t':=s.toks) (λb o j e=>(Q.2 b j).trans e) L J G F D;let⟨o,e,c,d⟩:=id l;exact Qd u (Jem e c d ⟨x,H,Z,R,Jbm (λys S=>by rw[I.tuple_inj S n];exact t),l,λb j=>(q b j).1⟩)
  done:=by intro X B y C N i f s M H E I q st A;subst B y C;let⟨xs,n,t⟩:=A;let⟨g,r,p,hz⟩:=I.tuple n;let⟨L,J,U,G,F,D⟩:=q it (by simp);have hl:=r.length;exact wpAny_pyNext_tuple_end (I.ok.hd N) st (show JmD g.toArray from p) (by simp;lia) λh' Y=>Jcd (t':=s.toks) (λb o j e=>Y b o j e) L J G F D
  self:=λ_ _ _ _ _ st h=>wpAny_pyIter_tupleiter st h
def yF {P:Program}{w:World}{K:PySem.W.Frag}{D:Expr}(it)(lo)(n):gS P w K D (Itr lo n) [it] it (λi h=>IsRangeIter h it (lo+(i:Nat) * 1) ((n:Int)-(i:Nat)) 1) where
  mem:=by simp
  obj:=λi h st b c=>by
    have e:b=it:=by simpa using c
    subst e;exact JnP st (λv z=>by have C:=z;cases C)
  keep:=λi h h' st k=>JaL it _ st
  item:=by intro X p g q l i a s B H E I f st j;subst p g q;let⟨A,y,J,x,u,r⟩:=f it (by simp);have W:=Walks.range (prog:=X.prog) (w:=X.w) (I.ok.hd l) it lo 1 n;refine W.item i s _ _ j st λv h' tk G d F=>?_;let⟨t,rfl⟩:=G;have M:JmS a B { s with heap:=h',toks:=tk }:=I.turned (λb o c e=>F b o (by simpa using c) e) A y x u r;refine QI (Jem d rfl rfl ⟨.int _,H,M,VI t,Vf rfl,d,λb c=>(f b c).1⟩);rw[Int.mul_one]
  done:=by intro X p g q l i a s B H E I f st j;subst p g q;let⟨A,y,J,x,u,r⟩:=f it (by simp);exact wpAny_pyNext_range_end (I.ok.hd l) st (by have:n≤i:=j;lia) λh' L=>Jcd (t':=s.toks) (λb o c e=>L b o c e) A y x u r
  self:=λ_ _ _ _ _ st h=>wpAny_pyIter_rangeiter st h
section
variable {X:Cx} {tg:Expr}
inductive rItl (K:PySem.W.Frag):V→Hp→(It→Hp→Prop)→Prop|m{x H R} a:JjR x a (∃xs,Jcr a) (R (Itl K a) H) (rItl K x H R)
inductive rItt (K:PySem.W.Frag):V→Hp→(It→Hp→Prop)→Prop|m{x H R} a:JjR x a (∃xs,Jfp a) (R (Itt K a) H) (rItt K x H R)
def iList (K:PySem.W.Frag)(b:TE):TI:=λa H R=>b a H λx c=>rItl K x c R
def iTup (K:PySem.W.Frag)(b:TE):TI:=λa H R=>b a H λx c=>rItt K x c R
def cT {l:Expr}{g:TE}(r:VE l g):PI X tg l (iList X.K g):=by
  intro c s i H R I h;refine thn (r c s i H _ I h) λv d h_=>?_;let⟨x,u,f,j,q1⟩:=h_;let⟨a,e,⟨xs,n⟩,q⟩:=q1;subst e;cases j;let⟨k,w,p,hz⟩:=f.list n;refine JO p.isList;refine Jhr d.heap.objs.size [d.heap.objs.size] _ _ u (f.kept (t':=d.toks) λb o e=>JgM e) (ui a _) (JiY (Heap.get?_push_size _ rfl)) (λb t=>?_) q;have e:b=d.heap.objs.size:=by simpa using t
  subst e;exact JjU (nRq _) (nRq _)
def ej {l:Expr}{i:TE}(r:VE l i):PI X tg l (iTup X.K i):=by
  intro d s j H R I h;refine thn (r d s j H _ I h) λv c h_=>?_;let⟨x,u,f,k,q1⟩:=h_;let⟨a,e,⟨xs,n⟩,q⟩:=q1;subst e;cases k;let⟨g,w,p,hz⟩:=f.tuple n;refine JcA (show c.heap.IsTuple a g.toArray from p);refine Jhr c.heap.objs.size [c.heap.objs.size] _ _ u (f.kept (t':=c.toks) λb o e=>JgM e) (uj a _) (JiY (Heap.get?_push_size _ rfl)) (λb t=>?_) q;have e:b=c.heap.objs.size:=by simpa using t
  subst e;exact JjU (nRq _) (nRq _)
def yG {c:List (Jbp Obj)}{d:St}{H:Hp}{s:Shared}{R:It→Hp→Prop}{E:Value→Shared→Prop}{lo a:Int}{t u v:Tok}{tk:Nat}(I:JmT c d)(k:-(2 ^ 62)≤lo)(j:lo<2 ^ 62)(i:-(2 ^ 62)≤a)(h:a<2 ^ 62)
    (q:R (Itr lo (a-lo).toNat) H):Jbc (pyIter (.ref s.heap.objs.size)) (PIE X c d tg R) E { s with heap:=s.heap.push { cls:=.type "range",data:=.fields #[Jdw lo,JnQ a,.int 1 v] },toks:=tk }:=by
  refine wpAny_pyIter_range (IsRange.new ..) (small_one k j i h) ?_;have f:JmS c d { s with heap:=s.heap.push { cls:=.type "range",data:=.fields #[Jdw lo,JnQ a,.int 1 v] },toks:=tk }:=I.kept λb o e=>JgM e;refine Jhr ((s.heap.push { cls:=.type "range",data:=.fields #[Jdw lo,JnQ a,.int 1 v] }).objs.size) [(s.heap.push { cls:=.type "range",data:=.fields #[Jdw lo,JnQ a,.int 1 v] }).objs.size] _ _ H (f.kept (t':=tk) λb o e=>JgM e) (yF _ lo (a-lo).toNat) ?_ (λb g=>?_) q
  · have n:lo+((0:Nat):Int) * 1=lo:=by simp
    have l:(((a-lo).toNat:Nat):Int)-((0:Nat):Int)=Builtin.Range.rangeSize lo a 1:=by rw[rangeSize_one];split <;> lia
    rw[n,l];exact Heap.get?_push_size _ rfl
  · have e:b=(s.heap.push { cls:=.type "range",data:=.fields #[Jdw lo,JnQ a,.int 1 v] }).objs.size:=by simpa using g
    subst e;exact JjU (nRq _) (nRq _)
def iRng1 (b:TA):TI:=λa H R=>b a H λvs c=>∃j:Int,vs=Ji6 j∧-(2 ^ 62)≤j∧j<2 ^ 62∧R (Itr 0 j.toNat) c
def ig {a:Expr}{d:TA}{p b:Pos}(n:Gl X "range")(l:Jcy "range")(o:PA X [a] d)(hs:Vc [a]=[(false,Vg a)]:=by rfl):PI X tg (JJ "range" p [a] [] b) (iRng1 d):=by
  intro c s f H R I h;refine Joh I n l boot_range (thn (o b c s f H _ I h) λus v h_=>?_) hs rfl;let⟨vs,w,u,i,q1⟩:=h_;let⟨j,e,q1,k,q⟩:=q1;subst e;cases i with
  | cons r g =>
    cases g;let⟨t,rfl⟩:=r;exact call_range_1 (yG u (by lia) (by lia) q1 k (by simpa using q))
def tFor (e:TI)(g:TG)(tb:TS):TS:=λD a H=>e a H λJ h=>∃W:Nat→Nat→St→Hp→Prop,(∃m,W 0 m a h)∧∀i m a H,W i m a H →
  (JoV H (D.nx a H))∨(JjA H∧∃N:St→Hp→Prop,(∀b H',N b H'→∃d,d<m∧W (i+1) d b H')∧∀x H',Jmg H H'→g x a H' λc f=>tb { D with nx:=N,ct:=N,bk:=D.nx } c f)
noncomputable def zf5 (a:List Addr)(h:Heap):JgP Obj:=a.filterMap λb=>(h.get? b).map λo=>(b,o)
def ma (a:b∈fp)(e:h.get? b=some o):(b,o)∈zf5 fp h:=List.mem_filterMap.mpr ⟨b,a,by rw[e];rfl⟩
def yH (a:p∈zf5 fp h):p.1∈fp∧h.get? p.1=some p.2:=by
  let⟨b,c,e⟩:=List.mem_filterMap.mp a;cases q:h.get? b with
  | none=>rw[q]at e;cases e
  | some o =>
    rw[q]at e;have d:=Option.some.inj e;subst d;exact⟨c,q⟩
def Inv.pinned (I:QD s)(h:∀b∈fp,eg X pins H b)(g:∀b∈fp,∃o,s.heap.get? b=some o∧∀v,o.data≠.cell v):JmT (pins++zf5 fp s.heap) σ :=
  I.pins_of λp f=>(mPq f).elim (λz=>JgL (Jj z)) λz=>by let⟨a,e⟩:=yH z;let⟨k,j,i,_⟩:=h p.1 a;let⟨o,c,d⟩:=g p.1 a;rw[e]at c;cases c;exact⟨e,k,j,i,d⟩
def Inv.unpinned (I:JmT (pins++pl) σ):QD s:=I.pins_of λp a=>JgL (Jj (Xr a))
def cc (K:PassesOwn (Xp X.w) X.A X.env X.xe)(hc:Vq X.calm)(hi:Jox X tg)(hg:PG X tg g)(p:PSs X body tb)
    (hs:∀x,JiV x=pure x:=by intro _;rfl):PS X (.For tg iter body [] pos) (tFor wi g tb):=by
  intro c s Z H D I h;refine wpAny_For (thn (hi c s Z H _ I h) λv s1 h1=>thn h1 λitv s2 h2=>?_) hs;let⟨it,M,tn,J,H2,e,I2,T,Q,f2,W,⟨m0,w0⟩,C⟩:=h2;subst e;have l:∀ {H':Hp},(∀b∈M,Jgy b)→∀b∈M,eg X c H' b:=λhn b p=>⟨hn b p,(f2 b p).2⟩;refine codeAny_forLoop_any (λn s'=>∃i k H',JW c k H' s'∧tn i s'.heap∧(∀b∈M,Jgy b)∧W i n k H') ?_ m0 ⟨0,Z,H2,I2,Q,λb p=>(f2 b p).1,w0⟩;rintro n s3 ⟨i,j,O,I3,F,L,w3⟩;rcases C i n j O w3 with ⟨E,qn⟩ | ⟨go,N,hN,step⟩
  · refine Jer (thn (T.done X rfl rfl rfl hc i c s3 j O X.xe I3 (l L) F E) λr s4 ⟨S,I4⟩=>?_);subst S;exact wpAny_execs_nil ⟨j,O,I4,qn⟩
  · refine Jer (thn (T.item X rfl rfl rfl hc i c s3 j O X.xe I3 (l L) F go) λr s4 ⟨u,S,h4⟩=>?_);subst S;refine Jer (thn h4 λ_ s5 h_=>?_);let⟨x,H5,I5,r5,y5,B,U⟩:=h_;have Y:=I5.pinned (l U) (T.obj _ _ B);refine Jer (thn (hg _ s5 j H5 x u _ Y r5 (step x H5 y5)) λ_ s6 h_=>?_);let⟨P,H6,I6,q6⟩:=h_;refine Jer (thn (p _ s6 P H6 _ I6 q6) λf R z=>?_);have q:∀ {a:St} {y:Hp},JW _ a y R→N a y→∃m,m<n∧∃i k H',JW c k H' R∧tn i R.heap∧(∀b∈M,Jgy b)∧W i m k H':=λ{a y} t G=>by let⟨m',hm,w7⟩:=hN a y G;refine⟨m',hm,i+1,a,y,t.unpinned,T.keep _ _ _ B λb p o e=>(t.pin _ (Jj (Jj (ma p e)))).1,λb p=>?_,w7⟩;let⟨o,e,d⟩:=T.obj _ _ B b p;exact(t.pin _ (Jj (Jj (ma p e)))).2.1
    cases f with
    | next=>obtain⟨a,y,t,G⟩:=z;exact q t G
    | cont=>obtain⟨a,y,t,G⟩:=z;exact q t G
    | brk=>obtain⟨a,y,t,z⟩:=z;exact⟨a,y,t.unpinned,z⟩
    | ret v=>obtain⟨x7,a,y,t,r7,z⟩:=z;exact⟨x7,a,y,t.unpinned,r7,z⟩
end
def yI {K:PySem.W.Frag}{a:Addr}{xs:List V}{g:TG}{tb:TS}{D:iG}{b:St}{H:Hp}(c:Nat→St→Hp→Prop)(h0:c 0 b H)(n:∀i b H,JmE i→c i b H→Jcr a)
    (hs:∀i x b H,xs[i]?=some x→c i b H→g x b H λd j=>tb { D with nx:=c (i+1),ct:=c (i+1),bk:=D.nx } d j)(r:∀b H,c xs.length b H→D.nx b H) :
    ∃W:Nat→Nat→St→Hp→Prop,(∃m,W 0 m b H)∧∀i m b H,W i m b H →
      ((Itl K a).stop i H∧D.nx b H)∨((Itl K a).go i H∧∃N:St→Hp→Prop,(∀f H',N f H'→∃k,k<m∧W (i+1) k f H')∧∀x H',(Itl K a).yld i H x H'→g x b H' λd j=>tb { D with nx:=N,ct:=N,bk:=D.nx } d j):=by
  refine Qj (λi m b H=>m=xs.length-i∧JmE i∧c i b H) ⟨xs.length,by simp,Nat.zero_le _,h0⟩;rintro i m b H ⟨rfl,o,p⟩;have q:=n i b H o p;by_cases h:JhX i
  · refine Jhl ⟨xs,xs[i],q,by simp [h]⟩ (c _) (λf H' l=>VO (xs.length-(i+1)) (by lia) h l) (λx H' y=>?_);let⟨e,y⟩:=y;subst e;exact hs i x b _ (y xs q) p
  · have e:i=xs.length:=by lia
    subst e;exact Qr ⟨xs,q,nRq _⟩ (r b H p)
def iI {lo:Int}{n:Nat}{g:TG}{tb:TS}{D:iG}{a:St}{H:Hp}(f:Nat→St→Hp→Prop)(h0:f 0 a H)
    (hs:∀i a H,i<n→f i a H→g (.int (lo+i)) a H λb h=>tb { D with nx:=f (i+1),ct:=f (i+1),bk:=D.nx } b h)(l:∀a H,f n a H→D.nx a H) :
    ∃W:Nat→Nat→St→Hp→Prop,(∃m,W 0 m a H)∧∀i m a H,W i m a H →
      ((Itr lo n).stop i H∧D.nx a H)∨((Itr lo n).go i H∧∃N:St→Hp→Prop,(∀c H',N c H'→∃j,j<m∧W (i+1) j c H')∧∀x H',(Itr lo n).yld i H x H'→g x a H' λb h=>tb { D with nx:=N,ct:=N,bk:=D.nx } b h):=by
  refine Qj (λi m a H=>m=n-i∧i≤n∧f i a H) ⟨n,by simp,Nat.zero_le _,h0⟩;rintro i m a H ⟨rfl,o,p⟩;by_cases d:i<n
  · refine Jhl d (f _) (λc H' k=>VO (n-(i+1)) (by lia) d k) (λx H' y=>?_);let⟨e,y⟩:=y;subst e y;exact hs i a _ d p
  · have e:i=n:=by lia
    subst e;exact Qr (nRq _) (l a H p)
abbrev R2:=V→V→Hp→VK→Prop
def OpR (X:Cx)(f:Value→Value→Sem Value)(r:R2):Prop :=
  ∀a s (b:St) H x y v u Q,JmU b→bn x v→Jf2 y→r x y H Q →
    wpAny (Xp X.w) X.A (f v u) (EP X a b Q) X.xe s
def UnR (X:Cx)(f:Value→Sem Value)(r:V→Hp→VK→Prop):Prop :=
  ∀a s (b:St) H x v Q,JmU b→bn x v→r x H Q →
    wpAny (Xp X.w) X.A (f v) (EP X a b Q) X.xe s
def cO (X:Cx)(f:Value)(r:List V→Hp→VK→Prop):Prop :=
  ∀a s (b:St) H xs us Q,JmU b→Jc6 xs→r xs H Q →
    wpAny (Xp X.w) X.A (call f us) (EP X a b Q) X.xe s
def tOp (r:R2)(b tb:TE):TE:=λa H Q=>b a H λx d=>tb a d λy c=>r x y c Q
def tUn (r:V→Hp→VK→Prop)(b:TE):TE:=λa H Q=>b a H λx c=>r x c Q
inductive rI (C:Int→Int→Prop)(g:Int→Int→V):R2|m{x y H Q} i j:Jjl x i→Jjl y j→C i j→Q (g i j) H→rI C g x y H Q
inductive rI0 (g:Int→Int→V):R2|m{x y H Q} i j:Jjl x i→Jjl y j→Q (g i j) H→rI0 g x y H Q
inductive rU (g:Int→V):V→Hp→VK→Prop|m{x H Q} i:Jjl x i→Q (g i) H→rU g x H Q
section
variable {X:Cx} {a b c:Expr} {ta tb tc:TE} {pos:Pos}
def binT (z:JlH a)(t:VE b tb){d:List (Jbp Obj)}{s:Shared}{e:St}{H:Hp}{R:V→V→Hp→Prop}(I:JmT d e)
    (h:ta e H λx l=>tb e l λy g=>R x y g){Q:Value→Shared→Prop}{f:Value→Value→Sem Value}
    (r:∀v u k x y g,JW d e g k→bn x v→Jf2 y→R x y g→Jbd (f v u) Q k) :
    wpAny (Xp X.w) X.A (Vg a) (λv j=>Jbd (Vg b) (λu i=>Jbd (f v u) Q i) j) X.xe s:=by refine thn (z d s e H _ I h) λv n h_=>?_;let⟨x,l,C,p,q1⟩:=h_;refine thn (t d n e l _ C q1) λu k h_=>?_;let⟨y,g,B,o,q⟩:=h_;exact r v u k x y g B p o q
def aX (j:Ja6 X op r)(l:JlH a)(k:VE b tb):VE (.BinOp a op b pos) (tOp r ta tb):=by intro d s e H Q I h;exact wpAny_BinOp (binT l k I h λv u f x y o n i g q=>j d f e o x y v u Q n i g q)
def bX (i:UnR X (unaryOp op) r)(j:JlH a):VE (.UnaryOp op a pos) (tUn r ta):=by intro d s e H Q I h;exact UnaryOp_ (thn (j d s e H _ I h) λv f ⟨x,l,k,g,q1⟩=>i d f e l x v Q k g q1)
def opI {f:Value→Value→Sem Value}{C:Int→Int→Prop}{g:Int→Int→Int}
    (d:∀i j t u s Q E,C i j→Q (JnV (g i j)) { s with toks:=s.toks+1 }→Jbc (f (Jdw i) (JnQ j)) Q E s) :
    OpR X f (rI C λi j=>.int (g i j)):=by intro e s o H x y v u Q I l k h;let⟨i,j,rfl,rfl,n,q⟩:=h;let⟨t,rfl⟩:=l;let⟨t',rfl⟩:=k;exact d i j t t' s _ _ n (Jid _ H _ _ q)
def opI0 {f:Value→Value→Sem Value}{g:Int→Int→Int}
    (d:∀i j t u s Q E,Q (JnV (g i j)) { s with toks:=s.toks+1 }→Jbc (f (Jdw i) (JnQ j)) Q E s) :
    OpR X f (rI0 λi j=>.int (g i j)):=by intro e s n H x y v u Q I l k h;let⟨i,j,rfl,rfl,q⟩:=h;let⟨t,rfl⟩:=l;let⟨t',rfl⟩:=k;exact d i j t t' s _ _ (Jid _ H _ _ q)
def opB0 {f:Value→Value→Sem Value}{g:Int→Int→Bool}
    (d:∀i j t u s Q E,Jjm (g i j) s→Jbc (f (Jdw i) (JnQ j)) Q E s) :
    OpR X f (rI0 λi j=>.bl (g i j)):=by intro e s n H x y v u Q I l k h;let⟨i,j,rfl,rfl,q⟩:=h;let⟨t,rfl⟩:=l;let⟨t',rfl⟩:=k;exact d i j t t' s _ _ (Joz q)
def CDiv (i j:Int):Prop:=0<j∧j<1073741824
def CPow (i j:Int):Prop:=0≤j∧j≤1000000∧i.natAbs<2 ^ 64
def CMul (i j:Int):Prop:=(-(2 ^ 64)<i∧i<2 ^ 64)∨(-(2 ^ 64)<j∧j<2 ^ 64)
def CMul.ok (h:CMul i j):IntMulOk i j:=by
  rcases h with ⟨e,d⟩ | ⟨e,d⟩
  · exact .of_left (intBits_le_64 e d)
  · exact .of_right (intBits_le_64 e d)
def eo:Ja6 X .Add (rI0 λi j=>.int (i+j)):=opI0 λ_ _ _ _ _ _ _ q=>add_int q
def gh:Ja6 X .Sub (rI0 λi j=>.int (i-j)):=opI0 λ_ _ _ _ _ _ _ q=>sub_int q
def gU:Ja6 X .Mult (rI CMul λi j=>.int (i * j)):=opI λ_ _ _ _ _ _ _ d q=>mul_int q d.ok
def fx:Ja6 X .FloorDiv (rI CDiv λi j=>.int (i / j)):=opI λi j _ _ _ _ _ d q=>by have f:(0:Int)<j:=d.1;have e:j<1073741824:=d.2;exact floordiv_int (by lia) (by rw[Int.fdiv_eq_ediv_of_nonneg i (by lia)];exact q) (.inl (PyProof.noPylong_small (by lia)))
def cw:Ja6 X .Mod (rI (λ_ j=>0<j) λi j=>.int (i % j)):=opI λi j _ _ _ _ _ d q=>by exact mod_int' (by lia) (by rw[Int.fmod_eq_emod_of_nonneg i (by lia)];exact q)
def uk:Ja6 X .Pow (rI CPow λi j=>.int (i ^ j.toNat)):=opI λ_ _ _ _ _ _ _ d q=>pow_int_small d.1 d.2.1 d.2.2 q
def unI {f:Value→Sem Value}{g:Int→Int}
    (d:∀i t s Q E,Q (JnV (g i)) { s with toks:=s.toks+1 }→Jbc (f (Jdw i)) Q E s) :
    UnR X f (rU λi=>.int (g i)):=by intro e s k H x v Q I j h;let⟨i,rfl,q⟩:=h;let⟨t,rfl⟩:=j;exact d i t s _ _ (Jid _ H _ _ q)
def bY:UnR X (unaryOp .USub) (rU λi=>.int (-i)):=unI λ_ _ _ _ _ q=>neg_int q
end
noncomputable def scal:V→Jn_ V
  | .non,.non=>true | .non,.int _=>true | .int _,.non=>true | .non,.bl _=>true | .bl _,.non=>true | .non,.str _=>true | .str _,.non=>true
  | .int _,.int _=>true | .bl _,.bl _=>true | .str _,.str _=>true | .byt _,.byt _=>true
  | .int _,.str _=>true | .str _,.int _=>true | .bl _,.str _=>true | .str _,.bl _=>true
  | _,_=>false
def rEq:R2:=λx y H Q=>Vq (scal x y)∧Jx (decide (x=y)) H
def rNe:R2:=λx y H Q=>Vq (scal x y)∧Jx (!decide (x=y)) H
def um:decide (JmG i j)=(i == j):=by rw[Bool.eq_iff_iff];simp
def uo:decide (V.bl i=V.bl j)=(i == j):=by rw[Bool.eq_iff_iff];simp
def uq:decide (V.str i=V.str j)=(i == j):=by rw[Bool.eq_iff_iff];simp
def ur:decide (V.byt i=V.byt j)=(i.toList == j.toList):=by rw[Bool.eq_iff_iff];cases i;cases j;simp
section
variable {X:Cx} {a b c:Expr} {ta tb tc:TE} {pos:Pos}
def cg (I:QD s)(q:Jx k H)(e:k=k'):EP X pins σ Q (.bool k') s:=by subst e;exact Jmo k q
def bZ:Qx X .Eq rEq:=by
  intro f s g H x y v u Q I e d h;let⟨hs,q⟩:=h;cases x with
  | non =>
    cases e;cases y with
    | non=>cases d;exact PySem.EqNone.eq_none_none (JF I q)
    | bl j=>cases d;exact PySem.EqNone.eq_none_bool (JF I q)
    | int j=>obtain⟨t',rfl⟩:=d;exact PySem.EqNone.eq_none_int (JF I q)
    | str j=>obtain⟨t',rfl⟩:=d;exact PySem.EqNone.eq_none_str (JF I q)
    | _=>exact Jk (show Vq false from hs)
  | bl i =>
    cases e;cases y with
    | non=>cases d;exact PySem.EqNone.eq_bool_none (JF I q)
    | bl j=>cases d;exact eq_bool (cg I q uo)
    | str j=>obtain⟨t',rfl⟩:=d;exact PySem.EqMixed.eq_bool_str (JF I q)
    | _=>exact Jk (show Vq false from hs)
  | int i =>
    let⟨t,rfl⟩:=e;cases y with
    | non=>cases d;exact PySem.EqNone.eq_int_none (JF I q)
    | int j=>obtain⟨t',rfl⟩:=d;exact eq_int (cg I q um)
    | str j=>obtain⟨t',rfl⟩:=d;exact PySem.EqMixed.eq_int_str (JF I q)
    | _=>exact Jk (show Vq false from hs)
  | str i =>
    let⟨t,rfl⟩:=e;cases y with
    | non=>cases d;exact PySem.EqNone.eq_str_none (JF I q)
    | bl j=>cases d;exact PySem.EqMixed.eq_str_bool (JF I q)
    | int j=>obtain⟨t',rfl⟩:=d;exact PySem.EqMixed.eq_str_int (JF I q)
    | str j=>obtain⟨t',rfl⟩:=d;exact eq_str (cg I q uq)
    | _=>exact Jk (show Vq false from hs)
  | byt i =>
    let⟨t,rfl⟩:=e;cases y with
    | byt j=>obtain⟨t',rfl⟩:=d;exact PySem.W.eq_bytes (cg I q ur)
    | _=>exact Jk (show Vq false from hs)
  | _=>cases y <;> exact Jk (show Vq false from hs)
def dQ:Qx X .NotEq rNe:=by
  intro f s g H x y v u Q I e d h;let⟨hs,q⟩:=h;cases x with
  | non =>
    cases e;cases y with
    | non=>cases d;exact PySem.EqNone.ne_none_none (JF I q)
    | bl j=>cases d;exact PySem.EqNone.ne_none_bool (JF I q)
    | int j=>obtain⟨t',rfl⟩:=d;exact PySem.EqNone.ne_none_int (JF I q)
    | str j=>obtain⟨t',rfl⟩:=d;exact PySem.EqNone.ne_none_str (JF I q)
    | _=>exact Jk (show Vq false from hs)
  | bl i =>
    cases e;cases y with
    | non=>cases d;exact PySem.EqNone.ne_bool_none (JF I q)
    | bl j=>cases d;exact ne_bool (cg I q (Jl0 uo))
    | str j=>obtain⟨t',rfl⟩:=d;exact PySem.EqMixed.ne_bool_str (JF I q)
    | _=>exact Jk (show Vq false from hs)
  | int i =>
    let⟨t,rfl⟩:=e;cases y with
    | non=>cases d;exact PySem.EqNone.ne_int_none (JF I q)
    | int j=>obtain⟨t',rfl⟩:=d;exact ne_int (cg I q (Jl0 um))
    | str j=>obtain⟨t',rfl⟩:=d;exact PySem.EqMixed.ne_int_str (JF I q)
    | _=>exact Jk (show Vq false from hs)
  | str i =>
    let⟨t,rfl⟩:=e;cases y with
    | non=>cases d;exact PySem.EqNone.ne_str_none (JF I q)
    | bl j=>cases d;exact PySem.EqMixed.ne_str_bool (JF I q)
    | int j=>obtain⟨t',rfl⟩:=d;exact PySem.EqMixed.ne_str_int (JF I q)
    | str j=>obtain⟨t',rfl⟩:=d;exact ne_str (cg I q (Jl0 uq))
    | _=>exact Jk (show Vq false from hs)
  | byt i =>
    let⟨t,rfl⟩:=e;cases y with
    | byt j=>obtain⟨t',rfl⟩:=d;exact PySem.W.ne_bytes (cg I q (Jl0 ur))
    | _=>exact Jk (show Vq false from hs)
  | _=>cases y <;> exact Jk (show Vq false from hs)
def jJ:Qx X .Lt (rI0 λi j=>.bl (decide (i<j))):=opB0 λ_ _ _ _ _ _ _ q=>lt_int q
def op_le:Qx X .LtE (rI0 λi j=>.bl (decide (i≤j))):=opB0 λ_ _ _ _ _ _ _ q=>le_int q
def eu:Qx X .Gt (rI0 λi j=>.bl (decide (j<i))):=opB0 λ_ _ _ _ _ _ _ q=>gt_int q
def jK:Qx X .GtE (rI0 λi j=>.bl (decide (j≤i))):=opB0 λ_ _ _ _ _ _ _ q=>ge_int q
def yJ:Qx X .In (λx y H Q=>∃i j,x=.str i∧y=.str j∧Jx (!(Builtin.Str.occurrences j i 0 j.length 1).isEmpty) H):=by intro d s g H x y v u Q I f e h;let⟨i,j,rfl,rfl,q⟩:=h;let⟨t,rfl⟩:=f;let⟨t',rfl⟩:=e;exact in_str (cg I q rfl)
def oR:Qx X .Is (λx y H Q=>y=.non∧Jx (decide (x=.non)) H):=by
  intro e s g H x y v u Q I d f h;let⟨rfl,q⟩:=h;cases f;refine is_none_gen (cg I q ?_);cases x <;> first
    | (cases d;rfl)
    | (let⟨t,rfl⟩:=d;rfl)
def me:Qx X .IsNot (λx y H Q=>y=.non∧Jx (!decide (x=.non)) H):=by
  intro e s g H x y v u Q I d f h;let⟨rfl,q⟩:=h;cases f;refine isnot_none_gen (cg I q ?_);cases x <;> first
    | (cases d;rfl)
    | (let⟨t,rfl⟩:=d;rfl)
def uu (b){op:CmpOp}(h:op≠.In:=by decide)(d:op≠.NotIn:=by decide):JgT op b:=by
  have f:QM (op == CmpOp.In):=by cases op <;> first | rfl | exact absurd rfl h
  have e:QM (op == CmpOp.NotIn):=by cases op <;> first | rfl | exact JcL d
  cases b <;> simp [behindInMarks,f,e]
def cZ (j:Qx X op r)(n:JlH a)(l:VE b tb)(k:JgT op b:=by exact uu _):VE (.Compare a [op] [b] pos) (tOp r ta tb):=by intro d s e H Q I h;exact wpAny_Compare1 (binT n l I h λv u f x y p o i g q=>j d f e p x y v u Q o i g q) k
def tTest (t:TE):TT:=λd H Q=>t d H λx H'=>isB x H' Q
def aA (q:Qx X op r)(A:JlH a)(w:VE b tb)(t:JgT op b:=by exact uu _):PT X (.Compare a [op] [b] pos) (tTest (tOp r ta tb)):=by
  intro d s f H Q I h;refine wpAny_isTrue_Compare1 (thn (A d s f H _ I h) λv i ⟨x,G,D,n,q1⟩=>thn (w d i f G _ D q1) λu g ⟨y,F,C,l,p⟩ =>
    thn (q d g f F x y v u _ C n l p) λc J ⟨z,E,B,j,k,e,o⟩=>?_) t
  subst e;cases j;exact Jjk E B o
def kq:(sizeLine:Nat)<2 ^ 63:=by rw[sizeLine_eq];decide
def oS:Ja6 X .Add (λx y H Q=>∃i j,x=.str i∧y=.str j∧Vi (i.length+j.length)∧Jct (i++j) H):=by intro d s g H x y v u Q I f e h;let⟨i,j,rfl,rfl,hz,q⟩:=h;let⟨t,rfl⟩:=f;let⟨t',rfl⟩:=e;exact add_str (λt' tk=>Q5 (.str _) H _ (Vf _) q) hz
def eR (r:Jc6 [x]):∃u,us=[u]∧bn x u:=by
  cases r with
  | cons e d=>cases d;exact QI e
def jL (r:Jc6 [x,y]):∃u d,us=[u,d]∧Jf2 x∧bn y d:=by
  cases r with
  | cons h g =>
    cases g with
    | cons f e=>cases e;exact VO _ _ h f
def ja:J_ X "abs" (λxs H Q=>∃i,xs=Ji6 i∧Q7 (if i<0 then -i else i) H):=by intro d s e H xs us Q I r h;let⟨i,rfl,q⟩:=h;let⟨u,rfl,t,rfl⟩:=eR r;exact call_abs_int λu tk=>Jid _ H _ _ q
end
structure jb (h:Heap)(x dx C)(mA):Prop where
  obj:h.get? x=some (Jlq dx)
  ns:h.Ns1 dx mA
  ne:dx≠x
def yK {h:Heap}{d:Addr}{c:Str→Option Value}(n:h.Ns1 d c):∃od,h.get? d=some od∧∀name,JjV od=some (c name):=by
  let⟨o,es,p,g,k,j,_,i⟩:=n;refine⟨o,g,λname=>?_⟩;have e:=i name;unfold nsFind findBy at e;rw[←Array.find?_toList]at e;unfold PySem.W.lookIn;rw[k];dsimp only;split
  · rename_i y q;rw[q]at e;exact congrArg some e
  · rename_i q;rw[q]at e;have a:QM (es.toList.any (·.refKey)):=by rw[List.any_eq_false];intro y f;let⟨z,t,b⟩:=j y (Array.mem_toList_iff.mp f);simp [DictEntry.refKey,b]
    have l:¬Vq (es.toList.any (·.refKey)):=by rw[a];exact Bool.false_ne_true
    rw[if_neg l];exact congrArg some e
def jb.look (I:jb h x dx C mA):∃od,PySem.W.InstAt h x (Jlq dx) C (some od)∧∀name,JjV od=some (mA name) :=
  let ⟨od,ho,hl⟩:=yK I.ns
  ⟨od,Jv I.obj rfl ho,hl⟩
section
variable {prog:Program} {w:World} {A:Around} {E:Value→Shared→Prop} {s:Shared} {K:PySem.W.Frag} {x dx C f:Addr} {mA:Str→Option Value} {name:Str} {v:Value}
def yL (X:K.In s.heap)(I:jb s.heap x dx C mA)(e:Jfh K C name)(d:JiD K C)
    (g:QA (Jaf K C name))(b:Xa (mA name) v)(a:Vq (PySem.W.handedIn v))(h:Q v { s with toks:=s.toks+1 }) :
    wpAny (Xq w) A (getAttr (.ref x) name expr) Q E s:=by let⟨od,J,c⟩:=I.look;exact PySem.W.get_value X J (PySem.W.plainGet_of e).1 (PySem.W.findObj_own d g rfl (by rw[c,b])) a h
def yM (X:K.In s.heap)(I:jb s.heap x dx C mA)(a:Jfh K C name)
    (e:Xa (Jaf K C name) (Ja f))(c:Vq (Jkr K f))(b:Qu (mA name))(h:Q (.ref f,Vz x) s) :
    wpAny (Xq w) A (JnW (.ref x) name) Q E s:=by let⟨od,J,d⟩:=I.look;exact PySem.W.method_fn X J (PySem.W.plainGet_of a).1 (PySem.W.plainGet_of a).2 e (beq_iff_eq.mp c) (by show(JjV od).map _=some false;rw[d,b];rfl) h
def yN (X:K.In s.heap)(I:jb s.heap x dx C mA)
    (hs:Jbl (Jaf K C "__setattr__") "object.__setattr__")(o:Vq (PySem.W.plainOver K C))(n:QA (PySem.W.takerIn K C name))(p:JiD K C)
    (l:PySem.Within mA ns)(hsz:Vi ns.length)
    (h:∀h',jb h' x dx C (λy=>if y=name then some v else mA y)→JaB dx h'→Q () { s with heap:=h',toks:=s.toks+2 }) :
    wpAny (Xq w) A (setAttr (.ref x) name v) Q E s:=by let⟨od,J,B⟩:=I.look;refine PySem.W.set_plain X J hs (PySem.W.osa_open X J o n λb=>?_);let⟨D,q,i⟩:=PySem.W.any_some p;have k:=I.obj;refine Qo (JbQ (wpAny_loadPart k (wpAny_bind (PySem.W.Looks.here (PySem.W.looks_clsIn X q) ?_))));rw[i];refine wpAny_pure (Qo (wpAny_bind ?_));refine wpAny_nsSet1 I.ns λh' d c=>?_;let⟨z,t,u,e,g,j⟩:=d.count (PySem.Within.cons name v l);refine wpAny_bind (wpAny_lookBehind e (by rw[g];exact pastItsLine_dict (Nat.le_trans j (by rw[List.length_cons];lia))) ?_);exact wpAny_pure (h _ ⟨(c.2 _ (Ne.symm I.ne)).trans I.obj,d,I.ne⟩ c)
def yO (X:K.In s.heap)(b:Vq (PySem.W.makesIn K C))
    (c:Xa (Jaf K C "__init__") (Ja f))(e:Xa (PySem.W.typeIn K (.ref f)) (.type "function"))
    (h:codeAny (Xq w) (JoW "type.__call__" C vs kw) (JeZ f ⟨Jes (Vv 1) vs,kw⟩) (PySem.W.InitBack (Vv 1) R)
      { s with heap:=(s.heap.push PySem.W.emptyDict).push (Jar C) }) :
    codeAny (Xq w) A (JeZ C ⟨vs,kw⟩) R s:=by let⟨j,g,d,t,i⟩:=s;exact PySem.W.make_core (PySem.W.makes_of X b) (PySem.W.looks_findIn X c) (λa=>PySem.W.bind_fn X a e) (.inl rfl) h
end
noncomputable def zbu (f:Str)(v:V):Jgx V→Jgx V
  | []=>[(f,v)]
  | (g,x) :: r=>if g=f then(g,v) :: r else(g,x) :: JoD v r
theorem gi (f g)(v):∀c:Jgx V,(JoD v c).lookup g=if g=f then some v else c.lookup g
  | []=>by
    show List.lookup g [(f,v)]=_;by_cases h:g=f
    · have a:=beq_iff_eq.mpr h;simp only[List.lookup,a,if_pos h]
    · have a:=beq_eq_false_iff_ne.mpr h;simp only[List.lookup,a,if_neg h]
  | (k,x) :: r=>by
    have d:=gi f g v r;rw[show JoD v _=(if k=f then(k,v) :: r else(k,x) :: JoD v r) from rfl]
    by_cases b:k=f
    · rw[if_pos b];by_cases h:g=k
      · have a:=beq_iff_eq.mpr h;simp only[List.lookup,a,if_pos (h.trans b)]
      · have a:=beq_eq_false_iff_ne.mpr h;simp only[List.lookup,a,if_neg (λe:g=f=>h (e.trans b.symm))]
    · rw[if_neg b];by_cases h:g=k
      · have a:=beq_iff_eq.mpr h;simp only[List.lookup,a,if_neg (λe:g=f=>b (h.symm.trans e))]
      · have a:=beq_eq_false_iff_ne.mpr h;simp only[List.lookup,a];exact d
theorem oT (f)(v):∀b:Jgx V,f∈(JoD v b).map (·.1)∧∀g,g∈b.map (·.1)→g∈(JoD v b).map (·.1)
  | []=>⟨by simp [zbu],λg h=>by simp at h⟩
  | (k,x) :: r=>by
    let⟨d,c⟩:=oT f v r;rw[show JoD v _=(if k=f then(k,v) :: r else(k,x) :: JoD v r) from rfl]
    by_cases a:k=f
    · rw[if_pos a];subst a;exact⟨by simp,λg h=>by simpa using h⟩
    · rw[if_neg a];refine⟨?_,λg h=>?_⟩
      · rw[List.map_cons];exact List.mem_cons_of_mem _ d
      · rw[List.map_cons]at h ⊢;rcases List.mem_cons.mp h with e | e
        · exact List.mem_cons.mpr (.inl e)
        · exact Xe (c g e)
theorem uv (f)(v):∀b:Jgx V,(JoD v b).length≤b.length+1
  | []=>by simp [zbu]
  | (k,x) :: r=>by
    have c:=uv f v r;rw[show JoD v _=(if k=f then(k,v) :: r else(k,x) :: JoD v r) from rfl]
    by_cases a:k=f
    · rw[if_pos a,List.length_cons,List.length_cons];lia
    · rw[if_neg a,List.length_cons,List.length_cons];lia
def cX.some_of (r:cX (some v) o):∃u,Xa o u∧bn v u:=by
  cases o with
  | none=>exact(show False from r).elim
  | some u=>exact Qd u r
def cX.none_of (r:cX none o):Qu o:=by
  cases o with
  | none=>rfl
  | some u=>exact(show False from r).elim
def yQ (r:Jf2 v):Vq (PySem.W.handedIn u):=by
  cases v with
  | non=>cases (show Jcf u from r);rfl
  | bl b=>cases (show Jas u b from r);rfl
  | int i=>obtain⟨t,e⟩:=(show ∃t,u=Jaj i from r);cases e;rfl
  | str x=>obtain⟨t,e⟩:=(show ∃t,u=JhD x from r);cases e;rfl
  | byt b=>obtain⟨t,e⟩:=(show ∃t,u=Value.bytes b t from r);cases e;rfl
  | flt b=>obtain⟨t,e⟩:=(show ∃t,u=Value.float b t from r);cases e;rfl
  | ref a=>cases (show Jl u a from r);rfl
  | ty n=>cases (show JiN u n from r);rfl
section
variable {P:Program} {w:World} {H H':Hp} {h h':Heap} {a C dx:Addr} {fs fs':List (Str × V)}
def ku (c:Ji4 h)(e:Jig a fs):∃b,jb h a dx C b∧(∀f,cX (fs.lookup f) (b f))∧PySem.Within b (fs.map (·.1))∧Q3 fs.length∧H dx=some (.own a):=by let⟨d,z,i,g,b,n,r,q⟩:=(show bU P w H h a _ from c a _ e);exact⟨b,⟨g,n,i⟩,r,q,z,d⟩
end
structure Cls (K:PySem.W.Frag)(C):Prop where
  pg:Jfh K C Str.empty
  hd:JiD K C
  po:Vq (PySem.W.plainOver K C)
  sa:Jbl (Jaf K C "__setattr__") "object.__setattr__"
def Cls.get {K:PySem.W.Frag}{C:Addr}(c:Cls K C)(f):Jfh K C f:=c.pg
def cF (K:PySem.W.Frag)(C:Addr)(f:Str):Prop:=QA (Jaf K C f)
def cF.taker {K:PySem.W.Frag}{C:Addr}{f:Str}(n:cF K C f):PySem.W.takerIn K C f=some none:=by unfold PySem.W.takerIn;rw[show QA (PySem.W.findIn K _ f) from n];rfl
structure cf (K:PySem.W.Frag)(C)(m)(f):Prop where
  at_:Xa (Jaf K C m) (Ja f)
  fn:Vq (Jkr K f)
  kp:Vq (JcM K f)
section
variable {X:Cx} {pins:List (Jbp Obj)} {σ:St} {H:Hp} {s:Shared} {a C dx:Addr} {fs:List (Str × V)} {f:Str} {v:V} {A:Around} {E:Value→Shared→Prop}
def uw (I:QD s)(e:Jig a fs)(c:Cls X.K C)(n:cF X.K C f)(l:Xa (fs.lookup f) v)
    (h:∀u s',QD s'→Jf2 v→Q u s'):Q9 A (getAttr (.ref a) f b) Q E s:=by let⟨g,O,r,_,_,_⟩:=ku I.hok e;let⟨u,i,d⟩:=cX.some_of (by rw[←l];exact r f);exact yL I.kIn O (c.get f) c.hd n i (yQ d) (h u _ (I.tok _) d)
def ux (I:QD s)(e:Jig a fs)(c:Cls X.K C)(k:cf X.K C m g)(l:Qu (fs.lookup m))
    (h:Q (.ref g,Vz a) s):Q9 A (JnW (.ref a) m) Q E s:=by let⟨b,O,r,_,_,_⟩:=ku I.hok e;have d:=cX.none_of (by rw[←l];exact r m);exact yM I.kIn O (c.get m) k.at_ k.fn d h
def uy (I:QD s)(e:Jig a fs)(c:Cls X.K C)(n:cF X.K C f)(F:JhI fs.length)(p:Jf2 y)
    (h:∀s',Vy (Jnz (QF dx (JoD y fs))) s'→Q () s'):Q9 A (setAttr (.ref a) f u) Q E s:=by
  let⟨j,O,r,i,_,k⟩:=ku I.hok e;have hz:(fs.map (·.1)).length≤sizeLine:=by rw[lM,sizeLine_eq];lia
  refine yN I.kIn O c.sa c.po n.taker c.hd i hz λh' d l=>h _ ?_;have B:∃o,h'.get? dx=some o:=let ⟨o,_,_,e',_⟩:=d.ns;⟨o,e'⟩;refine I.write (by rw[e];exact True.intro) (.inr k) (λb q D z=>(l.2 b D).trans z) B ?_;refine⟨by rw[aq O.ne];exact k,?_,O.ne,d.obj,_,d.ns,λg=>?_,λg t=>?_⟩
  · have:=uv f y fs;lia
  · show cX _ _
    rw[gi];by_cases q:g=f
    · rw[if_pos q,if_pos q];exact p
    · rw[if_neg q,if_neg q];exact r g
  · by_cases q:g=f
    · rw[q];exact(oT f y fs).1
    · refine(oT f y fs).2 g (i g λz=>t ?_);show Qu (if g=f then some u else j g)
      rw[if_neg q];exact z
def Inv.made (I:QD s):Inv X pins σ (JgW s.heap.objs.size (Vv 1) (Vv 1) s.heap.objs.size [])
    { s with heap:=(s.heap.push PySem.W.emptyDict).push (Jar C) }:=by
  have d:(s.heap.push PySem.W.emptyDict).get? s.heap.objs.size=some PySem.W.emptyDict:=Heap.get?_push_size s.heap rfl;have j:((s.heap.push PySem.W.emptyDict).push (Jar C)).get? (Vv 1)=some (Jar C):=by have:=Heap.get?_push_size (s.heap.push PySem.W.emptyDict) (o:=Jar C) rfl;rwa [Heap.size_push]at this
  have i:(s.heap.push PySem.W.emptyDict).Ns s.heap.objs.size (λ_=>none):=⟨PySem.W.emptyDict,#[],_,d,rfl,(λe h=>QN h),λ_=>rfl⟩;have k:=I.laid (o:=.own (Vv 1)) (h':=s.heap.push PySem.W.emptyDict) (t':=s.toks) (λb u q=>JgM q) (nRq _) (V8 d);refine k.laid (t':=s.toks) (λb u q=>JgM q) (Nat.le_of_eq (Heap.size_push _ _)) ?_;have c:s.heap.objs.size≠Vv 1:=Nat.ne_of_lt (Nat.lt_succ_self _);refine⟨by rw[aq c,ao],Nat.zero_le _,c,j,λ_=>none,(Heap.Ns1.of_empty i).at λo q=>JgM q,λ_=>True.intro,λy g=>JcL g⟩
def yR (c:attributeBase e f env (JhJ e)=JhJ e)
    (h:J6 w A (JhJ e) (λo b=>J6 w A (getAttr o f true) Q E b) E s):J6 w A (JhJ (Jhd e pos)) Q E s :=
  Attribute_any_ h (by rw[arm_eval_Attribute,c])
end
inductive rFld (K:PySem.W.Frag)(f):V→Hp→VK→Prop|m{x H Q} a C dx fs v:Jow x a (Jig a fs) (Cls K C) (cF K C f) (Xa (fs.lookup f) v→Q v H→rFld K f x H Q)
def tFld (K:PySem.W.Frag)(b:TE)(f:Str):TE:=λa H Q=>b a H λx c=>rFld K f x c Q
def sFld (K:PySem.W.Frag)(h g:TE)(f:Str):TS:=λD b H=>g b H λy i=>h b i λx e=>∃a C d c,Jny a∧Xa (e a) (QF d c)∧Cls K C∧cF K C f∧JhI c.length ∧
  D.nx b (Jc1 e a d (JoD y c))
def InOp (X:Cx)(op:Operator)(c:V→V→Hp→VK→Prop):Prop :=
  ∀a s (b:St) H x y u v Q,Jo2 b (Jf2 x→bn y v→c x y H Q→Jbd (inplaceOp op u v) (EP X a b Q) s)
def yS (K:PySem.W.Frag)(j i:TE)(k:V→V→Hp→VK→Prop)(f:Str):TS:=λD d H=>j d H λx h=>∃a C l e v,Jny a∧Xa (h a) (QF l e)∧Cls K C∧cF K C f∧Xa (e.lookup f) v ∧
  i d h λy n=>k v y n λz g=>∃c b,Xa (g a) (QF c b)∧JhI b.length∧D.nx d (Jc1 g a c (JoD z b))
section
variable {X:Cx} {o e value:Expr} {f:Str} {pos pos' tpos:Pos} {ta tv:TE}
def aV (j:JlH e)(k:Jjg e f e=Vg e):VE (Jhd e pos) (tFld X.K ta f):=by intro b s d H Q I h;refine yR k (thn (j b s d H _ I h) λu A h_=>?_);let⟨x,w,t,g,a,C,D,B,v,p,ea,c,n,l,q⟩:=h_;subst p;obtain rfl:u=Value.ref a:=g;exact uw t ea c n l λy z r i=>⟨v,w,r,i,q⟩
def cP (t:JlH o)(r:VE value tv)(hs:Jgc (JiG value (Jhd o pos') pos.line) false):PS X (JhG (Jhd o pos') value pos) (sFld X.K ta tv f):=by intro b s d H D I h;refine plainObj_wpAny_Assign_Attribute (thn (r b s d H _ I h) λu g ⟨y,B,A,i,q⟩=>thn (t b g d B _ A q) λp F h_=>?_) hs;let⟨x,L,z,j,a,C,J,G,v,ea,c,n,l,k⟩:=h_;subst v;obtain rfl:p=Value.ref a:=j;exact uy z ea c n l i λE w=>⟨d,_,w,k⟩
def yT (L:JlH o)(J:VE value tv)(g:InOp X op rd):PS X (.AugAssign (Jhd o tpos) op value pos) (yS X.K ta tv rd f):=by intro b s d H D I h;refine wpAny_AugAssign_AttributeAny (thn (L b s d H _ I h) λF s1 h_=>?_);let⟨x,W,T,w,a,C,dx,fs,v,N,ea,c,n,l,q⟩:=h_;subst N;obtain rfl:F=Value.ref a:=w;refine uw T ea c n l λu p S A=>thn (J b p d W _ S q) λj k ⟨y,U,R,t,E⟩=>thn (g b k d U v y u j _ R A t E) λY s4 h_=>?_;let⟨z,H3,Q,r,O,M,i,G,B⟩:=h_;exact uy Q i c n G r λZ P=>⟨d,_,P,B⟩
inductive rAdd:V→V→Hp→VK→Prop|m{x y H Q} i j:Jjl x i→Jjl y j→Q7 (i+j) H→rAdd x y H Q
def in_add:InOp X .Add rAdd:=by rintro a s d H x y u v Q I c b ⟨i,j,rfl,rfl,q⟩;let⟨t,rfl⟩:=(show ∃t,u=Jaj i from c);let⟨t',rfl⟩:=(show ∃t',v=Value.int j t' from b);exact PyProof.Rows.iadd_int (Jid _ H _ _ q)
end
section
variable {X:Cx} {pins:List (Jbp Obj)} {σ:St} {H:Hp} {s:Shared} {A:Around} {E:Value→Shared→Prop} {Q:Value→Shared→Prop} {c:Value} {b:Bool}
inductive ew (K:PySem.W.Frag)(H:Hp):V→Value→Prop where
  | non:JeB K H .non "NoneType"
  | bl (x):JeB K H (.bl x) "bool"
  | int (i):JeB K H (.int i) "int"
  | str (x):JeB K H (.str x) "str"
  | flt (x:UInt64):JeB K H (.flt x) "float"
  | lst {a:Addr} {xs:List V} (e:H a=some (.lst xs)):JeB K H (.ref a) "list"
  | frz {a:Addr} {o:Obj} {xs:List V} (e:H a=some (.frz o (.lst xs))):JeB K H (.ref a) "list"
  | tup {a:Addr} {xs:List V} (e:H a=some (.tup xs)):JeB K H (.ref a) "tuple"
  | dK {a:Addr} {kvs:List (Key × V)} (e:H a=some (.dK kvs)):JeB K H (.ref a) "dict"
  | dT {a:Addr} {kvs:List (List Key × V)} (e:H a=some (.dT kvs)):JeB K H (.ref a) "dict"
  | ins {a C dx:Addr} {fs:List (Str × V)} (e:H a=some (.ins C dx fs)) (cl:Cls K C) (ha:PySem.W.findIn K (.ref C) "__class__"=some (some (.builtin "object.__class__")))
      (hn:Jbl (PySem.W.specialIn K (.builtin "object.__class__") "__get__") "getset_descriptor.__get__") (htk:JaW (PySem.W.takesIn K (.builtin "object.__class__")))
      (hm:JaW (PySem.W.mroIn K C (.type "object"))):ew K H (.ref a) (.ref C)
def yU (I:QD s)(d:Jf2 x)(ty:ew X.K H x t)(e:Xa (PySem.W.kitOne X.K t c) b)(h:∀tk,Jjm b { s with toks:=tk }) :
    wpAny (Xp X.w) A (JbO "isinstance" [u,c]) Q E s:=by
  cases ty with
  | non=>cases (show Jcf u from d);exact Jkh PySem.W.kitx_none e (λz=>nomatch z) h
  | bl y=>cases (show Jas u y from d);exact Jkh PySem.W.kitx_bool e (λz=>nomatch z) h
  | int i=>obtain⟨t,q⟩:=(show ∃t,u=Jaj i from d);cases q;exact Jkh PySem.W.kitx_int e (λz=>nomatch z) h
  | str y=>obtain⟨t,q⟩:=(show ∃t,u=JhD y from d);cases q;exact Jkh PySem.W.kitx_str e (λz=>nomatch z) h
  | flt y=>obtain⟨t,q⟩:=(show ∃t,u=Value.float y t from d);cases q;exact Jkh PySem.W.kitx_float e (λz=>nomatch z) h
  | @lst a xs ea =>
    cases (show Jl u a from d);let⟨_,_,n,_,f⟩:=(show Ji0 H a (.lst xs) from JbR a ea);exact JP PySem.W.kitx_list (JkS f) e (λz=>nomatch z) h
  | @frz a l xs ea =>
    cases (show Jl u a from d);let⟨_,_,_,n,_,f⟩:=(show Ji0 H a (.frz l (.lst xs)) from JbR a ea);exact JP PySem.W.kitx_list (JkS f) e (λz=>nomatch z) h
  | @tup a xs ea =>
    cases (show Jl u a from d);let⟨_,_,_,p⟩:=(show Ji0 H a (.tup xs) from JbR a ea);let⟨o,f,g,_⟩:=p.up;exact JP PySem.W.kitx_tuple ⟨o,f,g⟩ e (λz=>nomatch z) h
  | @dK a kvs ea =>
    cases (show Jl u a from d);let⟨_,_,vs,_,p⟩:=(show Ji0 H a (.dK kvs) from JbR a ea);let⟨o,es,D,f,g,_⟩:=p;exact JP PySem.W.kitx_dict ⟨o,f,g.1⟩ e (λz=>nomatch z) h
  | @dT a kvs ea =>
    cases (show Jl u a from d);let⟨_,_,xs,_,o,es,D,f,g,_⟩:=(show Ji0 H a (.dT kvs) from JbR a ea);exact JP PySem.W.kitx_dict ⟨o,f,g.1⟩ e (λz=>nomatch z) h
  | @ins a C L G ea k B r j v =>
    cases (show Jl u a from d);let⟨F,O,_⟩:=ku I.hok ea;let⟨od,J,_⟩:=O.look;exact JP (PySem.W.kitx_own (k.get _) k.hd B r j v) J e (λz=>nomatch z) h
end
structure a_ (k)(A:Around):Prop where
  hd:Qu A.handled
  dp:A.depth+3 * k+5<recursionLimit
  un:A.units+16 * k+200<cLine
  gd:Xa A.guards []
def a_.mono (r:a_ k A)(h:j≤k):a_ j A:=⟨r.hd,by have:=r.dp;lia,by have:=r.un;lia,r.gd⟩
def a_.deeper (r:a_ (k+1) A)(env):Jb_ k env :=
  ⟨r.hd,by have:=r.dp;show A.depth+1+3 * k+5<_;lia,by have:=r.un;show A.units+3+16 * k+200<_;lia,r.gd⟩
def yV {A:Around}{C:Addr}{us:List Value}{a:List (Jhc Str)}:(JoW "type.__call__" C us a).depth=A.depth+1:=by
  first | rfl | simp [Around.under,Code.weight,Code.isCreation,Code.isGuard,Code.isCaller,Code.frames,Code.isFrame,guardIds]
def yW {A:Around}{C:Addr}{us:List Value}{a:List (Jhc Str)}:(JoW "type.__call__" C us a).units=Jec 1:=by
  first | rfl | simp [Around.under,Code.cUnits,Code.frames,Code.isFrame]
def yX {A:Around}{C:Addr}{us:List Value}{a:List (Jhc Str)}(h:Xa A.guards []):(JoW "type.__call__" C us a).guards=some []:=by
  first | exact h | simp [Around.under,Code.guards,Code.isGuard,guardIds,pushGuards,h]
def a_.make {k:Nat}{A:Around}(r:a_ (k+1) A)(C)(us)(a):a_ k (JoW "type.__call__" C us a) :=
  ⟨r.hd,by have:=r.dp;rw[yV];lia,by have:=r.un;rw[yW];lia,yX r.gd⟩
def a_.depth (r:a_ k A):A.depth<recursionLimit:=by have:=r.dp;lia
def a_.units (r:a_ k A):Jed 64:=by have:=r.un;lia
def de:TA:=λ_ H Q=>Q [] H
def cm (c:TE)(b:TA):TA:=λa H Q=>c a H λx e=>b a e λxs d=>Q (x :: xs) d
section
variable {X:Cx} {e:Expr} {es:List Expr} {te:TE} {t:TA} {pos:Pos}
def ac:PA X [] de:=λ_ _ _ _ H Q I h=>Calls.spliced_nil ⟨[],H,I,.nil,h⟩
def aa (j:JnA te)(i:PA X es t)(hs:Jfu e=(false,Vg e) :: starEach es X.env:=by rfl):JgK X e (cm te t):=by intro pos a s b H Q I h;rw[hs];refine Calls.spliced_cons (thn (j a s b H _ I h) λu c h_=>?_);let⟨x,o,l,f,q1⟩:=h_;exact thn (i pos a c b o _ l q1) λus p ⟨xs,n,k,d,g⟩=>⟨x :: xs,n,k,.cons f d,g⟩
def fy (t:TA):TE:=λb H Q=>t b H λxs a=>Vi xs.length∧∀p,JcZ (Qu (a p)) p (Jt a p xs)
def tLst (t:TA):TE:=λb H Q=>t b H λxs a=>Vi xs.length∧∀p,JcZ (Qu (a p)) p (Va a p xs)
def bQ (h:PA X es t):VE (JjT es x1) (fy t):=by intro a s g H Q I i;refine wpAny_Tuple_spliced (thn (h pos a s g H _ I i) λus c ⟨xs,f,d,r,z,q⟩=>VI (by rw[←r.length];exact z));have j:=JgY _;refine JaX c.heap.objs.size (Jk8 f c.heap.objs.size) (d.laid (t':=c.toks) (λb u e=>JgM e) (nRq _) ?_) (q _ j);exact⟨z,us,r,VO _ (Heap.get?_push_size _ rfl) _ rfl⟩
def bM (h:PA X es t):VE (.List es pos) (tLst t):=by intro a s g H Q I i;refine wpAny_List_spliced (thn (h pos a s g H _ I i) λus c ⟨xs,f,d,r,z,q⟩=>VI (by rw[←r.length];exact z));have j:=JgY _;refine JaX c.heap.objs.size (Jk8 f c.heap.objs.size) (d.laid (t':=c.toks) (λb u e=>JgM e) (nRq _) ?_) (q _ j);exact⟨z,us,0,r,Heap.get?_push_size _ rfl⟩
end
abbrev Sp:=List V→Hp→VK→XK→Prop
abbrev CXT:=List Env→Hp→Shared→XK→Value→Shared→Prop
structure iJ (P)(w)(K:PySem.W.Frag)(mg)(base)(A:Around)(outer)(s:Shared)(H:Hp):Prop where
  frames:Xa A.frames outer
  mod:Mod K mg base
  bs:∀b o,base.get? b=some o→s.heap.get? b=some o∧Vu b
  bsz:base.objs.size≤s.heap.objs.size
  funs:s.heap.FunFrames base outer
  frf:∀b∈frs outer,Vu b
  hok:Ji4 s.heap
  bare:AllBare s.gens
def CE (outer:List Env)(P:Program)(w:World)(H:Hp)(s:Shared)(Q:VK)(u:Value)(s':Shared):Prop :=
  ∃v H',s'.os=s.os∧AllBare s'.gens∧JiI outer [] H H' s'.heap∧Jii H' s'.heap∧Jf2 v∧Q v H'
def CR (CX:CXT)(outer:List Env)(P:Program)(w:World)(H:Hp)(s:Shared)(Q:VK)(E:XK)(r:Result)(s':Shared):Prop :=
  match r with
  | .ok (.ret u)=>CE outer P w H s Q u s'
  | .ok _=>False
  | .error e=>CX outer H s E e s'
structure aS (P)(w)(K:PySem.W.Frag)(mg)(base)(CX:CXT)(k)(f)(fd)(ps:List Str)(sp:Sp):Prop where
  len:∀vs H Q E,sp vs H Q E→JgZ vs.length
  run:∀(A) (outer) (s) (H) args (us) (vs) (Q) (E),a_ k A→iJ P w K mg base A outer s H→BindsTo s fd args (ps.zip us)→Jc6 vs→sp vs H Q E →
    codeAny (JiM P) A (JeZ f args) (CR CX outer P w H s Q E) s
def iJ.make {P:Program}{w:World}{K:PySem.W.Frag}{mg:Str→Option Value}{base:Heap}{A:Around}{outer:List Env}{s:Shared}{H:Hp}(e:iJ P w K mg base A outer s H)(C)(us)(a) :
    iJ P w K mg base (JoW "type.__call__" C us a) outer s H:=⟨by first | exact e.frames | (simpa [Around.under,Code.envs,Code.isFrame,pushEnvs] using e.frames),e.mod,e.bs,e.bsz,e.funs,e.frf,e.hok,e.bare⟩
section
variable {X:Cx} {pins:List (Jbp Obj)} {σ:St} {H:Hp} {s s':Shared}
def Inv.env0 (I:QD s):iJ X.prog X.w X.K X.mg X.base X.A X.stack s H :=
  ⟨I.ok.frames,I.ok.mod,I.bs,Jcz I.sz,I.stack,I.stkFree,I.hok,I.bare⟩
def Inv.after (I:QD s)(h:CE X.stack X.prog X.w H s Q u s'):EP X pins σ Q u s':=by let⟨v,H',i,a,f,e,r,q⟩:=h;let⟨j,g,d,t,c⟩:=s';obtain rfl:c=s.os:=i;exact⟨v,H',I.call (h':=j) (g':=g) (d':=d) (t':=t) f e a (λb z=>QN z),r,q⟩
end
def oU (sp:Sp)(a:List V)(E:XK)(t:TA):TE:=λb H Q=>t b H λvs c=>sp (vs++a) c Q E
inductive isO (C)(m):V→Hp→Prop→Prop|m{x H R} a dx fs:Jow x a (Jig a fs) (Qu (fs.lookup m)) R (isO C m x H R)
def oV (C:Addr)(m:Str)(sp:Sp)(a:List V)(E:XK)(d:TE)(t:TA):TE:=λb H Q=>d b H λx c=>isO C m x c <| t b c λvs e=>sp (x :: (vs++a)) e Q E
def tMake (C:Addr)(sp:Sp)(b:List V)(E:XK)(t:TA):TE:=λd H Q=>t d H λvs c=>∀x a,Qu (c x)→Qu (c a)→a≠x →
  sp (Jes x (vs++b)) (Jc1 (JoB c (.own x)) x a []) (λv e=>v=.non∧Xl x e) E
def aw (K:PySem.W.Frag)(b:FuncData)(ps:List Str)(a:List Value):Prop :=
  ∀s us,K.In s.heap→(us++a).length=ps.length→Jj_ s b us (ps.zip (us++a))
def aw.all {K:PySem.W.Frag}{b:FuncData}{ps:List Str}(h:∀us:List Value,JgZ us.length→Jgc (JfH b us) (ps.zip us)):Jw b ps:=λs us _ a=>by rw[List.append_nil]at a ⊢;exact .of_eq (h us a)
def fz (CX:CXT)(X:Cx)(E:XK):Prop:=∀a (b:St) H s e s',Jo2 b (CX X.stack H s E e s'→X.xe e s')
section
variable {X:Cx} {CX:CXT} {k:Nat} {f C:Addr} {fd:FuncData} {ps:List Str} {sp:Sp} {dvs:List V} {ds:List Value} {E:XK} {x m:Str} {p pos apos:Pos} {e o:Expr} {es:List Expr} {ta:TE} {t:TA}
def oW (F:aS X.prog X.w X.K X.mg X.base CX k f fd ps sp)(d:a_ k X.A)(j:aw X.K fd ps ds)(i:bc dvs ds)(c:fz CX X E)
    (I:QD s)(r:Jc6 vs)(h:sp (vs++dvs) H Q E):Jbd (call (.ref f) us) (EP X pins σ Q) s:=by
  have b:=r.append i;have g:(us++ds).length=ps.length:=by rw[←b.length];exact F.len _ _ _ _ h
  refine wpAny_call (codeAny_mono (F.run X.A X.stack s H (JfG us) (us++ds) (vs++dvs) Q E d I.env0 (j s us I.kIn g) b h) λr s' a=>?_);cases r with
  | error e=>exact c pins σ H s e s' I a
  | ok l =>
    cases l with
    | ret u=>exact I.after a
    | next=>exact False.elim a
    | brk=>exact False.elim a
    | cont=>exact False.elim a
def au (F:aS X.prog X.w X.K X.mg X.base CX k f fd ps sp)(j:a_ k X.A)(u:Gl X x)(l:X.mg x=Ja f)(n:Vq (JcM X.K f))(z:aw X.K fd ps ds)(y:bc dvs ds)(i:fz CX X E)
    (B:JgK X e t)(c:QM (x == ("__debug__":Str)):=by decide)(v:Jfu e=(false,Vg e) :: starEach es X.env:=by rfl)(b:(Jog es).any (·.1)=false:=by rfl) :
    PE X (JJ x p (Jft e) [] pos) (oU sp dvs E t):=by intro a s g H Q I h;refine JeP I u l ?_ c;refine PySem.W.callWith_K I.ok.mod.kin n (thn (B pos a s g H _ I h) λus D ⟨vs,G,d,r,q⟩=>VI d.kIn) v b;exact oW F j z y i d r q
def cx (M:JlH o)(c:Cls X.K C)(n:cf X.K C m f)(F:aS X.prog X.w X.K X.mg X.base CX k f fd ps sp)(L:a_ k X.A)(O:aw X.K fd ps ds)(N:bc dvs ds)(G:fz CX X E)(P:JgK X e t)
    (d:Jfu e=(false,Vg e) :: starEach es X.env:=by rfl)(g:(Jog es).any (·.1)=false:=by rfl)
    (J:Vg (JlK o m (Jft e) [] pos)=(do
      let j ←eval o X.env
      standAt apos.atName
      let (f,first) ←holding [j] (JnW j m)
      callWith pos f first (Jog (Jft e)) (Je6 pos [])):=by rfl) :
    PE X (JlK o m (Jft e) [] pos) (oV C m sp dvs E ta t):=by
  intro b s i H Q I h;refine PySem.W.methodCall_KW (thn (M b s i H _ I h) λu z h_=>?_) J;let⟨x,S,y,B,a,Y,U,R,ea,l,q⟩:=h_;subst R;obtain rfl:u=Value.ref a:=B;refine ux y ea c n l ?_;refine PySem.W.callWith_K (first:=Vz a) I.ok.mod.kin n.kp (thn (P pos b z i S _ y q) λus T ⟨vs,Z,v,r,D⟩=>VI v.kIn) d g
  exact oW (vs:=Jes a vs) F L O N G v (.cons rfl r) D
def kx (z:JlH o)(c:Cls X.K C)(i:cf X.K C m f)(F:aS X.prog X.w X.K X.mg X.base CX k f fd ps sp)(y:a_ k X.A)(D:aw X.K fd ps ds)(B:bc dvs ds)(r:fz CX X E)
    (v:Vg (JlK o m [] [] pos)=(do
      let g ←eval o X.env
      standAt apos.atName
      let (f,first) ←holding [g] (JnW g m)
      callWith pos f first (Jog []) (Je6 pos [])):=by rfl) :
    PE X (JlK o m [] [] pos) (oV C m sp dvs E ta de):=by intro b s j H Q I h;refine PySem.W.methodCall_KW (thn (z b s j H _ I h) λu J h_=>?_) v;let⟨x,N,d,n,a,M,L,G,ea,l,q⟩:=h_;subst G;obtain rfl:u=Value.ref a:=n;refine ux d ea c i l ?_;exact PySem.W.callWith_K0 (first:=Vz a) d.kIn i.kp (oW (vs:=Vz a) F y D B r d (Jdx rfl) q)
structure Mk (K:PySem.W.Frag)(C f):Prop where
  makes:Vq (PySem.W.makesIn K C)
  init:Xa (Jaf K C "__init__") (Ja f)
  fn:Vq (Jkr K f)
  kp:Vq (JcM K C)
def uz (M:Mk X.K C f)(F:aS X.prog X.w X.K X.mg X.base CX k f fd ps sp)(n:a_ (k+1) X.A)(z:aw X.K fd ps ds)(y:bc dvs ds)
    (l:fz CX X E)(I:QD s)(r:Jc6 vs)
    (h:∀x b,J5 x (J5 b (b≠x→sp (Jes x (vs++dvs)) (JgW b x x b []) (λv J=>v=.non∧Xl x J) E))) :
    wpAny (Xp X.w) X.A (call (.ref C) us) (EP X pins σ Q) X.xe s:=by
  have g:=h _ s.heap.objs.size (I.hok.fresh (Nat.le_succ _)) (Q2 _) (Nat.ne_of_lt (Nat.lt_succ_self _));have c:=Inv.made (C:=C) I;have d:bc (V.ref (Vv 1) :: (vs++dvs)) _:=.cons rfl (r.append y);have q:(Jjw 1 :: us++ds).length=ps.length:=by have e:=d.length;rw[F.len _ _ _ _ g]at e;exact e.symm
  refine wpAny_call (yO I.kIn M.makes M.init (beq_iff_eq.mp M.fn) (codeAny_mono (F.run _ X.stack _ _ (JfG (Jjw 1 :: us)) (Jjw 1 :: (us++ds)) _ _ E (n.make C us []) (c.env0.make C us []) (z _ (Jjw 1 :: us) c.kIn q) d g) λr s' a=>?_))
  cases r with
  | error e=>exact l pins σ _ _ e s' c a
  | ok B =>
    cases B with
    | ret u =>
      let⟨v,H',G,i,D,j⟩:=c.after a;subst D;exact⟨i,Xs (V.ref _) H' G j⟩
    | next=>exact False.elim a
    | brk=>exact False.elim a
    | cont=>exact False.elim a
def uA (M:Mk X.K C f)(F:aS X.prog X.w X.K X.mg X.base CX k f fd ps sp)(j:a_ (k+1) X.A)(n:Gl X x)(l:X.mg x=Ja C)(y:aw X.K fd ps ds)(v:bc dvs ds)(i:fz CX X E)
    (z:JgK X e t)(c:QM (x == ("__debug__":Str)):=by decide)(u:Jfu e=(false,Vg e) :: starEach es X.env:=by rfl)(b:(Jog es).any (·.1)=false:=by rfl) :
    PE X (JJ x p (Jft e) [] pos) (tMake C sp dvs E t):=by intro a s g H Q I h;refine JeP I n l ?_ c;refine PySem.W.callWith_K I.ok.mod.kin M.kp (thn (z pos a s g H _ I h) λus B ⟨vs,D,d,r,q⟩=>VI d.kIn) u b;exact uz M F j y v i d r q
def ky (M:Mk X.K C f)(F:aS X.prog X.w X.K X.mg X.base CX k f fd ps sp)(d:a_ (k+1) X.A)(i:Gl X x)(g:X.mg x=Ja C)(l:aw X.K fd ps ds)(j:bc dvs ds)(c:fz CX X E)
    (a:QM (x == ("__debug__":Str)):=by decide):VE (JJ x p [] [] pos) (tMake C sp dvs E de):=by intro b s n H Q I h;refine JeP I i g ?_ a;exact PySem.W.callWith_K0 I.kIn M.kp (uz M F d l j c I .nil h)
end
def PK (X:Cx)(d:List Keyword)(t:TA):Prop :=
  ∀c a s (b:St) H Q,Jo2 b (t b H Q→Jbd (evalAll ((Je6 c d).map (·.2))) (AP X a b Q) s)
section
variable {X:Cx} {CX:CXT} {k:Nat} {f C:Addr} {fd:FuncData} {ps ks:List Str} {sp:Sp} {E:XK} {x m:Str} {p pos apos kpos:Pos} {e o:Expr} {es:List Expr} {kws:List Keyword} {te ta:TE} {t tk:TA} {nm:Option Str}
def uB:PK X [] de:=λ_ _ _ _ H Q I h=>wpAny_evalAll_nil ⟨[],H,I,.nil,h⟩
def uC (l:JnA te)(j:PK X kws t):PK X (⟨nm,e,kpos⟩ :: kws) (cm te t):=by
  intro pos a s b H Q I h;show V0 _ _ _ _ s
  refine wpAny_evalAll_cons (wpAny_bind (thn (l a s b H _ I h) λu c ⟨x,w,q,g,q1⟩=>Jaq (wpAny_pure ?_)));exact thn (j pos a c b w _ q q1) λus y ⟨xs,r,n,d,i⟩=>⟨x :: xs,r,n,.cons g d,i⟩
variable {g:List Value→List Value→List Value} {gV:List V→List V→List V}
end
structure aN (N P:List Str)(sc:Scope):Prop where
  kind:Jdy sc.kind
  co:QM sc.isCoroutine
  gen:QM sc.isGenerator
  nd:N.Nodup
  pre:N.take P.length=P
  par:∀x∈P,VP x .local∨VP x .cell
  nofree:∀y∈sc.names,y.2≠.free
def fsc (a:Jdy sc.kind:=by exact rfl)(b:QM sc.isCoroutine:=by exact rfl)(c:QM sc.isGenerator:=by exact rfl)(d:N.Nodup:=by decide +kernel)(e:N.take P.length=P:=by exact rfl)(f:∀x∈P,VP x .local∨sc.names.lookup x=some .cell:=by decide +kernel)(g:∀y∈sc.names,y.2≠.free:=by decide +kernel):aN N P sc:=⟨a,b,c,d,e,f,g⟩
theorem uD {b:Str→Option NameKind}{x:Str}:∀ {a:List (Jhc Str)} {m:Str→Option Value},(∀v,(x,v)∉a)→bindL b a m x=m x
  | [],_,_=>rfl
  | (n,v) :: r,m,h=>by
    unfold bindL;rw[uD λw c=>h w (Xe c)];split
    · have:x≠n:=by rintro rfl;exact Jam v
      simp [this]
    · rfl
theorem uF {b:Str→Option NameKind}{x:Str}:∀ {a:List (Jhc Str)} {m:Str→Option Value},(∀v,(x,v)∉a)→bindC b a m x=m x
  | [],_,_=>rfl
  | (n,v) :: r,m,h=>by
    unfold bindC;rw[uF λw c=>h w (Xe c)];split
    · rfl
    · have:x≠n:=by rintro rfl;exact Jam v
      simp [this]
theorem uG {a:Str→Option NameKind}{x:Str}{v:Value}:∀ {P:List Str} {vs:List Value} {i:Nat} {m:Str→Option Value},P.Nodup→P[i]?=some x→vs[i]?=some v→Xa (a x) .local →
    bindL a (P.zip vs) m x=some v
  | [],_,_,_,_,h,_,_=>by simp at h
  | _ :: _,[],_,_,_,_,h,_=>by simp at h
  | p :: P,w :: vs,0,m,d,c,b,e=>by simp at c b;subst c;subst b;show bindL a ((p,w) :: P.zip vs) m p=_;unfold bindL;rw[uD λv f=>(List.nodup_cons.mp d).1 (List.of_mem_zip f).1,if_pos e];simp
  | p :: P,w :: vs,i+1,m,d,c,b,e=>by unfold bindL;exact uG (List.nodup_cons.mp d).2 (by simpa using c) (by simpa using b) e
theorem uH {a:Str→Option NameKind}{x:Str}{v:Value}:∀ {P:List Str} {vs:List Value} {i:Nat} {m:Str→Option Value},P.Nodup→P[i]?=some x→vs[i]?=some v→a x≠some .local →
    bindC a (P.zip vs) m x=some v
  | [],_,_,_,_,h,_,_=>by simp at h
  | _ :: _,[],_,_,_,_,h,_=>by simp at h
  | p :: P,w :: vs,0,m,d,c,b,e=>by simp at c b;subst c;subst b;show bindC a ((p,w) :: P.zip vs) m p=_;unfold bindC;rw[uF λv f=>(List.nodup_cons.mp d).1 (List.of_mem_zip f).1,if_neg e];simp
  | p :: P,w :: vs,i+1,m,d,c,b,e=>by unfold bindC;exact uH (List.nodup_cons.mp d).2 (by simpa using c) (by simpa using b) e
noncomputable def zc4 (N:List Str)(vs:List V):St:=vs.map some++Ja4 (N.length-vs.length)
noncomputable def aO (CX:CXT)(P:Program)(w:World)(K:PySem.W.Frag)(mg:Jdr Str)(base:Heap)(N:List Str)(b:Str)(a:Scope)(f:Addr)(d:Value)(A:Around)(outer:List Env)(s:Shared)(H:Hp)(E:XK):Cx where
  prog:=P
  w:=w
  K:=K
  mg:=mg
  base:=base
  A:=A.deeper (QO b a f d)
  N:=N
  s₀:=s
  H₀:=H
  env:=QO b a f d
  outer:=outer
  stack:=QO b a f d :: outer
  ex:=[]
  calm:=true
  fn:=λ_=>true
  pn:=[]
  xe:=λe s'=>Xb P w (A.deeper (QO b a f d)) (leaving (QO b a f d) e) (λ_ c=>CX outer H s E e c) (λg c=>CX outer H s E g c) s'
def uI {sc:Scope}{n:Nat}{x:Str}(h:VP x .cell):∃c,(JnX n sc.names).lookup x=some c:=by have q:=PySem.W.cellsFrom_some sc.names n [] (.inl h);exact Option.isSome_iff_exists.mp q
def uJ {CX:CXT}{P:Program}{w:World}{K:PySem.W.Frag}{mg:Str→Option Value}{base:Heap}{N ps:List Str}{g:Str}{d:Scope}{f:Addr}{G:Value}{A:Around}{outer:List Env}{s I:Shared}{H:Hp}{E:XK}{us:List Value}{vs:List V}
    (S:aN N ps d)(Q:Qu A.handled)(l:iJ P w K mg base A outer s H)(T:JgZ vs.length)(r:Jc6 vs)
    (x:InCallC s s.heap.objs.size (bindL (QO g d f G).kindOf (ps.zip us) λ_=>none) (JnX (Vv 1) d.names) (bindC (QO g d f G).kindOf (ps.zip us) λ_=>none) I) :
    Inv (Jcv CX P w K mg N g d f G A s H E) [] (zc4 N vs) H I:=by
  have O:QV N.length:=by have:=congrArg List.length S.pre;rw[List.length_take]at this;lia
  let⟨F,tk,rfl,L⟩:=x.done;have o:∀b:Addr,b∉(Jcv CX P w K mg N g d f G A s H E).ex:=λb z=>QN (show b∈([]:List Addr) from z);refine⟨⟨l.mod,S.kind,rfl,rfl,nRq _,λy z c F j=>?_,λy t=>?_,λy c _ h=>?_,λ_=>Q,Around.frames_deeper l.frames,Jnt rfl,λb z=>VR (o b),l.bs,l.bsz,λb _ _=>o b,λb z=>VR (o b),l.funs,l.frf⟩,rfl,l.bare,Un.kept L,JnP x.toInCall.ns (λi y v F j U=>?_),λy c h=>V8 (x.cell y c h),l.hok.fresh (nRq _),λy c h=>?_,λp C=>QN (show p∈([]:List _) from C),l.hok.kept L,?_⟩
  · exact name_of_addr x.apart (PySem.mem_of_lookup F) (PySem.mem_of_lookup j)
  · have t:=t;rcases t with t | t
    · exact uI t
    · exact absurd rfl (S.nofree _ (PySem.mem_of_lookup t))
  · exact Nat.le_of_lt (x.above y c (PySem.mem_of_lookup h))
  · have D:i<vs.length:=by
      unfold zc4 at j;by_cases D:i<vs.length
      · exact D
      · rw[List.getElem?_append_right (by simpa using D),List.getElem?_replicate]at j;split at j <;> cases j
    have R:vs[i]?=some v:=by
      unfold zc4 at j;rw[List.getElem?_append_left (by simpa using D),List.getElem?_map]at j;cases e:vs[i]? with
      | none=>rw[e]at j;cases j
      | some a=>rw[e]at j;cases j;rfl
    let⟨u,J,M⟩:=r.get R;have C:ps[i]?=some y:=by rw[←S.pre,List.getElem?_take_of_lt (by lia)];exact F
    have B:ps.Nodup:=by rw[←S.pre];exact S.nd.sublist (JfI _)
    refine Qj u M;rcases S.par y (mO C) with k | k
    · exact .inl ⟨k,uG B C J k⟩
    · let⟨c,e⟩:=uI k;refine Jhl (.inl k) c e ?_;have q:=x.cell y c e;rw[uH B C J (by show d.names.lookup y≠_;rw[k];decide)]at q;exact q
  · exact l.hok.fresh (Nat.le_of_lt (x.above y c (PySem.mem_of_lookup h)))
  · unfold zc4;show _=N.length;rw[lAq,lM,List.length_replicate];lia
def oX {CX:CXT}{P:Program}{w:World}{K:PySem.W.Frag}{mg:Str→Option Value}{base:Heap}{k:Nat}{f:Addr}{name c:Str}{d:Arguments}{g:List Stmt}{a:Scope}{T kV C R cdv U oc:Value}{Y od:Option Addr}
    {F:Array (Option Value)}{N ps:List Str}{sp:Sp}(lk:JiK f oc od (Ji7 name c d g a T kV C R Y U) F)(M:Jlg K cdv c)(S:aN N ps a)
    (l:∀vs H Q E,sp vs H Q E→JgZ vs.length)
    (j:∀A outer s H vs Q E,Jb_ k (QO c a f cdv)→sp vs H Q E →
      ∃t,PSs (Jcv CX P w K mg N c a f cdv A s H E) g t∧t { nx:=λ_ H'=>Q .non H',rt:=Q } (zc4 N vs) H) :
    aS P w K mg base CX (k+1) f (Ji7 name c d g a T kV C R Y U) ps sp:=by
  refine⟨l,λA outer s H X us vs Q E L B hb r p=>?_⟩;have hl:=l _ _ _ _ p;have Z:=B.mod.kin.keeps λb o e=>(B.bs b o e).1;have G:=B.mod.nolimit.keeps λb o e=>(B.bs b o e).1;have i:∀y∈ps.zip us,Xa (a.names.lookup y.1) .local∨(Xa (a.names.lookup y.1) .cell∧((JnX (Vv 1) a.names).lookup y.1).isSome=true):=λ⟨n,v⟩ hy=>by
    rcases S.par n (List.of_mem_zip hy).1 with q | q
    · exact .inl q
    · exact JaF q (PySem.W.cellsFrom_some _ _ _ (.inl q))
  refine codeAny_call_function L.depth (Z _ _ lk) rfl S.co S.gen rfl (PySem.W.codeRec_of Z M) (hb _ _ _ _ ?_);refine wpAny_newFunctionEnv_cells S.kind i λenv he O x=>?_;subst he;refine⟨G.keeps x.toInCall.keep,codeAny_func ?_⟩;let⟨t,ht,hq⟩:=j A outer s H vs Q E (L.deeper _) p;have I:JnY (Jcv CX P w K mg N c a f cdv A s H E) _ H O:=uJ S L.hd B hl r x;refine wpAny_mono (ht [] O (zc4 N vs) H _ I hq) (λfl s' hs=>?_) λe s' hs=>hs;have z:∀ {h:St} {H':Hp} {v:V} {u:Value},JnY (Jcv CX P w K mg N c a f cdv A s H E) h H' s'→Jf2 v→Q v H'→CE outer P w H s Q u s' :=
    λ{h H' v u} J D q=>⟨v,H',J.os,J.bare,J.base,J.hok,D,q⟩
  cases fl with
  | ret u =>
    let⟨v,h,H',J,D,q⟩:=hs;exact z J D q
  | next =>
    let⟨h,H',J,q⟩:=hs;exact z (v:=V.non) J rfl q
  | brk =>
    let⟨_,_,_,q⟩:=hs;exact False.elim q
  | cont =>
    let⟨_,_,_,q⟩:=hs;exact False.elim q
section
variable {X:Cx} {x:Str} {p pos:Pos} {e:Expr} {es:List Expr} {t:TA} {id T:String} {r:List V→Hp→VK→Prop}
def tCB (r:List V→Hp→VK→Prop)(t:TA):TE:=λa H Q=>t a H λvs b=>r vs b Q
def aF (o:J_ X id r)(l:Gl X x)(k:Jcy x)(i:JhY x (.builtin id))(q:JgK X e t)(j:Jij x:=by decide)(c:QM (x == ("__debug__":Str)):=by decide)
    (n:Jfu e=(false,Vg e) :: starEach es X.env:=by rfl)(b:(Jog es).any (·.1)=false:=by rfl):VE (JJ x p (Jft e) [] pos) (tCB r t):=by intro a s d H Q I h;refine wpAny_Call_Name_kw (fw I l k i ?_ j c);exact PyProof.Rows.callWith_builtin1 (thn (q pos a s d H _ I h) λus f ⟨vs,v,u,g,q1⟩=>o a f d v vs us Q u g q1) n b
def cL (o:JgN X T r)(l:Gl X x)(k:Jcy x)(i:JhY x (.type T))(q:JgK X e t)(j:Jij x:=by decide)(c:QM (x == ("__debug__":Str)):=by decide)
    (n:Jfu e=(false,Vg e) :: starEach es X.env:=by rfl)(b:(Jog es).any (·.1)=false:=by rfl):VE (JJ x p (Jft e) [] pos) (tCB r t):=by intro a s d H Q I h;refine wpAny_Call_Name_kw (fw I l k i ?_ j c);exact PyProof.Rows.callWith_type1 (thn (q pos a s d H _ I h) λus f ⟨vs,v,u,g,q1⟩=>o a f d v vs us Q u g q1) n b
end
end L2
namespace HT
open PySem PyProof.Rows
section
variable {prog:Program} {w:World} {A:Around} {E:Value→Shared→Prop} {s:Shared}
noncomputable def sIx (n d:Nat):JmI Int Nat
  | none=>d
  | some v=>if v<0 then(v+(n:Int)).toNat else min v.toNat n
def sIx_none (n d):sIx n d none=d:=rfl
def sIx_nat (n d k:Nat):sIx n d (some (k:Int))=min k n:=by
  show(if(k:Int)<0 then((k:Int)+(n:Int)).toNat else min (k:Int).toNat n)=min k n
  rw[if_neg (by lia),Int.toNat_natCast]
def sIx_le (n d)(b:d≤n)(o):sIx n d o≤n:=by
  cases o with
  | none=>exact b
  | some v =>
    show(if v<0 then(v+(n:Int)).toNat else min v.toNat n)≤n
    by_cases a:v<0
    · rw[if_pos a];lia
    · rw[if_neg a];exact Jks _
def uK (v)(n d:Nat):(if v<0 then max (v+(n:Int)) 0 else min v (n:Int))=((sIx n d (some v):Nat):Int):=by
  show(if v<0 then max _ 0 else min v (n:Int))=(((if v<0 then(v+(n:Int)).toNat else min v.toNat n):Nat):Int)
  by_cases a:v<0
  · simp only[if_pos a];lia
  · simp only[if_neg a];lia
def yY (lo a)(n:Nat):Builtin.Slice.sliceAdjust lo a 1 (n:Int)=((sIx n 0 lo:Int),(sIx n n a:Int)):=by
  have b:¬(1<0):=by lia
  unfold Builtin.Slice.sliceAdjust;simp only[b,if_false];refine Prod.ext ?_ ?_
  · cases lo with
    | none=>rfl
    | some v=>exact uK v n 0
  · cases a with
    | none=>rfl
    | some v=>exact uK v n n
def yZ (i j:Nat):Jgn (i:Int) (j:Int)=j-i:=by
  unfold Builtin.Slice.slicePlaces;have a:1 > 0:=by lia
  simp only[a,if_true,Int.ediv_one];split <;> lia
def uL (p:IsPart v o)(h:Q o s):J6 w A (Builtin.Slice.slicePartIndex v) Q E s:=by
  cases p with
  | none=>exact slicePart_none h
  | int i t=>exact slicePart_int h
def uM {f:Addr}{e d:Value}{lo b:Option Int}{n:Nat}{Q:Int × Int × Nat→Shared→Prop}(hs:Jfb f e d)(pl:IsPart e lo)(g:IsPart d b)
    (h:Q ((sIx n 0 lo:Int),1,sIx n n b - sIx n 0 lo) s):J6 w A (Builtin.Slice.sliceApplied (.ref f) (pure (n:Int))) Q E s:=by
  let⟨j,a,i,c⟩:=id hs;refine JbQ (wpAny_field a c rfl (wpAny_bind (wpAny_field a c rfl (wpAny_bind (wpAny_field a c rfl (wpAny_pure ?_))))));refine wpAny_bind (slicePart_none ?_);show V0 _ _ _ _ s
  rw[if_neg (by decide)];refine wpAny_bind (uL pl (wpAny_bind (uL g (Qo ?_))));show V0 _ (match Builtin.Slice.sliceAdjust lo b 1 (n:Int) with | (lo,b)=>pure (lo,(1:Int),Jgn lo b)) _ _ s
  rw[yY lo b n];show V0 _ (pure ((sIx n 0 lo:Int),1,Jgn (sIx n 0 lo:Int) (sIx n n b:Int))) _ _ s;rw[yZ];exact wpAny_pure h
def y_ (xs:Array Value)(i k:Nat):((List.range k).filterMap λ(m:Nat)=>xs[((i:Int)+(m:Int) * 1).toNat]?).toArray=((xs.toList.drop i).take k).toArray:=by
  have e:(λ(m:Nat)=>xs[((i:Int)+(m:Int) * 1).toNat]?)=λm=>xs[i+m]?:=by
    funext m;have:((i:Int)+(m:Int) * 1).toNat=i+m:=by lia
    rw[this]
  rw[e];have:=pick_run xs i k;rw[List.filterMap_map]at this;have a:((λx=>xs[x]?) ∘ λx=>i+x)=λm=>xs[i+m]?:=rfl;rw[a]at this;rw[this]
def getItem_tuple_cut {t d:Addr}{items:Array Value}{k j:Value}{lo b:Option Int}{Q:Value→Shared→Prop}(c:IsTup s.heap t items)(hs:Jfb d k j)(pl:IsPart k lo)(l:IsPart j b)
    (o:¬(Jmc 0=0∧Jao items.size b=items.size))
    (h:Xl s.heap.objs.size { s with heap:=s.heap.push { cls:=.type "tuple",data:=.seq ((items.toList.drop (Jmc 0)).take (sIx items.size items.size b - Jmc 0)).toArray } })
    (hsz:Vi items.size):J6 w A (getItem (.ref t) (.ref d)) Q E s:=by
  have a:sizeOk (.seq ((items.toList.drop (Jmc 0)).take (sIx items.size items.size b - Jmc 0)).toArray):=by show((items.toList.drop _).take _).toArray.size≤sizeLine;rw[sA,List.length_take,List.length_drop,Array.length_toList];lia
  let⟨n,e,g,p⟩:=id hs;have i:Jjn d "slice":=⟨n,e,g⟩;unfold getItem
  try with_reducible refine wpAny_holding ?_
  first | refine Qo ?_ | skip
  refine wpAny_bind (wpAny_sequenceKey c.typeIs (by decide) ?_);refine wpAny_bind (wpAny_callSpecial?_slot (name:=Str.ofString "__getitem__") c.typeIs PyProof.Rows.slot_tuple_getitem (JoE PyProof.Rows.slot_tuple_getitem c.typeIs entry_tuple_getitem (args_tuple_getitem _ _)))
  show V0 _ (JdQ t >>= _) _ _ s;refine wpAny_bind (tupleItemsOf_ c ?_);refine JaC i ?_;rw[if_pos (by decide)];refine wpAny_bind (uM hs pl l ?_);have f:¬(Vq ((sIx items.size 0 lo:Int) == 0&&(1:Int) == 1&&(sIx items.size items.size b - Jmc 0) == items.size)):=by intro q;rw[Bool.and_eq_true,Bool.and_eq_true]at q;exact o (JgO (by lia))
  show V0 _ (if Vq ((sIx items.size 0 lo:Int) == 0&&(1:Int) == 1&&(sIx items.size items.size b - Jmc 0) == items.size) then _ else _) _ _ s
  rw[if_neg f,y_]
  first
    | exact wpAny_bind (wpAny_newObj_type (wpAny_pure (QI (wpAny_pure h))) a)
    | exact wpAny_bind _
    | exact wpAny_bind _
    | exact wpAny_bind _
end
end HT
namespace L2
open PySem PySem.Spec PyProof.Rows
abbrev TO:=St→Hp→(Option Int→Hp→Prop)→Prop
def PO (X:Cx)(e:Option Expr)(t:TO):Prop :=
  ∀a s (b:St) H Q,JmU b→t b H Q →
    wpAny (Xp X.w) X.A (evalPart e X.env) (λu s'=>∃o H',JW a b H' s'∧IsPart u o∧Q o H') X.xe s
def za:TO:=λ_ H Q=>Q none H
def tPart (t:TE):TO:=λa H Q=>t a H λx b=>∃i,Jjl x i∧Q (some i) b
def zb:∀ {us:List Value},Jc6 (ns.map V.int)→IntsAre us ns:=by
  induction ns with
  | nil=>intro us r;rw[List.map_nil]at r;cases r;exact .nil
  | cons n ns c =>
    intro us r;rw[List.map_cons]at r;cases r with
    | cons b a =>
      let⟨t,e⟩:=b;subst e;exact .cons n t (c a)
section
variable {X:Cx} {e:Expr} {te:TE} {lo hi:Option Expr} {tl th:TO} {pos p2:Pos}
def eS:PO X none za:=by intro a s b H Q I h;rw[evalPart_none];exact wpAny_pure ⟨none,H,I,.none,h⟩
def eT (h:JnA te):PO X (some e) (tPart te):=by intro a s b H Q I d;rw[evalPart_some];refine thn (h a s b H _ I d) λu j h_=>?_;let⟨x,g,f,c,q1⟩:=h_;let⟨i,rfl,q⟩:=q1;let⟨t,rfl⟩:=c;exact⟨some i,g,f,Jdw i,q⟩
def SlR (X:Cx)(r:V→Option Int→Option Int→Hp→VK→Prop):Prop :=
  ∀a s (b:St) H x v d c lo hi f Q,JmU b→bn x v→Jfb f d c→IsPart d lo→IsPart c hi→r x lo hi H Q →
    ∃T id,Jgc (Jbq T "__getitem__") (Qm id)∧s.TypeIs v T∧Jbd (getItem v (.ref f)) (EP X a b Q) s
def SlR.or (h:SlR X r)(h':SlR X r'):SlR X (λx lo hi H Q=>r x lo hi H Q∨r' x lo hi H Q):=by
  intro a s b H x v d c lo hi f Q I g hs pl i q;rcases q with q | q
  · exact h a s b H x v d c lo hi f Q I g hs pl i q
  · exact h' a s b H x v d c lo hi f Q I g hs pl i q
def tSl (r:V→Option Int→Option Int→Hp→VK→Prop)(te:TE)(tl th:TO):TE:=λa H Q=>te a H λx d=>tl a d λl c=>th a c λu b=>r x l u b Q
def eU (B:SlR X r)(E:JnA te)(C:PO X lo tl)(y:PO X hi th):VE (Jhq e (.Slice lo hi none p2)) (tSl r te tl th):=by intro a s d H Q I h;refine Subscript_ (thn (E a s d H _ I h) λv k h_=>?_);let⟨x,N,L,n,q1⟩:=h_;refine wpAny_Slice (thn (C a k d N _ L q1) λg j ⟨l,M,K,pl,p⟩=>thn (y a j d M _ K p) λf c h_=>?_);let⟨u,i,J,t,o⟩:=h_;rw[evalPart_none];refine wpAny_pure ?_;have G:JW a d i { c with heap:=c.heap.push { cls:=.type "slice",data:=.fields #[g,f,.none] } }:=J.kept (t':=c.toks) λb O q=>JgM q;let⟨T,id,F,z,D⟩:=B a { c with heap:=c.heap.push { cls:=.type "slice",data:=.fields #[g,f,.none] } } d i x v g f l u c.heap.objs.size Q G n (Heap.IsSliceOf.new ..) pl t o;exact tail_any (ops:=JfJ c.heap.objs.size v) z F D (by with_unfolding_all rfl)
def dh (xs:List V)(lo hi:Option Int):List V:=(xs.drop (JdF 0 lo)).take (HT.sIx xs.length xs.length hi - JdF 0 lo)
def uN (xs)(lo hi):(dh xs lo hi).length≤xs.length:=by unfold dh;rw[List.length_take,List.length_drop];lia
inductive rSlT (K:PySem.W.Frag):V→Option Int→Option Int→Hp→VK→Prop|m{x lo hi H Q} a xs:Jny a→Jfp a→¬(JdF 0 lo=0∧JdF xs.length hi=xs.length)→(∀p,JiX p p (Jt H p (dh xs lo hi)))→rSlT K x lo hi H Q
def uO:SlR X (rSlT X.K):=by
  intro f s n H x v t p lo hi u Q I i hs pl j h;let⟨a,xs,rfl,k,l,q⟩:=h;cases i;let⟨d,r,g,hz⟩:=I.tuple k;have c:d.toArray.size=xs.length:=by rw[sA];exact r.length.symm
  refine⟨"tuple",_,PyProof.Rows.slot_tuple_getitem.lookup,g.typeIs,?_⟩;refine HT.getItem_tuple_cut g hs pl j (by rw[c];exact l) ?_ (by rw[c];exact hz);rw[c];refine JnJ _ (t':=s.toks) (λb w q=>JgM q) _ ?_ (q _ (Q2 _));exact⟨JiO (uN xs lo hi),_,(r.drop _).take _,fu.new _ _⟩
end
noncomputable def ixN (n:Nat)(i:Int):Option Nat:=if 0≤i then(if i<n then some i.toNat else none) else if -(n:Int)≤i then some (i+n).toNat else none
def atI {a:Type}(xs:List a)(i:Int):Option a:=(ixN xs.length i).bind λj=>xs[j]?
def zc (h:Xa (ixN n i) j):seqIndex? i n=some j∧j<n∧-(n:Int)≤i∧i<n:=by
  unfold ixN at h;by_cases h0:0≤i
  · rw[if_pos h0]at h;by_cases a:i<n
    · rw[if_pos a]at h;have e:=Option.some.inj h;exact⟨by rw[seqIndex_of h0 a,e],by lia,by lia,a⟩
    · rw[if_neg a]at h;cases h
  · rw[if_neg h0]at h;by_cases a:-(n:Int)≤i
    · rw[if_pos a]at h;have e:=Option.some.inj h;exact⟨by rw[seqIndex_neg (by lia) a,e],by lia,a,by lia⟩
    · rw[if_neg a]at h;cases h
def mf (h:JmN xs i v):∃j,seqIndex? i xs.length=some j∧xs[j]?=some v∧JhX j∧-(xs.length:Int)≤i∧JhX i:=by
  unfold atI at h;cases e:ixN xs.length i with
  | none=>rw[e]at h;cases h
  | some j =>
    rw[e]at h;let⟨d,c,b,a⟩:=zc e;exact⟨j,d,h,c,b,a⟩
def ay {a:Type}{xs:List a}{j:Nat}{v:a}(h:xs[j]?=some v):atI xs (j:Int)=some v:=by
  have b:JhX j:=(gEq h).1;have e:ixN xs.length (j:Int)=some j:=by unfold ixN;rw[if_pos (by lia),if_pos (by lia)];simp
  unfold atI;rw[e];exact h
def mh (xs)(v:α):atI (xs++[v]) (-1)=some v:=by
  have a:(xs++[v]).length=xs.length+1:=by simp
  have e:ixN (xs++[v]).length (-1)=some xs.length:=by unfold ixN;rw[a,if_neg (by decide),if_pos (by lia)];congr 1;lia
  unfold atI;rw[e];show(xs++[v])[xs.length]?=some v;simp
def zd (b:Expr):Prop:=∀o i,subscripted b false o i=JnZ [o,i] o i
def IxR (X:Cx)(r:R2):Prop :=
  ∀c a b s (d:St) H x y v u Q,JmT b d→bn x v→Jf2 y→r x y H Q →
    subscripted a false v u=JnZ [v,u] v u→Jbd (subscriptTail c a v u) (EP X b d Q) s
def MtR (X:Cx)(id:String)(r:V→List V→Hp→VK→Prop):Prop :=
  ∀a s (b:St) H x xs v us Q,JmU b→bn x v→Jc6 xs→r x xs H Q →
    wpAny (Xp X.w) X.A (JbO id (v :: us)) (EP X a b Q) X.xe s
section
variable {X:Cx} {a b:Expr} {ta tb:TE} {pos:Pos}
def aI (i:IxR X r)(k:JlH a)(j:VE b tb)(hs:zd b:=by exact λ_ _=>rfl):VE (Jhq a b) (tOp r ta tb):=by intro c s d H Q I h;exact Subscript_ (binT k j I h λv u e x y n l g f q=>i a b c e d n x y v u Q l g f q (hs _ _))
inductive jc (K:PySem.W.Frag):R2|m{x y H Q} p xs i v:Jow x p (Jjl y i) (Jcr p) (JmN xs i v) (Q v H→jc K x y H Q)
inductive gj (K:PySem.W.Frag):R2|m{x y H Q} p xs i v:Jow x p (Jjl y i) (Jfp p) (JmN xs i v) (Q v H→gj K x y H Q)
inductive rIxS:R2|m{x y H Q} z i c:x=.str z→Jjl y i→Vi z.length→JmN z.cps.toList i c→Jct ⟨#[c]⟩ H→rIxS x y H Q
def cu:IxR X (jc X.K):=by
  intro f g c s o H x y v u Q I C B h hs;let⟨p,xs,i,z,rfl,rfl,D,F,q⟩:=h;cases C;let⟨t,rfl⟩:=B;let⟨l,r,pl,hz⟩:=I.list D;let⟨j,e,L,N,J,G⟩:=mf F;let⟨w,A,k⟩:=r.get L;have E:=r.length;have M:=kq;have d:EP X c o Q w s:=⟨z,H,I,k,q⟩;by_cases h0:0≤i
  · have n:i.toNat=j:=by rw[seqIndex_of h0 G]at e;exact Option.some.inj e
    exact item_listR pl.isList h0 (by lia) (by rw[n];simpa using A) d hs
  · have n:(i+(l.toArray.size:Int)).toNat=j:=by rw[seqIndex_neg (by lia) J]at e;rw[sA,←E];exact Option.some.inj e
    exact subscriptTail_builtinR pl.isList.typeIs slot_list_getitem.lookup
      (wpAny_getItem_list_neg pl.isList (by lia) (by rw[sA] <;> lia) (by lia) (by rw[n];simpa using A) (Jbm d)) hs
def aQ:IxR X (gj X.K):=by
  intro d e c s k H x y v u Q I n l h hs;let⟨p,xs,i,z,rfl,rfl,A,C,q⟩:=h;cases n;let⟨t,rfl⟩:=l;let⟨o,r,pl,hz⟩:=I.tuple A;let⟨j,E,D,M,L,J⟩:=mf C;let⟨w,F,f⟩:=r.get D;have B:=r.length;have G:=kq;have g:EP X c k Q w s:=⟨z,H,I,f,q⟩;exact subscriptTail_builtinR pl.typeIs slot_tuple_getitem.lookup
    (getItem_tuple pl (by lia) (by lia) (by rw[sA,←B];exact E) (by simpa using F) (Jbm g)) hs
def ix_str:IxR X rIxS:=by
  intro d e f s C H x y v u Q I l k h hs;let⟨z,i,c,rfl,rfl,hz,o,q⟩:=h;let⟨t,rfl⟩:=l;let⟨t',rfl⟩:=k;let⟨j,g,w,E,r,p⟩:=mf o;have n:z.cps.toList.length=z.length:=by simp [Str.length]
  rw[n]at g r p;have D:=kq;exact tail_any (typeIs_str s z t) slot_str_getitem.lookup (getItem_str (by have B:decide (i < -(2 ^ 63:Int))=false:=dFq (by lia);have A:decide (i≥2 ^ 63)=false:=dFq (by lia);rw[B,A,Bool.or_false]) (by rw[g];simpa using w) (Q5 (.str ⟨#[c]⟩) H _ (Vf _) q)) hs
def Inv.lst (I:QD s)(h:Je7 p) :
    ∃c n,bc xs c∧s.heap.get? p=some { cls:=.type "list",data:=.seq c.toArray n }∧Vi xs.length:=by let⟨z,c,n,r,e⟩:=JbR p h;exact⟨c,n,r,e,z⟩
def ze (lo c)(n):(sliceBounds lo c none n).1=(HT.sIx n 0 lo:Int)∧(sliceBounds lo c none n).2.1=(HT.sIx n n c:Int)∧(sliceBounds lo c none n).2.2=1:=by
  refine Jbz ?_ ?_
  · cases lo with
    | none=>simp [sliceBounds,HT.sIx]
    | some i =>
      simp only[sliceBounds,HT.sIx,Option.getD_none,show(1:Int) > 0 by decide,if_true];by_cases h:i<0
      · simp only[h,if_true] <;> lia
      · simp only[h,if_false] <;> lia
  · cases c with
    | none=>simp [sliceBounds,HT.sIx]
    | some i =>
      simp only[sliceBounds,HT.sIx,Option.getD_none,show(1:Int) > 0 by decide,if_true];by_cases h:i<0
      · simp only[h,if_true] <;> lia
      · simp only[h,if_false] <;> lia
def zf (c:List Value)(lo d):slicePick c.toArray lo d none=((c.drop (HT.sIx c.length 0 lo)).take (HT.sIx c.length c.length d - HT.sIx c.length 0 lo)).toArray:=by let⟨g,f,e⟩:=ze lo d c.toArray.size;unfold slicePick;rw[g,f,e];simp only[sliceRange_one,pick_run,sA] <;> rfl
inductive rSlL (K:PySem.W.Frag):V→Option Int→Option Int→Hp→VK→Prop|m{x lo hi H Q} a xs:JjR x a (Jcr a) (∀p,JiX p p (Jju p (dh xs lo hi))) (rSlL K x lo hi H Q)
def gW:SlR X (rSlL X.K):=by intro e s l H x v p n lo d t Q I g hs pl i h;let⟨a,xs,rfl,k,q⟩:=h;cases g;let⟨j,r,f,hz⟩:=I.list k;have c:=r.length;refine⟨"list",_,slot_list_getitem.lookup,f.isList.typeIs,?_⟩;refine wpAny_getItem_list_slice f.isList hs pl i .none (by simp) ?_ (by rw[sA] <;> lia);rw[zf,←c];refine JnJ _ (t':=s.toks) (λb u q=>JgM q) _ ?_ (q _ (Q2 _));exact⟨JiO (uN xs lo d),_,0,(r.drop _).take _,Heap.get?_push_size _ rfl⟩
noncomputable def zeo:Jn_ V
  | .non=>true
  | .bl _=>true
  | .int _=>true
  | .str _=>true
  | _=>false
noncomputable def eqV:V→Jn_ V
  | .non,.non=>true
  | .bl a,.bl b=>a == b
  | .bl a,.int b=>(if a then 1 else 0) == b
  | .int a,.bl b=>a == (if b then 1 else 0)
  | .int a,.int b=>a == b
  | .str a,.str b=>a == b
  | _,_=>false
def kz (d:Jf2 y)(c:bn x v)(f:Vq (zeo y))(e:Vq (zeo x)):JiP A u v (eqV y x):=by
  cases y with
  | non =>
    cases d;cases x with
    | non=>cases c;exact SeqAt.EqAt.same _
    | bl b=>cases c;exact SeqAt.EqAt.none_bool b
    | int b=>obtain⟨t,rfl⟩:=c;exact SeqAt.EqAt.none_int b t
    | str b=>obtain⟨t,rfl⟩:=c;exact SeqAt.EqAt.none_str b t
    | _=>exact Jk (show Vq false from e)
  | bl a =>
    cases d;cases x with
    | non=>cases c;exact SeqAt.EqAt.bool_none a
    | bl b=>cases c;exact SeqAt.EqAt.bool_bool a b
    | int b=>obtain⟨t,rfl⟩:=c;exact SeqAt.EqAt.bool_int a b t
    | str b=>obtain⟨t,rfl⟩:=c;exact SeqAt.EqAt.bool_str a b t
    | _=>exact Jk (show Vq false from e)
  | int a =>
    let⟨t',rfl⟩:=d;cases x with
    | non=>cases c;exact SeqAt.EqAt.int_none a t'
    | bl b=>cases c;exact SeqAt.EqAt.int_bool a t' b
    | int b=>obtain⟨t,rfl⟩:=c;exact SeqAt.EqAt.int_int a t' b t
    | str b=>obtain⟨t,rfl⟩:=c;exact SeqAt.EqAt.int_str a t' b t
    | _=>exact Jk (show Vq false from e)
  | str a =>
    let⟨t',rfl⟩:=d;cases x with
    | non=>cases c;exact SeqAt.EqAt.str_none a t'
    | bl b=>cases c;exact SeqAt.EqAt.str_bool a t' b
    | int b=>obtain⟨t,rfl⟩:=c;exact SeqAt.EqAt.str_int a t' b t
    | str b=>obtain⟨t,rfl⟩:=c;exact SeqAt.EqAt.str_str a t' b t
    | _=>exact Jk (show Vq false from e)
  | _=>exact Jk (show Vq false from f)
def eqU (x:V)(u:Value):Bool:=match u with
  | .none=>eqV .non x
  | .bool b=>eqV (.bl b) x
  | .int i _=>eqV (.int i) x
  | .str z _=>eqV (.str z) x
  | _=>false
def uP (r:Jf2 y)(f:Vq (zeo y)):eqU x u=eqV y x:=by
  cases y with
  | non=>cases r;rfl
  | bl b=>cases r;rfl
  | int i=>obtain⟨t,rfl⟩:=r;rfl
  | str z=>obtain⟨t,rfl⟩:=r;rfl
  | _=>exact Jk (show Vq false from f)
theorem kA:∀ {xs:List V} {us:List Value},Jc6 xs→Vq (xs.all zeo)→us.any (eqU x)=xs.any λy=>eqV y x
  | _,_,.nil,_=>rfl
  | y :: xs,u :: us,JhE t,f=>by rw[List.all_cons,Bool.and_eq_true]at f;rw[List.any_cons,List.any_cons,uP r f.1,kA t f.2]
theorem kB (d:bn x v)(e:Vq (zeo x)):∀ {xs:List V} {us:List Value},Jc6 xs→Vq (xs.all zeo)→∀u∈us,JiP A u v (eqU x u)
  | _,_,.nil,_=>λu c=>by cases c
  | y :: xs,u :: us,JhE t,f=>λg c=>by
    rw[List.all_cons,Bool.and_eq_true]at f;rcases List.mem_cons.mp c with rfl | c
    · rw[uP r f.1];exact kz r d f.1 e
    · exact kB d e t f.2 g c
def inV (x:V)(xs:List V):Bool:=xs.any λy=>eqV y x
inductive rIn (K:PySem.W.Frag)(neg:Bool):R2|m{x y H Q} p xs:Jow y p (Jcr p∨Jfp p) (Vq (zeo x)) (Vq (xs.all zeo)) (Jx (if neg then !inV x xs else inV x xs) H→rIn K neg x y H Q)
def uQ:Qx X .In (rIn X.K false):=by
  intro i s l H x y v u Q I g k h;let⟨p,xs,rfl,d,j,e,q⟩:=h;cases k;rcases d with d | d
  · let⟨c,r,pl,hz⟩:=I.list d;refine SeqAt.in_listAt _ pl.isList (λw f=>kB g j r e w (by simpa using f)) (Joz ?_);rw[show c.toArray.any _=c.any (eqU x) by simp,kA r e];exact q
  · let⟨c,r,pl,hz⟩:=I.tuple d;refine SeqAt.in_tupleAt _ pl (λw f=>kB g j r e w (by simpa using f)) (Joz ?_);rw[show c.toArray.any _=c.any (eqU x) by simp,kA r e];exact q
def mi:Qx X .NotIn (rIn X.K true):=by
  intro i s l H x y v u Q I g k h;let⟨p,xs,rfl,d,j,e,q⟩:=h;cases k;rcases d with d | d
  · let⟨c,r,pl,hz⟩:=I.list d;refine SeqAt.notIn_listAt _ pl.isList (λw f=>kB g j r e w (by simpa using f)) (Joz ?_);rw[show c.toArray.any _=c.any (eqU x) by simp,kA r e];exact q
  · let⟨c,r,pl,hz⟩:=I.tuple d;refine SeqAt.notIn_tupleAt _ pl (λw f=>kB g j r e w (by simpa using f)) (Joz ?_);rw[show c.toArray.any _=c.any (eqU x) by simp,kA r e];exact q
inductive rLenS (K:PySem.W.Frag):List V→Hp→VK→Prop|m{xs H Q} p ys:xs=Vz p→(Jz H p ys∨Jfo p ys)→Q7 ys.length H→rLenS K xs H Q
def bO:J_ X "len" (rLenS X.K):=by
  intro g s j H xs us Q I r h;let⟨p,ys,rfl,d,q⟩:=h;let⟨u,rfl,i⟩:=eR r;cases i;have k:=kq;rcases d with d | d
  · let⟨f,e,pl,hz⟩:=I.list d;have c:=e.length;exact Calls.call_len_list pl.isList (by simp only[sA] <;> lia) (JdU ys.length H _ ⟨s.toks+1,by rw[sA,c]⟩ q)
  · let⟨f,e,pl,hz⟩:=I.tuple d;have c:=e.length;exact len_tuple pl (by simp only[sA] <;> lia) (JdU ys.length H _ ⟨s.toks+1,by rw[sA,c]⟩ q)
def uR:J_ X "len" (λxs H Q=>∃z,xs=[.str z]∧Vi z.length∧Q7 z.length H):=by intro c s d H xs us Q I r h;let⟨z,rfl,hz,q⟩:=h;let⟨u,rfl,t,rfl⟩:=eR r;have e:=kq;exact len_str (by lia) (Jid z.length H _ _ q)
inductive rLsO (K:PySem.W.Frag):List V→Hp→VK→Prop|m{xs H Q} p ys:xs=Vz p→(Jz H p ys∨Jfo p ys)→(∀l,JiX l l (Jou ys))→rLsO K xs H Q
def kC:JgN X "list" (rLsO X.K):=by
  intro g s z H xs us Q I r h;let⟨p,ys,rfl,j,q⟩:=h;let⟨u,rfl,A⟩:=eR r;cases A;have l:∀c,bc ys c→Vi ys.length→∀h' f,(∀b y,s.heap.get? b=some y→h'.get? b=some y) →
      h'.get? s.heap.objs.size=some { cls:=.type "list",dict:=none,data:=.seq c.toArray f,slots:=#[] }→EP X g z Q _ { s with heap:=h' }:=λc d hz h' f i e =>
    (JnJ _ (t':=s.toks) i _ (show JcJ _ h' _ (.lst ys) from⟨hz,c,f,d,e⟩) (q _ (Q2 _)))
  rcases j with j | j
  · let⟨c,d,pl,hz⟩:=I.list j;have k:=d.length;let⟨o,t,x,n,v⟩:=pl.isList;exact call_list_seq p (.inl rfl) t x v (λh' f i e=>l c d hz h' f i e) (by simp only[sA] <;> lia)
  · let⟨c,d,pl,hz⟩:=I.tuple j;have k:=d.length;let⟨o,t,x,n,v⟩:=pl;exact call_list_seq p (.inr rfl) t x v (λh' f i e=>l c d hz h' f i e) (by simp only[sA] <;> lia)
inductive rTpO (K:PySem.W.Frag):List V→Hp→VK→Prop|m{xs H Q} p ys:xs=Vz p→((Jz H p ys∧∀l,JiX l l (Jt H l ys))∨(Jfo p ys∧Xl p H))→rTpO K xs H Q
def gk:JgN X "tuple" (rTpO X.K):=by
  intro c s i H xs us Q I r h;let⟨p,ys,rfl,h⟩:=h;let⟨u,rfl,l⟩:=eR r;cases l;rcases h with ⟨g,q⟩ | ⟨g,q⟩
  · let⟨d,f,pl,hz⟩:=I.list g;have j:=f.length;refine call_tuple_list pl.isList (λh' n=>?_) (by simp only[sA] <;> lia);have k:=I.kept (t':=s.toks) n;have t:=
      k.laid (t':=s.toks) (λb o e=>JgM e) (nRq _) (show JcJ _ _ _ (.tup ys) from⟨hz,d,f,fu.new _ _⟩)
    exact JaX h'.objs.size _ t (q _ (k.hok.fresh (nRq _)))
  · let⟨d,f,pl,hz⟩:=I.tuple g;exact call_tuple_same pl (JaX p H I q)
def tyV (K:PySem.W.Frag)(T:String)(x:V)(H:Hp):Prop:=match x with
  | .str _=>T="str"
  | .int _=>T="int"
  | .ref p=>(T="list"∧∃xs,Jcr p)∨(T="tuple"∧∃o,Jap p o∧o.cls=.type "tuple"∧Qu o.dict) ∨
      (T="dict"∧((∃kvs,Jc2 p)∨∃kvs,Xh p (.dT kvs)))∨(T="set"∧∃S n,Xh p (.set S n))∨(T="tuple"∧∃xs,Jfp p)
  | _=>False
def uS (I:QD s)(r:bn x v)(ty:tyV X.K T x H) :
    s.TypeIs v T∧∀a,QB v a→∃k,s.heap.get? a=some k∧Qu k.dict:=by
  cases x with
  | str z =>
    let⟨t,rfl⟩:=r;cases (show T="str" from ty);exact⟨typeIs_str s z t,λ_ e=>nomatch e⟩
  | int i =>
    let⟨t,rfl⟩:=r;cases (show T="int" from ty);exact⟨typeIs_int s i t,λ_ e=>nomatch e⟩
  | ref p =>
    cases r;rcases ty with ⟨rfl,xs,l⟩ | ⟨rfl,o,d,q,j⟩ | ⟨rfl,d⟩ | ⟨rfl,S,n,d⟩ | ⟨rfl,xs,d⟩
    · let⟨h,_,pl,_⟩:=I.list l;refine⟨pl.isList.typeIs,λa e=>?_⟩;cases e;let⟨o,n,e,c,j,_⟩:=pl;exact⟨o,e,j⟩
    · refine JlZ o (I.kIn p o d) q (λa e=>?_);cases e;exact⟨o,I.kIn _ o d,j⟩
    · have z:∃o,s.heap.get? p=some o∧o.ExactDict:=by
        rcases d with ⟨kvs,d⟩ | ⟨kvs,d⟩
        · let⟨_,_,_,_,o,_,_,e,f,_⟩:=JbR p d;exact⟨o,e,f⟩
        · let⟨_,_,_,_,o,_,_,e,f,_⟩:=JbR p d;exact⟨o,e,f⟩
      let⟨o,e,f⟩:=z;refine JlZ o e f.1 (λa g=>?_);cases g;exact⟨o,e,f.2.1⟩
    · let⟨o,_,_,_,e,f,_⟩:=JbR p d;refine JlZ o e f.1 (λa g=>?_);cases g;exact⟨o,e,f.2.1⟩
    · let⟨h,_,⟨o,e,c,_⟩,_⟩:=I.tupD d;refine JlZ o e ((Prod.mk.inj c).1) (λa g=>?_);cases g;exact⟨o,e,(Prod.mk.inj c).2⟩
  | _=>exact False.elim ty
def tBM0 (K:PySem.W.Frag)(T:String)(r:V→List V→Hp→VK→Prop)(e:TE):TE:=λd H Q=>e d H λx c=>tyV K T x c∧r x [] c Q
def tBM (K:PySem.W.Frag)(T:String)(r:V→List V→Hp→VK→Prop)(e:TE)(t:TA):TE:=λc H Q=>e c H λx d=>tyV K T x d∧t c d λxs f=>r x xs f Q
variable {o e:Expr} {es:List Expr} {to:TE} {t:TA} {name:Str} {apos cpos:Pos} {T id:String} {r:V→List V→Hp→VK→Prop}
def uT (p:PlainAttrs T)(g:Slot T name id)(i:Jgc (typeOf (.builtin id)) (.type "method_descriptor"))(u:MtR X id r)(q:VE o to)
    (f:Jjg o name o=eval o X.env:=by rfl)(d:Vq (apos.endLine == cpos.line):=by rfl):VE (JlK o name [] [] cpos) (tBM0 X.K T r to):=by intro c s j H Q I h;refine wpAny_Call_method0_late f d (thn (q c s j H _ I h) λv n h_=>?_);let⟨x,z,l,k,ty,q1⟩:=h_;let⟨y,w⟩:=uS l k ty;exact⟨T,id,p,g,i,y,w,Calls.callWith_builtin rfl (PySem.evalArgs_none (u c n j z x [] v [] Q l k .nil q1))⟩
def cz (A:PlainAttrs T)(i:Slot T name id)(l:Jgc (typeOf (.builtin id)) (.type "method_descriptor"))(C:MtR X id r)(B:VE o to)(D:JgK X e t)
    (g:Jjg o name o=eval o X.env:=by rfl)
    (j:Vq ((JfW (Jft e)).all (λx=>!x.1)&&(JnH []).all (λx=>x.1.isSome)
      && decide ((Jft e).length+([]:List Keyword).length+(if([]:List Keyword).isEmpty then 0 else 1)<30)):=by rfl)
    (f:Vq (apos.endLine == cpos.line):=by rfl)(hs:Jfu e=(false,Vg e) :: starEach es X.env:=by rfl)(d:(JfW es).any (·.1)=false:=by rfl) :
    PE X (JlK o name (Jft e) [] cpos) (tBM X.K T r to t):=by intro c s k H Q I h;refine JdV g j f (thn (B c s k H _ I h) λv w h_=>?_);let⟨x,L,q,n,ty,q1⟩:=h_;let⟨F,E⟩:=uS q n ty;refine⟨T,id,A,i,l,F,E,?_⟩;have p:=D cpos c w k L _ q q1;rw[hs]at p ⊢;refine VD (by show QM (false||(JjW _).any _);rw[d] <;> rfl) ?_;exact thn p λus u ⟨vs,J,G,y,z⟩=>C c u k J x vs v us Q G n y z
end
def MtM (X:Cx)(id:String)(r:V→List V→Hp→VK→Prop):Prop :=
  ∀a s (b:St) H x xs v us Q,JmU b→bn x v→Jc6 xs→r x xs H Q →
    wpAny (Xp X.w) X.A (JbO id (v :: us)) (EP X a b Q) X.xe s
def bc.one (h:Jc6 [x]):∃u,us=[u]∧bn x u:=by
  cases h with
  | cons r h=>cases h;exact QI r
def bc.two (h:Jc6 [x,y]):∃u v,us=[u,v]∧Jf2 x∧bn y v:=by
  cases h with
  | cons r h=>cases h with
    | cons q h=>cases h;exact VO _ _ r q
def bc.zero:∀ {us:List Value},Jc6 []→us=[]
  | _,.nil=>rfl
def bc.dropLast (h:Jc6 xs):bc xs.dropLast us.dropLast:=by
  induction h with
  | nil=>exact .nil
  | cons r t a =>
    cases t with
    | nil=>exact .nil
    | cons q t'=>exact JhE a
def bc.reverse (h:Jc6 xs):bc xs.reverse us.reverse:=by
  induction h with
  | nil=>exact .nil
  | cons r t a=>rw[List.reverse_cons,List.reverse_cons];exact bc.append a (Jdx r)
theorem bc.rep (h:Jc6 xs):∀k:Nat,bc (Jbh xs).flatten (Jbh us).flatten
  | 0=>.nil
  | k+1=>by rw[List.replicate_succ,List.replicate_succ,List.flatten_cons,List.flatten_cons];exact bc.append h (bc.rep h k)
def zg (l:List α):l.eraseIdx (l.length-1)=l.dropLast:=by
  induction l with
  | nil=>rfl
  | cons a r c =>
    cases r with
    | nil=>rfl
    | cons b r =>
      have e:(a :: b :: r).length - 1=((b :: r).length - 1)+1:=by have f:(a :: b :: r).length=r.length+2:=rfl;have d:(b :: r).length=r.length+1:=rfl;lia
      rw[e,List.eraseIdx_cons_succ,c]
      all_goals rfl
theorem uU (a):∀k (acc:List Value),
    List.foldl (λc b=>c++b) acc.toArray (Jbh a.toArray)=(acc++(Jbh a).flatten).toArray
  | 0,acc=>by simp
  | k+1,acc=>by
    have e:acc.toArray++a.toArray=(acc++a).toArray:=by simp
    have d:(acc++a)++(Jbh a).flatten=acc++(List.replicate (k+1) a).flatten:=by rw[List.replicate_succ,List.flatten_cons,List.append_assoc]
    rw[←d,←uU a k _,←e,List.replicate_succ,List.foldl_cons]
section
variable {X:Cx} {pins:List (Jbp Obj)} {σ:St} {H:Hp} {s:Shared} {l b:Addr} {xs ys zs:List V}
def Inv.lset {a its':List Value}{n:Nat}{f:Array Value→Array Value}{t':Nat}(I:QD s)(i:Je7 l)
    (e:s.heap.get? l=some { cls:=.type "list",data:=.seq a.toArray n })(g:f a.toArray=its'.toArray)(c:bc ys its')(hz:Vi ys.length) :
    Inv X pins σ (Jou ys) { s with heap:=s.heap.update l (Obj.mapSeq f),toks:=t' }:=by have q:=PySem.IsL.update e f;rw[g]at q;refine I.write (by rw[i];exact trivial) (.inl rfl) (λj u h d=>(Heap.get?_update_other s.heap _ (Ne.symm h)).trans d) (V8 q) ?_;exact⟨hz,its',_,c,q⟩
def Inv.lnew (I:QD s)(a:bc ys its)(hz:Vi ys.length) :
    Inv X pins σ (Jju s.heap.objs.size ys) { s with heap:=s.heap.push { cls:=.type "list",data:=.seq its.toArray },toks:=t' } :=
  I.laid (λ_ _ q=>JgM q) (nRq _) ⟨hz,its,0,a,Heap.get?_push_size _ rfl⟩
def Inv.fresh (I:QD s):Vu s.heap.objs.size:=Q2 _
def Inv.lstM (I:QD s)(c:Je7 l):Vi xs.length∧∃a n,bc xs a∧Ja0 a.length∧s.heap.get? l=some { cls:=.type "list",data:=.seq a.toArray n }:=by let⟨z,a,n,r,e⟩:=JbR l c;exact⟨z,a,n,r,r.length,e⟩
def uV (h:Vi n):QM (Builtin.List.listTooLong n):=by exact dFq (by lia)
end
section
variable {X:Cx}
inductive uW:V→List V→Hp→VK→Prop|m{x vs H Q} l xs y:Jow x l (vs=[y]) (Je7 l) (JaM xs.length) (Jen (Jou (xs++[y]))→uW x vs H Q)
def cQ:MtM X "list.append" uW:=by intro b s i H x vs v us Q I d f h;let⟨l,xs,y,rfl,rfl,c,hz,q⟩:=h;cases d;let⟨u,rfl,g⟩:=f.one;let⟨z,a,n,r,j,e⟩:=I.lstM c;refine JnM F.slot_list_append e F.entry_list_append (F.args_list_append_2 _ _) (PySem.list_append l a.toArray n u (by rw[sA];lia)) (VI e);refine Xs .non _ (I.lset (its':=a++[u]) c e (by simp) (r.append (Jdx g)) ?_) q;rw[lAq,lS];lia
inductive uX:V→List V→Hp→VK→Prop|m{x vs H Q} l b xs zs:Jow x l (vs=Vz b) (Je7 l) (XD b zs) (Vi (xs.length+zs.length)→Jen (Jou (xs++zs))→uX x vs H Q)
def oY:MtM X "list.extend" uX:=by
  intro f s A H x vs v us Q I i j h;let⟨l,b,xs,zs,rfl,rfl,g,w,hz,q⟩:=h;cases i;let⟨u,rfl,k⟩:=j.one;cases k;let⟨z,c,n,r,C,e⟩:=I.lstM g;let⟨B,a,p,o,t,y⟩:=I.lstM w;have hsz:Vi (c.toArray.size+a.toArray.size):=by rw[sA,sA];lia
  have d:¬Vq (!c.toArray.isEmpty&&Builtin.List.listTooLong (c.toArray.size+a.toArray.size)):=by rw[uV hsz,Bool.and_false];exact Bool.false_ne_true
  refine call_meets F.slot_list_extend (JkS e) F.entry_list_extend (F.args_list_extend_2 _ _)
    (AutoSeq1.list_extend_list_list_0 l c.toArray n b a.toArray p d (by rw[sA];lia) (by lia)) (Qj e y)
  refine Xs .non _ (I.lset (its':=c++a) g e (by simp) (r.append o) ?_) q;rw[lAq];lia
inductive rPop:V→List V→Hp→VK→Prop|m{x vs H Q} l xs y:Jny l→vs=[]→Je7 l→xs[xs.length-1]?=some y→Q y (Jou xs.dropLast)→rPop x vs H Q
def mt_pop:MtM X "list.pop" rPop:=by
  intro d s t H x vs v us Q I g i h;let⟨l,xs,y,rfl,rfl,f,k,q⟩:=h;cases g;have c:=i.zero;subst c;let⟨z,a,n,r,p,e⟩:=I.lstM f;let⟨u,o,j⟩:=r.get k;have b:a.toArray[Jea 1]?=some u:=by show a.toArray[a.length-1]?=some u;rw[←Array.getElem?_toList,←p];exact o
  refine JnM F.slot_list_pop e F.entry_list_pop (F.args_list_pop_1 _) (MeetsSeq.list_pop_last l a.toArray n u b (by rw[sA];lia)) (VI e);refine⟨y,_,I.lset (its':=a.dropLast) f e ?_ r.dropLast ?_,j,q⟩
  · show a.toArray.eraseIdxIfInBounds _=a.dropLast.toArray;rw[sA,List.eraseIdxIfInBounds_toArray,zg]
  · rw[List.length_dropLast];lia
inductive uY:V→List V→Hp→VK→Prop|m{x vs H Q} l xs:Jow x l (vs=[]) (Je7 l) (Jen (Jou [])) (uY x vs H Q)
def zh:MtM X "list.clear" uY:=by intro c s i H x vs v us Q I f g h;let⟨l,xs,rfl,rfl,d,q⟩:=h;cases f;have b:=g.zero;subst b;let⟨z,a,n,r,j,e⟩:=I.lstM d;refine JnM F.slot_list_clear e F.entry_list_clear (F.args_list_clear_1 _) (AutoSeq1.list_clear_list_0 l a.toArray n (by rw[sA];lia)) (VI e);exact Xs .non _ (I.lset (its':=[]) d e rfl .nil (Nat.zero_le _)) q
inductive rCat:R2|m{x y H Q} l b xs zs:JfV x l (Jow y b (Je7 l) (XD b zs) (Vi (xs.length+zs.length)) ((∀p,JiX p p (Jju p (xs++zs)))→rCat x y H Q))
def iK:Ja6 X .Add rCat:=by
  intro d s t H x y v u Q I g f h;let⟨l,b,xs,zs,rfl,rfl,k,o,hz,q⟩:=h;cases g;cases f;let⟨z,c,n,r,B,e⟩:=I.lstM k;let⟨w,a,A,i,j,p⟩:=I.lstM o;refine PySem.P.add_list e p ?_ (by rw[sA,sA];lia);have ea:c.toArray++a.toArray=(c++a).toArray:=by simp
  rw[ea];exact JaX _ _ (I.lnew (t':=s.toks) (r.append i) (by rw[lAq];lia)) (q _ I.fresh)
inductive rRep:R2|m{x y H Q} l k xs:Jny l→Jjl y k→Je7 l→-(2 ^ 63)≤k→k<2 ^ 63→xs.length * k.toNat≤sizeLine→(∀p,JiX p p (Jju p (List.replicate k.toNat xs).flatten))→rRep x y H Q
def uZ (xs:List α)(k):(Jbh xs).flatten.length=k * xs.length:=by
  induction k with
  | zero=>simp
  | succ k a=>rw[List.replicate_succ,List.flatten_cons,lAq,a,Nat.succ_mul,Nat.add_comm]
def u_:Ja6 X .Mult rRep:=by
  intro p s J H x y v u Q I A w h;let⟨l,k,xs,rfl,rfl,C,E,D,hz,q⟩:=h;cases A;let⟨t,rfl⟩:=w;let⟨z,b,n,r,B,e⟩:=I.lstM C;have f:b.toArray.size * k.toNat≤sizeLine:=by rw[sA,←B];exact hz
  have i:¬b.toArray.size * k.toNat > (2 ^ 63 - 1) / 8:=by
    have:(sizeLine:Nat)≤(2 ^ 63 - 1) / 8:=by decide
    lia
  have g:¬Vq (!Builtin.List.listFitsIndex k):=by rw[fitsIndex_both E D];exact Bool.false_ne_true
  have c:¬Vq (Builtin.List.listTooLong (b.toArray.size * k.toNat)):=by rw[uV f];exact Bool.false_ne_true
  have d:List.foldl (λo j=>o++j) #[] (List.replicate (if Vq b.toArray.isEmpty then 0 else k.toNat) b.toArray)=(List.replicate k.toNat b).flatten.toArray:=by
    have G:∀m:Nat,List.foldl (λo j=>o++j) #[] _=(Jdf b).flatten.toArray:=λm=>by have:=uU b m [];rw[List.nil_append]at this;exact this
    rw[G];cases b with
    | nil=>simp
    | cons a K=>rw[if_neg (by simp)]
  refine wpAny_binaryOp_repeat_ref (by decide) (JkS e) (λs'=>typeIs_int s' k t) noFill_list_mul F.fills_int_mul F.slot_int_rmul repeat_list F.slot_int_index.lookup
    (call_meets F.slot_int_rmul (typeIs_int s k t) F.entry_int_rmul (F.args_int_rmul_2 _ _) (int___rmul___int_list k t l b.toArray n)
      (Jbn e (JkS e) (JnM F.slot_list_mul e F.entry_list_mul (F.args_list_mul_2 _ _) (AutoListH.list___mul___list_int_3 l b.toArray n k t g i c) (VI e))))
  rw[d];exact JaX _ _ (I.lnew (t':=s.toks) (r.rep k.toNat) (by rw[uZ,Nat.mul_comm];exact hz)) (q _ I.fresh)
end
end L2
namespace Att
open PySem PySem.W PySem.Calls PyProof.Rows
def zi:∀ns vs,WellAll P h vs (ns.map WData.int)→IntsAre vs ns:=by
  intro ns
  induction ns with
  | nil =>
    intro vs w;rw[List.map_nil]at w;cases w;exact .nil
  | cons n ns c =>
    intro vs w;rw[List.map_cons]at w;cases w with
    | cons a b =>
      cases a;exact .cons _ _ (c _ b)
def zj {l:OpenLaw}{n:Nat}(u:Xa l.most n){P:Params}{h:Heap}{args:List WData}{vals:List Value}
    (b:Vq (l.row.toRowW.claim.pre args))(i:WellAll P h vals args) :
    ∃a vs ns,vals=[Value.ref a]∧args=[WData.list (ns.map WData.int)]∧h.get? a=some { cls:=.type "list",data:=.seq vs.toArray }∧IntsAre vs ns∧JdP n:=by
  have j:=(pre_splitW b).1;have k:Vq (l.pre.holds [] { args:=args }):=(pre_splitW b).2;let⟨d,r,rfl,x,w⟩:=hasAllW_cons j;obtain rfl:=hasAllW_nil w;let⟨xs,rfl,v⟩:=hasW_list x;let⟨ns,rfl⟩:=items_int v;have c:JdP n:=by
    have g:(WTm.not (.lt (.lit (.int (n:Int))) (.len (.arg 0)))).holds [] { args:=[.list (ns.map .int)] }=true:=by have g:=(holds_andW k).1;rw[u]at g;exact g
    have f:=condW_of g (w_not (w_lt w_lit (w_len_list (w_arg rfl))));rw[lM]at f;refine Nat.le_of_not_lt λq=>?_;have s:(n:Int)<(ns.length:Int):=by lia
    first
      | (rw[dTq s]at f;exact absurd f (by decide))
      | (simp at f;lia)
  cases i with
  | cons p o =>
    cases o;cases p with
    | list t e=>exact JcX _ _ ns rfl t (zi ns _ e) c
def zk (l:OpenLaw)(args):Vq (l.row.toRowW.claim.post args (.bool true) args) :=
  postW_of
    (show Vq (WShape.has [] _ .bool) by first | rfl | decide | simp [WShape.has,WShape.arms,WShape.armsAll])
    (show(WTm.eq .res _).value [] { args:=args,res:=some _,after:=args }=some _ from w_eq_bool (w_res rfl) w_lit) rfl
def attach_call {l:OpenLaw}{n:Nat}{q:Program}{e:List Str}{F:(Jdr Str)→Heap→Prop}{E:World→Heap→Prop}{d:DefRec}
    (K:Xa l.most n)(z:Jn0 [])
    (s:∀w c b mg v p o u t h a vs ns,
      Ground q e [] F w c mg v b.heap→E w b.heap →
      b.heap.get? p=some o→JnS (.func (docDef d.name d.params d.body d.scope u t h))→b.heap.CodeRec t d.name→mg d.name=Ja p →
      b.heap.get? a=some { cls:=.type "list",data:=.seq vs.toArray }→IntsAre vs ns→JdP n→b.gens=#[] →
      codeAny (JiM l.prog) callerA (JeZ p (JfG (Vz a))) (λr s'=>r=Jca (.bool true)∧OldK b.heap s'.heap∧s'.os=b.os∧AllBare s'.gens) b) :
    WalkO q e F E l.row.toRowW d [] (λf vs=>PySem.call f vs):=by intro w c b mg v G Y p o u t h S kV J O A C y N D vals T i B H x M;obtain rfl:S=.none:=Dflts.none C z;obtain rfl:kV=.none:=Dflts.noKw C;let⟨a,vs,ns,rfl,rfl,j,g,k⟩:=zj K i x;refine enter_call (codeAny_mono (s w c b mg v p o u t h a vs ns G Y J (fd_plain O) A y j g k N) λr s' I=>?_);let⟨rfl,R,Q,P⟩:=I;exact⟨.inl (JcX (.bool true) (.bool true) [] (λ_=>rfl) (.bool true) (zk l _) (λ_=>⟨List.Pairwise.nil,λ_ L=>(nomatch L)⟩)),R,Q,P⟩
section
variable {prog:Program} {w:World} {A:Around} {E:Value→Shared→Prop} {s:Shared} {K:Frag}
noncomputable def ledger (h:Heap)(L d:Addr):JgP Obj:=(List.range h.objs.size).filterMap λa=>if a=L∨a=d then none else(h.get? a).map λo=>(a,o)
end
end Att
namespace L2
open PySem PySem.Spec PyProof.Rows
theorem oZ:∀ {vs:List Value} {ns:List Int},IntsAre vs ns→Joy vs
  | _,_,.nil=>.nil
  | _,_,.cons n t h=>.cons (Vf t) (oZ h)
def Only (H:Hp):Prop:=∀b,Vu b∨∃o xs,Xh b (JnR (.lst xs))
def zm {P:Program}{w:World}{K:PySem.W.Frag}{mg L:Str→Option Value}{CX:CXT}{k:Nat}{Q a:Addr}{fd:FuncData}{x:Str}{sp:Sp}{c:Shared}{vs:List Value}{ns:List Int}
    (KX:K.In c.heap)(B:c.heap.Ns mainGlobals mg)(g:c.heap.Ns builtinsNs L)(N:∀x:Str,Jij x→L x=bootBuiltins x)(C:c.heap.NoLimit)(hg:c.gens=#[])
    (I:c.heap.get? a=some { cls:=.type "list",data:=.seq vs.toArray })(X:IntsAre vs ns)(U:Vi ns.length)(hr:a_ k callerA)
    (F:∀base:Heap,K.In base→Jdt mg→Xd P w K mg CX k Q fd [x] sp)(l:∀s u,Jj_ s fd [u] [(x,u)])
    (M:∀H:Hp,Only H→Jmn H a→sp (Vz a) H (λv _=>v=.bl true) λ_ _ _=>False)
    (O:∀H e s',CX [] H c (λ_ _ _=>False) e s'→False) :
    codeAny (JiM P) callerA (JeZ Q (JfG (Vz a))) (λr s'=>r=Jca (.bool true)∧OldK c.heap s'.heap∧s'.os=c.os∧AllBare s'.gens) c:=by
  have T:=oZ X;have t:=X.length;have j:∀H:Hp,Only H→Jmn H a→Ji4 c.heap→(∀b,H b≠none→b=a)→(H a≠none→Qu (K.lookup a)) →
      codeAny (JiM P) callerA (JeZ Q (JfG (Vz a))) (λr s'=>r=Jca (.bool true)∧OldK c.heap s'.heap∧s'.os=c.os∧AllBare s'.gens) c:=by
    intro H Y hS A Z hK;have f:∀ {b:Addr} {o:Obj},c.heap.get? b=some o→Vu b→(jI c.heap H).get? b=some o:=λe n=>yD e n;have J:∀ {b:Addr} {o:Obj} {es:Array DictEntry} {E:Nat},c.heap.get? b=some o→JnT E→Vu b:=λ{b o es E} e d=>by
      cases q:H b with
      | none=>rfl
      | some u =>
        have R:=Z b (by rw[q];simp);subst R;rw[I]at e;cases e;have d':=d;cases d'
    have i:∀ {b:Addr} {m:Str→Option Value},c.heap.Ns b m→(jI c.heap H).Ns b m:=λ{b m} ⟨o,es,E,e,d,r⟩=>⟨o,es,E,f e (J e d),d,r⟩;have D:K.In _:=λb o e=>f (KX b o e) (by
      cases q:H b with
      | none=>rfl
      | some u =>
        have R:=Z b (by rw[q];simp);subst R;rw[hK (by rw[q];simp)]at e;cases e)
    have hM:Mod K mg _:=⟨D,i B,⟨L,i g,N⟩,let ⟨mc,h1,h2⟩:=C;⟨mc,i h1,h2⟩⟩;have e0:iJ P w K mg _ callerA [] c H:=⟨rfl,hM,λb o e=>yE e,Nat.le_of_eq (yC _ _),trivial,λb g=>QN (show b∈([]:List Addr) from g),A,.of_eq hg⟩;refine codeAny_mono ((F _ D (i B)).run callerA [] c H (JfG (Vz a)) (Vz a) (Vz a) _ _ hr e0 (l c (.ref a)) (Jdx rfl) (M H Y hS)) λr s' h=>?_;cases r with
    | error e=>exact(O H e s' h).elim
    | ok fl =>
      cases fl with
      | next=>exact False.elim h
      | brk=>exact False.elim h
      | cont=>exact False.elim h
      | ret u =>
        let⟨v,H',os,G,S,y,r',q⟩:=h;have q':=q;subst q';obtain rfl:u=Value.bool true:=r';refine⟨rfl,OldK.of_keep λb o e=>?_,os,G⟩;cases q:H b with
        | none=>exact S.keep b o e q (by intro z;exact QN (show b∈([]:List Addr) from z)) (by simp)
        | some u =>
          rcases Y b with z | ⟨ob,xs,z⟩
          · rw[q]at z;cases z
          · have z2:=S.frzs b ob _ z;let⟨e1⟩:=A b _ z;let⟨e2⟩:=y b _ z2;rw[e]at e1;cases e1;exact e2
  cases hk:K.lookup a with
  | some o =>
    have e:=KX a o hk;rw[I]at e;cases e;refine j (λ_=>none) (λ_=>.inl rfl) (.inr (Jhs _ vs.toArray _ hk rfl rfl (by rw[sA,t];exact U) (by simpa using T))) (λb u z=>by have p:=z;cases p) (λb z=>JcL z) λz=>JcL z
  | none =>
    refine j (λb=>if b=a then some _ else none) (λb=>?_) (.inl (JaF { cls:=.type "list",data:=.seq vs.toArray } (if_pos rfl))) (λb u z=>?_) (λb z=>?_) λ_=>hk
    · by_cases g:b=a
      · exact .inr (JnP _ (if_pos g))
      · exact .inl (if_neg g)
    · by_cases g:b=a
      · have p:=(if_pos g).symm.trans z;cases p;subst g;exact⟨I,by rw[lM];exact U,vs,_,T,I⟩
      · have p:=(if_neg g).symm.trans z;cases p
    · by_cases g:b=a
      · exact g
      · exact absurd (if_neg g) z
abbrev KOf {K:PySem.W.Frag}{h:Heap}(_:K.In h):PySem.W.Frag:=K
def walk_of {l:PySem.W.OpenLaw}{n k:Nat}{q:Program}{i:List Str}{Z:(Jdr Str)→Heap→Prop}{I:World→Heap→Prop}{d:DefRec}{K:Params→PySem.W.Frag}{CX:World→CXT}{sp:World→Sp}{x:Str}
    (M:Xa l.most n)(z:Vi n)(B:Jn0 [])(L:a_ k callerA)
    (Q:∀w h,I w h→(K w.params).In h)
    (F:∀w mg t h,(K w.params).In h→Jh3 mg→mg d.name=Ja t →
      ∃D:FuncData,(∀s u,Jj_ s D [u] [(x,u)]) ∧
        ∀base:Heap,(K w.params).In base→Jdt mg→Xd l.prog w (K w.params) mg (CX w) k t D [x] (sp w))
    (y:∀w H a (ns:List Int),JdP n→Only H→SqL (K w.params) H a (ns.map V.int)→sp w (Vz a) H (λv _=>v=.bl true) λ_ _ _=>False)
    (C:∀w H s e s',CX w [] H s (λ_ _ _=>False) e s'→False) :
    PySem.W.WalkO q i Z I l.row.toRowW d [] (λf vs=>PySem.call f vs):=by refine Att.attach_call M B λw E p mg mb t o pm cd X a vs ns G Y ho hd O A r j c N=>?_;have J:=Q w _ Y;let⟨D,P,U⟩:=F w mg t _ J G.T.g A;exact zm J G.T.g G.T.b G.T.builtins G.T.nolimit N r j (Nat.le_trans c z) L U P (λH S R=>y w H a ns c S R) λH e s'=>C w H p e s'
noncomputable def zaR (s:Stmt)(j:Nat):Stmt:=match s with
  | .ClassDef _ _ _ a _ _ _ _ _ _ _=>a.getD j (.Pass ⟨0,0,0,0⟩)
  | _=>.Pass ⟨0,0,0,0⟩
noncomputable def zbv (s:Stmt):Arguments:=match s with
  | .FunctionDef _ a _ _ _ _ _ _ _ _=>a
  | _=>{ posonlyargs:=[],args:=[],vararg:=none,kwonlyargs:=[],kw_defaults:=[],kwarg:=none,defaults:=[] }
noncomputable def zas (s:Stmt):List Stmt:=match s with
  | .FunctionDef _ _ b _ _ _ _ _ _ _=>b
  | _=>[]
noncomputable def ai (s:Stmt):Scope:=match s with
  | .FunctionDef _ _ _ _ _ _ sc _ _ _=>sc
  | _=>{ kind:=.function,names:=[],isGenerator:=false,isCoroutine:=false }
abbrev CX0:CXT:=λ_ _ _ _ _ _=>False
abbrev E0:XK:=λ_ _ _=>False
def aJ:fz CX0 X E0:=λ_ _ _ _ _ _ _ h=>h.elim
structure Fun (K:PySem.W.Frag)(x qual)(st)(f)(fd):Prop where
  ex:∃(oc:Value) (od:Option Addr) (kV doc pm:Value) (an:Option Addr) (cdv ct:Value) (osl:JoF Value),
    fd=Ji7 x qual (zbv st) (zas st) (ai st) .none kV doc pm an ct∧JiK f oc od fd osl∧Jlg K cdv qual
  kp:Vq (JcM K f)
section
variable {P:Program} {w:World} {K:PySem.W.Frag} {mg:Str→Option Value} {base:Heap}
def Fun.ok {x a:Str}{st:Stmt}{f:Addr}{g:FuncData}{N ps:List Str}{k:Nat}{sp:Sp}(F:Fun K x a st f g)(S:Vj N ps st)(c:∀vs H Q E,sp vs H Q E→JgZ vs.length)
    (b:∀cdv A outer s H vs Q E,Jb_ k (QO a (ai st) f cdv)→sp vs H Q E →
      ∃t,PSs (Jka CX0 P w K mg N a st f A s H E).nox (zas st) t∧t { nx:=λ_ H'=>Q .non H',rt:=Q } (zc4 N vs) H):QR (k+1) f g ps sp:=by let⟨p,od,kV,n,o,u,cdv,r,i,rfl,j,e⟩:=F.ex;refine oX j e S c λA outer s H vs Q E l d=>?_;let⟨t,h,q⟩:=b cdv A outer s H vs Q E l d;exact⟨t,h.nox,q⟩
def Fun.binds {x a:Str}{st:Stmt}{f:Addr}{g:FuncData}{ps:List Str}(F:Fun K x a st f g)
    (h:∀kV b c e cdv d us,JgZ us.length→Jgc (JfH (Ji7 x a (zbv st) (zas st) (ai st) .none kV b c e d) us) (ps.zip us)):Jw g ps:=by let⟨k,od,kV,b,c,e,cdv,d,i,rfl,l,j⟩:=F.ex;exact .all (h kV b c e cdv d)
def va {x a:Str}{st:Stmt}{f:Addr}{i:Value}{od h:Option Addr}{d:Array (Option Value)}{kV b e cdv g:Value}(l:JiK f i od (Ji7 x a (zbv st) (zas st) (ai st) .none kV b e h g) d)
    (c:Jlg K cdv a)(k:Vq (JcM K f)):Fun K x a st f (Ji7 x a (zbv st) (zas st) (ai st) .none kV b e h g):=⟨⟨i,od,kV,b,e,h,cdv,g,d,rfl,l,c⟩,k⟩
end
def c_ (a:a_ k A):Jed 1:=Nat.lt_of_le_of_lt (JeK (by decide:1≤64)) a.units
def cR (h:Q3 n):JaM n:=Nat.lt_of_le_of_lt h (by decide)
section
variable {X:Cx}
def pv (i){x:Str}{a:Pos}(e:X.N[i]?=some x:=by rfl)(c:JfF x:=by first | exact Or.inl rfl | exact Or.inr (Or.inl rfl) | exact Or.inr (Or.inr rfl))(d:QM (x == ("__debug__":Str)):=by decide)
    (b:QM (x == ("__classdict__":Str)):=by decide):VE (JbI a) (ia i):=pe_var e c d b
end
def bq {A B:Prop}(h:B):if Vq false then A else B:=by rw[if_neg Bool.false_ne_true];exact h
def b_ {A B:Prop}(h:A):if Vq true then A else B:=by rw[if_pos rfl];exact h
def bo {c A B:Prop}[Decidable c](b:c→A)(a:¬c→B):if c then A else B:=by
  by_cases h:c
  · rw[if_pos h];exact b h
  · rw[if_neg h];exact a h
def iteNS {c A B:Prop}[Decidable c](a:c)(h:B):if Vq (!decide c) then A else B:=by rw[dTq a];exact bq h
def ap (H H':Hp):Prop:=∀b o,Jiv b o b o
def ap.refl (H):Jna H:=λ_ _ h=>h
def ap.trans (a:Jna H1)(b:ap H1 H2):Jna H2:=λc o h=>b c o (a c o h)
def ap.free (e:Xg H){l:Addr}(h:JjB (H' l)):JjB (H l):=by
  cases q:H l with
  | none=>rfl
  | some o =>
    rw[e l o q]at h;cases h
def ap.seq {K:PySem.W.Frag}{H H':Hp}{a:Addr}{xs:List V}(e:Xg H)(h:Jcr a):Jby H' a:=by
  rcases h with (h | ⟨o,h⟩) | h
  · exact .inl (.inl (e _ _ h))
  · exact .inl (JaF o (e _ _ h))
  · exact .inr h
end L2
def lS0:Jgi 0:=by decide
def lS1:Jgi 1:=by decide
def lS2:Jgi 2:=by decide
def lS3:Jgi 3:=by decide
def lS4:Jgi 4:=by decide
namespace L2
open PySem PySem.Spec PyProof.Rows
section
variable {X:Cx} {e l:Expr} {te tl:TE} {pos:Pos} {tg:Expr}
inductive rSlS:V→Option Int→Option Int→Hp→VK→Prop|m{x lo hi H Q} z:x=.str z→Vi z.length→Jct (Txt.slice z lo hi) H→rSlS x lo hi H Q
def vb (p:IsPart v o):∃q:Option (Jc7 Tok),v=partValue q∧q.map (·.1)=o:=by
 cases p with
 | none=>exact Qd none rfl
 | int i t=>exact Qd (some (i,t)) rfl
def vc:SlR X rSlS:=by intro c s n H x v r p lo y w Q I d hs pl f h;let⟨z,rfl,hz,q⟩:=h;let⟨t,rfl⟩:=d;let⟨b,rfl,rfl⟩:=vb pl;let⟨a,rfl,rfl⟩:=vb f;let⟨o,g,j,i⟩:=hs;refine⟨"str",_,F.slot_str_getitem.lookup,typeIs_str _ _ _,?_⟩;refine wpAny_getItem_str_slice (st:=none) ⟨o,g,j,i⟩ rfl ?_;exact post_val_or_str ⟨JiO (Txt.slice_le z _ _),λt' k=>Q5 (.str _) H _ (Vf _) q⟩
noncomputable def Its (z:Str):It:=⟨λi _=>i<z.length,λi H x H'=>H'=H∧∃c,z.cps[i]?=some c∧x=.str ⟨#[c]⟩,λi _=>z.length≤i⟩
def vd {P:Program}{w:World}{K:W.Frag}{ty:String}(n:ty="str_ascii_iterator"∨ty="str_iterator")(it)(z)(t):gS P w K tg (Its z) [it] it (λi h=>h.IsStrIter it ty z t i) where
 mem:=by simp
 obj:=λi h st b a=>by
  have e:b=it:=by simpa using a
  subst e;let⟨o,e,c,d⟩:=st;exact⟨o,e,λv z=>by rw[d]at z;cases z⟩
 keep:=λi h h' st k=>by let⟨o,e,r⟩:=st;exact⟨o,JaL it o e,r⟩
 item:=by
  intro X L D M J i g s B H E I p st G;subst L D M;have F:i<z.cps.size:=G;have j:z.cps[i]?=some z.cps[i]:=by simp [F]
  let⟨A,y,Q,x,u,q⟩:=p it (by simp);rcases n with rfl | rfl
  ·refine wpAny_pyNext_ascii_item st j λh' f C=>?_;have O:=I.turned (t':=s.toks+1) (λb o a e=>(C.2 b a).trans e) A y x u q;let⟨o,e,c,d⟩:=id f;exact QI (Jem e c d ⟨.str ⟨#[z.cps[i]]⟩,H,O,Vf _,⟨rfl,_,j,rfl⟩,f,λb a=>(p b a).1⟩)
  ·refine wpAny_pyNext_wide_item st j λh' f C=>?_;have O:=I.turned (t':=s.toks+1) (λb o a e=>(C.2 b a).trans e) A y x u q;let⟨o,e,c,d⟩:=id f;exact QI (Jem e c d ⟨.str ⟨#[z.cps[i]]⟩,H,O,Vf _,⟨rfl,_,j,rfl⟩,f,λb a=>(p b a).1⟩)
 done:=by
  intro X L D M J i g s B H E I p st G;subst L D M;have F:z.cps.size≤i:=G;have j:z.cps[i]?=none:=by simp [F]
  let⟨A,y,Q,x,u,q⟩:=p it (by simp);rcases n with rfl | rfl
  ·exact wpAny_pyNext_ascii_end (I.ok.hd J) st j λh' N=>Jcd (t':=s.toks) (λb o a e=>N b o a e) A y x u q
  ·exact wpAny_pyNext_wide_end (I.ok.hd J) st j λh' N=>Jcd (t':=s.toks) (λb o a e=>N b o a e) A y x u q
 self:=λ_ _ _ _ _ st h=>by
  rcases n with rfl | rfl
  ·exact wpAny_pyIter_striter_ascii st h
  ·exact wpAny_pyIter_striter_wide st h
def iStr (tl:TE):TI:=λa H R=>tl a H λx b=>∃z,x=.str z∧R (Its z) b
def vf (k:VE l tl):PI X tg l (iStr tl):=by
 intro c s i H R I h;refine thn (k c s i H _ I h) λv a h_=>?_;let⟨x,f,d,j,q1⟩:=h_;let⟨z,e,q⟩:=q1;subst e;let⟨t,rfl⟩:=j;have g:∀b∈[a.heap.objs.size],eg X c f b:=λb n=>by
  have e:b=a.heap.objs.size:=by simpa using n
  subst e;exact d.fpOk (nRq _) (JgY _)
 cases ha:z.cps.all _ with
 | true =>
  refine wpAny_pyIter_ascii ha ?_;exact Jhr a.heap.objs.size [a.heap.objs.size] _ _ f (d.kept (t':=a.toks) λb o e=>JgM e) (vd (.inl rfl) _ z t) (JiY (Heap.get?_push_size _ rfl)) g q
 | false =>
  refine wpAny_pyIter_wide ha ?_;exact Jhr a.heap.objs.size [a.heap.objs.size] _ _ f (d.kept (t':=a.toks) λb o e=>JgM e) (vd (.inr rfl) _ z t) (JiY (Heap.get?_push_size _ rfl)) g q
def vg (J:Vq X.calm):J_ X "all" (λxs H Q=>∃(p:Addr) (bs:List Bool),xs=Vz p∧Jik H p (bs.map V.bl)∧Jx (bs.all id) H):=by
 intro k s O H xs us Q I r h;let⟨p,bs,rfl,B,q⟩:=h;let⟨u,rfl,w⟩:=eR r;cases w;let⟨a,j,pl,hz⟩:=I.list B;have F:=j.length;rw[lM]at F;have C:Qt p:=by let⟨o,D,_⟩:=pl.isList;exact hLq D
 have g:=Nat.ne_of_lt C;refine call_all_walk (JO pl.isList);refine⟨s.heap.objs.size,Jet p,[s.heap.objs.size],a.toArray.size,_,_,λi=>Jgo i,rfl,Jd8 (show Qu X.A.in1.handled from I.ok.hd J) _ p g,Jeb (JiY (Heap.get?_push_size _ rfl)) _,?_,λh' tk G=>?_⟩
 ·intro i v s' R S z M;have c:a[i]?=some v:=by simpa using z
  have f:=(gEq c).1;have L:bs[i]?=some (Jgo i):=by rw[List.getD_eq_getElem?_getD,gG (by lia)];rfl
  let⟨P,t,N⟩:=j.get (by rw[List.getElem?_map,L];rfl);rw[c]at t;cases t;cases (show Jas v _ from N);exact wpAny_truthy_bool M
 ·have e:(List.range a.toArray.size).all (λi=>Jgo i)=bs.all id:=by
   rw[Bool.eq_iff_iff,List.all_eq_true,List.all_eq_true];constructor
   ·intro h x y;let⟨i,f,rfl⟩:=List.mem_iff_getElem.mp y;have:=h i (List.mem_range.mpr (by simp only[sA];lia));rw[List.getD_eq_getElem?_getD,gG f]at this;exact this
   ·intro h i f;have d:i<bs.length:=by have:=List.mem_range.mp f;simp only[sA]at this;lia
    rw[List.getD_eq_getElem?_getD,gG d];exact h _ (List.getElem_mem d)
  refine⟨.bl _,H,I.kept (t':=tk) λb o n=>G b o ?_ (JgM n),congrArg Value.bool e,q⟩;intro E;have:Jeg b:=by simpa using E
  exact Jg0 n (by rw[this];exact Nat.lt_irrefl _)
inductive rIs (K):List V→Hp→VK→Prop|m{xs H Q} x t n b:xs=[x,.ty n]→ew K H x t→JfT K t n b→Jx b H→rIs K xs H Q
def mj:JgE X (rIs X.K):=by intro a s i H xs us Q I r h;let⟨x,t,n,b,rfl,ty,g,q⟩:=h;let⟨u,c,rfl,f,d⟩:=jL r;cases (show JiN c n from d);exact yU I f ty g λtk=>Jmp b _ q
end
structure Clo (X:Cx)(scope)(cl):Prop where
 eq:Jgc (closureFor scope X.env) cl
 sub:∀y c,Xa (cl.lookup y) c→Ql y c
 has:∀y,((Vs X.env).names.lookup y=some .cell∨(Vs X.env).names.lookup y=some .free)→∃c,Xa (cl.lookup y) c
def ih (a:∀x∈scope.names,x.2≠.free)(b:∀x∈scope.names,Jls x.2):Jdz X []:=by
 refine⟨closureFor_none a,λy c h=>by simp at h,λy h=>?_⟩;have e:(Vs X.env).names=scope.names:=by
  refine map_eq_self (λx d=>?_);let⟨n,k⟩:=x;have:QM (k == NameKind.free):=by simpa using a _ d
  simp [this]
 rw[e]at h;rcases h with h | h
 ·exact absurd rfl (b _ (PySem.mem_of_lookup h))
 ·exact JcL (a _ (PySem.mem_of_lookup h))
noncomputable def zaf (X:Cx)(N':List Str)(b:Scope)(e:Jgx Addr)(d:List Addr)(a:Shared)(c:Hp):Cx where
 prog:=X.prog
 w:=X.w
 K:=X.K
 mg:=X.mg
 base:=X.base
 A:=X.A
 N:=N'
 s₀:=a
 H₀:=c
 env:=compEnvC b e a.heap.objs.size X.env
 outer:=X.stack
 stack:=X.stack
 ex:=d
 calm:=X.calm
 fn:=λ_=>false
 pn:=[]
 xe:=λ_ _=>False
noncomputable def fvs (a:St)(ix:List Nat):St:=ix.map λi=>(a[i]?).join
def tLC (f:TI)(ix:List Nat)(te:TE):TE:=λb H Q=>f b H λJ e=>∀D,Qu (e D) →
 ∃W:Nat→Nat→List V→Hp→Prop,(∃m,JjI 0 m [] e D []) ∧
  ∀i m ys H',W i m ys H'→JkP D ∧
   ((JoV H' (Xl D H'))∨(JjA H'∧∀x a,Jmh a→te (Jge x (Jh4 b)) a λy d =>
    d D=Jm_ ys∧JaM ys.length∧∃c,c<m∧JjI (i+1) c (ys++[y]) d D (ys++[y])))
section
variable {X:Cx} {N':List Str} {scope:Scope} {cl:List (Str × Addr)} {fp:List Addr} {pins:List (Jbp Obj)} {σ:St} {H:Hp} {s:Shared}
def o_ (I:QD s)(C:Jdz X cl)(a:Jdy scope.kind)(e:∀b∈fp,eg X pins H b)(f:∀b∈fp,Qt b):(JcO cl fp s H).Ok where
 mod:=I.ok.mod
 kind:=a
 glob:=I.ok.glob
 blt:=I.ok.blt
 above:=nRq _
 inj:=λx y c i g=>I.ok.inj x y c (C.sub x c i) (C.sub y c g)
 has:=λx h=>C.has x h
 cab:=λx c h=>by cases (show Vq false from h)
 hd:=I.ok.hd
 frames:=I.ok.frames
 stk:=.inl rfl
 exf:=λb d=>⟨Nat.ne_of_lt (f b d),λx c h=>(e b d).2.2.2.2.1 x c (C.sub x c h)⟩
 bs:=λb o h=>I.bs b o h
 bsz:=Jcz I.sz
 noex:=λb o h d=>by
  rcases(e b d).2.2.2.1 with z | z
  ·exact I.ok.noex b o h z
  ·exact Jcq (Jq h (Jcz z)) _
 exfs:=λb d hs=>by
  rcases List.mem_cons.mp (I.stkSub b hs) with z | z
  ·exact(e b d).2.1 z
  ·exact(e b d).2.2.1 z
 funs:=I.stack
 frf:=I.stkFree
def vh (I:QD s)(J:JnY (JcO cl fp s H) σ' H' s')(g:∀b∈fp,eg X pins H b)(hs:Heap.SameBut s.heap.objs.size s'.heap h'):Vy H' { s' with heap:=h' }:=by
 have i:∀b o,s.heap.get? b=some o→JmK b:=λb o e=>Jce e;have h:∀b,JmK b→h'.get? b=s'.heap.get? b:=λb f=>hs.2 b f;have B:=J.base;have u:JeH _ fp H H' h' :=
  ⟨λb o e n d k=>(h b (i b o e)).trans (B.keep b o e n d k),λb o e n d k=>by
   let⟨l,q⟩:=B.slot b o e n d k;exact⟨l,(h b (i b o e)).trans q⟩,λb o e n d=>B.free b o e n d,λb o e d=>by let⟨r,q⟩:=B.there b o e d;exact⟨r,(h b (i b o e)).trans q⟩,B.tups,B.frzs,B.tbls⟩
 have a:Jgy s.heap.objs.size:=J.free;have j:JhC H' h':=λb p e=>by
  refine(J.hok b p e).stay (λc v t q=>(h c ?_).trans q) (λ_ q=>q) λ_ _ q=>q;rintro rfl;rcases t with z | z
  ·rw[←z,a]at e;cases e
  ·rw[a]at z;cases z
 exact I.call' (s':={ s' with heap:=h' }) J.os u j J.bare λb f=>⟨(g b f).2.2.2.1,(g b f).2.1,(g b f).2.2.2.2.1,(g b f).2.2.2.2.2⟩
end
section
variable {X:Cx} {N':List Str} {scope:Scope} {cl:List (Str × Addr)} {fp:List Addr} {pins:List (Jbp Obj)} {σ:St} {H:Hp} {s:Shared}
def zo (I:QD s)(C:Jdz X cl)(f:Jdy scope.kind)(U:∀b∈fp,eg X pins H b)(d:∀b∈fp,Qt b)
  (n:Jlu L)(G:∀j i,ix[j]?=some i→∃y,X.N[i]?=some y∧N'[L+j]?=some y∧(Jd1 y∨Jd0 y)∧((Vs X.env).names.lookup y=some .cell∨(Vs X.env).names.lookup y=some .free))
  (S:h₁.Ns s.heap.objs.size m)(A:∀b o,s.heap.get? b=some o→h₁.get? b=some o):JnY (JcO cl fp s H) (Ja4 L++Jh4 σ) H { s with heap:=h₁,toks:=t' }:=by
 have g:∀x c,Xa (cl.lookup x) c→∃v,h₁.IsCell c v:=λx c h=>by let⟨v,o,E,J⟩:=JjS x (C.sub x c h);exact⟨v,o,A c o E,J⟩
 refine Jhn (o_ I C f U d) rfl (Un.kept A) ⟨m,S,λi y v Z r h3=>?_⟩ g (Q2 _) (λx c h=>Jh2 c (C.sub x c h)) (λp Q=>QN (show p∈([]:List _) from Q)) (I.hok.kept A) ?_
 ·rcases Nat.lt_or_ge i L with d | T
  ·rw[List.getElem?_append_left (by simp;exact d),List.getElem?_replicate,if_pos d]at r;cases (show Xa (some (none:Option V)) _ from r)
  ·obtain⟨j,rfl⟩:∃j,i=L+j:=⟨i-L,by lia⟩;have a:(Jh4 σ)[j]?=some (some v):=by rw[List.getElem?_append_right (by simp),List.length_replicate,Nat.add_sub_cancel_left]at r;exact r
   unfold fvs at a;rw[List.getElem?_map]at a;cases e:ix[j]? with
   | none=>rw[e]at a;cases a
   | some i =>
    rw[e]at a;have B:(σ[i]?).join=some v:=Option.some.inj a;have Y:σ[i]?=some (some v):=by
     cases e':σ[i]? with
     | none=>rw[e']at B;cases B
     | some q =>
      rw[e']at B;have W:q=some v:=B;rw[W]
    let⟨w,P,O,k1,k2⟩:=G j i e;have ey:=Option.some.inj (O.symm.trans Z);subst ey;let⟨m0,R,F⟩:=I.loc;have D:JfF w:=k1.elim (λz=>.inr (.inl z)) λz=>Jnb z;let⟨u,M,l⟩:=F i w v P Y D;refine⟨u,M,.inr (VI k2)⟩;rcases l with ⟨k,_⟩ | ⟨_,c,ec,o,E,J⟩
    ·rcases k1 with z | z
     ·rw[z]at k;cases k
     ·rw[z]at k;cases k
    ·let⟨K,t⟩:=C.has w k2;have:K=c:=Option.some.inj ((C.sub _ _ t).symm.trans ec);subst this;exact⟨K,t,o,A K o E,J⟩
 ·show(List.replicate L (none:Option V)++Jh4 σ:St).length=N'.length;rw[n];simp [fvs]
end
noncomputable def tstA (env:Env):Jj0 Expr (Sem Bool)
 | []=>pure true
 | c :: _=>isTrue c env (JhJ c)
def stpA (prog:Program)(w:World)(A:Around)(R:Result→Shared→Prop)(a:Expr)(acc:Value)(env:Env)(J:Nat→Shared→Prop)(n:Nat)(b:Bool)(c:Shared):Prop :=
 if Vq b then J6 w A (JhJ a) (λx f=>J6 w A (JbO "list.append" [acc,x]) (λ_ d=>∃m,m<n∧J m d) (notedBy (Xq w) A env λe s'=>JjC e s') f) (notedBy (Xq w) A env λe s'=>JjC e s') c
 else ∃m,m<n∧J m c
def zp (a:ifs.length≤1)(J)
  (step:∀n s,J n s→J6 w A (pyNext it) (λr f=>match r with
   | none=>R (.ok .next) f
   | some v=>J6 w A (letOwnedTupleGo target it v) (λ_ i=>J6 w A (assign target env v) (λ_ h=>J6 w A (tstA env ifs) (stpA prog w A R elt acc env J n) (notedBy (Xq w) A env λe s'=>JjC e s') h) (notedBy (Xq w) A env λe s'=>JjC e s') i) (notedBy (Xq w) A env λe s'=>JjC e s') f) (notedBy (Xq w) A env λe s'=>JjC e s') s)
  (n)(h0:J n s):codeAny (Xq w) A (.compLoop (JnN target ifs) 0 it acc env) R s:=by
 refine codeAny_loop rfl J (λn s l=>?_) n h0;show V0 A _ _ _ s
 refine wpAny_noted ?_;rw[compTurn_list];refine Jaq (wpAny_bind (wpAny_mono (step n s l) (λr f k=>?_) λ_ _ z=>z));cases r with
 | none=>exact wpAny_pure k
 | some v =>
  refine wpAny_bind (wpAny_mono k (λ_ i q=>?_) λ_ _ z=>z);refine wpAny_bind (wpAny_mono q (λ_ h j=>?_) λ_ _ z=>z);refine wpAny_bind (wpAny_mono (Q:=stpA prog w A R elt acc env J n) ?_ (λb g d=>?_) λ_ _ z=>z)
  rotate_left
  ·cases b with
   | false=>exact JaU rfl d
   | true=>exact wpAny_bind (wpAny_bind (wpAny_mono d (λx u p=>wpAny_bind (wpAny_mono p (λ_ t o=>Jag (Jbm o)) λ_ _ z=>z)) λ_ _ z=>z))
  ·rcases ifs with _ | ⟨c,_ | _⟩
   ·rw[List.forIn_nil];exact j
   ·rw[List.forIn_cons];refine wpAny_bind ?_;rw[if_pos rfl];refine wpAny_bind (wpAny_mono j (λb g d=>wpAny_pure ?_) λ_ _ z=>z);show V0 A (forIn ([]:List Expr) b _) _ _ g;rw[List.forIn_nil];exact wpAny_pure d
   ·exact QN a
def lcB (L:Nat)(ix:List Nat)(g:TG)(tc:TT)(te:TE)(h:St)(Q:VK)(J:It)(l:Hp):Prop:=∀D,Qu (l D) →
 ∃W:Nat→Nat→List V→Hp→Prop,(∃m,JjI 0 m [] l D []) ∧
  ∀i m ys H',W i m ys H'→JkP D ∧
   ((JoV H' (Xl D H'))∨(JjA H'∧∀x f,Jmh f→∀d:St,d.length=L→g x (d++Jh4 h) f λa n=>∃c:St,c.length=L∧a=c++Jh4 h∧tc a n λb k =>
    if Vq b then te a k λy j=>Qb (j D) ys∧JaM ys.length∧∃e,e<m∧JjI (i+1) e (ys++[y]) j D (ys++[y])
    else ∃e,e<m∧W (i+1) e ys k))
def tTr:TT:=λ_ H Q=>Q true H
def lc_fin (f:Vy H3 s3)(c:JnY (JcO cl fp s3 H3) σ6 H5 s6)(e:∀b∈fp,eg X pins H3 b)(q:Xl D H5):compPost (Xp X.w) X.A X.xe none (EP X pins σ Q) (.ref D) s3.heap.objs.size (.ok .next) s6:=by let⟨m,d,_⟩:=c.loc;exact⟨m,d,λh' a=>JaX D H5 (vh f c e a) q⟩
def pb (h:∀D,Qu (H1 D) →
 ∃W:Nat→Nat→List V→Hp→Prop,(∃m,JjI 0 m [] H1 D []) ∧
  ∀i m ys H',W i m ys H'→JkP D∧((JoV H' (Xl D H'))∨(JjA H'∧∀x c,Jmh c→tc (Jge x (Jh4 σ)) c λb g =>
    if Vq b then te (Jge x (Jh4 σ)) g λy f=>Qb (f D) ys∧JaM ys.length∧∃d,d<m∧JjI (i+1) d (ys++[y]) f D (ys++[y])
    else ∃d,d<m∧W (i+1) d ys g))):lcB 1 ix (ie 0) tc te σ Q J H1:=λD l=>by let⟨W,k,t⟩:=h D l;refine⟨W,k,λi m ys H' w=>⟨(t i m ys H' w).1,(t i m ys H' w).2.imp id λ⟨a,b⟩=>⟨a,λx c y j e=>?_⟩⟩⟩;let⟨z,rfl⟩:=List.length_eq_one_iff.mp e;exact Jv [some x] rfl (b x c y)
section
variable {X:Cx} {N':List Str} {scope:Scope} {elt iter tg:Expr} {ifs:List Expr} {L:Nat} {pos:Pos} {wi:TI} {g:TG} {tc:TT} {te:TE} {ix:List Nat}
def vi (hifs:ifs.length≤1)(hc:Vq X.calm)(E:Jdy scope.kind)(hcell:∀y∈scope.names,Jls y.2)(hnames:∀y∈scope.names,y.2=.local→Jde y.1)
  (hclo:X.Ok→∃t,Jdz X t)(hlen:Jlu L)
  (hix:∀j i,ix[j]?=some i→∃y,X.N[i]?=some y∧N'[L+j]?=some y∧(Jd1 y∨Jd0 y)∧((Vs X.env).names.lookup y=some .cell∨(Vs X.env).names.lookup y=some .free))
  (hi:Jox X tg)(hg:∀t a l x,PG (JcO t a l x) tg g)(ht:∀t a l x k s R H Q,Inv (JcO t a l x) k R H s→tc R H Q→Jbc (tstA (JcO t a l x).env ifs) (TP (JcO t a l x) k R Q) (JcO t a l x).xe s)(he:∀t a l x,PE (JcO t a l x) elt te)(hs:∀v,Jgc (JiV v) v)
  {use:Option (Value→Sem Unit)}{Qf:Value→Shared→Prop}{k:List (Jbp Obj)}{s:Shared}{R:St}{H:Hp}{Q:VK}{cp:Pos}{P:It→Hp→Prop}(I:JmT k R)(h:wi R H P)(hP:∀J H1,P J H1→lcB L ix g tc te R Q J H1)
  (fin:∀t a z s6 K H5 (σ6:St) D,JW k R K z→JnY (JcO t a z K) σ6 H5 s6→(∀b∈a,eg X k K b)→Xl D H5→compPost (Xp X.w) X.A X.xe use Qf (.ref D) z.heap.objs.size (.ok .next) s6) :
  wpAny (Xp X.w) X.A (comprehension (JnO ifs) scope X.env cp (newList []) false (Vg iter) use) Qf X.xe s:=by
 let⟨t,C⟩:=hclo I.ok;refine wpAny_comprehension_free rfl hs C.eq E hnames (thn (hi k s R H _ I h) λv s1 h1=>thn h1 λitv O h2=>?_);let⟨it,a,tn,J,H2,e,I2,T,st2,f2,q2⟩:=h2;subst e;have hD:=I2.fresh;let⟨W,⟨m0,w0⟩,turn⟩:=hP _ _ q2 O.heap.objs.size hD;refine wpAny_newObj_type (wpAny_newFunctionEnv hcell (by intro y hy;simp at hy) (λS G F=>?_) E);have I3:JW k R _ { O with heap:=O.heap.push { cls:=.type "list",data:=.seq ([]:List Value).toArray },toks:=O.toks }:=I2.lnew .nil (Nat.zero_le _);generalize hs3:({ O with heap:=O.heap.push { cls:=.type "list",data:=.seq ([]:List Value).toArray },toks:=O.toks }:Shared)=z at I3;have e3:z.heap=O.heap.push { cls:=.type "list",data:=.seq ([]:List Value).toArray }:=by rw[←hs3]
 generalize hDD:O.heap.objs.size=D at *;generalize hH3:Jk8 H2 D=K at *;have lt2:∀b∈a,b<O.heap.objs.size:=λb B=>by let⟨o,ho,_⟩:=T.obj 0 _ st2 b B;exact hLq ho
 have neD:∀b∈a,b≠D:=λb B=>by rw[←hDD];exact Nat.ne_of_lt (lt2 b B)
 have f3:∀b∈a,eg X k K b:=λb B=>⟨by rw[←hH3,aq (neD b B)];exact(f2 b B).1,(f2 b B).2⟩;have sz3:z.heap.objs.size=D+1:=by rw[e3,Heap.size_push,hDD]
 have Z:∀b∈a,b<z.heap.objs.size:=λb B=>by have q:=lt2 b B;rw[sz3];rw[hDD]at q;exact Nat.lt_succ_of_lt q
 have old:∀b o,z.heap.get? b=some o→S.get? b=some o:=λb o eb=>by
  have B:b<D+1:=by rw[←sz3];exact hLq eb
  refine F.extBut b o ?_ (JgM (by rw[←e3];exact eb));rw[Heap.size_push,hDD];exact Nat.ne_of_lt B
 have szC:(O.heap.push { cls:=.type "list",data:=.seq ([]:List Value).toArray }).objs.size=z.heap.objs.size:=by rw[e3]
 rw[szC]at G F;have I4:JnY _ _ K { z with heap:=S,toks:=O.toks+([]:Jgx Value).length }:=zo I3 C E f3 Z hlen hix G old;have st4:=T.keep 0 _ _ st2 λb B o eb=>old b o (by rw[e3];exact JgM eb);have U:∀ {H':Hp},(∀b∈a,Jgy b)→∀b∈a,eg _ [] H' b:=λhn b B =>
  ⟨hn b B,Nat.ne_of_lt (Z b B),λhs'=>(o_ (N':=N') I3 C E f3 Z).exfs b B hs',.inl B,λy c hy=>((o_ (N':=N') I3 C E f3 Z).exf b B).2 y c hy,λp hp=>QN (show p∈([]:List _) from hp)⟩
 have loop:∀s4:Shared,s4={ z with heap:=S,toks:=O.toks+([]:Jgx Value).length } →
   codeAny (Xp X.w) X.A (.compLoop (JnO ifs) 0 (.ref it) (.ref D) (compEnvC scope t z.heap.objs.size X.env))
    (compPost (Xp X.w) X.A X.xe use Qf (.ref D) z.heap.objs.size) s4:=by
  rintro s4 rfl;refine zp hifs (λn s'=>∃i M H' ys,M.length=L∧JnY _ (M++Jh4 R) H' s'∧tn i s'.heap∧(∀b∈a,Jgy b)∧W i n ys H') ?_ m0 ⟨0,Ja4 L,K,[],by simp,I4,st4,λb B=>(f3 b B).1,w0⟩;rintro n s5 ⟨i,M,H5,ys,hl0,I5,st5,fr5,w5⟩;let⟨hD5,alt⟩:=turn i n ys H5 w5;rcases alt with ⟨stop,q⟩ | ⟨go,step⟩
  ·refine thn (T.done (JcO t a z K) rfl rfl rfl hc i [] s5 _ H5 _ I5 (U fr5) st5 stop) λr s6 ⟨hr,I6⟩=>?_;subst hr;exact fin t a z s6 K H5 _ D I3 I6 f3 q
  ·refine thn (T.item (JcO t a z K) rfl rfl rfl hc i [] s5 _ H5 _ I5 (U fr5) st5 go) λr s6 ⟨u,hr,h6⟩=>?_;subst hr;refine thn h6 λ_ s7 h_=>?_;let⟨y7,H7,I7,r7,yl7,st7,fr7⟩:=h_;have I7':=I7.pinned (U fr7) (T.obj _ _ st7);refine wpAny_mono (hg t a z K _ s7 _ H7 y7 u _ I7' r7 (step y7 H7 yl7 M hl0)) (λ_ s8 h8=>?_) λ_ _ f=>False.elim f;let⟨σ8',H8,I8,σ8,hl8,rfl,q8⟩:=h8;have fin:∀ {H9:Hp} {s9:Shared} {zs:List V} {m':Nat},Inv (JcO t a z K) _ _ H9 s9→m'<n→W _ m' zs H9→∃m,m<n∧∃i M H' ys,M.length=L∧JnY _ (M++Jh4 R) H' s9∧tn i s9.heap∧(∀b∈a,Jgy b)∧W i m ys H':=λ{H9 s9 zs m'} I9 Y w9=>by refine⟨m',Y,i+1,σ8,H9,zs,hl8,I9.unpinned,T.keep _ _ _ st7 λb B o eb=>(I9.pin _ (Jj (Jj (ma B eb)))).1,λb B=>?_,w9⟩;let⟨o,eb,d⟩:=T.obj _ _ st7 b B;exact(I9.pin _ (Jj (Jj (ma B eb)))).2.1
   refine wpAny_mono (ht t a z K _ s8 _ H8 _ I8 q8) (λb s9 h9=>?_) λ_ _ f=>False.elim f;let⟨H9,I9,q9⟩:=h9;cases b with
   | false =>
    let⟨m',Y,w9⟩:=q9;exact fin I9 Y w9
   | true =>
    refine wpAny_mono (he t a z K _ s9 _ H9 _ I9 q9) (λyv s10 h10=>?_) λ_ _ f=>False.elim f;let⟨y10,H10,I10,r10,hD10,hl10,m',Y,w10⟩:=h10;refine wpAny_mono (cQ (X:=JcO t a z K) _ s10 _ H10 (.ref D) [y10] (.ref D) [yv] (λ_ H'=>H'=Va H10 D (ys++[y10])) I10 rfl (Jdx r10) (JcX D ys y10 rfl hD10 hl10 rfl)) (λ_ s11 h11=>?_) λ_ _ f=>False.elim f;let⟨_,H11,I11,_,rfl⟩:=h11;exact fin I11 Y w10
 subst hs3;have fin':=codeAny_compStart_list (loop _ rfl) (T.self X.A 0 _ _ _ st4 (loop _ rfl));exact fin'
def pf {P:St→VK→It→Hp→Prop}(p:ifs.length≤1)(F:Vq X.calm)(l:Jdy scope.kind)(n:∀y∈scope.names,Jls y.2)(f:∀y∈scope.names,y.2=.local→Jde y.1)
  (r:X.Ok→∃e,Jdz X e)(o:Jlu L)
  (t:∀j i,ix[j]?=some i→∃y,X.N[i]?=some y∧N'[L+j]?=some y∧(Jd1 y∨Jd0 y)∧((Vs X.env).names.lookup y=some .cell∨(Vs X.env).names.lookup y=some .free))
  (B:Jox X tg)(C:∀e k a b,PG (Jj8 e k) tg g)(z:∀e k a b d s c H Q,Inv (Jj8 e k) d c H s→tc c H Q→Jbc (tstA (Jj8 e k).env ifs) (TP (Jj8 e k) d c Q) (Jj8 e k).xe s)(E:∀e k a b,PE (Jj8 e k) elt te)(hs:∀v,Jgc (JiV v) v)
  (G:∀c Q J u,P c Q J u→lcB L ix g tc te c Q J u):PE X (JnO ifs) λc H Q=>wi c H (P c Q):=by intro d s c H Q I h;rw[eval_ListComp];exact vi p F l n f r o t B C z E hs I h (G c Q) λe k S R U T x D O M K q=>lc_fin O M K q
def tst0 (e)(d)(a)(b)(c)(s)(f:St)(H)(Q)(I:Inv (Jj8 e d) c f H s)(h:tTr f H Q):Jbc (tstA (Jj8 e d).env []) (TP (Jj8 e d) c f Q) (Jj8 e d).xe s:=wpAny_pure ⟨H,I,h⟩
def ix1 {P:Nat→Nat→Prop}(a:P 0 k)(j i)(h:[k][j]?=some i):P j i:=by
 cases j with
 | zero=>cases h;exact a
 | succ=>simp at h
def ixC {P:Nat→Nat→Prop}{ks:List Nat}(a:P 0 k)(b:∀j i,ks[j]?=some i→P (j+1) i)(j i)(h:(k :: ks)[j]?=some i):P j i:=by
 cases j with
 | zero=>cases h;exact a
 | succ j=>exact b j i h
def hix1 (h:∀j i,ix[j]?=some i→∃y,X.N[i]?=some y∧N'[j+1]?=some y∧(Jd1 y∨Jd0 y)∧((Vs X.env).names.lookup y=some .cell∨(Vs X.env).names.lookup y=some .free))(j i)(e:ix[j]?=some i):∃y,X.N[i]?=some y∧N'[1+j]?=some y∧(Jd1 y∨Jd0 y)∧((Vs X.env).names.lookup y=some .cell∨(Vs X.env).names.lookup y=some .free):=by rw[Nat.add_comm];exact h j i e
end
section
variable {X:Cx} {N':List Str} {scope:Scope} {elt iter:Expr} {x:Str} {px pos:Pos} {wi:TI} {te:TE} {ix:List Nat}
def eG (r:Vq X.calm)(b:Jdy scope.kind)(c:∀y∈scope.names,Jls y.2)(a:∀y∈scope.names,y.2=.local→Jde y.1)(o:Jde x)
  (f:X.Ok→∃n,Jdz X n)(s:N'.Nodup)(l:N'[0]?=some x)(e:Jg1 (ix.length+1))
  (k:∀j i,ix[j]?=some i→∃y,X.N[i]?=some y∧N'[j+1]?=some y∧(Jd1 y∨Jd0 y)∧((Vs X.env).names.lookup y=some .cell∨(Vs X.env).names.lookup y=some .free))
  (p:Jox X (JbI px))(q:∀n t d g,PE (JcO n t d g) elt te)(hs:∀v,JiV v=pure v:=by intro _;rfl) :
  PE X (JnN (JbI px) []) (tLC wi ix te) :=
 pf (by simp) r b c a f (e.trans (Nat.add_comm _ _)) (hix1 k) p (λ_ _ _ _=>ah s l (Jfv o) (Jfw o)) tst0 q hs λ_ _ _ _ h=>pb h
end
section
variable {X:Cx} {e l:Expr} {es:List Expr} {te tl:TE} {pos:Pos} {tg:Expr}
def tFmt (te:TE):TE:=λb H Q=>te b H λx a=>(∃z,x=.str z∧Vi z.length∧Jct z a)∨∃i:Int,Jjl x i∧i.natAbs.log2<1920∧Jct (toString i) a
def pe_fv (j:JnA te):VE (.FormattedValue e (-1) none pos) (tFmt te):=by
 intro a s f H Q I h;refine FormattedValue_plain (thn (j a s f H _ I h) λv k h_=>?_);let⟨x,d,c,b,q1⟩:=h_;rcases q1 with ⟨z,rfl,hz,q⟩ | ⟨i,rfl,g,q⟩
 ·let⟨t,rfl⟩:=b;exact formatField_str (λt' tk=>⟨.str z,d,c.tok _,Vf _,q⟩) hz
 ·let⟨t,rfl⟩:=b;exact formatField_int_small g ⟨.str _,d,c.tok _,Vf _,q⟩
abbrev TJ:=St→Hp→Str→(Str→Hp→Prop)→Prop
def PJ (X:Cx)(es:List Expr)(t:TJ):Prop :=
 ∀a s (c:St) H acc Q R,Jo2 c (t c H acc Q→(∀b d f,JW a c f d→Q b f→R b d)→Joins (Xp X.w) X.A X.xe (evalEach es X.env) acc R s)
def jNil:TJ:=λ_ H acc Q=>Q acc H
def jCons (te:TE)(t:TJ):TJ:=λa H acc Q=>te a H λx b=>∃y,x=.str y∧(acc++y).length≤sizeLine∧t a b (acc++y) Q
def vj:PJ X [] jNil:=λ_ _ _ _ _ _ _ I h k=>k _ _ _ I h
def kD (g:JnA te)(f:PJ X es t):PJ X (Jft e) (jCons te t):=by intro a s b H acc Q R I h k;refine thn (g a s b H _ I h) λv c h_=>?_;let⟨x,j,i,d,q1⟩:=h_;let⟨y,rfl,hz,q⟩:=q1;let⟨t,rfl⟩:=d;exact VO y _ hz (f a c b j _ Q R i q k)
def zq (t:TJ):TE:=λb H Q=>t b H Str.empty λa c=>Vi a.length∧Jct a c
def vk (h:PJ X (v1 :: Jft v2) t):VE (.JoinedStr (v1 :: Jft v2) pos) (zq t):=by intro a s c H Q I d;exact wpAny_JoinedStr (h a s c H _ _ _ I d λb i g f q=>⟨q.1,.str b,g,f.tok _,Vf _,q.2⟩)
end
theorem pj:∀(l:Jgx NameKind) acc,(∀y∈l,y.2=.free→∃c,Je5 y.1 c) →
  ∃b,Jgc (forIn l acc (λ y p=>if Vq (y.2 == NameKind.free) then do let c ←cellOf env y.1;pure (ForInStep.yield ((y.1,c) :: p)) else pure (ForInStep.yield p)):Sem (Jgx Addr)) b ∧
   (∀y c,Xa (b.lookup y) c→Xa (acc.lookup y) c∨Je5 y c)∧∀y,((y,NameKind.free)∈l∨∃c,Xa (acc.lookup y) c)→∃c,Xa (b.lookup y) c
 | [],acc,_=>Jbn acc (λ_ _ h=>.inl h) (λy h=>h.elim (λz=>by cases z) λz=>z)
 | (n,k) :: r,acc,f=>by
  by_cases e:k=.free
  ·subst e;let⟨c,o⟩:=f (n,.free) List.mem_cons_self rfl;let⟨b,j,i,g⟩:=pj r ((n,c) :: acc) λy a=>f y (Xe a);refine⟨b,?_,λy d h=>?_,λy h=>?_⟩
   ·rw[List.forIn_cons];have s:cellOf env n=pure c:=by unfold cellOf;rw[show Je5 n c from o]
    have t:Vq (NameKind.free == NameKind.free):=rfl;simp only[t,if_true,s,pure_bind];exact j
   ·rcases i y d h with z | z
    ·by_cases a:y=n
     ·subst a;rw[List.lookup_cons,beq_self_eq_true]at z;cases z;exact .inr o
     ·rw[List.lookup_cons,beq_eq_false_iff_ne.mpr a]at z;exact .inl z
    ·exact .inr z
   ·refine g y ?_;by_cases a:y=n
    ·subst a;exact .inr ⟨c,by rw[List.lookup_cons,beq_self_eq_true]⟩
    ·rcases h with z | ⟨d,z⟩
     ·rcases List.mem_cons.mp z with z | z
      ·exact absurd (Jhe z) a
      ·exact .inl z
     ·exact .inr ⟨d,by rw[List.lookup_cons,beq_eq_false_iff_ne.mpr a];exact z⟩
  ·let⟨b,j,i,g⟩:=pj r acc λy a=>f y (Xe a);refine⟨b,?_,i,λy h=>g y ?_⟩
   ·rw[List.forIn_cons];have q:QM (k == NameKind.free):=by simpa using e
    simp only[q,Bool.false_eq_true,if_false,pure_bind];exact j
   ·rcases h with z | z
    ·rcases List.mem_cons.mp z with z | z
     ·exact absurd (Jlv z).symm e
     ·exact .inl z
    ·exact .inr z
def di (o:X.Ok)(i:X.env.scope=sc)(a:∀x∈scope.names,Jls x.2)
  (r:∀y∈scope.names,y.2=.free→VP y.1 .cell∨VP y.1 .free):∃e,Clo X scope e:=by
 let⟨e,w,v,u⟩:=pj (env:=X.env) scope.names [] λy p h=>o.has y.1 (by show X.env.scope.names.lookup y.1=_∨X.env.scope.names.lookup y.1=_;rw[i];exact r y p h)
 refine⟨e,?_,λy c h=>(v y c h).elim (λz=>by cases z) λz=>z,λy h=>u y (.inl ?_)⟩
 ·have A:=w
  show Jgc (forIn scope.names _ _ >>= λz=>pure z) e;rw[bind_pure];exact A
 ·have m:∃k,(k=.cell∨k=.free)∧(y,k)∈(Vs X.env).names:=by
   rcases h with h | h
   ·exact JnP (.inl rfl) (PySem.mem_of_lookup h)
   ·exact JnP (.inr rfl) (PySem.mem_of_lookup h)
  let⟨k,q,l⟩:=m;let⟨⟨g,k0⟩,h0,b⟩:=List.mem_map.mp l;by_cases f:Vq (k0 == NameKind.free&&X.env.scope.kind == .function&&X.env.kindOf g == some .cell)
  ·dsimp only at b;rw[if_pos f]at b;have j:g=y:=Jhe b;have t:k0=.free:=by rw[Bool.and_eq_true,Bool.and_eq_true]at f;simpa using f.1.1
   rw[j,t]at h0;exact h0
  ·dsimp only at b;rw[if_neg f]at b;have j:g=y:=Jhe b;have s:k0=k:=Jlv b;rw[j,s]at h0;rcases q with z | z
   ·exact absurd z (a _ h0)
   ·rw[z]at h0;exact h0
def tLCI (h:TI)(ix:List Nat)(tc:TT)(te:TE):TE:=λd H Q=>h d H λJ g=>∀D,Qu (g D) →
 ∃W:Nat→Nat→List V→Hp→Prop,(∃m,JjI 0 m [] g D []) ∧
  ∀i m ys H',W i m ys H'→JkP D ∧
   ((JoV H' (Xl D H'))∨(JjA H'∧∀x c,Jmh c→tc (Jge x (Jh4 d)) c λb f =>
    if Vq b then te (Jge x (Jh4 d)) f λy e=>Qb (e D) ys∧JaM ys.length∧∃a,a<m∧JjI (i+1) a (ys++[y]) e D (ys++[y])
    else ∃a,a<m∧W (i+1) a ys f))
section
variable {X:Cx} {N':List Str} {scope:Scope} {elt iter c:Expr} {x:Str} {px pos:Pos} {wi:TI} {tc:TT} {te:TE} {ix:List Nat}
def ik (u:Vq X.calm)(e:Jdy scope.kind)(f:∀y∈scope.names,Jls y.2)(d:∀y∈scope.names,y.2=.local→Jde y.1)(q:Jde x)
  (k:X.Ok→∃l,Jdz X l)(w:N'.Nodup)(o:N'[0]?=some x)(g:Jg1 (ix.length+1))
  (n:∀j i,ix[j]?=some i→∃y,X.N[i]?=some y∧N'[j+1]?=some y∧(Jd1 y∨Jd0 y)∧((Vs X.env).names.lookup y=some .cell∨(Vs X.env).names.lookup y=some .free))
  (s:Jox X (JbI px))(r:∀l p a b,PT (Jj8 l p) c tc)(t:∀l p a b,PE (Jj8 l p) elt te)(hs:∀v,JiV v=pure v:=by intro _;rfl) :
  PE X (JnN (JbI px) [c]) (tLCI wi ix tc te) :=
 pf (by simp) u e f d k (g.trans (Nat.add_comm _ _)) (hix1 n) s (λ_ _ _ _=>ah w o (Jfv q) (Jfw q)) r t hs λ_ _ _ _ h=>pb h
end
def Inv.skip (I:QD s)(hs:JaB C h')(v:J0 C)(t:V1 C)(f:∀x c,Ql x c→c≠C)(r:∀p∈X.pn++pins,p.1≠C)(j:Vu C) :
  Inv X pins σ H { s with heap:=h' }:=by
 have a:∀b,b≠C→h'.get? b=s.heap.get? b:=λb g=>hs.2 b g;have nm:∀ {b:Addr},b∉[C]→b≠C:=λh z=>h (by rw[z];exact List.mem_cons_self);have u:JiJ [C] H H h':=⟨λb o e _ _ i=>(a b (nm i)).trans e,λb o e _ _ i=>⟨o.slots,(a b (nm i)).trans e⟩,λb o e n _=>n,λb o e y=>⟨o,(a b (nm y)).trans e⟩,λ_ _ q=>q,λ_ _ _ q=>q,λ_ ps q=>⟨#[],by rw[q];simp⟩⟩;have d:JhC H h':=λb k e=>by
  refine(Jk6 k e).stay (λc A l q=>(a c ?_).trans q) (λ_ q=>q) λ_ _ q=>q;rintro rfl;rcases l with z | z
  ·rw[←z,j]at e;cases e
  ·rw[j]at z;cases z
 refine I.call' (s':={ s with heap:=h' }) rfl u d I.bare λb g=>?_;have e:=mS g;subst e;exact⟨.inr v,t,f,r⟩
section
variable {X:Cx} {N':List Str} {scope:Scope} {elt iter tg:Expr} {ifs:List Expr} {L:Nat} {pos:Pos} {wi:TI} {g:TG} {tc:TT} {te:TE} {ix:List Nat}
def vm {P:St→VK→It→Hp→Prop}{i:Nat}{t:Str}{R r:Pos}(Y:X.N.Nodup)(U:X.N[i]?=some t)(hy:Ja3 t)(K:ifs.length≤1)(hc:Vq X.calm)(u:Jdy scope.kind)(B:∀y∈scope.names,Jls y.2)(n:∀y∈scope.names,y.2=.local→Jde y.1)
  (M:X.Ok→∃l,Jdz X l)(G:Jlu L)
  (W:∀j i,ix[j]?=some i→∃y,X.N[i]?=some y∧N'[L+j]?=some y∧(Jd1 y∨Jd0 y)∧((Vs X.env).names.lookup y=some .cell∨(Vs X.env).names.lookup y=some .free))
  (hi:Jox X tg)(hg:∀l o b d,PG (JcO l o b d) tg g)(ht:∀l o b d f s k H Q,Inv (JcO l o b d) f k H s→tc k H Q→Jbc (tstA (JcO l o b d).env ifs) (TP (JcO l o b d) f k Q) (JcO l o b d).xe s)(he:∀l o b d,PE (JcO l o b d) elt te)(S:Jgc (JiG (JnO ifs) (.Name t R) r.line) true)
  (hf:JdS t∨JlL t)(hs:∀v,Jgc (JiV v) v)
  (hP:∀k Q J O,P k Q J O→lcB L ix g tc te k Q J O):PS X (JhG (.Name t R) (JnO ifs) r) (Jlr (λk H Q=>wi k H (P k Q)) i):=by
 intro f s k H Dn I h;rw[exec_Assign_Name_used _ _ _ _ S];refine Jaq (wpAny_bind ?_);rw[arm_evalThenUse_ListComp];refine wpAny_bind (wpAny_mono (vi (use:=some _) K hc u B n M G W hi hg ht he hs I h (hP _ _) λl o s3 s6 H3 H5 σ6 D C I6 f3 q=>?_) (λ_ s' h'=>Jag h') λ_ _ z=>z);let⟨m,hn,_⟩:=I6.loc;have Io:=vh (h':=s6.heap) C I6 f3 (Jbm (λ_ _=>rfl));refine wpAny_assign_Name (ug (v:=.ref D) Io Y U hy rfl (λs7 I7 ⟨a,sb,ha⟩=>?_) hf);have F:∀x c,Ql x c→c<s3.heap.objs.size:=λx c e=>by let⟨v,hv⟩:=C.cell x c e;exact hv.lt
 have Z:s3.heap.objs.size≠a:=by
  rintro rfl;rcases ha with z | z
  ·exact absurd C.lt (by rw[←z];exact Nat.lt_irrefl _)
  ·exact Jcq (F _ _ z) _
 refine⟨m,hn.sameBut sb Z,λh' T=>⟨_,H5,?_,q⟩⟩;exact I7.skip T C.sz (Nat.ne_of_gt C.lt) (λx c e=>Nat.ne_of_lt (F x c e)) (λp hp=>Jce (C.pin p hp).1) I6.free
end
section
variable {X:Cx} {N':List Str} {scope:Scope} {elt iter c:Expr} {x:Str} {px pos:Pos} {wi:TI} {tc:TT} {te:TE} {ix:List Nat}
def zr (q:X.N.Nodup)(o:X.N[i]?=some y0)(u:Ja3 y0)(C:Vq X.calm)(e:Jdy scope.kind)(f:∀y∈scope.names,Jls y.2)(d:∀y∈scope.names,y.2=.local→Jde y.1)(t:Jde x)
  (k:X.Ok→∃l,Jdz X l)(D:N'.Nodup)(r:N'[0]?=some x)(g:Jg1 (ix.length+1))
  (p:∀j i,ix[j]?=some i→∃y,X.N[i]?=some y∧N'[j+1]?=some y∧(Jd1 y∨Jd0 y)∧((Vs X.env).names.lookup y=some .cell∨(Vs X.env).names.lookup y=some .free))
  (z:Jox X (JbI px))(w:∀l s a b,PT (Jj8 l s) c tc)(B:∀l s a b,PE (Jj8 l s) elt te)(n:JiG (JnN (JbI px) [c]) (JhK y0) spos.line=pure true:=by rfl)
  (A:JdS y0∨X.env.scope.names.lookup y0=some .local:=by first | exact .inl rfl | exact .inr rfl | assumption)(hs:∀v,JiV v=pure v:=by intro _;rfl) :
  PS X (JhG (JhK y0) (JnN (JbI px) [c]) spos) (Jlr (tLCI wi ix tc te) i) :=
 vm q o u (by simp) C e f d k (g.trans (Nat.add_comm _ _)) (hix1 p) z (λ_ _ _ _=>ah D r (Jfv t) (Jfw t)) w B n A hs λ_ _ _ _ h=>pb h
end
inductive Dt where
 | non | bl (b:Bool) | int (i:Int) | str (x:Str) | tup (xs:List Dt) | lst (xs:List Dt)
mutual
noncomputable def peq:Dt→Jn_ Dt
 | .non,.non=>true
 | .bl a,.bl b=>a == b
 | .bl a,.int b=>(if a then 1 else 0) == b
 | .int a,.bl b=>a == (if b then 1 else 0)
 | .int a,.int b=>a == b
 | .str a,.str b=>a == b
 | .tup xs,.tup ys=>zbI xs ys
 | .lst xs,.lst ys=>zbI xs ys
 | _,_=>false
noncomputable def zbI:Jj0 Dt (Jj0 Dt Bool)
 | [],[]=>true
 | x :: xs,y :: ys=>peq x y&&zbI xs ys
 | _,_=>false
end
mutual
noncomputable def dep:Dt→Nat
 | .tup xs=>za6 xs+1
 | .lst xs=>za6 xs+1
 | _=>0
noncomputable def za6:Jj0 Dt Nat
 | []=>0
 | x :: xs=>max (dep x) (za6 xs)
end
mutual
noncomputable def nob:Jn_ Dt
 | .bl _=>false
 | .tup xs=>ze0 xs
 | .lst xs=>ze0 xs
 | _=>true
noncomputable def ze0:Jj0 Dt Bool
 | []=>true
 | x :: xs=>nob x&&ze0 xs
end
mutual
theorem gX:∀d:Dt,Jh8 d d
 | .non=>rfl
 | .bl _=>by simp [peq]
 | .int _=>by simp [peq]
 | .str _=>by simp [peq]
 | .tup xs=>by simp only[peq];exact pA xs
 | .lst xs=>by simp only[peq];exact pA xs
theorem pA:∀d:List Dt,Vq (zbI d d)
 | []=>by simp [zbI]
 | x :: xs=>by simp only[zbI,gX x,pA xs,Bool.and_self]
end
mutual
theorem pB:∀d e:Dt,Vq (nob d)→Vq (nob e)→Jh8 d e→d=e
 | .non,e,_,_,h=>by cases e <;> first | rfl | (simp [peq]at h)
 | .bl _,e,h,_,_=>by simp [nob]at h
 | .int _,e,_,a,h=>by cases e <;> first | (simp [nob]at a;done) | (simp [peq]at h;done) | (simp [peq]at h;rw[h])
 | .str _,e,_,a,h=>by cases e <;> first | (simp [peq]at h;done) | (simp [peq]at h;rw[h])
 | .tup xs,e,b,a,h=>by
  cases e with
  | tup ys=>simp only[peq]at h;simp only[nob]at b a;rw[pC xs ys b a h]
  | _=>simp [peq]at h
 | .lst xs,e,b,a,h=>by
  cases e with
  | lst ys=>simp only[peq]at h;simp only[nob]at b a;rw[pC xs ys b a h]
  | _=>simp [peq]at h
theorem pC:∀d e:List Dt,Vq (ze0 d)→Vq (ze0 e)→Vq (zbI d e)→d=e
 | [],e,_,_,h=>by cases e <;> first | rfl | (simp [zbI]at h)
 | x :: xs,e,b,a,h=>by
  cases e with
  | nil=>simp [zbI]at h
  | cons y ys =>
   simp only[zbI,Bool.and_eq_true]at h;simp only[ze0,Bool.and_eq_true]at b a;rw[pB x y b.1 a.1 h.1,pC xs ys b.2 a.2 h.2]
end
mutual
def Has (K:W.Frag)(H:Hp):Dt→V→Prop
 | .non,v=>v=.non
 | .bl b,v=>v=.bl b
 | .int i,v=>Jjl v i
 | .str x,v=>v=.str x
 | .tup c,v=>∃a xs,QB v a∧Jfp a∧JhZ c
 | .lst c,v=>∃a xs,QB v a∧Jcr a∧JhZ c
def ar (K:W.Frag)(H:Hp):List Dt→List V→Prop
 | [],vs=>vs=[]
 | d :: a,vs=>∃v r,vs=v :: r∧Jor v∧J7 a r
end
theorem ar.length {K:W.Frag}{H:Hp}:∀ {a:List Dt} {vs:List V},J7 a vs→a.length=vs.length
 | [],vs,h=>by simp only[ar]at h;rw[h];rfl
 | d :: a,vs,h=>by simp only[ar]at h;let⟨v,r,rfl,_,b⟩:=h;rw[List.length_cons,List.length_cons,ar.length b]
theorem ar.get {K:W.Frag}{H:Hp}:∀ {a:List Dt} {vs:List V} {i:Nat} {v:V},J7 a vs→vs[i]?=some v→∃d,a[i]?=some d∧Jor v
 | [],vs,i,v,h,e=>by simp only[ar]at h;rw[h]at e;simp at e
 | d :: a,vs,i,v,h,e=>by
  simp only[ar]at h;let⟨j,r,rfl,c,b⟩:=h;cases i with
  | zero=>simp at e;subst e;exact Qd d c
  | succ i =>
   let⟨d',g,f⟩:=ar.get b (by simpa using e);exact⟨d',by simpa using g,f⟩
theorem ar.getD {K:W.Frag}{H:Hp}:∀ {a:List Dt} {vs:List V} {i:Nat} {d:Dt},J7 a vs→a[i]?=some d→∃v,vs[i]?=some v∧Jor v
 | [],vs,i,d,h,e=>by simp at e
 | k :: a,vs,i,d,h,e=>by
  simp only[ar]at h;let⟨b,r,rfl,f,c⟩:=h;cases i with
  | zero=>simp at e;subst e;exact Qd b f
  | succ i =>
   let⟨v,j,g⟩:=ar.getD c (by simpa using e);exact⟨v,by simpa using j,g⟩
theorem ar.append {K:W.Frag}{H:Hp}:∀ {b es:List Dt} {vs a:List V},J7 b vs→J7 es a→J7 (b++es) (vs++a)
 | [],es,vs,a,h,h'=>by simp only[ar]at h;rw[h];exact h'
 | d :: b,es,vs,a,h,h'=>by simp only[ar]at h;let⟨v,r,rfl,e,c⟩:=h;show J7 (d :: (b++es)) (v :: (r++a));simp only[ar];exact VO v (r++a) e (ar.append c h')
def ar.one {K:W.Frag}{H:Hp}{d:Dt}{v:V}(h:Jor v):J7 [d] [v]:=by simp only[ar];exact VO v [] h rfl
theorem ar.ints {K:W.Frag}{H:Hp}:∀ns:List Int,J7 (ns.map Dt.int) (ns.map V.int)
 | []=>by simp [ar]
 | n :: ns=>by simp only[List.map_cons,ar];exact VO _ _ (by simp only[Has]) (ar.ints ns)
mutual
noncomputable def nol:Jn_ Dt
 | .lst _=>false
 | .tup xs=>zaM xs
 | _=>true
noncomputable def zaM:Jj0 Dt Bool
 | []=>true
 | x :: xs=>nol x&&zaM xs
end
def bj (H H':Hp):Prop:=∀b xs,Rd H b (.tup xs)→Rd H' b (.tup xs)
def bj.sq {K:W.Frag}{H H':Hp}{a:Addr}{xs:List V}(k:JoG H')(h:Jfp a):QC H' a xs:=h.elim (λz=>.inl (k a xs z)) .inr
def bj.trans (a:JoG H1)(b:bj H1 H2):JoG H2:=λc xs h=>b c xs (a c xs h)
def bj.of_same (e:Xg H):JoG H':=λb xs h=>by
 rcases h with h | ⟨o,h⟩
 ·exact .inl (e _ _ h)
 ·exact JaF o (e _ _ h)
def bj.lst (h:Je7 l):JoG (Jou ys):=λb zs q=>by
 rcases q with q | ⟨o,q⟩
 ·exact .inl (by rw[aq (eM q h (λz=>by cases z))];exact q)
 ·exact JaF o (by rw[aq (eM q h (λz=>by cases z))];exact q)
def bj.new (h:Vu l):JoG (XE l o):=bj.of_same λb u q=>by rw[Jm2 h];exact q
mutual
theorem Has.keep {K:W.Frag}{H H':Hp}(k:JoG H'):∀ {d:Dt} {v:V},JiU d→Jor v→Has K H' d v
 | .non,v,_,h=>by simp only[Has]at h ⊢;exact h
 | .bl _,v,_,h=>by simp only[Has]at h ⊢;exact h
 | .int _,v,_,h=>by simp only[Has]at h ⊢;exact h
 | .str _,v,_,h=>by simp only[Has]at h ⊢;exact h
 | .tup f,v,n,h=>by simp only[Has]at h ⊢;simp only[nol]at n;let⟨a,xs,e,c,b⟩:=h;exact⟨a,xs,e,k.sq c,ar.keep k n b⟩
 | .lst _,v,n,h=>by simp [nol]at n
theorem ar.keep {K:W.Frag}{H H':Hp}(k:JoG H'):∀ {a:List Dt} {vs:List V},JdT a→J7 a vs→XH H' a vs
 | [],vs,_,h=>by simp only[ar]at h ⊢;exact h
 | d :: a,vs,n,h=>by simp only[ar]at h ⊢;simp only[zaM,Bool.and_eq_true]at n;let⟨v,r,e,c,b⟩:=h;exact⟨v,r,e,Has.keep k n.1 c,ar.keep k n.2 b⟩
end
section
variable {X:Cx} {pins:List (Jbp Obj)} {σ:St} {H:Hp} {s:Shared}
def vn (I:QD s){a:Addr}{xs ys:List V}(h:Jik H a xs)(h':JmC H a ys):False:=by let⟨g,_,p,_⟩:=I.list h;let⟨f,_,q,_⟩:=I.tuple h';let⟨o,e,c,_⟩:=p.isList;let⟨i,b,d,_⟩:=q;rw[e]at b;cases b;rw[c]at d;exact Jak (Value.type.inj d)
mutual
theorem Has.inj (I:QD s):∀(d e:Dt) (v:V),JnG d v→JnG e v→d=e
 | .non,e,v,h,h'=>by simp only[Has]at h;subst h;cases e <;> simp only[Has]at h' <;> first | rfl | (cases h';done) | (let⟨_,_,z,_⟩:=h';cases z)
 | .bl b,e,v,h,h'=>by simp only[Has]at h;subst h;cases e <;> simp only[Has]at h' <;> first | (cases h';done) | (cases h';rfl) | (let⟨_,_,z,_⟩:=h';cases z)
 | .int b,e,v,h,h'=>by simp only[Has]at h;subst h;cases e <;> simp only[Has]at h' <;> first | (cases h';done) | (cases h';rfl) | (let⟨_,_,z,_⟩:=h';cases z)
 | .str b,e,v,h,h'=>by simp only[Has]at h;subst h;cases e <;> simp only[Has]at h' <;> first | (cases h';done) | (cases h';rfl) | (let⟨_,_,z,_⟩:=h';cases z)
 | .tup j,e,v,h,h'=>by
  simp only[Has]at h;let⟨a,xs,rfl,g,i⟩:=h;cases e with
  | tup es =>
   simp only[Has]at h';let⟨k,ys,z,f,c⟩:=h';cases z;rw[I.tuple_inj f g]at c;rw[ar.inj I j es xs i c]
  | lst es =>
   simp only[Has]at h';let⟨k,ys,z,f,c⟩:=h';cases z;exact(vn I f g).elim
  | _=>simp only[Has]at h';cases h'
 | .lst j,e,v,h,h'=>by
  simp only[Has]at h;let⟨a,xs,rfl,g,i⟩:=h;cases e with
  | lst es =>
   simp only[Has]at h';let⟨k,ys,z,f,c⟩:=h';cases z;rw[I.list_inj f g]at c;rw[ar.inj I j es xs i c]
  | tup es =>
   simp only[Has]at h';let⟨k,ys,z,f,c⟩:=h';cases z;exact(vn I g f).elim
  | _=>simp only[Has]at h';cases h'
theorem ar.inj (I:QD s):∀(a es:List Dt) (vs:List V),Jku H a vs→Jku H es vs→a=es
 | [],es,vs,h,h'=>by
  simp only[ar]at h;subst h;cases es with
  | nil=>rfl
  | cons e es=>simp only[ar]at h';let⟨_,_,z,_⟩:=h';cases z
 | d :: a,es,vs,h,h'=>by
  simp only[ar]at h;let⟨v,r,rfl,g,f⟩:=h;cases es with
  | nil=>simp only[ar]at h';cases h'
  | cons e es =>
   simp only[ar]at h';let⟨i,j,z,c,b⟩:=h';cases z;rw[Has.inj I d e v g c,ar.inj I a es r f b]
end
def jd (a es:List Dt)(j:Nat):Bool:=match a[j]?,es[j]? with
 | some d,some e=>peq d e
 | _,_=>true
def zt (d e)(a es):jd (d :: a) (Jft e) 0=peq d e:=rfl
theorem mm:∀a es,((List.range (min a.length es.length)).all (jd a es)&&a.length == es.length)=zbI a es
 | [],[]=>by simp [zbI]
 | [],e :: es=>by simp [zbI]
 | d :: a,[]=>by simp [zbI]
 | d :: a,e :: es=>by
  have b:=mm a es;have f:min (d :: a).length (Jft e).length=min a.length es.length+1:=by simp only[List.length_cons];lia
  rw[f,List.range_succ_eq_map,List.all_cons,zt,List.all_map];have c:(jd (d :: a) (Jft e) ∘ Nat.succ)=jd a es:=by funext j;rfl
  rw[c,List.length_cons,List.length_cons];simp only[zbI];rw[←b,Bool.and_assoc];congr 2;simp
def zu (h:ds.length=es.length):(List.range ds.length).all (jd ds es)=zbI ds es:=by rw[←mm,←h,Nat.min_self];simp
def zv (h:ds.length≠es.length):QM (zbI ds es):=by
 rw[←mm];have:QM (ds.length == es.length):=by simpa using h
 rw[this,Bool.and_false]
def eV (I:QD s){a:Addr}{xs:List V}{c:List Dt}(h:JmC H a xs)(g:Jku H c xs):∃b:List Value,bc xs b∧JmD b.toArray∧b.toArray.size=c.length:=by let⟨b,r,p,_⟩:=I.tuple h;exact⟨b,r,p,by rw[sA,←r.length,←g.length]⟩
def eW (I:QD s){a:Addr}{xs:List V}{c:List Dt}(h:Jik H a xs)(g:Jku H c xs):∃b:List Value,bc xs b∧s.heap.IsList a b.toArray∧b.toArray.size=c.length:=by let⟨b,r,p,_⟩:=I.list h;exact⟨b,r,p.isList,by rw[sA,←r.length,←g.length]⟩
def vo (s:Shared)(A:Around)(a es:List Dt)(xs ys:List V):Prop :=
 ∀us zs,Jc6 xs→bc ys zs→∀j u z,us[j]?=some u→zs[j]?=some z→JiP A.in1 u z (jd a es j)
def rcTT (I:QD s){A:Around}{a b:Addr}{xs ys:List V}{f es:List Dt}(v:JmC H a xs)(x:Jku H f xs)(u:JmC H b ys)(w:Jku H es ys)(l:VC A.units)
  (t:vo s A f es xs ys):SeqAt.RcAt A s (.ref a) (.ref b) (zbI f es)∧SeqAt.RcNeAt A s (.ref a) (.ref b) (!zbI f es):=by let⟨d,r,k,o⟩:=eV I v x;let⟨c,p,i,n⟩:=eV I u w;have q:∀j k1 (k2:j<c.toArray.size),SeqAt.EqAt A.in1 s d.toArray[j] c.toArray[j] _:=λj k1 k2=>t d c r p j _ _ (by simp at k1 ⊢) (by simp at k2 ⊢);have h:=SeqAt.RcAt.tuples k i l q;have g:=SeqAt.RcNeAt.tuples k i l q;rw[o,n,mm]at h g;exact⟨h,g⟩
def rcLL (I:QD s){A:Around}{a b:Addr}{xs ys:List V}{f es:List Dt}(x:Jik H a xs)(z:Jku H f xs)(w:Jik H b ys)(y:Jku H es ys)(n:VC A.units)
  (v:vo s A f es xs ys):SeqAt.RcAt A s (.ref a) (.ref b) (zbI f es)∧SeqAt.RcNeAt A s (.ref a) (.ref b) (!zbI f es):=by
 let⟨d,u,l,i⟩:=eW I x z;let⟨c,t,k,o⟩:=eW I w y;by_cases h:f.length=es.length
 ·have q:∀j k1 (k2:j<c.toArray.size),SeqAt.EqAt A.in1 s d.toArray[j] c.toArray[j] _:=λj k1 k2=>v d c u t j _ _ (by simp at k1 ⊢) (by simp at k2 ⊢);have r:=SeqAt.RcAt.lists l k (by rw[i,o,h]) n q;have p:=SeqAt.RcNeAt.lists l k (by rw[i,o,h]) n q;rw[i,zu h]at r p;exact⟨r,p⟩
 ·have g:Vq (d.toArray.size != c.toArray.size):=by rw[i,o];simpa using h
  rw[zv h];exact⟨SeqAt.RcAt.lists_lengths l k g n,SeqAt.RcNeAt.lists_lengths l k g n⟩
def je {A:Around}{d:Dt}(h:Jed (dep d)):VC A.units:=Nat.lt_of_le_of_lt (Nat.le_add_right _ _) h
mutual
theorem vp (I:QD s):∀(d e:Dt) (v w:V) (u z:Value) (A:Around),JnG d v→JnG e w→Jf2 v→bn w z→Jed (dep d)→JiP A u z (peq d e)
 | .non,e,v,w,u,z,A,h,h',r,f,l=>by
  have c:=je l;simp only[Has]at h;subst h;cases e with
  | tup es =>
   simp only[Has]at h';let⟨b,ys,rfl,i,g⟩:=h';let⟨_,_,p,_⟩:=eV I i g;cases (show JlG z from f);cases (show Jcf u from r);exact SeqAt.EqAt.none_tuple p c
  | lst es =>
   simp only[Has]at h';let⟨b,ys,rfl,i,g⟩:=h';let⟨_,_,p,_⟩:=eW I i g;cases (show JlG z from f);cases (show Jcf u from r);exact SeqAt.EqAt.none_list p c
  | _=>simp only[Has]at h';subst h';exact kz r f rfl rfl
 | .bl k,e,v,w,u,z,A,h,h',r,f,l=>by
  have c:=je l;simp only[Has]at h;subst h;cases e with
  | tup es =>
   simp only[Has]at h';let⟨b,ys,rfl,i,g⟩:=h';let⟨_,_,p,_⟩:=eV I i g;cases (show JlG z from f);cases (show Jas u k from r);exact SeqAt.EqAt.bool_tuple k p c
  | lst es =>
   simp only[Has]at h';let⟨b,ys,rfl,i,g⟩:=h';let⟨_,_,p,_⟩:=eW I i g;cases (show JlG z from f);cases (show Jas u k from r);exact SeqAt.EqAt.bool_list k p c
  | _=>simp only[Has]at h';subst h';exact kz r f rfl rfl
 | .int k,e,v,w,u,z,A,h,h',r,f,l=>by
  have c:=je l;simp only[Has]at h;subst h;cases e with
  | tup es =>
   simp only[Has]at h';let⟨b,ys,rfl,i,g⟩:=h';let⟨_,_,p,_⟩:=eV I i g;cases (show JlG z from f);let⟨t,rfl⟩:=r;exact SeqAt.EqAt.int_tuple k t p c
  | lst es =>
   simp only[Has]at h';let⟨b,ys,rfl,i,g⟩:=h';let⟨_,_,p,_⟩:=eW I i g;cases (show JlG z from f);let⟨t,rfl⟩:=r;exact SeqAt.EqAt.int_list k t p c
  | _=>simp only[Has]at h';subst h';exact kz r f rfl rfl
 | .str k,e,v,w,u,z,A,h,h',r,f,l=>by
  have c:=je l;simp only[Has]at h;subst h;cases e with
  | tup es =>
   simp only[Has]at h';let⟨b,ys,rfl,i,g⟩:=h';let⟨_,_,p,_⟩:=eV I i g;cases (show JlG z from f);let⟨t,rfl⟩:=r;exact SeqAt.EqAt.str_tuple k t p c
  | lst es =>
   simp only[Has]at h';let⟨b,ys,rfl,i,g⟩:=h';let⟨_,_,p,_⟩:=eW I i g;cases (show JlG z from f);let⟨t,rfl⟩:=r;exact SeqAt.EqAt.str_list k t p c
  | _=>simp only[Has]at h';subst h';exact kz r f rfl rfl
 | .tup y,e,v,w,u,z,A,h,h',r,f,l=>by
  have c:=je l;have G:=h;simp only[Has]at h;let⟨a,xs,rfl,x,o⟩:=h;cases (show Jl u a from r);let⟨_,_,p,_⟩:=eV I x o;have E:VC (A.in1.units+za6 y):=by simp only[dep]at l;rw[Around.in1_units];lia
  cases e with
  | tup es =>
   have F:=h';simp only[Has]at h';let⟨b,ys,rfl,i,g⟩:=h';cases (show JlG z from f);by_cases n:a=b
   ·subst n;rw[Has.inj I _ _ _ G F,gX];exact SeqAt.EqAt.same _
   ·have q:=(rcTT I x o i g c λus zs C B j u z L J=>kE I y es xs ys us zs A.in1 o g C B E j u z L J).1;simp only[peq];exact SeqAt.EqAt.of_refs n q
  | lst es =>
   simp only[Has]at h';let⟨b,ys,rfl,i,g⟩:=h';cases (show JlG z from f);let⟨_,_,D,_⟩:=eW I i g;exact SeqAt.EqAt.tuple_list p D c
  | non=>simp only[Has]at h';subst h';cases (show Jcf z from f);exact SeqAt.EqAt.tuple_none p c
  | bl k=>simp only[Has]at h';subst h';cases (show Jas z k from f);exact SeqAt.EqAt.tuple_bool k p c
  | int k=>simp only[Has]at h';subst h';let⟨t,rfl⟩:=f;exact SeqAt.EqAt.tuple_int k t p c
  | str k=>simp only[Has]at h';subst h';let⟨t,rfl⟩:=f;exact SeqAt.EqAt.tuple_str k t p c
 | .lst y,e,v,w,u,z,A,h,h',r,f,l=>by
  have c:=je l;have G:=h;simp only[Has]at h;let⟨a,xs,rfl,x,o⟩:=h;cases (show Jl u a from r);let⟨_,_,p,_⟩:=eW I x o;have E:VC (A.in1.units+za6 y):=by simp only[dep]at l;rw[Around.in1_units];lia
  cases e with
  | lst es =>
   have F:=h';simp only[Has]at h';let⟨b,ys,rfl,i,g⟩:=h';cases (show JlG z from f);by_cases n:a=b
   ·subst n;rw[Has.inj I _ _ _ G F,gX];exact SeqAt.EqAt.same _
   ·have q:=(rcLL I x o i g c λus zs C B j u z L J=>kE I y es xs ys us zs A.in1 o g C B E j u z L J).1;simp only[peq];exact SeqAt.EqAt.of_refs n q
  | tup es =>
   simp only[Has]at h';let⟨b,ys,rfl,i,g⟩:=h';cases (show JlG z from f);let⟨_,_,D,_⟩:=eV I i g;exact SeqAt.EqAt.list_tuple p D c
  | non=>simp only[Has]at h';subst h';cases (show Jcf z from f);exact SeqAt.EqAt.list_none p c
  | bl k=>simp only[Has]at h';subst h';cases (show Jas z k from f);exact SeqAt.EqAt.list_bool k p c
  | int k=>simp only[Has]at h';subst h';let⟨t,rfl⟩:=f;exact SeqAt.EqAt.list_int k t p c
  | str k=>simp only[Has]at h';subst h';let⟨t,rfl⟩:=f;exact SeqAt.EqAt.list_str k t p c
theorem kE (I:QD s):∀(c es:List Dt) (vs f:List V) (us zs:List Value) (A:Around),Jku H c vs→Jku H es f→Jc6 vs→bc f zs→Jed (za6 c) →
  ∀(j:Nat) (u z:Value),us[j]?=some u→zs[j]?=some z→JiP A u z (jd c es j)
 | [],es,vs,f,us,zs,A,h,h',r,g,i,j,u,z,b,a=>by simp only[ar]at h;subst h;cases r;simp at b
 | d :: c,es,vs,f,us,zs,A,h,h',r,g,i,j,u,z,b,a=>by
  simp only[ar]at h;let⟨v,rs,rfl,y,x⟩:=h;cases r with
  | cons p o =>
   cases es with
   | nil =>
    simp only[ar]at h';subst h';cases g;simp at a
   | cons e es =>
    simp only[ar]at h';let⟨w,k,rfl,t,q⟩:=h';simp only[za6]at i;cases g with
    | cons n l =>
     cases j with
     | zero =>
      simp at b a;subst b a;exact vp I d e v w _ _ A y t p n (by lia)
     | succ j=>exact kE I c es rs k _ _ A x q o l (by lia) j u z (by simpa using b) (by simpa using a)
end
end
section
variable {X:Cx} {pins:List (Jbp Obj)} {σ:St} {H:Hp} {s:Shared}
def rc_D (I:QD s)(A)(d e)(v w)(u z)(h:JnG d v)(h':JnG e w)(r:Jf2 v)(f:bn w z)(B:Jed (dep d)) :
  SeqAt.RcAt A s u z (peq d e)∧SeqAt.RcNeAt A s u z (!peq d e):=by
 have c:=je B;cases d with
 | non =>
  simp only[Has]at h;subst h;cases (show Jcf u from r);cases e with
  | non =>
   simp only[Has]at h';subst h';cases (show Jcf z from f);exact⟨SeqAt.RcAt.none_none,SeqAt.RcNeAt.none_none⟩
  | bl k2 =>
   simp only[Has]at h';subst h';cases (show Jas z k2 from f);exact⟨SeqAt.RcAt.none_bool k2,SeqAt.RcNeAt.none_bool k2⟩
  | int k2 =>
   simp only[Has]at h';subst h';let⟨g,rfl⟩:=f;exact⟨SeqAt.RcAt.none_int k2 g,SeqAt.RcNeAt.none_int k2 g⟩
  | str k2 =>
   simp only[Has]at h';subst h';let⟨g,rfl⟩:=f;exact⟨SeqAt.RcAt.none_str k2 g,SeqAt.RcNeAt.none_str k2 g⟩
  | tup es =>
   simp only[Has]at h';let⟨b,ys,rfl,l,k⟩:=h';let⟨_,_,p,_⟩:=eV I l k;cases (show JlG z from f);exact⟨SeqAt.RcAt.none_tuple p c,SeqAt.RcNeAt.none_tuple p c⟩
  | lst es =>
   simp only[Has]at h';let⟨b,ys,rfl,l,k⟩:=h';let⟨_,_,p,_⟩:=eW I l k;cases (show JlG z from f);exact⟨SeqAt.RcAt.none_list p c,SeqAt.RcNeAt.none_list p c⟩
 | bl k1 =>
  simp only[Has]at h;subst h;cases (show Jas u k1 from r);cases e with
  | non =>
   simp only[Has]at h';subst h';cases (show Jcf z from f);exact⟨SeqAt.RcAt.bool_none k1,SeqAt.RcNeAt.bool_none k1⟩
  | bl k2 =>
   simp only[Has]at h';subst h';cases (show Jas z k2 from f);exact⟨SeqAt.RcAt.bool_bool k1 k2,SeqAt.RcNeAt.bool_bool k1 k2⟩
  | int k2 =>
   simp only[Has]at h';subst h';let⟨g,rfl⟩:=f;exact⟨SeqAt.RcAt.bool_int k1 k2 g,SeqAt.RcNeAt.bool_int k1 k2 g⟩
  | str k2 =>
   simp only[Has]at h';subst h';let⟨g,rfl⟩:=f;exact⟨SeqAt.RcAt.bool_str k1 k2 g,SeqAt.RcNeAt.bool_str k1 k2 g⟩
  | tup es =>
   simp only[Has]at h';let⟨b,ys,rfl,l,k⟩:=h';let⟨_,_,p,_⟩:=eV I l k;cases (show JlG z from f);exact⟨SeqAt.RcAt.bool_tuple k1 p c,SeqAt.RcNeAt.bool_tuple k1 p c⟩
  | lst es =>
   simp only[Has]at h';let⟨b,ys,rfl,l,k⟩:=h';let⟨_,_,p,_⟩:=eW I l k;cases (show JlG z from f);exact⟨SeqAt.RcAt.bool_list k1 p c,SeqAt.RcNeAt.bool_list k1 p c⟩
 | int k1 =>
  simp only[Has]at h;subst h;let⟨i,rfl⟩:=r;cases e with
  | non =>
   simp only[Has]at h';subst h';cases (show Jcf z from f);exact⟨SeqAt.RcAt.int_none k1 i,SeqAt.RcNeAt.int_none k1 i⟩
  | bl k2 =>
   simp only[Has]at h';subst h';cases (show Jas z k2 from f);exact⟨SeqAt.RcAt.int_bool k1 i k2,SeqAt.RcNeAt.int_bool k1 i k2⟩
  | int k2 =>
   simp only[Has]at h';subst h';let⟨g,rfl⟩:=f;exact⟨SeqAt.RcAt.int_int k1 i k2 g,SeqAt.RcNeAt.int_int k1 i k2 g⟩
  | str k2 =>
   simp only[Has]at h';subst h';let⟨g,rfl⟩:=f;exact⟨SeqAt.RcAt.int_str k1 i k2 g,SeqAt.RcNeAt.int_str k1 i k2 g⟩
  | tup es =>
   simp only[Has]at h';let⟨b,ys,rfl,l,k⟩:=h';let⟨_,_,p,_⟩:=eV I l k;cases (show JlG z from f);exact⟨SeqAt.RcAt.int_tuple k1 i p c,SeqAt.RcNeAt.int_tuple k1 i p c⟩
  | lst es =>
   simp only[Has]at h';let⟨b,ys,rfl,l,k⟩:=h';let⟨_,_,p,_⟩:=eW I l k;cases (show JlG z from f);exact⟨SeqAt.RcAt.int_list k1 i p c,SeqAt.RcNeAt.int_list k1 i p c⟩
 | str k1 =>
  simp only[Has]at h;subst h;let⟨i,rfl⟩:=r;cases e with
  | non =>
   simp only[Has]at h';subst h';cases (show Jcf z from f);exact⟨SeqAt.RcAt.str_none k1 i,SeqAt.RcNeAt.str_none k1 i⟩
  | bl k2 =>
   simp only[Has]at h';subst h';cases (show Jas z k2 from f);exact⟨SeqAt.RcAt.str_bool k1 i k2,SeqAt.RcNeAt.str_bool k1 i k2⟩
  | int k2 =>
   simp only[Has]at h';subst h';let⟨g,rfl⟩:=f;exact⟨SeqAt.RcAt.str_int k1 i k2 g,SeqAt.RcNeAt.str_int k1 i k2 g⟩
  | str k2 =>
   simp only[Has]at h';subst h';let⟨g,rfl⟩:=f;exact⟨SeqAt.RcAt.str_str k1 i k2 g,SeqAt.RcNeAt.str_str k1 i k2 g⟩
  | tup es =>
   simp only[Has]at h';let⟨b,ys,rfl,l,k⟩:=h';let⟨_,_,p,_⟩:=eV I l k;cases (show JlG z from f);exact⟨SeqAt.RcAt.str_tuple k1 i p c,SeqAt.RcNeAt.str_tuple k1 i p c⟩
  | lst es =>
   simp only[Has]at h';let⟨b,ys,rfl,l,k⟩:=h';let⟨_,_,p,_⟩:=eW I l k;cases (show JlG z from f);exact⟨SeqAt.RcAt.str_list k1 i p c,SeqAt.RcNeAt.str_list k1 i p c⟩
 | tup t =>
  simp only[Has]at h;let⟨a,xs,rfl,q,n⟩:=h;cases (show Jl u a from r);let⟨_,_,p,_⟩:=eV I q n;have C:VC (A.in1.units+za6 t):=by simp only[dep]at B;rw[Around.in1_units];lia
  cases e with
  | non =>
   simp only[Has]at h';subst h';cases (show Jcf z from f);exact⟨SeqAt.RcAt.tuple_none p c,SeqAt.RcNeAt.tuple_none p c⟩
  | bl k2 =>
   simp only[Has]at h';subst h';cases (show Jas z k2 from f);exact⟨SeqAt.RcAt.tuple_bool k2 p c,SeqAt.RcNeAt.tuple_bool k2 p c⟩
  | int k2 =>
   simp only[Has]at h';subst h';let⟨g,rfl⟩:=f;exact⟨SeqAt.RcAt.tuple_int k2 g p c,SeqAt.RcNeAt.tuple_int k2 g p c⟩
  | str k2 =>
   simp only[Has]at h';subst h';let⟨g,rfl⟩:=f;exact⟨SeqAt.RcAt.tuple_str k2 g p c,SeqAt.RcNeAt.tuple_str k2 g p c⟩
  | tup es =>
   simp only[Has]at h';let⟨b,ys,rfl,l,k⟩:=h';cases (show JlG z from f);simp only[peq];exact rcTT I q n l k c λus zs y x j u z E D=>kE I t es xs ys us zs A.in1 n k y x C j u z E D
  | lst es =>
   simp only[Has]at h';let⟨b,ys,rfl,l,k⟩:=h';cases (show JlG z from f);let⟨_,_,o,_⟩:=eW I l k;exact⟨SeqAt.RcAt.tuple_list p o c,SeqAt.RcNeAt.tuple_list p o c⟩
 | lst t =>
  simp only[Has]at h;let⟨a,xs,rfl,q,n⟩:=h;cases (show Jl u a from r);let⟨_,_,p,_⟩:=eW I q n;have C:VC (A.in1.units+za6 t):=by simp only[dep]at B;rw[Around.in1_units];lia
  cases e with
  | non =>
   simp only[Has]at h';subst h';cases (show Jcf z from f);exact⟨SeqAt.RcAt.list_none p c,SeqAt.RcNeAt.list_none p c⟩
  | bl k2 =>
   simp only[Has]at h';subst h';cases (show Jas z k2 from f);exact⟨SeqAt.RcAt.list_bool k2 p c,SeqAt.RcNeAt.list_bool k2 p c⟩
  | int k2 =>
   simp only[Has]at h';subst h';let⟨g,rfl⟩:=f;exact⟨SeqAt.RcAt.list_int k2 g p c,SeqAt.RcNeAt.list_int k2 g p c⟩
  | str k2 =>
   simp only[Has]at h';subst h';let⟨g,rfl⟩:=f;exact⟨SeqAt.RcAt.list_str k2 g p c,SeqAt.RcNeAt.list_str k2 g p c⟩
  | tup es =>
   simp only[Has]at h';let⟨b,ys,rfl,l,k⟩:=h';cases (show JlG z from f);let⟨_,_,o,_⟩:=eV I l k;exact⟨SeqAt.RcAt.list_tuple p o c,SeqAt.RcNeAt.list_tuple p o c⟩
  | lst es =>
   simp only[Has]at h';let⟨b,ys,rfl,l,k⟩:=h';cases (show JlG z from f);simp only[peq];exact rcLL I q n l k c λus zs y x j u z E D=>kE I t es xs ys us zs A.in1 n k y x C j u z E D
inductive rEqD (K):R2|m{x y H Q} d e:Jor x→Jif e y→dep d≤60→Jx (peq d e) H→rEqD K x y H Q
inductive rNeD (K):R2|m{x y H Q} d e:Jor x→Jif e y→dep d≤60→Jx (!peq d e) H→rNeD K x y H Q
def pD (g:Jbj 64):Qx X .Eq (rEqD X.K):=by intro pins s σ H x y v u Q I b a h;let⟨d,e,f,c,i,q⟩:=h;exact(rc_D I X.A d e x y v u f c b a (by lia)).1 _ _ _ _ (Joz q)
def jf (g:Jbj 64):Qx X .NotEq (rNeD X.K):=by intro pins s σ H x y v u Q I b a h;let⟨d,e,f,c,i,q⟩:=h;exact(rc_D I X.A d e x y v u f c b a (by lia)).2 _ _ _ _ (Joz q)
open Classical in
noncomputable def hitD (K:W.Frag) (H:Hp) (d:Dt) (u:Value):Bool:=decide (∃(v:V) (d':Dt),Jf2 v∧Jif d' v∧Jh8 d' d)
open Classical in
def mn (I:QD s){d d':Dt}{v:V}{u:Value}(r:Jf2 v)(h:JnG d' v):hitD X.K H d u=peq d' d:=by
 unfold hitD;cases e:peq d' d with
 | true=>exact dTq ⟨v,d',r,h,e⟩
 | false =>
  refine dFq λh_=>?_;let⟨c,f,b,h',a⟩:=h_;rw[b.inj r]at h';rw[Has.inj I _ _ _ h' h,e]at a;cases a
theorem kF (I:QD s){d:Dt}:∀ {a:List Dt} {vs:List V} {us:List Value},Jku H a vs→Jc6 vs→us.any (JjX H d)=a.any λd'=>peq d' d
 | [],vs,us,h,r=>by simp only[ar]at h;subst h;cases r;rfl
 | d' :: a,vs,us,h,r=>by
  simp only[ar]at h;let⟨v,rs,rfl,f,e⟩:=h;cases r with
  | cons c b=>rw[List.any_cons,List.any_cons,mn I c f,kF I e b]
theorem jg (I:QD s){A:Around}{d:Dt}{x:V}{c:Value}(g:JnG d x)(e:bn x c):∀ {b:List Dt} {vs:List V} {us:List Value},Jku H b vs→Jc6 vs→Jed (za6 b)→∀u∈us,JiP A u c (hitD X.K H d u)
 | [],vs,us,h,r,i,u,a=>by simp only[ar]at h;subst h;cases r;cases a
 | d' :: b,vs,us,h,r,i,u,a=>by
  simp only[ar]at h;let⟨v,rs,rfl,j,l⟩:=h;simp only[za6]at i;cases r with
  | cons f k =>
   rcases List.mem_cons.mp a with rfl | a
   ·rw[mn I f j];exact vp I d' d v x _ _ A j g f e (by lia)
   ·exact jg I g e l k (by lia) u a
inductive rInD (K)(neg:Bool):R2|m{x y H Q} p xs ds d:Jow y p (Jcr p∨Jfp p) (JhZ ds) (Jor x) (za6 ds≤60→Jx (if neg then !(ds.any λd'=>peq d' d) else ds.any λd'=>peq d' d) H→rInD K neg x y H Q)
def op_inD (k:Jbj 64):Qx X .In (rInD X.K false):=by
 intro pins s σ H x y v u Q I f i h;let⟨p,xs,j,d,rfl,b,hs,g,l,q⟩:=h;cases i;have c:VC (Jnq (za6 j)):=by rw[Around.in1_units];lia
 rcases b with b | b
 ·let⟨a,r,pl,hz⟩:=I.list b;refine SeqAt.in_listAt _ pl.isList (λw e=>jg I g f hs r c w (by simpa using e)) (Joz ?_);rw[show a.toArray.any _=a.any (JjX H d) by simp,kF I hs r];exact q
 ·let⟨a,r,pl,hz⟩:=I.tuple b;refine SeqAt.in_tupleAt _ pl (λw e=>jg I g f hs r c w (by simpa using e)) (Joz ?_);rw[show a.toArray.any _=a.any (JjX H d) by simp,kF I hs r];exact q
def pE (k:Jbj 64):Qx X .NotIn (rInD X.K true):=by
 intro pins s σ H x y v u Q I f i h;let⟨p,xs,j,d,rfl,b,hs,g,l,q⟩:=h;cases i;have c:VC (Jnq (za6 j)):=by rw[Around.in1_units];lia
 rcases b with b | b
 ·let⟨a,r,pl,hz⟩:=I.list b;refine SeqAt.notIn_listAt _ pl.isList (λw e=>jg I g f hs r c w (by simpa using e)) (Joz ?_);rw[show a.toArray.any _=a.any (JjX H d) by simp,kF I hs r];exact q
 ·let⟨a,r,pl,hz⟩:=I.tuple b;refine SeqAt.notIn_tupleAt _ pl (λw e=>jg I g f hs r c w (by simpa using e)) (Joz ?_);rw[show a.toArray.any _=a.any (JjX H d) by simp,kF I hs r];exact q
inductive vq (K):V→List V→Hp→VK→Prop|m{x vs H Q} l xs ds y d j:Jow x l (vs=[y]) (Je7 l) (JhZ ds) (Jor y→za6 ds≤60→(∃dj,ds[j]?=some dj∧Jh8 dj d)→(∀m dm,m<j→ds[m]?=some dm→QM (peq dm d))→Q7 (j:Nat) H→vq K x vs H Q)
def zw (Z:Jbj 64):MtM X "list.index" (vq X.K):=by
 intro pins s σ H x vs v us Q I L M h;let⟨l,xs,p,y,d,j,rfl,rfl,T,hs,O,hd,⟨dj,J,S⟩,B,q⟩:=h;cases L;let⟨u,rfl,N⟩:=M.one;let⟨z,a,n,r,hl,e⟩:=I.lstM T;have G:=hs.length;have R:j<p.length:=(gEq J).1;have D:VC (Jnq (za6 p)):=by rw[Around.in1_units];lia
 have o:∀m (b:m<a.toArray.size),∃k,p[m]?=some k∧hitD X.K H d a.toArray[m]=peq k d:=λm b=>by
  have f:m<p.length:=by rw[sA]at b;lia
  let⟨w,c,i⟩:=hs.getD (gG f);let⟨E,Y,W⟩:=r.get c;have U:a.toArray[m]=E:=by have:a[m]?=some E:=Y;simp only[List.getElem_toArray];rw[gG (by rw[sA]at b;exact b)]at this;exact Option.some.inj this
  exact JnP (gG f) (by rw[U];exact mn I W i)
 have g:j<a.toArray.size:=by rw[sA];lia
 have t:(j:Int)<2 ^ 63 - 1:=by have:=sizeLine_eq;lia
 refine call_meets F.slot_list_index (JkS e) F.entry_list_index (F.args_list_index_2 _ _) (SeqAt.list_indexAt l a.toArray n none #[] u (JjX H d) j g t ?_ ?_) (Qj e ?_)
 ·let⟨k,c,i⟩:=o j g;rw[J]at c;cases c;rw[i,S]
 ·intro m b C;let⟨k,c,i⟩:=o m b;rw[i,B m k C c]
 ·intro w P;exact jg I O N hs r D w (by simpa using P)
 ·exact Jid (j:Nat) H _ _ q
end
structure FB (P)(w)(K)(mg)(base)(CX:CXT)(k)(x)(f)(fd)(ps)(sp):Prop where
 ok:Xd P w K mg CX k f fd ps sp
 b:Jw fd ps
 kp:Joo f
 m:mg x=Ja f
def bsz (n)(h:Q3 n):Vi n:=Jg2 h
def il (K)(n:String):W.kitOne K (.type n) (.type n)=some true:=by unfold W.kitOne;rw[if_pos (by simp)]
def bE {a:Type}{xs:List a}{i:Nat}{x:a}(h:xs[i]?=some x):xs.take (i+1)=xs.take i++[x]:=by rw[List.take_add_one,h];rfl
def aW (h:Vu p)(o):Jna (XE p o):=λb u q=>by rw[Jm2 h];exact q
def ap.upd (s:ap H0 H)(h:Qu (H0 l)):ap H0 (XE l o):=λb u q=>by rw[Jm2 h];exact s b u q
def ap.kt (s:Xg H):JoG H':=bj.of_same s
def ap.tup {K:W.Frag}{H H':Hp}{a:Addr}{xs:List V}(s:Xg H)(h:Jfp a):QC H' a xs:=s.kt.sq h
structure Wk (J:It)(n)(Ok:Hp→Prop):Prop where
 stop:∀i H,Ok H→n≤i→JeA H
 go:∀i H,Ok H→i<n→JjA H
def zx {lo:Int}{n:Nat}:Wk (Itr lo n) n (λ_=>True):=⟨λ_ _ _ h=>h,λ_ _ _ h=>h⟩
def cU {K:W.Frag}{a:Addr}{xs:List V}:Jhf (Itl K a) (λH=>Jcr a):=⟨λ_ _ h b=>⟨xs,h,b⟩,λi _ h b=>⟨xs,xs[i],h,by simp [b]⟩⟩
def dU {K:W.Frag}{a:Addr}{xs:List V}:Jhf (Itt K a) (λH=>Jfp a):=⟨λ_ _ h b=>⟨xs,h,b⟩,λi _ h b=>⟨xs,xs[i],h,by simp [b]⟩⟩
def LcW (n:Nat)(D:Addr)(a:Nat→List V→Hp→Prop)(i m:Nat)(ys:List V)(H:Hp):Prop:=m=n-i∧i≤n∧JeJ i∧XD D ys∧a i ys H
def mq (n:Nat)(D:Addr)(c:Nat→List V→Hp→Prop)(i:Nat)(ys:List V):VK:=λy b=>Qb (b D) ys∧JaM ys.length∧∃a,a<n-i∧LcW n D c (i+1) a (ys++[y]) (Va b D (ys++[y]))
def vr (n:Nat)(D:Addr)(b:Nat→List V→Hp→Prop)(i:Nat)(ys:List V)(c:Hp):Prop:=∃a,a<n-i∧LcW n D b (i+1) a ys c
def cJ (c:Vi n)(a:i<n)(d:JeJ i)(b:Qb (H3 D) ys)(p:Pv (i+1) (ys++[y]) (Va H3 D (ys++[y]))):mq n D Pv i ys y H3 :=
 ⟨b,by lia,n-(i+1),by lia,rfl,a,by rw[lAq,lS];lia,ao,p⟩
def gY (a:i<n)(c:JeJ i)(b:Qb (H3 D) ys)(p:Pv (i+1) ys H3):vr n D Pv i ys H3 :=
 (Jk9 (n-(i+1)) (by lia) rfl a b p)
def fh {J:It}{n:Nat}{h:Hp→Prop}{te:TE}{fv:St}{k:Hp}{D:Addr}{R:Hp→Prop}(W:Wk J n h)(b)(c:∀i ys H,b i ys H→h H)(h0:b 0 [] (Va k D []))
  (hs:∀i ys H' x a,i<n→JeJ i→JkP D→b i ys H'→Jmh a→te (Jge x fv) a (mq n D b i ys))(o:∀ys H',JkP D→b n ys H'→R H') :
  ∃W:Nat→Nat→List V→Hp→Prop,(∃m,JjI 0 m [] k D [])∧∀i m ys H',W i m ys H'→JkP D ∧
   ((JoV H' (R H'))∨(JjA H'∧∀x a,Jmh a→te (Jge x fv) a λy j=>Qb (j D) ys∧JaM ys.length∧∃g,g<m∧JjI (i+1) g (ys++[y]) j D (ys++[y]))):=by
 refine Qj (LcW n D b) (QT n (Nat.zero_le _) (Nat.zero_le _) ao h0);rintro i m ys H' ⟨rfl,q,l,f,p⟩;refine VI f;by_cases d:i<n
 ·exact .inr ⟨W.go i H' (c _ _ _ p) d,λx a y=>hs i ys H' x a d l f p y⟩
 ·have e:i=n:=by lia
  subst e;exact Qr (W.stop i H' (c _ _ _ p) (nRq _)) (o ys H' f p)
def gZ {J:It}{n:Nat}{k:Hp→Prop}{tc:TT}{te:TE}{fv:St}{o:Hp}{D:Addr}{R:Hp→Prop}(W:Wk J n k)(c)(f:∀i ys H,c i ys H→k H)(h0:c 0 [] (Va o D []))
  (hs:∀i ys H' x a,i<n→JeJ i→JkP D→c i ys H'→Jmh a→tc (Jge x fv) a λb h=>if Vq b then te (Jge x fv) h (mq n D c i ys) else vr n D c i ys h)
  (r:∀ys H',JkP D→c n ys H'→R H') :
  ∃W:Nat→Nat→List V→Hp→Prop,(∃m,JjI 0 m [] o D [])∧∀i m ys H',W i m ys H'→JkP D ∧
   ((JoV H' (R H'))∨(JjA H'∧∀x a,Jmh a→tc (Jge x fv) a λb h =>
    if Vq b then te (Jge x fv) h λy l=>Qb (l D) ys∧JaM ys.length∧∃d,d<m∧JjI (i+1) d (ys++[y]) l D (ys++[y])
    else ∃d,d<m∧W (i+1) d ys h)):=by
 refine Qj (LcW n D c) (QT n (Nat.zero_le _) (Nat.zero_le _) ao h0);rintro i m ys H' ⟨rfl,s,q,j,p⟩;refine VI j;by_cases g:i<n
 ·exact .inr ⟨W.go i H' (f _ _ _ p) g,λx a y=>hs i ys H' x a g q j p y⟩
 ·have e:i=n:=by lia
  subst e;exact Qr (W.stop i H' (f _ _ _ p) (nRq _)) (r ys H' j p)
def cy {J:It}{n:Nat}{l:Hp→Prop}{g:TG}{tb:TS}{D:iG}{a:St}{H:Hp}(W:Wk J n l)(b:Nat→St→Hp→Prop)(h:∀i a H,b i a H→l H)(h0:b 0 a H)
  (hs:∀i a H x H',i<n→b i a H→Jmg H H'→g x a H' λc j=>tb { D with nx:=b (i+1),ct:=b (i+1),bk:=D.nx } c j)(q:∀a H,b n a H→D.nx a H) :
  ∃W:Nat→Nat→St→Hp→Prop,(∃m,W 0 m a H)∧∀i m a H,W i m a H →
   (JoV H (D.nx a H))∨(JjA H∧∃N:St→Hp→Prop,(∀d H',N d H'→∃k,k<m∧W (i+1) k d H')∧∀x H',Jmg H H'→g x a H' λc j=>tb { D with nx:=N,ct:=N,bk:=D.nx } c j):=by
 refine Qj (λi m a H=>m=n-i∧i≤n∧b i a H) ⟨n,by simp,Nat.zero_le _,h0⟩;rintro i m a H ⟨rfl,r,p⟩;by_cases f:i<n
 ·exact .inr ⟨W.go i H (h _ _ _ p) f,b _,λd H' o=>VO (n-(i+1)) (by lia) f o,λx H' y=>hs i a H x H' f p y⟩
 ·have e:i=n:=by lia
  subst e;exact Qr (W.stop i H (h _ _ _ p) (nRq _)) (q a H p)
def Has.int {K:W.Frag}{H:Hp}{i:Int}:Jif (.int i) (.int i):=by simp only[Has]
def ar.nil {K:W.Frag}{H:Hp}:J7 [] []:=by simp only[ar]
def ar.cons {K:W.Frag}{H:Hp}{d:Dt}{a:List Dt}{v:V}{vs:List V}(h:Jor v)(r:J7 a vs):J7 (d :: a) (v :: vs):=by simp only[ar];exact VO v vs h r
def Has.tup' {K:W.Frag}{H:Hp}{b:List Dt}{a:Addr}{xs:List V}(h:Jfp a)(r:JhZ b):Jbk K H (.tup b) a:=by simp only[Has];exact VO a xs h r
def Has.lst' {K:W.Frag}{H:Hp}{b:List Dt}{a:Addr}{xs:List V}(h:Jcr a)(r:JhZ b):Jbk K H (.lst b) a:=by simp only[Has];exact VO a xs h r
theorem pF {K:W.Frag}{H:Hp}:∀ {ns:List Int} {vs:List V},J7 (ns.map Dt.int) vs→vs=ns.map V.int
 | [],vs,h=>by simp only[List.map_nil,ar]at h;rw[h];rfl
 | n :: ns,vs,h=>by simp only[List.map_cons,ar]at h;let⟨v,r,rfl,a,b⟩:=h;simp only[Has]at a;rw[a,pF b];rfl
noncomputable def dP (t:Jc7 Int):Dt:=.tup (Jc9 t.1 t.2)
def has_dP {K:W.Frag}{H:Hp}{t:Int × Int}{v:V}(h:Jif (dP t) v):∃p,QB v p∧SqT K H p (Jc9 t.1 t.2):=by unfold dP at h;simp only[Has]at h;let⟨a,xs,rfl,hs,b⟩:=h;have e:=pF (ns:=[t.1,t.2]) b;rw[e]at hs;exact Qd a hs
def of_dP {K:W.Frag}{H:Hp}{t:Int × Int}{p:Addr}(h:Jfo p (Jc9 t.1 t.2)):Jbk K H (dP t) p:=Has.tup' h (JeU .int .int)
theorem dr:∀ts:V3 Int,JdT (ts.map dP)
 | []=>by simp [zaM]
 | t :: ts=>by simp only[List.map_cons,zaM,dP,nol,Bool.true_and];exact dr ts
def ip {K:W.Frag}{H:Hp}{ts:List (Jc7 Int)}{xs:List V}{i:Nat}{x:V}(h:JdK dP xs)(e:xs[i]?=some x):∃t p,ts[i]?=some t∧Jny p∧SqT K H p (Jc9 t.1 t.2):=by
 let⟨d,a,c⟩:=h.get e;rw[List.getElem?_map]at a;cases q:ts[i]? with
 | none=>rw[q]at a;cases a
 | some t =>
  rw[q]at a;cases a;let⟨p,rfl,b⟩:=has_dP c;exact Xs t p rfl b
end L2
namespace PySem
open Sem (wp)
namespace F
def entry_dict_update_loop:entryFor table "dict.update.loop"=some Builtin.«dict.update.loop»:=entryFor_of_tree (by kernel_rfl)
def plain_dict_update_loop:Vq (plainId "dict.update.loop"):=by decide +kernel
def miss_list_keys:Jbq "list" "keys"=pure none:=by rw[typeLookup_type,builtinLookup_eq_fast];kernel_rfl
end F
theorem zy
  (hx:s.heap.get? a=some o)(hc:o.cls=.type "list")(hdat:JnU xs k)(hd:Qu o.dict)(hmiss:Jgc (Jbq "list" name) none)(hname:(["__module__","__name__","__qualname__","__doc__","__annotations__"]:List Str).contains name=false)(hA:Qu A.handled)
  (h:∀h' tk e,Heap.NewExcOf s.heap h' e "AttributeError"→Q none { s with heap:=h',toks:=tk })(hsz:Vi (name.length+100):=by size_fits) :
  wpAny (Xq w) A (getAttr? (.ref a) name) Q E s:=by
 let⟨c,dct,dat,sl⟩:=o;simp only at hc hdat hd;subst hc hdat hd;let⟨hp,g,d,tk,os⟩:=s;have hT:∀tk',(⟨hp,g,d,tk',os⟩:Shared).TypeIs (.ref a) "list":=λ_=>JkS hx;have f1:=sub_AttributeError;have f3:=F.slot_list_getattribute.lookup;have f4:=F.slot_list_getattribute.bind (.ref a);have f5:=am_list_getattr_none;unfold getAttr? getAttrBy? getAttrBy
 repeat (any_goals (first | assumption | exact hT _ | ((with_reducible show wpAny _ _ (call (Value.builtin "list.__getattribute__") _ _) _ _ _);refine call_meets F.slot_list_getattribute (hT _) am_entry_list_getattribute (F.args_list_getattribute_2 _ _) (meets_getattribute_miss_list a xs k sl name _ hmiss hname hsz) ⟨hx,hA,λh' tk' e hx'=>?_⟩) | wp_step))
 let⟨t',u',he⟩:=hx'.there;unfold getattributeRaised
 repeat (any_goals (first | assumption | wp_step))
 exact h _ _ _ hx'.of
section
variable {prog:Program} {w:World} {K:Type} [DecidableEq K] {knd:KeyKind prog w K} {A:Around}
noncomputable def zcH (ks:Nat→K)(vals:Nat→Value)(n:Nat):Jf K Value:=(List.range n).foldl (λacc j=>stored acc (ks j) (vals j)) []
def pG (ks:Nat→K)(vals)(n):JjY ks (n+1)=stored (JjY ks n) (ks n) (vals n):=by unfold zcH;rw[List.range_succ,List.foldl_append];rfl
def zz (kvs)(k:K)(v):(stored kvs k v).length≤JhW 1:=by
 unfold stored;split
 ·rw[lM];lia
 ·rw[lAq];simp
theorem pH (ks:Nat→K)(vals):∀n,(JjY ks n).length≤n
 | 0=>nRq _
 | n+1=>by rw[pG];have:=zz (JjY ks n) (ks n) (vals n);have:=pH ks vals n;lia
def zA {R:Result→Shared→Prop}{h0:Heap}{l it d:Addr}{items:Array Value}{Ts:Nat→Addr}{keys vals:Nat→Value}{ks:Nat→K}{q:Value}(T:Qu A.handled)(Q:h0.IsList l items)(C:l≠it)(D:l≠d)(g:d≠it)(hsz:Vi items.size)
  (S:∀i,i<items.size→items[i]?=Ja (Ts i)∧h0.IsTuple (Ts i) #[keys i,vals i]∧Vq (knd.is (ks i) (keys i))∧Ts i≠it∧Ts i≠d) :
  ∀k i s,items.size-i=k→i≤items.size→s.heap.IsListIter it l i→(∀b o,b≠it→b≠d→h0.get? b=some o→s.heap.get? b=some o)→s.heap.DictOf knd d (JjY ks i) →
   (∀h' tk,(∀b o,b≠it→b≠d→h0.get? b=some o→h'.get? b=some o)→h'.DictOf knd d (JjY ks items.size)→Jm1 q { s with heap:=h',toks:=tk }) →
   codeAny (Xq w) A (Jbe "dict.update.loop" [.ref d,.ref it,rawInt i,q] []) R s:=by
 have lst:∀h:Heap,(∀b o,b≠it→b≠d→h0.get? b=some o→h.get? b=some o)→h.IsList l items:=λh E=>by let⟨o,z,r⟩:=Q;exact⟨o,E _ _ C D z,r⟩
 intro k
 induction k with
 | zero =>
  intro i s E G f a L H;have e:i=items.size:=by lia
  subst e;refine QX F.entry_dict_update_loop;rw[VX F.plain_dict_update_loop];refine wpAny_bind (wpAny_pyNext_list_end (by simpa using T) f (lst _ a) (by simp) λh' N=>?_);refine Qo (wpAny_pure ?_);exact H h' s.toks (λb o p n j=>N b o p (a b o p n j)) (L.extBut N g)
 | succ k O =>
  intro i s E G f a L H;have B:i<items.size:=by lia
  let⟨e1,e2,e3,e4,Z⟩:=S i B;refine QX F.entry_dict_update_loop;rw[VX F.plain_dict_update_loop];refine wpAny_bind (wpAny_pyNext_list_item f (lst _ a) e1 λh' v hs'=>?_);have c:∀b o,b≠it→b≠d→h0.get? b=some o→h'.get? b=some o:=λb o p n j=>(hs'.2 b p).trans (a b o p n j);have J:=L.sameBut hs' g;let⟨ot,P,y,nt,x⟩:=id e2;have t:=c _ _ e4 Z P;have U:({ s with heap:=h' }:Shared).TypeIs (.ref (Ts i)) "tuple":=JnP t y;refine JI (Jah ?_);refine JaC U ?_;rw[if_pos (by decide)];refine J4 t x (wpAny_pure ?_);have M:=pH ks vals i;refine wpAny_holding (wpAny_dictSet_pairs e3 J (λn I u=>?_) (by lia));refine wpAny_pure (VI (JfL F.plain_dict_update_loop));have Y:rawInt ((i:Int)+1)=rawInt (i+1:Int):=by rfl
  rw[Y];refine O _ _ (by lia) (by lia) ?_ ?_ ?_ ?_
  ·let⟨o,z,r⟩:=v;exact⟨o,(u.2 it g.symm).trans z,r⟩
  ·exact λb o p n j=>(u.2 b n).trans (c b o p n j)
  ·rw[pG];exact I
  ·exact λj tk X W=>H j tk X W
def zB {E:Value→Shared→Prop}{s:Shared}{l:Addr}{o:Obj}{items:Array Value}{n:Nat}{Ts:Nat→Addr}{keys vals:Nat→Value}{ks:Nat→K}{Q:Value→Shared→Prop}(D:Qu A.handled)
  (x:s.heap.get? l=some o)(y:o.cls=.type "list")(N:Qu o.dict)(j:JnU items n)(hsz:Vi items.size)
  (M:∀i,i<items.size→items[i]?=Ja (Ts i)∧s.heap.IsTuple (Ts i) #[keys i,vals i]∧Vq (knd.is (ks i) (keys i)))
  (h:∀h' tk,(∀b o,s.heap.get? b=some o→h'.get? b=some o)→JcZ (h'.DictOf knd s.heap.objs.size (JjY ks items.size)) s.heap.objs.size { s with heap:=h',toks:=tk }) :
  wpAny (Xq w) A (call (.type "dict") (Vz l)) Q E s:=by
 refine callType_codes (Q₁:=λu k=>QB u s.heap.objs.size∧k={ s with heap:=s.heap.push { cls:=.type "dict",data:=.dict #[] } }) F.kt_called_dict (F.kt_typeCall_dict_1 _) F.entry_dict_init (kt_code_dict_new _ (Vf rfl)) ?_;rintro u k ⟨rfl,rfl⟩;have g:(s.heap.push { cls:=.type "dict",data:=.dict #[] }).DictOf knd s.heap.objs.size []:=Heap.DictOf.new s.heap;have q:(s.heap.push { cls:=.type "dict",data:=.dict #[] }).get? l=some o:=JgM x;have O:({ s with heap:=s.heap.push { cls:=.type "dict",data:=.dict #[] } }:Shared).TypeIs (.ref l) "list":=JnP q y;refine Qj g.typeIs (F.args_dict_init_2 _ _);refine wpAny_bind ?_;refine wpAny_bind (wpAny_notOrdered_dict g.typeIs ?_);refine wpAny_pure ?_;show V0 _ (Builtin.Dict.updateFrom "dict.__init__" s.heap.objs.size (.ref l) [] .none) _ _ _;refine JaC O ?_;rw[if_pos (by decide)];refine wpAny_bind (zy q y j N F.miss_list_keys (by decide +kernel) (by simpa using D) λp G e J=>?_);rw[if_pos (show(none:Option Value).isNone=true from rfl)];have k1:=J.keeps;refine Jai ?_;have B:p.IsList l items:=⟨o,k1 _ _ q,y,n,j⟩;refine wpAny_bind (JO B);refine wpAny_pure (VI (JfL F.plain_dict_update_loop));have t:=hLq (k1 _ _ (Heap.get?_push_size _ rfl));have C:p.DictOf knd s.heap.objs.size []:=by let⟨I,es,R,v,r⟩:=g;exact⟨I,es,R,k1 _ _ v,r⟩
 have f:∀b c,s.heap.get? b=some c→(p.push { cls:=.type "list_iterator",data:=.fields #[.ref l,Jn1 0] }).get? b=some c:=λb c e=>JgM (k1 _ _ (JgM e));have a:∀b c,s.heap.get? b=some c→b≠p.objs.size∧JmK b:=λb c e=>by have:=hLq e;exact⟨Nat.ne_of_lt (Nat.lt_trans this t),Nat.ne_of_lt this⟩
 refine zA (knd:=knd) (items:=items) (Ts:=Ts) (keys:=keys) (vals:=vals) (ks:=ks) (by simpa using D) ?_ (a _ _ x).1 (a _ _ x).2 (Nat.ne_of_lt t) hsz ?_ items.size 0 _ (by lia) (Nat.zero_le _) ?_ (λ_ _ _ _ e=>e) (C.push _) ?_
 ·exact⟨o,f _ _ x,y,n,j⟩
 ·intro i z;let⟨T,⟨H,v,r⟩,S⟩:=M i z;exact⟨T,⟨H,f _ _ v,r⟩,S,(a _ _ v).1,(a _ _ v).2⟩
 ·exact JiY (Heap.get?_push_size _ rfl)
 ·intro h' tk L P;exact Jbm (h h' tk (λb c e=>L b c (a _ _ e).1 (a _ _ e).2 (f _ _ e)) P)
end
end PySem
namespace L2
open PySem PySem.Spec PyProof.Rows
section
variable {κ:Type} [DecidableEq κ]
noncomputable def br (kvs:Jf κ V)(k:κ):Option V:=(kvs.find? λa=>decide (a.1=k)).map (·.2)
noncomputable def zaz (kvs:Jf κ V)(k:κ)(v:V):Jf κ V :=
 if Vq (kvs.any λa=>decide (a.1=k)) then kvs.map (λa=>if a.1=k then(a.1,v) else a) else kvs++[(k,v)]
noncomputable def zbP (kvs:Jf κ V)(k:κ):Jf κ V:=kvs.filter λa=>decide (a.1≠k)
def zC:Qu (br ([]:Jf κ V) k):=rfl
def eX {p:κ × V}{r:List (κ × V)}{k:κ}(e:p.1=k):br (p :: r) k=some p.2:=by simp [br,List.find?_cons,e]
def eH {p:κ × V}{r:List (κ × V)}{k:κ}(e:¬p.1=k):br (p :: r) k=br r k:=by simp [br,List.find?_cons,e]
theorem jh (k:κ):∀kvs:Jf κ V,(kvs.any λa=>decide (a.1=k))=(JfM k).isSome
 | []=>rfl
 | p :: r=>by
  rw[List.any_cons];by_cases e:p.1=k
  ·simp only[eX e,dTq e,Bool.true_or,Option.isSome_some]
  ·rw[eH e,dFq e,Bool.false_or];exact jh k r
theorem vt (k j:κ)(y):∀kvs:Jf κ V,br (kvs.map λa=>if a.1=k then(a.1,y) else a) j=(JfM j).map λx=>if j=k then y else x
 | []=>rfl
 | p :: r=>by
  have b:=vt k j y r;rw[List.map_cons];by_cases h:p.1=k
  ·rw[if_pos h];by_cases e:p.1=j
   ·rw[eX (p:=(p.1,y)) e,eX e,Option.map_some,if_pos (e.symm.trans h)]
   ·rw[eH (p:=(p.1,y)) e,eH e,b]
  ·rw[if_neg h];by_cases e:p.1=j
   ·rw[eX e,eX e,Option.map_some,if_neg (λz=>h (e.trans z))]
   ·rw[eH e,eH e,b]
theorem vu (k j:κ)(y):∀kvs:Jf κ V,Qu (JfM k)→br (kvs++[(k,y)]) j=if j=k then some y else JfM j
 | [],_=>by
  by_cases e:k=j
  ·rw[if_pos e.symm];exact eX e
  ·rw[if_neg (λz=>e z.symm)];exact eH e
 | p :: r,a=>by
  rw[List.cons_append];have b:¬p.1=k:=λz=>by rw[eX z]at a;cases a
  rw[eH b]at a;have c:=vu k j y r a;by_cases e:p.1=j
  ·rw[eX e,eX e,if_neg (λz=>b (e.trans z))]
  ·rw[eH e,eH e,c]
def jM (kvs)(k j:κ)(y):br (JkR y) j=if j=k then some y else br kvs j:=by
 unfold zaz;by_cases a:Vq (kvs.any λb=>decide (b.1=k))
 ·rw[if_pos a,vt];rw[jh]at a;by_cases e:j=k
  ·let⟨x,c⟩:=Option.isSome_iff_exists.mp a;rw[if_pos e,e,c,Option.map_some,if_pos rfl]
  ·rw[if_neg e];cases br kvs j with
   | none=>rfl
   | some x=>rw[Option.map_some,if_neg e]
 ·rw[if_neg a];refine vu k j y kvs ?_;rw[jh]at a;cases q:JfM k with
  | none=>rfl
  | some x=>rw[q]at a;exact(a rfl).elim
def mw (kvs)(k:κ)(v):(JkR v).length≤JhW 1:=by
 unfold zaz;split
 ·rw[lM];lia
 ·rw[lAq,List.length_cons,List.length_nil];lia
def cX.isSome_eq (r:cX o u):o.isSome=u.isSome:=by
 cases o with
 | none=>cases u with
  | none=>rfl
  | some _=>exact(show False from r).elim
 | some _=>cases u with
  | none=>exact(show False from r).elim
  | some _=>rfl
def cX.getD (r:cX o u)(a:bn d d'):bn (o.getD d) (u.getD d'):=by
 cases o with
 | none=>cases u with
  | none=>exact a
  | some _=>exact(show False from r).elim
 | some _=>cases u with
  | none=>exact(show False from r).elim
  | some _=>exact r
def KV.val {kvs:List (κ × V)}{vs:List (Jhc κ)}(r:Jjz vs)(k:κ):cX (JfM k) (valueAt vs k):=by
 induction r with
 | nil=>exact True.intro
 | @cons p q ps a h t f =>
  let⟨d,g⟩:=h;by_cases e:p.1=k
  ·have c:=d.symm.trans e;have b:valueAt (q :: a) k=some q.2:=by simp [valueAt,List.find?_cons,c]
   rw[eX e,b];exact g
  ·have c:¬q.1=k:=λz=>e (d.trans z);have b:valueAt (q :: a) k=valueAt a k:=by simp [valueAt,List.find?_cons,c]
   rw[eH e,b];exact f
def KV.any (r:Jjz vs)(k:κ):(kvs.any λa=>decide (a.1=k))=vs.any λa=>decide (a.1=k):=by
 induction r with
 | nil=>rfl
 | cons h t b=>rw[List.any_cons,List.any_cons,b,h.1]
def KV.repl (r:Jjz vs)(k:κ){y:V}{u:Value}(c:Jf2 y) :
  KV (kvs.map λa=>if a.1=k then(a.1,y) else a) (vs.map λa=>if a.1=k then(a.1,u) else a):=by
 induction r with
 | nil=>exact .nil
 | @cons p q ps g h t d =>
  rw[List.map_cons,List.map_cons];refine .cons ?_ d;let⟨b,f⟩:=h;by_cases e:p.1=k
  ·rw[if_pos e,if_pos (b.symm.trans e)];exact⟨b,c⟩
  ·rw[if_neg e,if_neg (λz=>e (b.trans z))];exact⟨b,f⟩
def KV.put (r:Jjz vs)(k:κ){y:V}{u:Value}(a:Jf2 y):KV (JkR y) (stored vs k u):=by
 unfold zaz stored;rw[r.any k];by_cases e:Vq (vs.any λb=>decide (b.1=k))
 ·rw[if_pos e,if_pos e];exact r.repl k a
 ·rw[if_neg e,if_neg e];exact Paired.snoc r (Jbm a)
def KV.drop (r:Jjz vs)(k:κ):KV (zbP kvs k) (without vs k):=by
 unfold zbP without
 induction r with
 | nil=>exact .nil
 | @cons p q ps i h t d =>
  let⟨c,f⟩:=h;rw[List.filter_cons,List.filter_cons];by_cases e:p.1=k
  ·have a:¬decide (p.1≠k)=true:=by simp [e]
   have b:¬decide (q.1≠k)=true:=by simp [c.symm.trans e]
   rw[if_neg a,if_neg b];exact d
  ·have g:¬q.1=k:=λz=>e (c.trans z);have a:decide (p.1≠k)=true:=by simp [e]
   have b:decide (q.1≠k)=true:=by simp [g]
   rw[if_pos a,if_pos b];exact .cons ⟨c,f⟩ d
def KV.keys {kvs:List (κ × V)}{vs:List (Jhc κ)}(r:Jjz vs):kvs.map (·.1)=vs.map (·.1):=by
 induction r with
 | nil=>rfl
 | cons h t a=>rw[List.map_cons,List.map_cons,a,h.1]
def KV.length (r:Jjz vs):kvs.length=vs.length:=Paired.length r
def zD (kvs)(k:κ):(zbP kvs k).length≤kvs.length:=JbY _
end
def ir (r:Jf2 (kV k)):(ck P w).is k u=true:=by
 cases k with
 | inl i=>obtain⟨t,e⟩:=(show ∃t,u=Jaj i from r);subst e;exact yB P w i t
 | inr x=>obtain⟨t,e⟩:=(show ∃t,u=JhD x from r);subst e;exact lY P w x t
theorem pI:∀ {ks:List Key} {us:List Value},Jc6 (ks.map kV)→ItemsAre (ck P w) ks us
 | [],_,r=>by rw[List.map_nil]at r;cases r;exact .nil
 | k :: ks,_,r=>by
  rw[List.map_cons]at r;cases r with
  | cons h t=>exact .cons (ir h) (pI t)
abbrev KT (H:Hp):Jf (List Key) V→Jf (List Key) (Jbp Value)→Prop:=Paired λp q=>p.1=q.1∧JbP q.2.1 (p.1.map kV)∧bn p.2 q.2.2
def KT.val {H:Hp}{kvs:List (List Key × V)}{xs:List (List Key × Jbp Value)}(r:KT H kvs xs)(k):cX (JfM k) ((Je1 xs).map (·.2)):=by
 induction r with
 | nil=>exact True.intro
 | @cons p q ps a h t f =>
  let⟨d,_,g⟩:=h;by_cases e:p.1=k
  ·have c:=d.symm.trans e;have b:Je1 (q :: a)=some q.2:=by simp [atKey,List.find?_cons,c]
   rw[eX e,b];exact g
  ·have c:¬q.1=k:=λz=>e (d.trans z);have b:Je1 (q :: a)=atKey a k:=by simp [atKey,List.find?_cons,c]
   rw[eH e,b];exact f
def KT.repl (r:KT H kvs xs)(k){y:V}{u:Value}(d:Jf2 y) :
  KT H (kvs.map λb=>if b.1=k then(b.1,y) else b) (xs.map (putAt k u)):=by
 induction r with
 | nil=>exact .nil
 | @cons p q ps i h t f =>
  rw[List.map_cons,List.map_cons];refine .cons ?_ f;let⟨a,c,g⟩:=h;unfold putAt;by_cases e:p.1=k
  ·rw[if_pos e,if_pos (a.symm.trans e)];exact⟨a,c,d⟩
  ·rw[if_neg e,if_neg (λz=>e (a.trans z))];exact⟨a,c,g⟩
def KT.put (r:KT H kvs xs)(k){b:Addr}{y:V}{u:Value}(d:JkT b kV)(a:Jf2 y) :
  KT H (JkR y) (storedH xs k b u):=by
 have e:(kvs.any λc=>decide (c.1=k))=(Je1 xs).isSome:=by rw[jh,(r.val k).isSome_eq,Option.isSome_map]
 unfold zaz storedH;rw[e];by_cases q:(Je1 xs).isSome=true
 ·rw[if_pos q,if_pos q];exact r.repl k a
 ·rw[if_neg q,if_neg q];exact Paired.snoc r ⟨rfl,d,a⟩
def KT.keeps (r:KT H kvs xs)(a:∀b ys,JbP b ys→JT b ys):KT H' kvs xs :=
 Paired.mapP r λ_ _ z=>⟨z.1,a _ _ z.2.1,z.2.2⟩
section
variable {P:Program} {w:World} {H:Hp} {h:Heap} {a:Addr}
def rd_of (b:Ji4 h)(e:Rd H a u):bU P w H h a u:=e.ok b
def ji (b:Ji4 h)(e:Rd H a (.dK kvs)):Vi kvs.length∧QM (a == sysModules)∧∃vs,Jjz vs∧h.DictOf (ck P w) a vs :=
 show bU P w H h a _ from rd_of b e
def iL (b:Ji4 h)(e:Jc2 a):Vi kvs.length∧QM (a == sysModules)∧∃vs,Jjz vs∧h.DictOf (ck P w) a vs:=ji b (.inl e)
def jN (d:Ji4 h)(e:JbP a (ks.map kV)):(JeG P w).is h ks a:=by let⟨_,b,r,o,g,c,n,f⟩:=(show bU P w H h a _ from d a _ e);replace c:=(Prod.mk.inj c).1;exact⟨o,b.toArray,n,g,c,f,by simpa using pI r⟩
def jj (d:Ji4 h)(e:Rd H a (.dT kvs)):Vi kvs.length∧QM (a == sysModules) ∧
  ∃xs,KT H kvs xs∧h.DictOfH (JeG P w) a xs:=by
 let⟨z,y,xs,r,o,es,u,s,n,k,j,i⟩:=(show bU P w H h a (.dT kvs) from rd_of d e);refine⟨z,y,xs,r,o,es,u,s,n,k,j,λx b=>?_,i⟩;have c:∀ {l:List _} {m:List _},KT H l m→∀x∈m,(JeG P w).is h x.1 x.2.1:=by
  intro l m q
  induction q with
  | nil=>intro x b;exact nomatch b
  | @cons p q ps v f t g =>
   intro x b;rcases List.mem_cons.mp b with e | b
   ·subst e;exact jN d (by rw[←f.1];exact f.2.1)
   ·exact g x b
 exact c r x b
def dt_of (b:Ji4 h)(e:Xh a (.dT kvs)):Vi kvs.length∧QM (a == sysModules) ∧
  ∃xs,KT H kvs xs∧h.DictOfH (JeG P w) a xs:=jj b (.inl e)
end
def cn (H:Hp)(a:Addr)(y:V)(r:Option V):Prop :=
 (∃kvs k,Rd H a (.dK kvs)∧y=kV k∧r=JfM k)∨∃kvs k b,Rd H a (.dT kvs)∧QB y b∧JkT b kV∧r=JfM k
def eA (H:Hp)(a:Addr)(y v:V)(H':Hp):Prop :=
 (∃kvs k,Jc2 a∧y=kV k∧JaM kvs.length∧H'=Xo H a (JkR v)) ∨
 ∃kvs k b,Xh a (.dT kvs)∧QB y b∧JkT b kV∧JaM kvs.length∧H'=Jnz (.dT (JkR v))
def cn.k {H:Hp}{a:Addr}{kvs:List (Key × V)}{k:Key}(e:Jc2 a):cn H a (kV k) (JfM k):=.inl (Xs kvs k (.inl e) rfl)
def cn.t {H:Hp}{a b:Addr}{kvs:List (List Key × V)}{k:List Key}(e:Xh a (.dT kvs))(c:JkT b kV):cn H a (.ref b) (JfM k):=.inr ⟨kvs,k,b,.inl e,rfl,c,rfl⟩
def eA.k {H:Hp}{a:Addr}{kvs:List (Key × V)}{k:Key}{v:V}(e:Jc2 a)(b:JaM kvs.length):eA H a (kV k) v (Xo H a (JkR v)):=.inl ⟨kvs,k,e,rfl,b,rfl⟩
def eA.t {H:Hp}{a b:Addr}{kvs:List (List Key × V)}{k:List Key}{v:V}(e:Xh a (.dT kvs))(d:JkT b kV)(c:JaM kvs.length) :
  eA H a (.ref b) v (Jnz (.dT (JkR v))):=.inr ⟨kvs,k,b,e,rfl,d,c,rfl⟩
section
variable {X:Cx} {pins:List (Jbp Obj)} {σ:St} {H:Hp} {s:Shared} {a:Addr} {y v:V} {u r:Value} {o:Option V} {A:Around} {E:Value→Shared→Prop}
def Inv.big (I:QD s):Qt sysModules:=by have h:=(I.mod.glob.keeps I.bk).lt;exact Nat.lt_trans (by decide) h
def zE (t:Jed 1)(I:QD s)(g:cn H a y (some v))(q:Jf2 y)(h:∀f s',QD s'→bn v f→Q f s') :
  wpAny (Xp X.w) A (getItem (.ref a) u) Q E s:=by
 rcases g with ⟨kvs,k,e,n,l⟩ | ⟨kvs,k,b,e,n,C,l⟩
 ·subst n;let⟨z,B,vs,d,dd⟩:=Jnc e;let⟨f,i,c⟩:=cX.some_of (by rw[l];exact d.val k);exact wpAny_getItem_of (ir q) dd.mapOf i (h f _ (I.tok _) c)
 ·subst n;cases (show JlG u from q);let⟨z,B,xs,d,dd⟩:=Jnd e;let⟨f,i,c⟩:=cX.some_of (by rw[l];exact d.val k);let⟨p,x,j⟩:=Option.map_eq_some_iff.mp i;refine wpAny_getItem_heap (tupleKind_room_in1 t) (jN I.hok C) dd x ?_;rw[j];exact h f _ (I.tok _) c
def d_in (j:Jed 1)(I:QD s)(g:cn H a y o)(i:Jf2 y)(h:∀s',QD s'→Jjm o.isSome s') :
  wpAny (Xp X.w) A (Jjo .In u a) Q E s:=by
 rcases g with ⟨kvs,k,e,f,l⟩ | ⟨kvs,k,b,e,f,n,l⟩
 ·subst f;let⟨z,d,vs,c,dd⟩:=Jnc e;refine wpAny_in_of (ir i) d dd.mapOf ?_;rw[←(c.val k).isSome_eq,←l];exact h _ (I.tok _)
 ·subst f;cases (show JlG u from i);let⟨z,d,xs,c,dd⟩:=Jnd e;refine wpAny_in_heap (tupleKind_room_in1 j) (jN I.hok n) d dd ?_;have q:=(c.val k).isSome_eq;rw[Option.isSome_map]at q;rw[←q,←l];exact h _ (I.tok _)
def zF (j:Jed 1)(I:QD s)(g:cn H a y o)(i:Jf2 y)(h:∀s',QD s'→Jjm (!o.isSome) s') :
  wpAny (Xp X.w) A (Jjo .NotIn u a) Q E s:=by
 rcases g with ⟨kvs,k,e,f,l⟩ | ⟨kvs,k,b,e,f,n,l⟩
 ·subst f;let⟨z,d,vs,c,dd⟩:=Jnc e;refine wpAny_notIn_of (ir i) d dd.mapOf ?_;rw[←(c.val k).isSome_eq,←l];exact h _ (I.tok _)
 ·subst f;cases (show JlG u from i);let⟨z,d,xs,c,dd⟩:=Jnd e;refine wpAny_notIn_heap (tupleKind_room_in1 j) (jN I.hok n) d dd ?_;have q:=(c.val k).isSome_eq;rw[Option.isSome_map]at q;rw[←q,←l];exact h _ (I.tok _)
def jk (I:QD s)(d:Jm9 a)(hs:JaB a h')(f:∃q,h'.get? a=some q)(c:JcJ (Jnz ob) h' a ob) :
  Inv X pins σ (Jnz ob) { s with heap:=h',toks:=t' } :=
 I.write d (.inl rfl) (λb q g z=>(hs.2 b g).trans z) f c
def kG (z:Vi kvs.length)(c:QM (a == sysModules))(b:Jjz vs)(dd:h'.DictOf (ck P w) a vs) :
  bU P w H' h' a (.dK kvs):=⟨z,c,vs,b,dd⟩
def zG (F:Jed 1)(I:QD s)(g:eA H a y v H')(x:Jf2 y)(B:bn v r)(h:∀s',Vy H' s'→Q () s') :
  wpAny (Xp X.w) A (setItem (.ref a) u r) Q E s:=by
 rcases g with ⟨kvs,k,e,p,l,t⟩ | ⟨kvs,k,b,e,p,D,l,t⟩
 ·subst p t;let⟨z,n,vs,d,dd⟩:=Jkv e;have hz:Vi vs.length:=by rw[←d.length];exact z
  have j:(JkR v).length≤sizeLine:=by have:=mw kvs k v;lia
  refine wpAny_setItem_pairs (hsz:=hz) (ir x) dd λh' f hs=>h _ ?_;have G:∃q,h'.get? a=some q:=let ⟨q,_,_,i,_⟩:=f;⟨q,i⟩;exact jk I (by rw[e];exact True.intro) hs G (kG j n (d.put k B) f)
 ·subst p t;cases (show JlG u from x);let⟨z,n,xs,d,dd⟩:=dt_of I.hok e;have hz:Vi xs.length:=by rw[←Paired.length d];exact z
  have j:(JkR v).length≤sizeLine:=by have:=mw kvs k v;lia
  refine wpAny_setItem_heap (hsz:=hz) (tupleKind_room_in1 F) (jN I.hok D) dd λh' f hs=>h _ ?_;let⟨q,es,N,i,M,L,K,_,J⟩:=f;refine jk I (by rw[e];exact True.intro) hs ⟨q,i⟩ ⟨j,n,_,(d.put k D B).keeps λc ys C=>?_,q,es,N,i,M,L,K,J⟩;rw[aq (eM C e (λz=>nomatch z))];exact C
end
section
variable {X:Cx} {pins:List (Jbp Obj)} {σ:St} {H:Hp} {s:Shared} {a:Addr} {kvs:List (Key × V)} {k:Key} {u:Value} {A:Around} {E:Value→Shared→Prop}
def d_pop (I:QD s)(e:Jc2 a)(f:Jf2 (kV k))(l:Xa (JfM k) v)(j:more=[]∨∃x,more=[x])
  (h:∀c s',Vy (Xo H a (zbP kvs k)) s'→bn v c→Q c s'):Q9 A (JbO "dict.pop" (Jes a (u :: more))) Q E s:=by
 let⟨z,y,vs,b,dd⟩:=Jkv e;let⟨c,n,g⟩:=cX.some_of (by rw[←l];exact b.val k);have p:(keyPart u).isSome=true:=by
  cases k with
  | inl i=>obtain⟨t,q⟩:=(show ∃t,u=Jaj i from f);subst q;rfl
  | inr x=>obtain⟨t,q⟩:=(show ∃t,u=JhD x from f);subst q;rfl
 have B:argsOk "dict.pop" (JfG (Jes a (u :: more))):=by
  rcases j with q | ⟨x,q⟩
  ·subst q;exact PySem.F.args_dict_pop_2 _ _
  ·subst q;exact PySem.F.args_dict_pop_3 _ _ _
 refine call_meetsIn PySem.F.slot_dict_pop dd.typeIs PySem.F.entry_dict_pop B (meets_dict_pop_there (Jkw X.w) a (ir f) more j p)
  ⟨vs,c,dd,by rw[←b.length];exact z,n,λh' d hs=>h c _ ?_ g⟩
 have r:∃q,h'.get? a=some q:=let ⟨q,_,_,hq,_⟩:=d;⟨q,hq⟩;exact jk I (by rw[e];exact True.intro) hs r (kG (Nat.le_trans (zD kvs k) z) y (b.drop k) d)
end
def NoSl (i:Expr):Prop:=∀a b,subscripted i false a b=JnZ [a,b] a b
def zH {prog:Program}{w:World}{A:Around}{E:Value→Shared→Prop}{s:Shared}{env:Env}{b a:Expr}{l:Pos}{T id:String}{Q:Value→Shared→Prop}
  (p:Jgc (Jbq T "__getitem__") (Qm id))(hs:NoSl a)
  (h:J6 w A (JhJ b) (λo f=>J6 w A (JhJ a) (λi c=>c.TypeIs o T∧J6 w A (getItem o i) Q E c) E f) E s) :
  wpAny (Xq w) A (JhJ (.Subscript b a l)) Q E s:=by
 refine Subscript_ (wpAny_mono h (λo f k=>wpAny_mono k (λi c d=>?_) λ_ _ x=>x) λ_ _ x=>x);let⟨n,d⟩:=d;refine wpAny_bind ?_;rw[getitemInPython_of_ne n.not_modules];refine Q1 n p ?_;have g:J6 w A (subscripted a false o i) (λr e=>J6 w A (letTemporaryGo b o r >>= λ_=>pure r) Q E e) E c:=by rw[hs o i];exact wpAny_operating (wpAny_mono d (λr e j=>wpAny_bind (wpAny_letTemporaryGo (wpAny_pure j))) λ_ _ x=>x)
 first
  | exact wpAny_pure (wpAny_bind g)
  | exact wpAny_bind _
  | exact wpAny_bind g
def zI (I:QD s)(g:cn H a y o):Jjn a "dict":=by
 rcases g with ⟨kvs,k,e,_,_⟩ | ⟨kvs,k,b,e,_,_,_⟩
 ·let⟨_,_,vs,_,dd⟩:=Jnc e;exact dd.typeIs
 ·let⟨_,_,xs,_,dd⟩:=Jnd e;exact dd.typeIs
def tDGet (d ty:TE):TE:=λb H Q=>d b H λx e=>ty b e λy c=>∃a v,Jny a∧cn c a y (some v)∧Q v c
def tDIn (ty d:TE):TE:=λb H Q=>ty b H λy e=>d b e λx c=>∃a o,Jny a∧cn c a y o∧Jx o.isSome c
def zJ (ty d:TE):TE:=λb H Q=>ty b H λy e=>d b e λx c=>∃a o,Jny a∧cn c a y o∧Jx (!o.isSome) c
def sDPut (e ty d:TE):TS:=λD b H=>d b H λv h=>e b h λx g=>ty b g λy f=>∃a c,Jny a∧eA f a y v c∧D.nx b c
section
variable {X:Cx} {o i e value:Expr} {pos pos' tpos:Pos} {td ty tv:TE}
def jO (p:Jbj 1)(q:VE o td)(r:VE i ty)(hs:NoSl i):VE (Jhq o i) (tDGet td ty):=by intro b s d H Q I h;refine zH PySem.F.slot_dict_getitem.lookup hs (thn (q b s d H _ I h) λu j ⟨x,C,z,l,q1⟩=>thn (r b j d C _ z q1) λJ G h_=>?_);let⟨y,B,f,k,a,v,t,g,n⟩:=h_;subst t;obtain rfl:u=Value.ref a:=l;exact⟨zI f g,zE p f g k λD E w c=>⟨v,B,w,c,n⟩⟩
def jm (n:Jbj 1)(q:VE i ty)(p:VE o td):PC X .In i o (tDIn ty td):=by intro b s c H Q I h;refine thn (q b s c H _ I h) λE d ⟨y,B,w,f,q1⟩=>thn (p b d c B _ w q1) λu D h_=>?_;let⟨x,z,v,j,a,l,r,g,k⟩:=h_;subst r;obtain rfl:u=Value.ref a:=j;exact d_in n v g f λC t=>Jay l.isSome z t k
def jP (n:Jbj 1)(q:VE i ty)(p:VE o td):PC X .NotIn i o (zJ ty td):=by intro b s c H Q I h;refine thn (q b s c H _ I h) λE d ⟨y,B,w,f,q1⟩=>thn (p b d c B _ w q1) λu D h_=>?_;let⟨x,z,v,j,a,l,r,g,k⟩:=h_;subst r;obtain rfl:u=Value.ref a:=j;exact zF n v g f λC t=>Jay _ z t k
def g_ (t:Jbj 1)(w:VE o td)(z:VE i ty)(q:VE value tv)(hs:Jgc (JiG value (.Subscript o i pos') pos.line) false) :
  PS X (JhG (.Subscript o i pos') value pos) (sDPut td ty tv):=by intro b s c H D I h;refine wpAny_Assign_Subscript (thn (q b s c H _ I h) λr f ⟨v,L,G,l,q1⟩=>thn (w b f c L _ G q1) λu d ⟨x,K,F,k,p⟩=>thn (z b d c K _ F p) λO N h_=>?_) hs;let⟨y,P,E,j,a,J,B,g,n⟩:=h_;subst B;obtain rfl:u=Value.ref a:=k;exact zG t E g j l λM C=>⟨c,J,C,n⟩
end
def zK (h:Heap)(a:Jjp sysModules):bU P w H (h.push { cls:=.type "dict",data:=.dict #[] }) h.objs.size (.dK []) :=
 ⟨Nat.zero_le _,beq_eq_false_iff_ne.mpr (Ne.symm (Nat.ne_of_lt a)),[],.nil,Heap.DictOf.new h⟩
def tDNewK:TE:=λ_ H Q=>∀p,JiX p p (Xo H p [])
section
variable {X:Cx} {pos:Pos}
def fj:VE (.Dict [] [] pos) tDNewK:=λb s c H Q I h =>
 wpAny_Dict_empty (JnJ _ (t':=s.toks) (λ_ _ q=>JgM q) _ (zK s.heap I.big) (h _ (Q2 _)))
end
def bJ (kvs a:Jhg V):Jhg V:=a.foldl (λacc b=>zaz acc b.1 b.2) kvs
def KV.merge:∀ {a:List (Key × V)} {rs:List (Jhc Key)} {kvs:List (Key × V)} {vs:List (Jhc Key)},KV a rs→Jjz vs→KV (Jkx a) (merged vs rs):=by
 intro a rs kvs vs r;unfold KV at r
 induction r generalizing kvs vs with
 | nil=>intro q;exact q
 | @cons p q ps d h t c =>
  intro b;have e:KV (Jba p.1 p.2) (stored vs q.1 q.2):=by have:=b.put p.1 h.2;rw[←h.1];exact this
  exact c e
theorem vv:∀a kvs,(Jkx a).length≤JhW a.length
 | [],kvs=>by show JbA (JhW 0);lia
 | p :: r,kvs=>by have c:=vv r (Jba p.1 p.2);have b:=mw kvs p.1 p.2;show(bJ _ r).length≤_;rw[List.length_cons];lia
structure M1 (X:Cx)(o)(m)(apos:Pos)(e)(cpos):Prop where
 base:Jjg o m o=Vg o
 few:Vq ((JfW [e]).all (λx=>!x.1)&&(JnH []).all (λx=>x.1.isSome)
  && decide (([e]:List Expr).length+([]:List Keyword).length+(if([]:List Keyword).isEmpty then 0 else 1)<30))
 line:Vq (apos.endLine == cpos.line)
 trees:JfW [e]=[(false,Vg e)]
structure M2 (X:Cx)(o)(m)(apos:Pos)(e f)(cpos):Prop where
 base:Jjg o m o=Vg o
 few:Vq ((JfW [e,f]).all (λx=>!x.1)&&(JnH []).all (λx=>x.1.isSome)
  && decide (([e,f]:List Expr).length+([]:List Keyword).length+(if([]:List Keyword).isEmpty then 0 else 1)<30))
 line:Vq (apos.endLine == cpos.line)
 trees:JfW [e,f]=[(false,Vg e),(false,Vg f)]
def IsD (H:Hp)(a:Addr):Prop:=(∃kvs,Rd H a (.dK kvs))∨∃kvs,Rd H a (.dT kvs)
def pJ (I:QD s)(d:IsD H a) :
  s.TypeIs (.ref a) "dict"∧(∀b,QB (Value.ref a) b→∃c,s.heap.get? b=some c∧Qu c.dict)∧QM (a == sysModules):=by
 rcases d with ⟨kvs,e⟩ | ⟨kvs,e⟩
 ·let⟨_,f,vs,_,dd⟩:=Jnc e;refine⟨dd.typeIs,λb q=>?_,f⟩;cases q;let⟨c,_,_,h,g,_⟩:=dd;exact⟨c,h,g.2.1⟩
 ·let⟨_,f,xs,_,dd⟩:=Jnd e;refine⟨dd.typeIs,λb q=>?_,f⟩;cases q;let⟨c,_,_,h,g,_⟩:=dd;exact⟨c,h,g.2.1⟩
section
variable {X:Cx} {pins:List (Jbp Obj)} {σ:St} {H:Hp} {s:Shared} {a:Addr} {y d:V} {u r:Value} {o:Option V} {A:Around} {E:Value→Shared→Prop}
def d_get2 (q:Jed 1)(I:QD s)(g:cn H a y o)(n:Jf2 y)(p:bn d r)(h:∀j s',QD s'→bn (o.getD d) j→Q j s') :
  wpAny (Xp X.w) A (JbO "dict.get" [.ref a,u,r]) Q E s:=by
 rcases g with ⟨kvs,k,e,i,l⟩ | ⟨kvs,k,b,e,i,t,l⟩
 ·subst i;let⟨z,f,vs,c,dd⟩:=Jnc e;refine Jji dd.typeIs (Jht _ _) (meets_dict_get_default (Jkw X.w) a (ir n) f r) (JnP dd.mapOf (h _ _ (I.tok _) ?_));rw[l];exact(c.val k).getD p
 ·subst i;cases (show JlG u from n);let⟨z,f,xs,c,dd⟩:=Jnd e;refine Jji dd.typeIs (Jht _ _) (meetsH_dict_get_default (JeG X.prog X.w) a b f r) ⟨tupleKind_room_in1 q,k,xs,jN I.hok t,dd,h _ _ (I.tok _) ?_⟩;rw[l];exact(c.val k).getD p
end
def tDGet2 (f ty e:TE):TE:=λb H Q=>f b H λx d=>∃a,Jny a∧IsD d a∧ty b d λy g=>e b g λz c=>∃o,cn c a y o∧Q (o.getD z) c
def tDPop1 (e ty:TE):TE:=λb H Q=>e b H λx d=>∃a,Jny a∧IsD d a∧ty b d λy c=>∃kvs k v,Xa (c a) (.dK kvs)∧y=kV k∧Xa (JfM k) v∧Q v (Xo c a (zbP kvs k))
section
variable {X:Cx} {o e f:Expr} {apos cpos:Pos} {td ty tx:TE}
def my (B:Jbj 1)(C:VE o td)(E:JnA ty)(D:VE f tx)(m:M2 X o "get" apos e f cpos):VE (JlK o "get" [e,f] [] cpos) (tDGet2 td ty tx):=by
 intro b s c H Q I h;refine wpAny_Call_method m.base m.few m.line PySem.F.plainAttrs_dict PySem.F.slot_dict_get PySem.F.type_dict_get (thn (C b s c H _ I h) λu p h_=>?_);let⟨x,O,j,t,a,G,d,q1⟩:=h_;subst G;obtain rfl:u=Value.ref a:=t;let⟨l,k,_⟩:=pJ j d;refine Qj l k;rw[m.trees];refine VD rfl (Calls.spliced_cons (thn (E b p c O _ j q1) λU n ⟨y,N,L,r,w⟩ =>
  Calls.spliced_cons (thn (D b n c N _ L w) λfv S ⟨z,M,K,q,T,g,v⟩=>Calls.spliced_nil ?_)))
 exact d_get2 B K g r q λP R J i=>⟨_,M,J,i,v⟩
def vw (w:VE o td)(z:JnA ty)(m:M1 X o "pop" apos e cpos):VE (JlK o "pop" [e] [] cpos) (tDPop1 td ty):=by intro b s g H Q I h;refine wpAny_Call_method m.base m.few m.line PySem.F.plainAttrs_dict PySem.F.slot_dict_pop PySem.F.type_dict_pop (thn (w b s g H _ I h) λu p h_=>?_);let⟨x,E,i,r,a,B,d,q1⟩:=h_;subst B;obtain rfl:u=Value.ref a:=r;let⟨n,j,_⟩:=pJ i d;refine Qj n j;rw[m.trees];refine VD rfl (Calls.spliced_cons (thn (z b p g E _ i q1) λL K ⟨y,M,D,q,kvs,k,v,ea,A,l,t⟩=>Calls.spliced_nil ?_));subst A;exact d_pop D ea q l (.inl rfl) λG J C c=>⟨v,_,C,c,t⟩
end
def zL (kvs a)(b):Jkx (a++[b])=zaz (Jkx a) b.1 b.2:=by unfold bJ;rw[List.foldl_append];rfl
theorem vx {kvs:List (Key × V)}{ks:Nat→Key}{vals:Nat→Value}:∀n,n≤kvs.length→(∀i a,i<n→kvs[i]?=some a→a.1=ks i∧bn a.2 (vals i))→KV (bJ [] (kvs.take n)) (JjY ks n)
 | 0,_,_=>.nil
 | n+1,c,h=>by have b:=gG c;let⟨e,d⟩:=h n _ (Nat.lt_succ_self n) b;rw[pG,bE b,zL,←e];exact KV.put (vx n (by lia) λi a f=>h i a (by lia)) _ d
section
variable {X:Cx}
def pK (hc:Vq X.calm):JgN X "dict" (λxs H Q=>∃p ys kvs,xs=Vz p∧Jik H p ys∧JdA kvs.length∧(∀(i:Nat) y c,ys[i]?=some y→kvs[i]?=some c→∃a,QB y a∧JmC H a [kV c.1,c.2]) ∧
  ∀d,JiX d d (Xo H d (bJ [] kvs))):=by
 intro G s σ H xs us Q I r h;let⟨p,ys,kvs,rfl,Z,k,hT,q⟩:=h;let⟨u,rfl,R⟩:=eR r;cases (show Jl u p from R);let⟨b,v,⟨o,n,ho,F,E,l⟩,hz⟩:=I.list Z;have hl:b.length=kvs.length:=by rw[←k,v.length]
 have ex:∀i:Nat,∃t:Jbp (Key × Jhc Value),i<b.length→b[i]?=Ja t.1∧s.heap.IsTuple t.1 #[t.2.2.1,t.2.2.2]∧(Jkw X.w).is t.2.1 t.2.2.1=true∧∀c,kvs[i]?=some c→c.1=t.2.1∧bn c.2 t.2.2.2:=λi=>by
  by_cases x:i<b.length
  ·have C:ys[i]?=some ys[i]:=gG (by have:=v.length;lia);have J:kvs[i]?=some kvs[i]:=gG (by lia);let⟨a,ea,ha⟩:=hT i _ _ C J;rw[ea]at C;let⟨N,B,A⟩:=v.get C;cases (show Jl N a from A);let⟨Y,S,W,_⟩:=I.tuple ha;let⟨P,O,rfl,U,T⟩:=jL S;exact⟨(a,kvs[i].1,P,O),λ_=>⟨B,W,ir U,λc e=>by rw[J]at e;cases e;exact Jbm T⟩⟩
  ·exact⟨(0,.inl 0,.none,.none),λz=>VR x⟩
 let⟨f,L⟩:=Classical.axiomOfChoice ex;refine zB (knd:=Jkw X.w) (Ts:=λi=>(f i).1) (keys:=λi=>(f i).2.2.1) (vals:=λi=>(f i).2.2.2) (ks:=λi=>(f i).2.1) (I.ok.hd hc) ho F E l ?_ (λi x=>?_) λh' tk j M=>?_
 ·have:=v.length;simp only[sA];lia
 ·have D:i<b.length:=by simpa using x
  let⟨B,A,e3,_⟩:=L i D;exact⟨by simpa using B,A,e3⟩
 ·have g:=vx (kvs:=kvs) (vals:=λi=>(f i).2.2.2) kvs.length (nRq _) λi c x e=>(L i (by lia)).2.2.2 c e;rw[Jc_ _]at g;have es:b.toArray.size=kvs.length:=by simp only[sA];exact hl
  rw[es]at M;have z:(bJ [] kvs).length≤sizeLine:=by have B:=g.length;have A:=pH (λi=>(f i).2.1) (λi=>(f i).2.2.2) kvs.length;lia
  exact JnJ (XE s.heap.objs.size _) (t':=tk) j _ (kG z (beq_eq_false_iff_ne.mpr (Ne.symm (Nat.ne_of_lt I.big))) g M) (q _ (Q2 _))
def zM (J:Vq X.calm):J_ X "any" (λxs H Q=>∃(p:Addr) (bs:List Bool),xs=Vz p∧Jik H p (bs.map V.bl)∧Jx (bs.any id) H):=by
 intro l s N H xs us Q I r h;let⟨p,bs,rfl,B,q⟩:=h;let⟨u,rfl,w⟩:=eR r;cases (show Jl u p from w);let⟨a,k,pl,hz⟩:=I.list B;have F:=k.length;rw[lM]at F;have C:Qt p:=by let⟨o,D,_⟩:=pl.isList;exact hLq D
 have j:=Nat.ne_of_lt C;refine call_any_walk (JO pl.isList);refine⟨s.heap.objs.size,Jet p,[s.heap.objs.size],a.toArray.size,_,_,λi=>Jgo i,rfl,Jd8 (show Qu X.A.in1.handled from I.ok.hd J) _ p j,Jeb (JiY (Heap.get?_push_size _ rfl)) _,?_,λh' tk G=>?_⟩
 ·intro i v s' P R z L;have d:a[i]?=some v:=by simpa using z
  have g:=(gEq d).1;have c:bs[i]?=some (Jgo i):=by rw[List.getD_eq_getElem?_getD,gG (by lia)];rfl
  let⟨O,t,M⟩:=k.get (by rw[List.getElem?_map,c];rfl);rw[d]at t;cases t;cases (show Jas v _ from M);exact wpAny_truthy_bool L
 ·have e:(List.range a.toArray.size).any (λi=>Jgo i)=bs.any id:=by
   rw[Bool.eq_iff_iff,List.any_eq_true,List.any_eq_true];constructor
   ·rintro ⟨i,g,c⟩;have f:i<bs.length:=by have:=List.mem_range.mp g;simp only[sA]at this;lia
    rw[List.getD_eq_getElem?_getD,gG f]at c;exact⟨bs[i],List.getElem_mem f,c⟩
   ·rintro ⟨x,y,c⟩;let⟨i,g,rfl⟩:=List.mem_iff_getElem.mp y;refine Qj i (List.mem_range.mpr (by simp only[sA];lia));rw[List.getD_eq_getElem?_getD,gG g];exact c
  refine⟨.bl _,H,I.kept (t':=tk) λb o n=>G b o ?_ (JgM n),congrArg Value.bool e,q⟩;intro E;have:Jeg b:=by simpa using E
  exact Jg0 n (by rw[this];exact Nat.lt_irrefl _)
end
noncomputable def zcM (r:List Int):Dt:=.tup (r.map Dt.int)
theorem pL:∀ns:List Int,JdT (ns.map Dt.int)
 | []=>by simp [zaM]
 | n :: ns=>by simp only[List.map_cons,zaM,nol,Bool.true_and];exact pL ns
def zN (r):JiU (zcM r):=by simp only[zcM,nol,pL]
theorem dX:∀Rs:Vp Int,JdT (Rs.map zcM)
 | []=>by simp [zaM]
 | t :: T=>by simp only[List.map_cons,zaM,zN,Bool.true_and];exact dX T
def pM {K:W.Frag}{H:Hp}{r:List Int}{x:V}(h:Jif (zcM r) x):∃q,Jny q∧SqT K H q (r.map V.int):=by unfold zcM at h;simp only[Has]at h;let⟨a,xs,rfl,hs,b⟩:=h;rw[pF b]at hs;exact Qd a hs
def pN {K:W.Frag}{H:Hp}{r:List Int}{q:Addr}(h:Jfo q (r.map V.int)):Jbk K H (zcM r) q:=XC h r
def zO {K:W.Frag}{H:Hp}{Rs:List (List Int)}{xs:List V}{i:Nat}{x:V}(h:JkQ zcM)(e:xs[i]?=some x):∃r q,Rs[i]?=some r∧Jny q∧SqT K H q (r.map V.int):=by
 let⟨d,a,c⟩:=h.get e;rw[List.getElem?_map]at a;cases q:Rs[i]? with
 | none=>rw[q]at a;cases a
 | some t =>
  rw[q]at a;cases a;let⟨p,rfl,b⟩:=pM c;exact Xs t p rfl b
def vy {K:W.Frag}{H:Hp}{Rs:List (List Int)}{xs:List V}{i:Nat}{r:List Int}(h:JkQ zcM)(e:Rs[i]?=some r):∃q,xs[i]?=Ja q∧SqT K H q (r.map V.int):=by let⟨v,c,b⟩:=h.getD (by rw[List.getElem?_map,e];rfl);let⟨p,rfl,a⟩:=pM b;exact⟨p,c,a⟩
def jQ (K:W.Frag)(H:Hp)(q:Addr)(ps:List Int):Prop:=Jl_ H q V.int∨Jom q
def jQ.same {K:W.Frag}{H H':Hp}{q:Addr}{ps:List Int}(h:jQ K H q ps)(s:Xg H):jQ K H' q ps:=h.elim (λz=>.inl (s.seq z)) λz=>.inr (s.tup z)
def cA {ps:List Int}{i:Nat}{x:V}(h:(ps.map V.int)[i]?=some x):∃k,ps[i]?=some k∧x=.int k:=by
 rw[List.getElem?_map]at h;cases e:ps[i]? with
 | none=>rw[e]at h;cases h
 | some k =>
  rw[e]at h;exact Qd k ((Option.some.inj h).symm)
theorem iM (n):∀ps:List Int,Jne (.int n) V.int=decide (n∈ps)
 | []=>by simp [inV]
 | p :: ps=>by
  have a:=iM n ps;unfold inV at a ⊢;rw[List.map_cons,List.any_cons,a];show(p == n||decide _)=decide _;by_cases e:p=n
  ·subst e;simp
  ·have b:¬n=p:=λz=>e z.symm;simp [e,b]
def kH (ps:List Int):(ps.map V.int).all zeo=true:=by rw[List.all_eq_true];intro x a;let⟨n,_,rfl⟩:=List.mem_map.mp a;rfl
noncomputable def bp:Jj0 Int (Jj0 Int (List Int))
 | acc,[]=>acc
 | acc,p :: ps=>bp (if p∈acc then acc else acc++[p]) ps
theorem jn:∀ps acc,(bp acc ps).length≤acc.length+ps.length
 | [],acc=>by simp [bp]
 | p :: ps,acc=>by
  unfold bp;have h:=jn ps (if p∈acc then acc else acc++[p])
  split at h <;> simp only[lAq,List.length_cons,lS,List.length_nil]at h ⊢ <;> split <;> simp_all <;> lia
def vz {ps:List Int}{i:Nat}{k:Int}:∀ {acc:List Int},ps[i]?=some k→Jnf acc (i+1)=if k∈Jnf acc i then Jnf acc i else Jnf acc i++[k]:=by
 induction ps generalizing i with
 | nil=>intro acc h;simp at h
 | cons p ps a =>
  intro acc h;cases i with
  | zero =>
   simp at h;subst h;simp [bp]
  | succ i =>
   simp only[List.take_succ_cons,bp];exact a (by simpa using h)
theorem iu:∀ps acc,n∈bp acc ps↔n∈acc∨n∈ps
 | [],acc=>by simp [bp]
 | p :: ps,acc=>by
  unfold bp;rw[iu ps];by_cases e:p∈acc
  ·rw[if_pos e];constructor
   ·rintro (h | h)
    ·exact .inl h
    ·exact .inr (Xe h)
   ·rintro (h | h)
    ·exact .inl h
    ·rcases List.mem_cons.mp h with rfl | h
     ·exact .inl e
     ·exact .inr h
  ·rw[if_neg e];simp only[List.mem_append,List.mem_cons,List.not_mem_nil,or_false];exact or_assoc
theorem pO:∀ps acc,(acc++ps).Nodup→bp acc ps=acc++ps
 | [],acc,_=>by simp [bp]
 | p :: ps,acc,h=>by
  have a:p∉acc:=λb=>by have:=(List.nodup_append.mp h).2.2 p b p List.mem_cons_self;exact this rfl
  unfold bp;rw[if_neg a,pO ps _ (by simpa using h)];simp
structure dY (H:Hp)(d)(hs:List Int):Prop where
 ex:∃kvs:Jhg V,Jc2 d∧(∀n:Int,(JfU n).isSome=decide (n∈hs))∧JbA hs.length
def jR (kvs)(k:Key)(v):(JkR v).length≤JhW 1:=by
 unfold zaz;split
 ·rw[lM];lia
 ·rw[lAq];simp
def vA (kvs:Jhg V)(n m)(v):(Xu (Jba (Sum.inl n) v) m).isSome=(decide (m=n)||(JfU m).isSome):=by
 rw[jM];by_cases e:m=n
 ·rw[if_pos (by rw[e]),dTq e];rfl
 ·rw[if_neg (λz=>e (by injection z)),dFq e,Bool.false_or]
def dY.put (a:∀n:Int,(JfU n).isSome=decide (n∈hs))(b:JbA hs.length):dY (Xo H d (Jba (Sum.inl n) v)) d (hs++[n]):=by
 refine⟨_,ao,λm=>?_,?_⟩
 ·rw[vA,a];by_cases e:m=n
  ·subst e;simp
  ·simp [e]
 ·have:=jR kvs (Sum.inl n) v;rw[lAq];simp only[lS];lia
noncomputable def tkv (ps:List Int):Jhg V:=ps.map λp=>(Sum.inl p,V.bl true)
def jS:∀ps:List Int,(∀n:Int,(Xu (Jd4 ps) n).isSome=decide (n∈ps))∧(Jd4 ps).length≤ps.length:=by
 intro ps
 suffices h:∀kvs hs,(∀n:Int,(JfU n).isSome=decide (n∈hs))→JbA hs.length→(∀n:Int,(Xu (JaH kvs ps) n).isSome=decide (n∈hs++ps))∧(Jkx _).length≤(hs++ps).length by have:=h [] [] (λn=>by simp [zC]) (nRq _);simpa using this
 induction ps with
 | nil=>intro kvs hs a b;simpa [tkv,bJ] using ⟨a,b⟩
 | cons p ps c =>
  intro kvs hs a b;have e:JaH kvs (p :: ps)=bJ _ _:=rfl;rw[e,show hs++p :: ps=hs++[p]++ps by simp];refine c _ _ (λn=>?_) ?_
  ·rw[vA,a];by_cases e:n=p
   ·subst e;simp
   ·simp [e]
  ·have:=jR kvs (Sum.inl p) (.bl true);rw[lAq];simp only[lS];lia
def dY.of:dY (JgH H d ps) d ps:=⟨_,ao,(jS ps).1,(jS ps).2⟩
def dY.same (h:dY H d hs)(s:Xg H):dY H' d hs:=by let⟨kvs,c,b,a⟩:=h.ex;exact⟨kvs,s _ _ c,b,a⟩
def nf (b a:List Int):List Int:=JbJ (b.filter λp=>decide (-p∉a))
noncomputable def aY (Rs:Vp Int)(h:Int):List Int:=Rs.getD h.toNat []
theorem vB (a:Nat→Int):∀k,Jky (λi j=>decide (a i<a j))≤k∧∀i,i≤k→a (Jky (λi j=>decide (a i<a j)))≤a i
 | 0=>⟨nRq _,λi c=>by
   have e:i=0:=by lia
   subst e;exact Int.le_refl _⟩
 | k+1=>by
  let⟨f,d⟩:=vB a k;unfold argBest;by_cases e:a (k+1)<a (Jky (λi j=>decide (a i<a j)))
  ·rw[JeC e];refine⟨nRq _,λi c=>?_⟩;by_cases b:i=k+1
   ·rw[b];exact Int.le_refl _
   ·have:=d i (by lia);lia
  ·rw[if_neg (λz=>e (oDq z))];refine JgO (λi c=>?_);by_cases b:i=k+1
   ·rw[b];lia
   ·exact d i (by lia)
theorem pP (a:Nat→Int):∀k,Jky (λi j=>decide (a i > a j))≤k∧∀i,i≤k→a i≤a (Jky (λi j=>decide (a i > a j)))
 | 0=>⟨nRq _,λi c=>by
   have e:i=0:=by lia
   subst e;exact Int.le_refl _⟩
 | k+1=>by
  let⟨f,d⟩:=pP a k;unfold argBest;by_cases e:a (k+1) > a (Jky (λi j=>decide (a i > a j)))
  ·rw[JeC e];refine⟨nRq _,λi c=>?_⟩;by_cases b:i=k+1
   ·rw[b];exact Int.le_refl _
   ·have:=d i (by lia);lia
  ·rw[if_neg (λz=>e (oDq z))];refine JgO (λi c=>?_);by_cases b:i=k+1
   ·rw[b];lia
   ·exact d i (by lia)
def pQ {ns:List Int}{i:Nat}(h:JjD i):VN i∈ns:=by rw[List.getD_eq_getElem?_getD,gG h];exact List.getElem_mem h
def pR {ns:List Int}{n:Int}(h:n∈ns):∃i,JjD i∧VN i=n:=by let⟨i,a,e⟩:=List.mem_iff_getElem.mp h;exact⟨i,a,by rw[List.getD_eq_getElem?_getD,gG a];exact e⟩
section
variable {X:Cx}
def iv {ns:List Int}{a:List Value}(c:Joy a):∀i (v:Value),a.toArray[i]?=some v→∃t,v=.int (VN i) t:=λi v e=>by
 have b:a[i]?=some v:=by simpa using e
 have k:i<a.length:=(gEq b).1;have f:=c.length;rw[lM]at f;have g:ns[i]?=some (VN i):=by rw[List.getD_eq_getElem?_getD,gG (by lia)];rfl
 let⟨j,d,h⟩:=c.get (by rw[List.getElem?_map,g];rfl);rw[b]at d;cases d;exact h
def zP (E:Vq X.calm):J_ X "min" (λxs H Q=>∃p ns,xs=Vz p∧jQ X.K H p ns∧ns≠[]∧∀m,m∈ns→(∀n∈ns,m≤n)→Q7 m H):=by
 intro d s F H xs us Q I r h;let⟨p,ns,rfl,f,k,q⟩:=h;let⟨u,rfl,G⟩:=eR r;cases (show Jl u p from G);have z:∀ {a:List Value} {v:Value} {h':Heap} {tk:Nat},Joy a→a.toArray[argBest (λi j=>decide (VN i<VN j)) (Jea 1)]?=some v→(∀b o,s.heap.get? b=some o→h'.get? b=some o)→EP X d F Q v { s with heap:=h',toks:=tk }:=λ{a v h' tk} c y w=>by
  let⟨t,rfl⟩:=iv c _ _ y;have l:=c.length;rw[lM]at l;have J:=List.length_pos_iff.mpr k;have es:Jea 1=JoH 1:=by simp only[sA];lia
  rw[es];let⟨b1,b2⟩:=vB (λi=>VN i) (JoH 1);exact⟨.int _,H,I.kept (t':=tk) w,Vf t,q _ (pQ (by lia)) λn L=>by let⟨i,M,e⟩:=pR L;rw[←e];exact b2 i (by lia)⟩
 have J:JjD 0:=List.length_pos_iff.mpr k;rcases f with f | f
 ·let⟨a,c,pl,hz⟩:=I.list f;have l:=c.length;rw[lM]at l;have g:Qt p:=by let⟨o,C,_⟩:=pl.isList;exact hLq C
  refine call_min_walk (JO pl.isList);refine Jkz s.heap.objs.size (Jet p) [s.heap.objs.size] _ _ (λi j=>decide _) rfl (Jd8 (show Qu X.A.in1.handled from I.ok.hd E) _ p (Nat.ne_of_lt g)) (Jeb (JiY (Heap.get?_push_size _ rfl)) _) (λb x=>?_) (by simp only[sA];lia) (CmpOf.ints_lt (λi=>VN i) (iv c)) (λv h' tk y w=>z c y λb o e=>w b o (λD=>?_) (JgM e))
  ·rw[Heap.size_push];simp only[List.mem_cons,List.not_mem_nil,or_false]at x;rcases x with rfl | rfl
   ·exact Nat.lt_succ_self _
   ·exact Nat.lt_succ_of_lt g
  ·have:Jeg b:=by simpa using D
   exact absurd (hLq e) (by rw[this];exact Nat.lt_irrefl _)
 ·let⟨a,c,pl,hz⟩:=I.tuple f;have l:=c.length;rw[lM]at l;have B:=pl;have g:Qt p:=by let⟨o,C,_⟩:=id B;exact hLq C
  refine call_min_walk (JcA B);refine Jkz s.heap.objs.size (Jet p) [s.heap.objs.size] _ _ (λi j=>decide _) rfl (Ji8 (show Qu X.A.in1.handled from I.ok.hd E) _ p g a.toArray) ⟨JiY (Heap.get?_push_size _ rfl),B.push _⟩ (λb x=>?_) (by simp only[sA];lia) (CmpOf.ints_lt (λi=>VN i) (iv c)) (λv h' tk y w=>z c y λb o e=>w b o (λD=>?_) (JgM e))
  ·rw[Heap.size_push];simp only[List.mem_cons,List.not_mem_nil,or_false]at x;rcases x with rfl | rfl
   ·exact Nat.lt_succ_self _
   ·exact Nat.lt_succ_of_lt g
  ·have:Jeg b:=by simpa using D
   exact Jg0 e (by rw[this];exact Nat.lt_irrefl _)
def zQ (E:Vq X.calm):J_ X "max" (λxs H Q=>∃p ns,xs=Vz p∧jQ X.K H p ns∧ns≠[]∧∀m,m∈ns→(∀n∈ns,n≤m)→Q7 m H):=by
 intro d s F H xs us Q I r h;let⟨p,ns,rfl,f,k,q⟩:=h;let⟨u,rfl,G⟩:=eR r;cases (show Jl u p from G);have z:∀ {a:List Value} {v:Value} {h':Heap} {tk:Nat},Joy a→a.toArray[argBest (λi j=>decide (VN i > VN j)) (Jea 1)]?=some v→(∀b o,s.heap.get? b=some o→h'.get? b=some o)→EP X d F Q v { s with heap:=h',toks:=tk }:=λ{a v h' tk} c y w=>by
  let⟨t,rfl⟩:=iv c _ _ y;have l:=c.length;rw[lM]at l;have J:=List.length_pos_iff.mpr k;have es:Jea 1=JoH 1:=by simp only[sA];lia
  rw[es];let⟨b1,b2⟩:=pP (λi=>VN i) (JoH 1);exact⟨.int _,H,I.kept (t':=tk) w,Vf t,q _ (pQ (by lia)) λn L=>by let⟨i,M,e⟩:=pR L;rw[←e];exact b2 i (by lia)⟩
 have J:JjD 0:=List.length_pos_iff.mpr k;rcases f with f | f
 ·let⟨a,c,pl,hz⟩:=I.list f;have l:=c.length;rw[lM]at l;have g:Qt p:=by let⟨o,C,_⟩:=pl.isList;exact hLq C
  refine call_max_walk (JO pl.isList);refine Jkz s.heap.objs.size (Jet p) [s.heap.objs.size] _ _ (λi j=>decide _) rfl (Jd8 (show Qu X.A.in1.handled from I.ok.hd E) _ p (Nat.ne_of_lt g)) (Jeb (JiY (Heap.get?_push_size _ rfl)) _) (λb x=>?_) (by simp only[sA];lia) (Jg3 (λi=>VN i) c) (λv h' tk y w=>z c y λb o e=>w b o (λD=>?_) (JgM e))
  ·rw[Heap.size_push];simp only[List.mem_cons,List.not_mem_nil,or_false]at x;rcases x with rfl | rfl
   ·exact Nat.lt_succ_self _
   ·exact Nat.lt_succ_of_lt g
  ·have:Jeg b:=by simpa using D
   exact absurd (hLq e) (by rw[this];exact Nat.lt_irrefl _)
 ·let⟨a,c,pl,hz⟩:=I.tuple f;have l:=c.length;rw[lM]at l;have B:=pl;have g:Qt p:=by let⟨o,C,_⟩:=id B;exact hLq C
  refine call_max_walk (JcA B);refine Jkz s.heap.objs.size (Jet p) [s.heap.objs.size] _ _ (λi j=>decide _) rfl (Ji8 (show Qu X.A.in1.handled from I.ok.hd E) _ p g a.toArray) ⟨JiY (Heap.get?_push_size _ rfl),B.push _⟩ (λb x=>?_) (by simp only[sA];lia) (Jg3 (λi=>VN i) c) (λv h' tk y w=>z c y λb o e=>w b o (λD=>?_) (JgM e))
  ·rw[Heap.size_push];simp only[List.mem_cons,List.not_mem_nil,or_false]at x;rcases x with rfl | rfl
   ·exact Nat.lt_succ_self _
   ·exact Nat.lt_succ_of_lt g
  ·have:Jeg b:=by simpa using D
   exact Jg0 e (by rw[this];exact Nat.lt_irrefl _)
end
def tLCG (k:TI)(L:Nat)(ix:List Nat)(g:TG)(te:TE):TE:=λe H Q=>k e H λJ j=>∀D,Qu (j D) →
 ∃W:Nat→Nat→List V→Hp→Prop,(∃m,JjI 0 m [] j D []) ∧
  ∀i m ys H',W i m ys H'→JkP D ∧
   ((JoV H' (Xl D H'))∨(JjA H'∧∀x d,Jmh d→∀b:St,b.length=L→g x (b++Jh4 e) d λc l=>∃a:St,a.length=L∧c=a++Jh4 e∧te c l λy h =>
    h D=Jm_ ys∧JaM ys.length∧∃f,f<m∧JjI (i+1) f (ys++[y]) h D (ys++[y])))
section
variable {X:Cx} {N':List Str} {scope:Scope} {elt iter tg:Expr} {L:Nat} {pos:Pos} {wi:TI} {g:TG} {te:TE} {ix:List Nat}
def pe_lcg (s:Vq X.calm)(d:Jdy scope.kind)(e:∀y∈scope.names,Jls y.2)(c:∀y∈scope.names,y.2=.local→Jde y.1)
  (k:X.Ok→∃l,Jdz X l)(f:Jlu L)
  (n:∀j i,ix[j]?=some i→∃y,X.N[i]?=some y∧N'[L+j]?=some y∧(Jd1 y∨Jd0 y)∧((Vs X.env).names.lookup y=some .cell∨(Vs X.env).names.lookup y=some .free))
  (p:Jox X tg)(q:∀l o a b,PG (Jj8 l o) tg g)(r:∀l o a b,PE (Jj8 l o) elt te)(hs:∀v,JiV v=pure v:=by intro _;rfl) :
  PE X (JnO []) (tLCG wi L ix g te) :=
 pf (by simp) s d e c k f n p q tst0 r hs λ_ _ _ _ h=>h
def zR (q:X.N.Nodup)(o:X.N[i]?=some y0)(s:Ja3 y0)(z:Vq X.calm)(d:Jdy scope.kind)(e:∀y∈scope.names,Jls y.2)(c:∀y∈scope.names,y.2=.local→Jde y.1)
  (k:X.Ok→∃l,Jdz X l)(f:Jlu L)
  (p:∀j i,ix[j]?=some i→∃y,X.N[i]?=some y∧N'[L+j]?=some y∧(Jd1 y∨Jd0 y)∧((Vs X.env).names.lookup y=some .cell∨(Vs X.env).names.lookup y=some .free))
  (t:Jox X tg)(u:∀l r a b,PG (Jj8 l r) tg g)(x:∀l r a b,PE (Jj8 l r) elt te)(n:JiG (JnO []) (JhK y0) spos.line=pure true:=by rfl)
  (w:JdS y0∨X.env.scope.names.lookup y0=some .local:=by first | exact .inl rfl | exact .inr rfl | assumption)(hs:∀v,JiV v=pure v:=by intro _;rfl) :
  PS X (JhG (JhK y0) (JnO []) spos) (Jlr (tLCG wi L ix g te) i) :=
 vm q o s (by simp) z d e c k f p t u tst0 x n w hs λ_ _ _ _ h=>h
end
def vC {J:It}{n:Nat}{u:Hp→Prop}{L:Nat}{g:TG}{te:TE}{fv:St}{w:Hp}{D:Addr}{R:Hp→Prop}(W:Wk J n u)(f)(j:∀i ys H,f i ys H→u H)(h0:f 0 [] (Va w D []))
  (h:∀i ys H x H',i<n→JeJ i→XD D ys→f i ys H→Jmg H H'→∀a:St,a.length=L→g x (a++fv) H' λc s=>∃b:St,b.length=L∧c=b++fv∧te c s (mq n D f i ys))
  (r:∀ys H,XD D ys→f n ys H→R H) :
  ∃W:Nat→Nat→List V→Hp→Prop,(∃m,JjI 0 m [] w D [])∧∀i m ys H',W i m ys H'→JkP D ∧
   ((JoV H' (R H'))∨(JjA H'∧∀x d,Jmh d→∀a:St,a.length=L→g x (a++fv) d λc s=>∃b:St,b.length=L∧c=b++fv∧te c s λy v =>
    v D=Jm_ ys∧JaM ys.length∧∃t,t<m∧JjI (i+1) t (ys++[y]) v D (ys++[y]))):=by
 refine Qj (LcW n D f) (QT n (Nat.zero_le _) (Nat.zero_le _) ao h0);rintro i m ys H' ⟨rfl,l,z,q,p⟩;refine VI q;rcases Nat.lt_or_ge i n with k | o
 ·exact .inr ⟨W.go i H' (j i ys H' p) k,λx d y a h0=>h i ys H' x d k z q p y a h0⟩
 ·have e:=Nat.le_antisymm l o;subst e;exact Qr (W.stop i H' (j i ys H' p) (nRq _)) (r ys H' q p)
def Inv.turnedLaid {X:Cx}{d:List (Jbp Obj)}{t:St}{H:Hp}{s:Shared}{h':Heap}{l:List Addr}{a:Addr}{o:HO}{t':Nat}(I:JmT d t)(j:∀b∈l,eg X d H b)(k:∀b u,b∉l→s.heap.get? b=some u→h'.get? b=some u)(x:JhF a)(p:JcJ (Jnz o) h' a o) :
  Inv X d t (Jnz o) { s with heap:=h',toks:=t' }:=by
 have i:=I.hok.fresh x;have g:∀b u,Jin b u (b∉l):=λb u e z=>by rw[(j b z).1]at e;cases e
 have y:JiJ l H (Jnz o) h':=⟨λb u q _ _ h=>k b u h q,λb u q _ _ h=>⟨u.slots,k b u h q⟩,λb u q n _=>by rw[aq (Jab q x)];exact n,λb u q h=>⟨u,k b u h q⟩,λb xs q=>by rw[Jm2 i];exact q,λb u xs q=>by rw[Jm2 i];exact q,λb ps q=>⟨#[],by rw[Jm2 i,q];simp⟩⟩
 have r:JhC (Jnz o) h':=λb u e=>by
  by_cases f:b=a
  ·subst f;rw[ao]at e;cases e;exact p
  ·rw[aq f]at e;refine(Jk6 u e).stay (λc v A q=>k c v ?_ q) (λc q=>by rw[Jm2 i];exact q) λc xs q=>by rw[Jm2 i];exact q
   rcases A with z | z
   ·rw[z];exact g b u e
   ·exact g c _ z
 exact I.call (g':=s.gens) (d':=s.drawn) y r I.bare λb f=>⟨(j b f).2.2.2.1,(j b f).2.1,(j b f).2.2.2.2.1,(j b f).2.2.2.2.2⟩
def Ite (K:W.Frag)(a:Addr):It :=
 ⟨λi H=>∃xs x,Jcr a∧xs[i]?=some x,λi H x H'=>∃p y,Jny p∧Vu p∧H'=Jt H p (Jc8 i y)∧∀xs,Jcr a→xs[i]?=some y,λi H=>∃xs,Jcr a∧JhH i⟩
def mz {K:W.Frag}{a:Addr}{xs:List V}:Jhf (Ite K a) (λH=>Jcr a):=⟨λ_ _ h b=>⟨xs,h,b⟩,λi _ h b=>⟨xs,xs[i],h,by simp [b]⟩⟩
def zS {P:Program}{w:World}{K:W.Frag}{A:List Expr}{x1:Nat}{J:Pos}(a e it)(r:e≠it):gS P w K (.Tuple A x1 J) (Ite K a) [e,it] e (λi h=>(∃c,IsEnum h e it (i:Int) c)∧JeY it a) where
 mem:=by simp
 obj:=λi h st b d=>by
  let⟨⟨c,g⟩,o,R,Y,hd⟩:=st;rcases List.mem_cons.mp d with rfl | d
  ·exact JnP g (λv z=>by have z':=z;cases z')
  ·have e':=mS d;subst e';exact⟨o,R,λv z=>by rw[hd]at z;cases z⟩
 keep:=λi h h' st k=>⟨by let⟨c,g⟩:=st.1;exact⟨c,JaL e _ g⟩,st.2.at λo q=>JaL it o q⟩
 item:=by
  intro X hP O hK Y i l s σ H E I C st T;subst hP O hK;let⟨xs,x,B,N⟩:=T;let⟨M,G,p,hz⟩:=I.list B;let⟨u,hu,ru⟩:=G.get N;let⟨⟨c,g⟩,j⟩:=st;let⟨oi,Q,hci,hdi⟩:=id j;refine wpAny_pyNext_enum_item g j p.isList (by simpa using hu) r λh' R F hT hsz hk=>?_;refine QI (wpAny_letOwnedTupleGo_enum R λD U f=>?_);replace f:Heap.SameBut e h' D:=f;have t:=hLq g;have S:=hLq Q;have hT2:=(f.2 _ (Nat.ne_of_gt t)).trans hT;have kk:∀b o,b∉[e,it]→s.heap.get? b=some o→D.get? b=some o:=λb o d q=>by have y:b≠e:=λz=>d (by simp [z]);have Z:b≠it:=λz=>d (by simp [z]);exact(f.2 b y).trans (hk b o y Z q)
  have L:JlP (Jlh H (Jc8 i x)) D (.tup (Jc8 i x)):=by
   refine⟨?_,[JnV i,u],JeU (Vf _) ru,_,hT2,?_⟩
   ·exact Nat.le_of_lt (cR (show Q3 2 by decide))
   ·first | exact Jbn rfl _ rfl | exact Jbz rfl _ | exact Vf rfl
  refine⟨.ref s.heap.objs.size,_,I.turnedLaid (t':=s.toks+1) C kk (nRq _) L,rfl,⟨_,x,rfl,I.fresh,rfl,λys hy=>by rw[I.list_inj hy B];exact N⟩,VI ⟨u,by simpa using U⟩,?_⟩
  ·exact F.at λo q=>(f.2 it (Ne.symm r)).trans q
  ·intro b d;have n:Qt b:=by
    rcases List.mem_cons.mp d with rfl | d
    ·exact t
    ·rw[mS d];exact S
   rw[Jk5 n];exact(C b d).1
 done:=by intro X hP O hK Y i l s σ H E I C st T;subst hP O hK;let⟨xs,B,N⟩:=T;let⟨M,G,p,hz⟩:=I.list B;let⟨⟨c,g⟩,j⟩:=st;let⟨f0,f1,f2,f3,f4,f5⟩:=C it (by simp);have hl:=G.length;exact wpAny_pyNext_enum_end (I.ok.hd Y) g j p.isList (by simp;lia) λh' eb=>Jcd (t':=s.toks) (λb o d q=>eb b o d q) f0 f1 f3 f4 f5
 self:=λ_ _ _ _ _ st h=>by let⟨⟨c,g⟩⟩:=st;exact wpAny_pyIter_enum g h
section
variable {X:Cx}
def iEnum (K:W.Frag)(d:TA):TI:=λc H R=>d c H λvs b=>∃a,vs=Vz a∧(∃xs,Jby b a)∧R (Ite K a) b
def mD {i:List Expr}{v:Nat}{y:Pos}{a:Expr}{o:TA}{p f:Pos}(E:Gl X "enumerate")(D:Jcy "enumerate")(F:PA X [a] o)(hs:Vc [a]=[(false,Vg a)]:=by rfl):PI X (.Tuple i v y) (JJ "enumerate" p [a] [] f) (iEnum X.K o):=by
 intro c s n H R I h;refine Joh I E D boot_enumerate (thn (F f c s n H _ I h) λus d h_=>?_) hs rfl;let⟨vs,t,j,x,q1⟩:=h_;let⟨a,e,⟨xs,C⟩,q⟩:=q1;subst e;let⟨u,rfl,w⟩:=x.one;cases w;let⟨A,J,p,hz⟩:=j.list C;refine call_enumerate_list p.isList λh' r k B z=>?_;refine wpAny_pyIter_enum r ?_;have G:=j.kept (t':=d.toks) z;refine Jhr _ [d.heap.objs.size+1,d.heap.objs.size] _ (Ite X.K a) t G (zS a _ d.heap.objs.size (Nat.succ_ne_self _)) ⟨V8 r,k⟩ (λb l=>?_) q;have g:d.heap.objs.size≤b:=by
  rcases List.mem_cons.mp l with rfl | l
  ·lia
  ·rw[mS l];exact nRq _
 exact j.fpOk g (j.hok.fresh g)
def vD (n)(K)(d:X.K=K)(c:Vq X.calm)(h:PGs X es t)
  (b:(Jbg es).length=n:=by rfl)(a:(Jbg es).findIdx? (·.1)=none:=by rfl):PG X (JjT es k) (gTup K n t):=by subst d;exact gR c h b a
inductive rIsT (K):List V→Hp→VK→Prop|m{xs H Q} p ys n b:xs=JfJ p (.ty n)→Jfo p ys→Jf1 K "tuple" n b→Jx b H→rIsT K xs H Q
def mE:JgE X (rIsT X.K):=by intro a s l H xs us Q I r h;let⟨p,ys,n,b,rfl,g,i,q⟩:=h;let⟨u,c,rfl,e,d⟩:=jL r;cases (show JiN c n from d);cases e;let⟨f,t,⟨o,k,j,_⟩,hz⟩:=I.tuple g;exact W.kia_one W.kitx_tuple I.kIn ⟨o,k,j⟩ i (λz=>nomatch z) λtk=>Jmp b _ q
def vE:JgE X (λxs H Q=>∃p ys n b,xs=JfJ p (.ty n)∧Jik H p ys∧Jf1 X.K "list" n b∧Jx b H):=by intro a s l H xs us Q I r h;let⟨p,ys,n,b,rfl,g,i,q⟩:=h;let⟨u,c,rfl,e,d⟩:=jL r;cases (show JiN c n from d);cases e;let⟨f,t,pp,hz⟩:=I.list g;let⟨o,k,j,_⟩:=pp.isList;exact W.kia_one W.kitx_list I.kIn ⟨o,k,j⟩ i (λz=>nomatch z) λtk=>Jmp b _ q
end
end L2
namespace L2
open PySem
def opn (a hs:List Int):List Int:=JbJ (a.filter λp=>decide (p∉hs)&&decide (-p∉hs))
noncomputable def left (U hs:List Int):Nat:=(U.filter λp=>decide (p∉hs)).length
def zT:a∈opn row hs↔a∈row∧a∉hs∧-a∉hs:=by unfold opn;rw[iu,List.mem_filter];simp
noncomputable def dQT (p:Int):Dt:=.tup (JgJ p)
theorem pS:∀ps:List Int,JdT (ps.map dQT)
 | []=>by simp [zaM]
 | t :: ts=>by simp only[List.map_cons,zaM,dQT,nol,Bool.true_and];exact pS ts
def zU (h:Jif (dQT p) v):∃a,QB v a∧SqT K H a (JgJ p):=by unfold dQT at h;simp only[Has,ar]at h;let⟨a,xs,rfl,hs,c,r,rfl,rfl,b,d,rfl,rfl,rfl⟩:=h;exact Qd a hs
def vF (h:Jfo a (JgJ p)):Jbk K H (dQT p) a:=Has.tup' h (JeU .int (by simp only[Has]))
def vG (h:J7 (ps.map dQT) ys):ys.length=(tkv ps).length∧∀(i:Nat) y c,ys[i]?=some y→(tkv ps)[i]?=some c→∃a,QB y a∧SqT K H a [kV c.1,c.2]:=by
 have f:JdA ps.length:=by rw[←h.length,lM]
 refine⟨by rw[f];simp [tkv],λi y c j b=>?_⟩;let⟨d,e,g⟩:=h.get j;unfold tkv at b;rw[List.getElem?_map]at b e;cases q:ps[i]? with
 | none=>rw[q]at b;cases b
 | some p =>
  rw[q]at b e;cases b;cases e;exact zU g
structure TrOk (m)(ts:V3 Int):Prop where
 rng:∀t∈ts,t.1≠0∧-m≤t.1∧t.1≤m
 con:∀x∈ts.map Prod.fst,-x∉ts.map Prod.fst
def TrOk.nil:TrOk m []:=⟨λ_ h=>QN h,λ_ h=>QN h⟩
noncomputable def ins {a:Type}(xs:List a)(i:Nat)(y:a):List a:=xs.take i++y :: xs.drop i
def vH:z∈ins xs i y↔z=y∨z∈xs:=by
 unfold ins;rw[List.mem_append,List.mem_cons];constructor
 ·rintro (h | h | h)
  ·exact .inr (List.mem_of_mem_take h)
  ·exact .inl h
  ·exact .inr (List.mem_of_mem_drop h)
 ·rintro (h | h)
  ·exact .inr (.inl h)
  ·rw[←JdW xs]at h;rcases mPq h with h | h
   ·exact .inl h
   ·exact Jnb h
def zV (xs)(i)(y:α):(ins xs i y).length=xs.length+1:=by unfold ins;rw[lAq,List.length_cons,List.length_take,List.length_drop];lia
theorem ar.ins (h:Jor v):∀i {c:List Dt} {vs:List V},J7 c vs→J7 (L2.ins c i d) (L2.ins vs i v)
 | 0,_,_,b=>.cons h b
 | i+1,[],vs,b=>by
  have e:vs=[]:=by have:=b.length;cases vs with | nil=>rfl | cons a t=>cases this
  subst e;exact Jdx h
 | i+1,d' :: c,vs,b=>by
  cases vs with
  | nil=>have:=b.length;cases this
  | cons j vs =>
   simp only[ar]at b;let⟨u,us,q,g,f⟩:=b;cases q;exact .cons g (ar.ins h i f)
def cH (d:Addr)(H H':Hp):Prop:=∀b o,b≠d→Jiv b o b o
def cH.refl (d)(H):cH d H H:=λ_ _ _ h=>h
def cH.trans (a:cH d H H1)(b:cH d H1 H2):cH d H H2:=λc o n h=>b c o n (a c o n h)
def ap.x (s:Xg H)(d):cH d H H':=λb o _ h=>s b o h
def cH.put (H)(o):cH d H (XE d o):=λb u n h=>by rw[aq n];exact h
def cH.kt (s:cH d H H')(h:Jc2 d):JoG H':=λb us z=>by
 have a:b≠d:=λe=>by
  rw[e]at z;rcases z with z | ⟨o,z⟩
  ·rw[h]at z;cases z
  ·rw[h]at z;cases z
 rcases z with z | ⟨o,z⟩
 ·exact .inl (s _ _ a z)
 ·exact JaF o (s _ _ a z)
def dY.ne (h:dY H d hs)(a:Je7 l):l≠d:=λe=>by let⟨kvs,b,_⟩:=h.ex;rw[e,b]at a;cases a
def cH.lst (s:cH d H H')(h:dY H d hs)(a:Je7 l):H' l=some (.lst xs):=s _ _ (h.ne a) a
end L2
namespace L2
open PySem PySem.Spec PyProof.Rows
noncomputable def Itv (K:W.Frag)(a:Addr)(n:Nat):It :=
 ⟨λi H=>i<n∧∃xs,Jcr a∧Ja0 n,λi H x H'=>H'=H∧∀xs,Jcr a→xs[n-1-i]?=some x,λi H=>n≤i⟩
def pT {K:W.Frag}{a:Addr}{xs:List V}:Jhf (Itv K a xs.length) (λH=>Jcr a):=⟨λ_ _ _ b=>b,λ_ _ h b=>⟨b,xs,h,rfl⟩⟩
def zW {P:Program}{w:World}{K:W.Frag}{O:Expr}(a it)(n):gS P w K O (Itv K a n) [it] it (λi h=>i≤n∧h.IsRevIter it a ((n:Int)-1-(i:Int))) where
 mem:=by simp
 obj:=λi h st b j=>by
  have e:b=it:=by simpa using j
  subst e;let⟨_,o,e,c,d⟩:=st;exact⟨o,e,λv z=>by rw[d]at z;cases z⟩
 keep:=λi h h' st k=>⟨st.1,st.2.at λo e=>JaL it o e⟩
 item:=by
  intro X A t B N i g s L H E I r st y;subst A t B;let⟨Z,xs,M,hl⟩:=y;let⟨T,R,p,hz⟩:=I.list M;have q:JhX (n-1-i):=by lia
  let⟨u,Y,S⟩:=R.get (gG q);let⟨J,G,f2,F,D,C⟩:=r it (by simp);have e:(n:Int)-1-(i:Int)=((n - 1 - i:Nat):Int):=by lia
  have f:=st.2;rw[e]at f;refine wpAny_pyNext_rev_item f p.isList (by simpa using Y) λh' l Q=>?_;have I1:=I.turned (t':=s.toks) (λb o j e=>(Q.2 b j).trans e) J G F D C;let⟨o,e1,c,d⟩:=id l;refine Qd u (Jem e1 c d ⟨xs[n-1-i],H,I1,S,Jbm (λys U=>by rw[I.list_inj U M];exact gG q),VI (by lia),λb j=>(r b j).1⟩);have e2:(n:Int)-1-((i+1:Nat):Int)=((n - 1 - i:Nat):Int)-1:=by lia
  rw[e2];exact l
 done:=by
  intro X A t B N i g s L H E I r st y;subst A t B;let⟨J,G,f2,F,D,C⟩:=r it (by simp);have Z:i=n:=Nat.le_antisymm st.1 y;have f:=st.2;have e:(n:Int)-1-(i:Int)=-1:=by lia
  rw[e]at f;exact wpAny_pyNext_rev_end (I.ok.hd N) f λh' eb=>Jcd (t':=s.toks) (λb o j e=>eb b o j e) J G F D C
 self:=λ_ _ _ _ _ st h=>wpAny_pyIter_revIter st.2 h
def Itz (K:W.Frag)(a b:Addr):It :=
 ⟨λi H=>∃xs ys x y,Jcr a∧Jz H b ys∧xs[i]?=some x∧ys[i]?=some y,λi H x H'=>∃p y z,Jny p∧Vu p∧H'=Jt H p [y,z]∧(∀xs,Jcr a→xs[i]?=some y)∧∀ys,Jz H b ys→ys[i]?=some z,
  λi H=>∃xs ys,Jcr a∧Jz H b ys∧(JhH i∨JeJ i)⟩
def vI {K:W.Frag}{a b:Addr}{xs ys:List V}(h:Ja0 ys.length):Jhf (Itz K a b) (λH=>Jcr a∧Jz H b ys) :=
 ⟨λ_ _ q c=>⟨xs,ys,q.1,q.2,.inl c⟩,λi _ q c=>⟨xs,ys,xs[i],ys[i]'(by lia),q.1,q.2,by simp [c],by simp⟩⟩
def zX {P:Program}{w:World}{K:W.Frag}{U:List Expr}{x1:Nat}{pos:Pos}(a b z TI TO j g)(D:ZipApart z TI TO j g a b):gS P w K (JjT U x1) (Itz K a b) [z,TI,TO,j,g] z
  (λi h=>IsZip h z TI TO .none∧IsPair h TI (.ref j) (.ref g)∧(∃u v,IsPair h TO u v)∧JeY j a∧JeY g b) where
 mem:=by simp
 obj:=λi h st c f=>by
  let⟨G,t,⟨u,v,F⟩,⟨o4,C,c4,d4⟩,⟨o5,B,c5,d5⟩⟩:=st;simp only[List.mem_cons,List.not_mem_nil,or_false]at f;rcases f with rfl | rfl | rfl | rfl | rfl
  ·exact JnP G (λv q=>by have N:=q;cases N)
  ·exact JnP t (λv q=>by have N:=q;cases N)
  ·exact JnP F (λv q=>by have N:=q;cases N)
  ·exact⟨o4,C,λv q=>by rw[d4]at q;cases q⟩
  ·exact⟨o5,B,λv q=>by rw[d5]at q;cases q⟩
 keep:=λi h h' st k=>by let⟨G,t,⟨u,v,F⟩,C,B⟩:=st;exact⟨JaL z _ G,JaL TI _ t,⟨u,v,JaL TO _ F⟩,C.at λo q=>JaL j o q,B.at λo q=>JaL g o q⟩
 item:=by
  intro X hP hw hK f i O s σ H E I A st hg;subst hP hw hK;let⟨xs,ys,x,y,hq,l,Z,hy⟩:=hg;let⟨its,rv,p,hz⟩:=I.list hq;let⟨R,J,p2,hz2⟩:=I.list l;let⟨u,hu,ru⟩:=rv.get Z;let⟨v,hv,rw'⟩:=J.get hy;let⟨G,t,⟨u0,v0,F⟩,C,B⟩:=st;have lz:=hLq G;have lTI:Qt TI:=hLq t;have lTO:Qt TO:=hLq F;have l1:Qt j:=by let⟨o,e,_⟩:=id C;exact hLq e
  have l2:Qt g:=by let⟨o,e,_⟩:=id B;exact hLq e
  refine wpAny_pyNext_zip_item D G t F C B p.isList p2.isList (by simpa using hu) (by simpa using hv) λh' g1 g3 g4 g5 gT gz M=>?_;refine QI (wpAny_letOwnedTupleGo_zip g1 λT g6 hs=>?_);replace hs:Heap.SameBut z h' T:=hs;have hT:=(hs.2 _ (Nat.ne_of_gt lz)).trans gT;have kk:∀c o,c∉[z,TI,TO,j,g]→s.heap.get? c=some o→T.get? c=some o:=λc o f q=>by have n1:c≠z:=λe=>f (by simp [e]);have n3:c≠TO:=λe=>f (by simp [e]);have n4:c≠j:=λe=>f (by simp [e]);have n5:c≠g:=λe=>f (by simp [e]);exact(hs.2 c n1).trans (M c o n1 n3 n4 n5 q)
  have new:JlP (Jlh H [x,y]) T (.tup [x,y]) :=
   ⟨Jg2 (show Q3 2 by decide),[u,v],JeU ru rw',_,hT,rfl,_,rfl⟩
  have gTI:=(hs.2 TI D.TIz).trans (M TI _ D.TIz D.TITO D.TIi1 D.TIi2 t);refine⟨.ref s.heap.objs.size,_,I.turnedLaid (t':=s.toks) A kk (nRq _) new,rfl,JcX _ x y I.fresh rfl (λzs L=>by rw[I.list_inj L hq];exact Z) (λzs L=>by rw[I.list_inj L l];exact hy),⟨g6,gTI,JnP _ ((hs.2 TO D.TOz).trans g3),g4.at λo q=>(hs.2 j D.i1z).trans q,g5.at λo q=>(hs.2 g D.i2z).trans q⟩,λc f=>?_⟩;have lc:Qt c:=by have S:=f;simp only[List.mem_cons,List.not_mem_nil,or_false]at S;rcases S with rfl | rfl | rfl | rfl | rfl <;> assumption
  rw[Jk5 lc];exact(A c f).1
 done:=by
  intro X hP hw hK f i O s σ H E I A st hg;subst hP hw hK;let⟨xs,ys,hq,l,Z⟩:=hg;let⟨its,rv,p,hz⟩:=I.list hq;let⟨R,J,p2,hz2⟩:=I.list l;let⟨G,t,⟨u0,v0,F⟩,C,B⟩:=st;have hl:=rv.length;have hl2:=J.length;refine wpAny_pyNext_zip_end (I.ok.hd f) D G t F C B p.isList p2.isList (Z.elim (λq=>.inl (by simp;lia)) λq=>.inr (by simp;lia)) λh' M=>VI rfl;have un:JiJ [z,TI,TO,j,g] H H h':=⟨λc o q _ _ f=>M c o (λe=>f (by simp [e])) (λe=>f (by simp [e])) (λe=>f (by simp [e])) (λe=>f (by simp [e])) q,λc o q _ _ f=>⟨o.slots,M c o (λe=>f (by simp [e])) (λe=>f (by simp [e])) (λe=>f (by simp [e])) (λe=>f (by simp [e])) q⟩,λ_ _ _ n _=>n,λc o q f=>⟨o,M c o (λe=>f (by simp [e])) (λe=>f (by simp [e])) (λe=>f (by simp [e])) (λe=>f (by simp [e])) q⟩,λ_ _ q=>q,λ_ _ _ q=>q,λ_ ps q=>⟨#[],by rw[q];simp⟩⟩
  have Q:∀c u,Jin c u (c∉[z,TI,TO,j,g]):=λc u e q=>by rw[(A c q).1]at e;cases e
  have hok:JhC H h':=λc u e=>by
   refine(I.hok c u e).stay (λd v hd q=>?_) (λ_ q=>q) λ_ _ q=>q;have Y:d∉[z,TI,TO,j,g]:=by
    rcases hd with r | r
    ·rw[r];exact Q c u e
    ·exact Q d _ r
   exact M d v (λe=>Y (by simp [e])) (λe=>Y (by simp [e])) (λe=>Y (by simp [e])) (λe=>Y (by simp [e])) q
  exact I.call (g':=s.gens) (d':=s.drawn) (t':=s.toks) un hok I.bare λc f=>⟨(A c f).2.2.2.1,(A c f).2.1,(A c f).2.2.2.2.1,(A c f).2.2.2.2.2⟩
 self:=λ_ _ _ _ _ st h=>wpAny_pyIter_zip st.1 h
def Inv.freeze (I:QD s)(h:Jc2 d)(k:s.heap.get? d=some o):Vy (XE d (Jh1 o)) s:=by
 have f:∀b u,Jin b u (u≠.dK kvs→b≠d):=λb u e n z=>by rw[z,h]at e;cases e;exact n rfl
 have u:JeH X.fs [] H (XE d (Jh1 o)) s.heap:=⟨λb a q _ _ _=>q,λb a q _ _ _=>⟨a.slots,q⟩,λb a q n _=>by rw[aq (λz=>by rw[z,h]at n;cases n)];exact n,λb a q _=>⟨a,q⟩,λb xs q=>by rw[aq (f b _ q (by intro z;cases z))];exact q,λb a xs q=>by rw[aq (f b _ q (by intro z;cases z))];exact q,λb ps q=>⟨#[],by rw[aq (f b _ q (by intro z;cases z)),q];simp⟩⟩
 have g:JhC (XE d (Jh1 o)) s.heap:=λb j e=>by
  by_cases i:b=d
  ·subst i;rw[ao]at e;cases e;exact⟨k,JbR b h⟩
  ·rw[aq i]at e;exact(Jk6 j e).stay (λc l _ q=>q) (λc q=>by rw[aq (f c _ q (by intro z;cases z))];exact q) λc xs q=>by rw[aq (f c _ q (by intro z;cases z))];exact q
 exact I.un (t':=s.toks) (h':=s.heap) u g
def Inv.thaw (I:QD s)(h:Xh d (Jh1 o))(h0:∀o u,X.H₀ d≠some (JnR u)):Vy (Xo H d kvs) s:=by
 have a:∀b u,Jin b u (u≠JnR _→b≠d):=λb u e n z=>by rw[z,h]at e;cases e;exact n rfl
 have g:∀b,J5 b (b≠d):=λb e z=>by rw[z,h]at e;cases e
 refine Jhn I.ok I.os ⟨I.base.keep,I.base.slot,λb f q n i=>by rw[aq (g b (Jhm f q n i))];exact Jhm f q n i,I.base.there,λb xs q=>by rw[aq (a b _ (I.base.tups b xs q) (by intro z;cases z))];exact I.base.tups b xs q,λb f u q=>?_,λb ps q=>?_⟩ I.loc I.cell (by rw[aq (g _ I.free)];exact I.free) (λx c e=>by rw[aq (g _ (Jh2 c e))];exact Jh2 c e) (λp v=>?_) (λb r e=>?_) I.len
 ·have t:b≠d:=λz=>h0 f u (by rw[←z];exact q);rw[aq t];exact I.base.frzs b f u q
 ·let⟨m,e⟩:=I.base.tbls b ps q;exact⟨m,by rw[aq (a b _ e (by intro z;cases z))];exact e⟩
 ·let⟨y,k,w⟩:=JgL v;exact⟨y,by rw[aq (g _ k)];exact k,w⟩
 ·by_cases j:b=d
  ·subst j;rw[ao]at e;cases e;have q:=JbR b h;exact q.2.stay (λc l _ q=>q) (λc q=>by rw[aq (a c _ q (by intro z;cases z))];exact q) λc xs q=>by rw[aq (a c _ q (by intro z;cases z))];exact q
  ·rw[aq j]at e;exact(Jk6 r e).stay (λc l _ q=>q) (λc q=>by rw[aq (a c _ q (by intro z;cases z))];exact q) λc xs q=>by rw[aq (a c _ q (by intro z;cases z))];exact q
def Itd (d:Addr)(o:Obj)(kvs:Jhg V):It :=
 ⟨λi H=>i<kvs.length∧Xh d (Jh1 o),λi H x H'=>H'=H∧∃k v,kvs[i]?=some (k,v)∧x=kV k,λi H=>JbA i∧Xh d (Jh1 o)⟩
def zY:Wk (Itd d o kvs) kvs.length (λH=>Xh d (Jh1 o)):=⟨λ_ _ h a=>⟨a,h⟩,λ_ _ h a=>⟨a,h⟩⟩
def zZ (h:Vq (zgt k u)):Jf2 (kV k):=by
 rcases gO h with ⟨i,t,rfl,rfl⟩ | ⟨x,t,rfl,rfl⟩
 ·exact Vf t
 ·exact Vf t
def z_ {P:Program}{w:World}{K:W.Frag}{tg:Expr}(d it)(o)(kvs)(D)(y:∃es,JnT D):gS P w K tg (Itd d o kvs) [it] it (λi h=>h.IsKeyIter it d i kvs.length D) where
 mem:=by simp
 obj:=λi h st b n=>by
  have e:b=it:=by simpa using n
  subst e;let⟨f,e,c,dd⟩:=st;exact⟨f,e,λv z=>by rw[dd]at z;cases z⟩
 keep:=λi h h' st k=>st.at λf e=>JaL it f e
 item:=by
  intro X N G O hc i j s σ H E I C st M;subst N G O;let⟨hi,J⟩:=M;let⟨L,zl,t,vs,g,dd⟩:=(show Ji0 H d (Jh1 o) from JbR d J);let⟨p,B⟩:=dd.dictAt;let⟨f,es,e1,e2,A,e4⟩:=id B;let⟨Y,l⟩:=y;have Z:=Option.some.inj (e1.symm.trans L);subst Z;have q:p=D:=by rw[l]at A;cases A;rfl
  subst q;have a:=g.length;let⟨U,T,f2,S,R,Q⟩:=C it (by simp);have hk:=g.keys;have hv:vs[i]?=some vs[i]:=gG (by lia);have u:=gG hi;have ek:kvs[i].1=(vs[i]'(by lia)).1:=by
   have h1:(kvs.map (·.1))[i]?=some kvs[i].1:=by rw[List.getElem?_map,u];rfl
   have h2:(vs.map (·.1))[i]?=some (vs[i]'(by lia)).1:=by rw[List.getElem?_map,hv];rfl
   rw[hk,h2]at h1;exact(Option.some.inj h1).symm
  rw[a]at st;refine wpAny_pyNext_dict_item st B hv λF h' x r sb=>?_;have I1:=I.turned (t':=s.toks) (λb f n e=>(sb.2 b n).trans e) U T S R Q;let⟨oi,q1,q2,q3⟩:=id r;refine Qd F (Jem q1 q2 q3 ⟨kV kvs[i].1,H,I1,?_,⟨rfl,kvs[i].1,kvs[i].2,u,rfl⟩,by rw[a];exact r,λb n=>(C b n).1⟩);rw[ek];exact zZ x
 done:=by
  intro X N G O hc i j s σ H E I C st M;subst N G O;let⟨hi,J⟩:=M;let⟨L,zl,t,vs,g,dd⟩:=(show Ji0 H d (Jh1 o) from JbR d J);let⟨p,B⟩:=dd.dictAt;let⟨f,es,e1,e2,A,e4⟩:=id B;let⟨Y,l⟩:=y;have Z:=Option.some.inj (e1.symm.trans L);subst Z;have q:p=D:=by rw[l]at A;cases A;rfl
  subst q;have a:=g.length;rw[a]at st;let⟨U,T,f2,S,R,Q⟩:=C it (by simp);exact wpAny_pyNext_dict_end (I.ok.hd hc) st B (List.getElem?_eq_none (by lia)) λh' eb=>Jcd (t':=s.toks) (λb f n e=>eb b f n e) U T S R Q
 self:=λ_ _ _ _ _ st h=>wpAny_pyIter_keyiter st h
section
variable {X:Cx} {tg:Expr}
def iRev (K:W.Frag)(d:TA):TI:=λc H R=>d c H λvs b=>∃a xs,vs=Vz a∧Jby b a∧R (Itv K a xs.length) b
def pU {a:Expr}{l:TA}{p g:Pos}(y:Gl X "reversed")(x:Jcy "reversed")(A:PA X [a] l)(hs:Vc [a]=[(false,Vg a)]:=by rfl):PI X tg (Jkg p [a] [] g) (iRev X.K l):=by
 intro d s k H R I h;refine Joh I y x boot_reversed (thn (A g d s k H _ I h) λus f h_=>?_) hs rfl;let⟨vs,n,j,v,q1⟩:=h_;let⟨a,xs,e,w,q⟩:=q1;subst e;let⟨u,rfl,t⟩:=v.one;cases t;let⟨c,r,pl,hz⟩:=j.list w;have C:=r.length;refine call_reversed_list pl.isList ?_;have i:Heap.IsRevIter (f.heap.push (revObj a ((c.toArray.size:Int)-1))) f.heap.objs.size a _:=JiY (Heap.get?_push_size _ rfl);refine wpAny_pyIter_revIter i ?_;have B:JW d k n { f with heap:=f.heap.push (revObj a ((c.toArray.size:Int)-1)) }:=j.kept (t':=f.toks) λb o e=>JgM e;refine Jhr _ [f.heap.objs.size] _ (Itv X.K a xs.length) n B (zW a f.heap.objs.size xs.length) (VI (Nat.zero_le _)) (λb z=>?_) q
 ·have e:(xs.length:Int)-1-((0:Nat):Int)=(c.toArray.size:Int)-1:=by simp;lia
  rw[e];exact i
 ·rw[mS z];exact j.fpOk (nRq _) j.fresh
def iZip (K:W.Frag)(e:TA):TI:=λd H R=>e d H λvs c=>∃a b,vs=Jaz a b∧(∃xs,Jby c a)∧(∃ys,Jz c b ys)∧R (Itz K a b) c
def vJ {l:List Expr}{C:Nat}{G:Pos}{a b:Expr}{x:TA}{p g:Pos}(S:Gl X "zip")(Q:Jcy "zip")(T:PA X [a,b] x)(hs:Vc [a,b]=[(false,Vg a),(false,Vg b)]:=by rfl)(j:Vc [b]=[(false,Vg b)]:=by rfl):PI X (.Tuple l C G) (JJ "zip" p [a,b] [] g) (iZip X.K x):=by
 intro d s w H R I h;refine Joh I S Q boot_zip (thn (T g d s w H _ I h) λus f h_=>?_) (by rw[hs,j]) (by rw[j];rfl);let⟨vs,B,n,F,q1⟩:=h_;let⟨a,b,e,⟨xs,P⟩,⟨ys,t⟩,q⟩:=q1;subst e;let⟨u,v,rfl,E,r⟩:=F.two;cases E;cases r;let⟨M,rv,pl,hz⟩:=n.list P;let⟨y,D,i,N⟩:=n.list t;have la:JmL a:=by let⟨o,e,_⟩:=pl.isList;exact hLq e
 have J:JmL b:=by let⟨o,e,_⟩:=i.isList;exact hLq e
 refine call_zip_2 pl.isList i.isList λh' A Z Y W U O L=>?_;refine wpAny_pyIter_zip A ?_;have I2:=n.kept (t':=f.toks) L;refine Jhr _ _ _ (Itz X.K a b) B I2 (zX a b _ _ _ _ _ (zipApart_new la J)) ⟨A,Z,JnP _ Y,W,U⟩ (λc z=>?_) q;have k:f.heap.objs.size≤c:=by
  simp only[List.mem_cons,List.not_mem_nil,or_false]at z;rcases z with rfl | rfl | rfl | rfl | rfl
  ·exact Nat.le_add_right _ _
  ·exact Nat.le_add_right _ _
  ·exact Nat.le_add_right _ _
  ·exact nRq _
  ·exact Nat.le_add_right _ _
 exact n.fpOk k (n.hok.fresh k)
def iDict (c:TE):TI:=λb H R=>c b H λx a=>∃d kvs,Jny d∧Xa (a d) (.dK kvs)∧∀o,R (Itd d o kvs) (upd a d (Jh1 o))
def Aa (w:VE l tl):PI X tg l (iDict tl):=by
 intro a s k H R I h;refine thn (w a s k H _ I h) λv c h_=>?_;let⟨x,C,t,u,q1⟩:=h_;let⟨d,kvs,e,n,q⟩:=q1;subst e;cases u;let⟨D,f,vs,i,dd⟩:=iL t.hok n;let⟨p,r⟩:=dd.dictAt;let⟨o,es,A,G,z,F⟩:=id r;have g:=i.length;have j:=t.freeze n A;refine wpAny_pyIter_dict f r ?_;have B:JW a k _ { c with heap:=c.heap.push { cls:=.type "dict_keyiterator",data:=.fields #[.ref d,Jn1 0,Jn1 vs.length,Jn1 p] } }:=j.kept (t':=c.toks) λb E e=>JgM e;refine Jhr _ [c.heap.objs.size] _ (Itd d o kvs) _ B (z_ d c.heap.objs.size o kvs p ⟨es,z⟩) ?_ (λb y=>?_) (q o)
 ·exact Jv _ (Heap.get?_push_size _ rfl) (by rw[g];rfl)
 ·rw[mS y];exact j.fpOk (nRq _) j.fresh
def Ab (h:JnA te):JnA (λb H Q=>te b H λx c=>∃d o kvs,Xa (c d) (Jh1 o)∧(∀o u,X.H₀ d≠some (JnR u))∧Q x (Xo c d kvs)):=by intro a s b H Q I g;refine thn (h a s b H _ I g) λv l h_=>?_;let⟨x,c,k,f,d,o,kvs,j,i,q⟩:=h_;exact⟨x,_,k.thaw j i,f,q⟩
inductive vK:V→List V→Hp→VK→Prop|m{x vs H Q} d b kvs more:Jow x d (vs=Vz b) (d≠b) (Jc2 d) (JaJ b more→Vi (JhW more.length)→Jen (Xo H d (Jkx more))→vK x vs H Q)
def Ac:MtR X "dict.update" vK:=by intro p s D H x vs v us Q I y z h;let⟨d,b,kvs,e,rfl,rfl,n,r,C,hz,q⟩:=h;cases y;let⟨u,rfl,A⟩:=z.one;cases A;let⟨G,k,i,c,f⟩:=Jkv r;let⟨E,j,g,a,o⟩:=Jkv C;have L:=c.length;have K:=a.length;refine call_meetsIn PySem.F.slot_dict_update f.typeIs PySem.F.entry_dict_update (PySem.F.args_dict_update_2 _ _) (meets_dict_update (Jkw X.w) d b n j) ⟨i,g,f,o,by lia,λh' t M hs=>?_⟩;have J:=vv e kvs;have l:=kG (H':=Xo H d (Jkx e)) (h':=h') (by lia) k (a.merge c) t;have B:∃q,h'.get? d=some q:=let ⟨q,_,_,hq,_⟩:=t;⟨q,hq⟩;exact Xs .non _ (jk I (by rw[r];exact True.intro) hs B l) q
end
set_option maxRecDepth 100000
def Ad:Jbq "list_reverseiterator" "__len__"=pure none:=by rw[typeLookup_type,builtinLookup_eq_fast];kernel_rfl
def Ae:Jbq "list_reverseiterator" "__length_hint__"=pure (Qm "list_reverseiterator.__length_hint__"):=by rw[typeLookup_type,builtinLookup_eq_fast];kernel_rfl
section
variable {prog:Program} {w:World} {A:Around} {E:Value→Shared→Prop} {s:Shared} {J:Addr} {fp wr:List Addr} {G:Array GenState→Array GenState→Prop} {n:Nat} {P:Nat→Value→Prop} {St:Nat→Shared→Prop}
def Af (W:WalksS prog w A.in1 J fp wr G n P St)(ty:∀i u,St i u→Jeu (.ref J))(l:St 0 s)(r:∀b∈fp,Qt b)(p:J∈fp)
  (q:∀s' acc,Moved wr G s s'→ItemsOf P acc n→Q acc.toList s')(fits:Vi n):J6 w A (collect (.ref J)) Q E s:=by
 have h:s.heap.objs.size∉fp:=λz=>Nat.lt_irrefl _ (r _ z);have g:s.heap.objs.size≠J:=λe=>h (by rw[e];exact p);refine wpAny_bind (wpAny_runValue (QX PySem.F.entry_proto_collect));rw[VX PySem.F.plain_proto_collect];refine wpAny_bind (wpAny_newObj_type ?_);refine JaU (JfL PySem.F.plain_list_iadd) (QX PySem.F.entry_list_iadd);rw[VX PySem.F.plain_list_iadd];have d:=W.frame 0 s (s.heap.push { cls:=.type "list",data:=.seq ([]:List Value).toArray }) s.toks l (nRq _) λb _ o e=>JgM e;have j:Heap.get? (s.heap.push { cls:=.type "list",data:=.seq ([]:List Value).toArray }) s.heap.objs.size=some { cls:=.type "list",data:=.seq ([]:List Value).toArray }:=Heap.get?_push_size _ rfl;have f:QM (Builtin.List.listSameRef (.ref s.heap.objs.size) (.ref J)):=by simp [Builtin.List.listSameRef,g]
 show Jew (Builtin.List.listExtendWith (.ref s.heap.objs.size) (.ref J) (.ref s.heap.objs.size)) _ _ _;refine JaC (ty 0 _ d) ?_;rw[if_neg (by rw[f];decide)];refine wpAny_bind (W.self 0 _ _ _ d (JI ?_));refine Q1 (ty 0 _ d) Ad ?_;refine Q1 (ty 0 _ d) Ae ?_;generalize k:("list_reverseiterator.__length_hint__":String)=v
 wp_delta
 rw[show Xa (splitId v) ("list_reverseiterator","__length_hint__") from by subst k;decide +kernel];subst k;refine wpAny_bind (wpAny_isInstance (b:=true) (ty 0 _ d) (by rw[isSubtype_type];kernel_rfl) (wpAny_pure ?_));rw[if_neg (by decide)];refine JaU (JfL PySem.F.plain_extend_loop) (codeAny_extend_loopS W fits _ h _ n 0 _ _ _ rfl (Nat.zero_le _) d j (ItemsOf.nil P) λs' acc c m newS t=>?_);refine wpAny_bind (wpAny_load newS (wpAny_pure (q s' acc (Moved.drop_new m (nRq _)) t)))
def Ag (W:WalksS prog w A.in1.in1 J fp wr G n P St)(ty:∀i u,St i u→Jeu (.ref J))(a:St 0 s)(e:∀b∈fp,Qt b)(d:J∈fp)
  (q:∀s' acc,Moved wr G s s'→ItemsOf P acc n→Q₁ (.ref s'.heap.objs.size) { s' with heap:=s'.heap.push { cls:=.type "tuple",data:=.seq acc } })(fits:Vi n) :
  codeAny (Xq w) A (.call (.builtin "tuple.__new__") (JfG (JU (.type "tuple") J))) (wants Q₁ E) s:=by
 refine codeAny_of_tree ?_;show Jew _ _ _ s
 refine wpAny_bind (wpAny_of_eq (PySem.F.newCall_tuple_1 _) (JaU (JfL PySem.F.plain_tuple_new) (QX PySem.F.entry_tuple_new)));rw[VX PySem.F.plain_tuple_new];have j:=sub_tuple_self;have h:=init_tuple_lookup;have g:=madeHere_tuple;have f:=ty 0 s a
 wp_walk using wpAny_typeOf f,Af (fits:=fits) W ty a e d
 intro s' acc m c;show V0 _ (Builtin.Tuple.tupleExact acc.toList.toArray >>= λu=>ret u) _ _ _;refine wpAny_bind (wpAny_newObj_type (wpAny_pure ?_) (by show Vi acc.toList.toArray.size;simp only[Array.toArray_toList];rw[c.1];exact fits));rw[show acc.toList.toArray=acc by simp];exact q s' acc m c
def Ah (W:WalksS prog w A.in1.in1.in1 J fp wr G n P St)(ty:∀i u,St i u→Jeu (.ref J))(c:St 0 s)(e:∀b∈fp,Qt b)(d:J∈fp)
  (q:∀s' acc,Moved wr G s s'→JcZ (ItemsOf P acc n) s'.heap.objs.size { s' with heap:=s'.heap.push { cls:=.type "tuple",data:=.seq acc } })(fits:Vi n):J6 w A (call (.type "tuple") (Vz J)) Q E s:=by
 refine callType_codes (Q₁:=λa u=>u.TypeIs a "tuple"∧Q a u) PySem.F.called_tuple (PySem.F.typeCall_tuple_1 _) PySem.F.entry_object_init
  (Ag (fits:=fits) W ty c e d λs' acc m f=>⟨JkS (Heap.get?_push_size _ rfl),q s' acc m f⟩) λa u z=>?_
 exact⟨z.1,PySem.F.args_object_init_2 a _,object_init_meets PySem.F.called_tuple.init.lookup PySem.F.called_tuple.made (by decide) prog w A.in1 _ u (Qd z.1 z.2)⟩
end
set_option maxRecDepth 100000
def Ai (a v):argsOk "max" ⟨[a],[(Str.ofString "default",v)]⟩:=by unfold argsOk;kernel_rfl
section
variable {prog:Program} {w:World} {A:Around} {R:Result→Shared→Prop} {J:Addr} {fp wr:List Addr} {n:Nat} {P:Nat→Value→Prop} {St:Nat→Heap→Prop} {kw:List (Jhc Str)}
def mJ:(toString "max"++toString ".loop":String)="max.loop":=by decide
def Aj (W:Walks prog w A.in1 J fp wr n P St)(u)(H:CmpOf prog w A.in1 .Gt P u)(B)(C:B∉fp) :
  ∀k j s i c,n-(j+1)=k→j+1≤n→St (j+1) s.heap→P (Jn4 j) i →
  s.heap.get? B=some { cls:=.type "list",dict:=none,data:=.seq #[i,i] c,slots:=#[] } →
  (∀v h' tk,P (Jn4 (n-1)) v→(∀b o,b∉wr→b≠B→s.heap.get? b=some o→h'.get? b=some o)→Jm1 v { s with heap:=h',toks:=tk }) →
  codeAny (Xq w) A (Jbe "max.loop" [.ref J,.none,.ref B] kw) R s:=by
 have p:B∉wr:=λz=>C (W.sub _ z);intro k
 induction k with
 | zero =>
  intro j s i c L M st D f l;have K:j+1=n:=by lia
  refine QX PySem.F.entry_max_loop;rw[VX PySem.F.plain_max_loop];show Jew (seqItems? (.ref B) >>= _) _ _ s;refine J4 f rfl ?_;show Jew (Jkl J _ >>= _) _ _ s;refine Jah (W.done s _ _ (K ▸ st) λh' tk d=>?_);have a:=d B _ p f;show Jew (updateSeq B (λ_=>#[]) >>= _) _ _ _;refine Jf4 a rfl (Jdu (wpAny_pure ?_));exact l i _ tk (by rw[←K];exact D) λb o t x e=>(Heap.get?_update_other _ _ (Ne.symm x)).trans (d b o t e)
 | succ k I =>
  intro j s i c L M st D f l;have G:j+1<n:=by lia
  refine QX PySem.F.entry_max_loop;rw[VX PySem.F.plain_max_loop];show Jew (seqItems? (.ref B) >>= _) _ _ s;refine J4 f rfl ?_;show Jew (Jkl J _ >>= _) _ _ s;refine Jah (W.item (j+1) s _ _ G st λv h' tk pv y d=>?_);have a:=d B _ p f;show Jew (tryCatch (holding [v,v] (richCompare .Gt v i >>= _)) _ >>= _) _ _ _;refine Jah (wpAny_holding (wpAny_bind (H (j+1) (Jn4 j) v i _ _ _ pv D ?_)));refine JI (wpAny_truthy_bool (Jdu (wpAny_pure ?_)));cases eb:u (j+1) (Jn4 j) with
  | true =>
   simp only[if_true];refine Jf4 a rfl (Jdu ?_);rw[mJ];refine JaU (Jaa _) (I (j+1) _ v _ (by lia) G (W.frame _ _ _ y λb N o e=>(Heap.get?_update_other _ _ (λz:B=b=>C (by rw[z];exact N))).trans e) (by simp only[argBest,eb,if_true];exact pv) (Heap.get?_update_self _ a rfl) λE r h q g=>?_);exact l E r h q λb o t x e=>g b o t x ((Heap.get?_update_other _ _ (Ne.symm x)).trans (d b o t e))
  | false =>
   simp only[Bool.false_eq_true,if_false];refine Jdu ?_;rw[mJ];refine JaU (Jaa _) (I (j+1) _ i c (by lia) G y (by simp only[argBest,eb,Bool.false_eq_true,if_false];exact D) a λE r h q g=>?_);exact l E r h q λb o t x e=>g b o t x (d b o t e)
def Ak (W:Walks prog w A.in1 J fp wr n P St)(u)(t:CmpOf prog w A.in1 .Gt P u)(B)(h:B∉fp)(a:0<n){s:Shared}{c:Nat}(st:St 0 s.heap)
  (g:s.heap.get? B=some { cls:=.type "list",dict:=none,data:=.seq #[] c,slots:=#[] })
  (r:∀v h' tk,P (Jn4 (n-1)) v→(∀b o,b∉wr→b≠B→s.heap.get? b=some o→h'.get? b=some o)→Jm1 v { s with heap:=h',toks:=tk }) :
  codeAny (Xq w) A (Jbe "max.loop" [.ref J,.none,.ref B] kw) R s:=by have k:B∉wr:=λz=>h (W.sub _ z);refine QX PySem.F.entry_max_loop;rw[VX PySem.F.plain_max_loop];show Jew (seqItems? (.ref B) >>= _) _ _ s;refine J4 g rfl ?_;show Jew (Jkl J _ >>= _) _ _ s;refine Jah (W.item 0 s _ _ a st λv h' tk pv l f=>?_);have d:=f B _ k g;show Jew (updateSeq B (λ_=>#[v,v]) >>= _) _ _ _;refine Jf4 d rfl ?_;rw[mJ];refine JaU (Jaa _) (Aj W u t B h _ 0 _ v _ rfl a (W.frame _ _ _ l λb D o e=>(Heap.get?_update_other _ _ (λz:B=b=>h (by rw[z];exact D))).trans e) pv (Heap.get?_update_self _ d rfl) λC q j p i=>?_);exact r C q j p λb o x y e=>i b o x y ((Heap.get?_update_other _ _ (Ne.symm y)).trans (f b o x e))
def Al (W:Walks prog w A.in1 J fp wr 0 P St)(B)(h:B∉fp){s:Shared}{c:Nat}{nm:Str}{d:Value}(st:St 0 s.heap)
  (f:s.heap.get? B=some { cls:=.type "list",dict:=none,data:=.seq #[] c,slots:=#[] })
  (g:∀h' tk,(∀b o,b∉wr→b≠B→s.heap.get? b=some o→h'.get? b=some o)→Jm1 d { s with heap:=h',toks:=tk }) :
  codeAny (Xq w) A (Jbe "max.loop" [.ref J,.none,.ref B] [(nm,d)]) R s:=by refine QX PySem.F.entry_max_loop;rw[VX PySem.F.plain_max_loop];show Jew (seqItems? (.ref B) >>= _) _ _ s;refine J4 f rfl ?_;show Jew (Jkl J _ >>= _) _ _ s;refine Jah (W.done s _ _ st λh' tk a=>?_);refine JeV ?_;exact g h' tk λb o i _ e=>a b o i e
end
section
variable {prog:Program} {w:World} {A:Around} {E:Value→Shared→Prop} {s:Shared}
theorem vL
  (h:J6 w A.in1 (pyIter x) (λit s₂=>∃J fp wr n P St bt,QB it J∧Walks prog w A.in1 J fp wr n P St∧St 0 s₂.heap∧(∀b∈fp,b<s₂.heap.objs.size)∧CmpOf prog w A.in1 .Gt P bt∧(n=0→∀h' tk,(∀b o,b∉wr→s₂.heap.get? b=some o→h'.get? b=some o)→Q d { s₂ with heap:=h',toks:=tk })∧(0<n→∀v h' tk,P (argBest bt (n-1)) v→(∀b o,b∉wr→s₂.heap.get? b=some o→h'.get? b=some o)→Q v { s₂ with heap:=h',toks:=tk })) E s) :
  wpAny (Xq w) A (call (.builtin "max") [x] [(Str.ofString "default",d)]) Q E s:=by
 refine PyProof.Rows.kmk_tree PySem.F.kind_max PySem.F.plain_max PySem.F.entry_max (Ai _ _) ?_;show Jew (Builtin.Builtins.bindParams "max" ["key","default"] 0 ⟨[],[(Str.ofString "default",d)]⟩ >>= _) _ _ s;refine wpAny_bind (wpAny_of_eq (show Jgc (Builtin.Builtins.bindParams "max" ["key","default"] 0 ⟨[],[(Str.ofString "default",d)]⟩) [none,some d] from rfl) (Qo ?_));refine wpAny_bind (wpAny_mono h (λit s₂ h₂=>?_) λ_ _ e=>e);let⟨J,fp,wr,n,P,St,bt,rfl,W,st,low,cmp,q0,q1⟩:=h₂;refine wpAny_bind (wpAny_newObj_type ?_);have out:s₂.heap.objs.size∉fp:=λz=>Nat.lt_irrefl _ (low _ z);rw[mJ];have st':=W.frame _ _ (s₂.heap.push { cls:=.type "list",data:=.seq ([]:List Value).toArray }) st λb _ o e=>JgM e;rcases Nat.eq_zero_or_pos n with z | z
 ·subst z;exact wpAny_pure ⟨Jaa _,Al W s₂.heap.objs.size out st' (Heap.get?_push_size _ rfl) λh' tk kept=>q0 rfl h' tk λb o bw e=>kept b o bw (Jce e) (JgM e)⟩
 ·exact JaU (Jaa _) (Ak W bt cmp s₂.heap.objs.size out z st' (Heap.get?_push_size _ rfl) λv h' tk pv kept=>q1 z v h' tk pv λb o bw e=>kept b o bw (Jce e) (JgM e))
end
section
variable {X:Cx}
def tMaxd (K:W.Frag)(d tk:TA):TE:=λb H Q=>d b H λvs e=>tk b e λzs a=>∃p ns c,vs=Vz p∧zs=Ji6 c∧jQ K a p ns∧(ns=[]→Q7 c a)∧∀m∈ns,(∀n∈ns,n≤m)→Q7 m a
def Am (S:Vq X.calm)(hg:Gl X "max")(hm:Jcy "max")(ha:PA X [e] ta)(f:PK X [Jl2 d kp] tk)
  (he:Vc [e]=(false,Vg e) :: []:=by rfl)(M:(Jog [e]).any (·.1)=false:=by rfl)(P:(Je6 pos [Jl2 d kp]).any (·.1.isNone)=false:=by rfl)
  (E:(Je6 pos [Jl2 d kp]).all (·.1.isSome)=true:=by rfl)(O:(Je6 pos [Jl2 d kp]).filterMap (·.1)=[Str.ofString "default"]:=by rfl) :
  PE X (JJ "max" p [e] [Jl2 d kp] pos) (tMaxd X.K ta tk):=by
 intro g s J H Q I h;refine wpAny_Call_Name_kw (fw I hg hm PyProof.Rows.Boot.max ?_);refine PyProof.Rows.callWith_builtin_kwB M P ?_;have U:=ha pos g s J H _ I h;rw[he]at U ⊢;refine evalArgs_kw E (thn U λus Z ⟨vs,H1,I1,r1,q1⟩=>thn (f pos g Z J H1 _ I1 q1) λws c h_=>?_);let⟨zs,W,y,r2,pp,ns,R,ev,ez,C,q0,q⟩:=h_;subst ev ez;let⟨u,rfl,ru⟩:=r1.one;cases ru;let⟨v,rfl,t,rfl⟩:=r2.one;rw[O];show V0 _ (call (.builtin "max") [Value.ref pp] [(Str.ofString "default",Jaj R)]) _ _ c;have k:∀ {it:Addr} {l:Obj} {h':Heap},(∀b o,b∉[c.heap.objs.size]→(c.heap.push l).get? b=some o→h'.get? b=some o)→∀b o,c.heap.get? b=some o→h'.get? b=some o:=λ{it l h'} f b o e=>f b o (λz=>by
  have:b=c.heap.objs.size:=by simpa using z
  exact Jg0 e (by rw[this];exact Nat.lt_irrefl _)) (JgM e)
 have B:∀ {l:Obj},JmM pp→∀b∈[c.heap.objs.size,pp],b<(c.heap.push l).objs.size:=λ{l} x b T=>by
  rw[Heap.size_push];simp only[List.mem_cons,List.not_mem_nil,or_false]at T;rcases T with rfl | rfl
  ·exact Nat.lt_succ_self _
  ·exact Nat.lt_succ_of_lt x
 have w:∀ {h':Heap} {tk:Nat},ns=[]→(∀b o,c.heap.get? b=some o→h'.get? b=some o)→EP X g J Q (Jdw R) { c with heap:=h',toks:=tk }:=λ{h' tk} en f=>⟨.int R,W,y.kept (t':=tk) f,Vf t,q0 en⟩;have G:∀ {a:List Value} {v:Value} {h':Heap} {tk:Nat},Joy a→0<a.toArray.size→a.toArray[argBest (λi j=>decide (VN i > VN j)) (Jea 1)]?=some v→(∀b o,c.heap.get? b=some o→h'.get? b=some o)→EP X g J Q v { c with heap:=h',toks:=tk }:=λ{a v h' tk} r Y F f=>by
  let⟨t,rfl⟩:=iv r _ _ F;have D:=r.length;rw[lM]at D;have n0:JjD 0:=by simp only[sA]at Y;lia
  have es:Jea 1=JoH 1:=by simp only[sA];lia
  rw[es];let⟨b1,b2⟩:=pP (λi=>VN i) (JoH 1);exact⟨.int _,W,y.kept (t':=tk) f,Vf t,q _ (pQ (by lia)) λn hn=>by let⟨i,hi,e⟩:=pR hn;rw[←e];exact b2 i (by lia)⟩
 rcases C with C | C
 ·let⟨a,r,pl,hz⟩:=y.list C;have D:=r.length;rw[lM]at D;have x:JmM pp:=by let⟨o,N,_⟩:=pl.isList;exact hLq N
  refine vL (JO pl.isList);exact Jkz c.heap.objs.size [c.heap.objs.size,pp] [c.heap.objs.size] _ _ (λi j=>decide (VN i > VN j)) rfl (Jd8 (show Qu X.A.in1.handled from y.ok.hd S) _ pp (Nat.ne_of_lt x)) (Jeb (JiY (Heap.get?_push_size _ rfl)) _) (B x) (Jg3 (λi=>VN i) r) (λz h' tk f=>w (List.length_eq_zero_iff.mp (by simp only[sA]at z;lia)) (k (it:=pp) f)) (λz v h' tk F f=>G r z F (k (it:=pp) f))
 ·let⟨a,r,pl,hz⟩:=y.tuple C;have D:=r.length;rw[lM]at D;have L:=pl;have x:JmM pp:=by let⟨o,N,_⟩:=id L;exact hLq N
  refine vL (JcA L);exact Jkz c.heap.objs.size [c.heap.objs.size,pp] [c.heap.objs.size] _ _ (λi j=>decide (VN i > VN j)) rfl (Ji8 (show Qu X.A.in1.handled from y.ok.hd S) _ pp x a.toArray) ⟨JiY (Heap.get?_push_size _ rfl),L.push _⟩ (B x) (Jg3 (λi=>VN i) r) (λz h' tk f=>w (List.length_eq_zero_iff.mp (by simp only[sA]at z;lia)) (k (it:=pp) f)) (λz v h' tk F f=>G r z F (k (it:=pp) f))
def An (K:W.Frag)(d:TA):TE:=λc H Q=>d c H λvs b=>∃a xs,vs=Vz a∧Jby b a∧∀l,JcZ (Qu (b l)) l (Jt b l xs.reverse)
def Ao (Y:Vq X.calm)(U:Gl X "tuple")(T:Jcy "tuple")(D:Gl X "reversed")(B:Jcy "reversed")(x:PA X [a] ta)(hs:Vc [a]=[(false,Vg a)]:=by rfl)
  (v:Vc [Jkg p2 [a] [] pos2]=[(false,Vg (Jkg p2 [a] [] pos2))]:=by rfl) :
  PE X (JJ "tuple" p [Jkg p2 [a] [] pos2] [] pos) (An X.K ta):=by
 intro k s y H Q I h;refine wpAny_Call_Name_kw (QW I U T PyProof.Rows.Boot.tuple ?_ v rfl);rw[v];show V0 _ (spliced [(false,Vg (Jkg p2 [a] [] pos2))]) _ _ s;refine Calls.spliced_cons (Joh I D B boot_reversed (thn (x pos2 k s y H _ I h) λus f h_=>?_) hs rfl);let⟨vs,N,E,P,q1⟩:=h_;let⟨a,xs,e,S,q⟩:=q1;subst e;let⟨u,rfl,O⟩:=P.one;cases O;let⟨c,F,pl,hz⟩:=E.list S;have hl:=F.length;have la:JmL a:=by let⟨o,v,_⟩:=pl.isList;exact hLq v
 refine call_reversed_list pl.isList (Calls.spliced_nil ?_);have W:=Walks.listRev (prog:=X.prog) (w:=X.w) (A:=X.A.in1.in1.in1) (E.ok.hd Y) f.heap.objs.size a (Nat.ne_of_lt la) c.toArray;have C:Heap.IsRevIter (f.heap.push (revObj a ((c.toArray.size:Int)-1))) f.heap.objs.size a ((c.toArray.size:Int)-1):=JiY (Heap.get?_push_size _ rfl);refine Ah W.toS (λi u st=>st.2.1.typeIs) ⟨Nat.zero_le _,by simpa using C,pl.isList.push _⟩ (λb L=>?_) (by simp) (λs' acc r its'=>?_) (by simp only[sA];lia)
 ·show b<(f.heap.push _).objs.size;rw[Heap.size_push];simp only[List.mem_cons,List.not_mem_nil,or_false]at L;rcases L with rfl | rfl
  ·exact Nat.lt_succ_self _
  ·exact Nat.lt_succ_of_lt la
 ·have l:∀b o,f.heap.get? b=some o→s'.heap.get? b=some o:=λb o e=>r.heap b o (λz=>by
   have:b=f.heap.objs.size:=by simpa using z
   exact Jg0 e (by rw[this];exact Nat.lt_irrefl _)) (JgM e)
  have Z:s'={ f with heap:=s'.heap,toks:=s'.toks }:=by let⟨J,g,d,t,R⟩:=s';have a1:=r.gens;have a2:=r.drawn;have a3:=r.os;subst a1 a2 a3;rfl
  have n:acc=c.reverse.toArray:=by
   apply Array.ext';apply List.ext_getElem?;intro j;have hsz:=its'.1;simp only[sA]at hsz;rcases Nat.lt_or_ge j c.length with G | G
   ·have x:acc[j]?=some (acc[j]'(by lia)):=Array.getElem?_eq_getElem (by lia);have J:=its'.2 j _ x;rw[Array.getElem?_toList,x,←J];simp only[sA];rw[List.getElem?_toArray,List.getElem?_reverse G]
   ·rw[List.getElem?_eq_none (by simp;lia),List.getElem?_eq_none (by simp;lia)]
  have M:JW k y N s':=by rw[Z];exact E.kept (t':=s'.toks) l
  have I3:JW k y (Jt N s'.heap.objs.size xs.reverse) { s' with heap:=s'.heap.push { cls:=.type "tuple",data:=.seq acc } } :=
   M.laid (t':=s'.toks) (λb o e=>JgM e) (nRq _) (show JcJ _ _ _ (.tup xs.reverse) from⟨by rw[List.length_reverse];exact hz,c.reverse,F.reverse,by rw[n];exact fu.new _ _⟩)
  exact JaX s'.heap.objs.size _ I3 (q _ M.fresh)
end
end L2
namespace HT
open PySem PyProof.Rows
section
variable {prog:Program} {w:World} {A:Around} {E:Value→Shared→Prop} {s:Shared}
def getItem_tuple_whole {t c:Addr}{items:Array Value}{i g:Value}{lo b:Option Int}{Q:Value→Shared→Prop}(a:IsTup s.heap t items)(hs:Jfb c i g)(pl:IsPart i lo)(k:IsPart g b)
  (j:Jmc 0=0∧Jao items.size b=items.size)(h:Xl t s):J6 w A (getItem (.ref t) (.ref c)) Q E s:=by
 let⟨l,d,e,n⟩:=id hs;have f:Jjn c "slice":=⟨l,d,e⟩;unfold getItem
 try with_reducible refine wpAny_holding ?_
 first | refine Qo ?_ | skip
 refine wpAny_bind (wpAny_sequenceKey a.typeIs (by decide) ?_);refine wpAny_bind (wpAny_callSpecial?_slot (name:=Str.ofString "__getitem__") a.typeIs PyProof.Rows.slot_tuple_getitem (JoE PyProof.Rows.slot_tuple_getitem a.typeIs entry_tuple_getitem (args_tuple_getitem _ _)))
 show V0 _ (JdQ t >>= _) _ _ s;refine wpAny_bind (tupleItemsOf_ a ?_);refine JaC f ?_;rw[if_pos (by decide)];refine wpAny_bind (uM hs pl k ?_);have yes:Vq ((sIx items.size 0 lo:Int) == 0&&(1:Int) == 1&&(sIx items.size items.size b - Jmc 0) == items.size):=by rw[j.1,j.2];simp
 show V0 _ (if Vq ((sIx items.size 0 lo:Int) == 0&&(1:Int) == 1&&(sIx items.size items.size b - Jmc 0) == items.size) then _ else _) _ _ s
 rw[if_pos yes];refine wpAny_bind ?_;refine JaC a.typeIs (wpAny_pure ?_);rw[if_pos (by decide)];exact JeV (QI (wpAny_pure h))
end
end HT
namespace L2
open PySem PySem.Spec PyProof.Rows
section
variable {X:Cx}
inductive pV (K):V→Option Int→Option Int→Hp→VK→Prop|m{x lo hi H Q} a xs:Jow x a (Jfp a) (JdF 0 lo=0∧JdF xs.length hi=xs.length) (Xl a H) (pV K x lo hi H Q)
def Ap:SlR X (pV X.K):=by
 intro d s k H x v n l lo p o Q I f hs pl g h;let⟨a,xs,rfl,i,j,q⟩:=h;cases f;let⟨c,r,e,hz⟩:=I.tuple i;have b:c.toArray.size=xs.length:=by rw[sA];exact r.length.symm
 refine⟨"tuple",_,PyProof.Rows.slot_tuple_getitem.lookup,e.typeIs,?_⟩;exact HT.getItem_tuple_whole e hs pl g (by rw[b];exact j) (JaX a H I q)
def rSlTA (K:W.Frag):V→Option Int→Option Int→Hp→VK→Prop:=λx lo a H Q=>rSlT K x lo a H Q∨pV K x lo a H Q
def Aq:SlR X (rSlTA X.K):=uO.or Ap
end
end L2
namespace L2
open PySem
noncomputable def zaS (t:Jc7 Int):Int:=if t.2=-1 then 1 else 0
def cnt:V3 Int→Int
 | []=>0
 | t :: ts=>zaS t+cnt ts
theorem hC:∀b bs,cnt (b++bs)=cnt b+cnt bs
 | [],bs=>by simp [cnt]
 | a :: b,bs=>by simp only[List.cons_append,cnt,hC b bs];lia
def kJ {ts:List (Jc7 Int)}{i:Nat}{t:Int × Int}(h:ts[i]?=some t):XJ (i+1)=XJ i+zaS t:=by rw[bE h,hC];simp [cnt]
theorem iw:∀ts:V3 Int,0≤cnt ts
 | []=>Int.le_refl _
 | t :: ts=>by have:=iw ts;simp only[cnt,zaS];split <;> lia
def fJ (ts:V3 Int)(n:Nat):List Int:=(List.range n).map λi=>XJ (i+1)
def Au (ts)(n):fJ ts (n+1)=fJ ts n++[XJ (n+1)]:=by unfold fJ;rw[List.range_succ,mAq];rfl
def vM (ts)(n):(fJ ts n).length=n:=by simp [fJ]
def Av (ts){n i:Nat}(h:i<n):(fJ ts n)[i]?=some (XJ (i+1)):=by unfold fJ;rw[List.getElem?_map,List.getElem?_range h];rfl
noncomputable def negs (ts:V3 Int):List Int:=ts.map λt=>-t.1
def jT {ts:List (Jc7 Int)}{i:Nat}{t:Int × Int}(h:ts[i]?=some t):(negs ts)[i]?=some (-t.1):=by unfold negs;rw[List.getElem?_map,h];rfl
def hF (ts):(negs ts).length=ts.length:=lM _
def pW:Jn6 p ts↔-p∈ts.map Prod.fst:=by
 unfold negs;rw[List.mem_map,List.mem_map];constructor
 ·rintro ⟨t,a,e⟩;exact Jhu t a
 ·rintro ⟨t,a,e⟩;exact Jhu t a
def lvF (ts:V3 Int)(p:Int):Int:=XJ ((negs ts).idxOf p+1)
def fk {ts:List (Jc7 Int)}{i:Nat}{t:Int × Int}(a:(negs ts).Nodup)(h:ts[i]?=some t):QJ (-t.1)=cnt (ts.take (i+1)):=by have c:=jT h;let⟨b,e⟩:=gEq c;unfold lvF;rw[←e,List.Nodup.idxOf_getElem a i b]
def Lev (H:Hp)(d:Addr)(ts:V3 Int):Prop:=∃kvs:List _,Jc2 d∧∀p:Int,JfU p=if Jn6 p ts then Je (QJ p) else none
def Lev.same (h:Jn5 H d)(s:Xg H):Jn5 H' d:=by let⟨kvs,b,a⟩:=h;exact⟨kvs,s _ _ b,a⟩
def Kst (H:Hp)(d:Addr)(ks:List Int)(n:Nat):Prop:=∃kvs:List _,Jc2 d∧(∀m:Int,(JfU m).isSome=decide (m∈ks))∧JbA n∧∀a∈kvs,∃m:Int,Jgb a.1 m
def Kst.same (h:Kst H d ks n)(s:Xg H):Kst H' d ks n:=by let⟨kvs,b,a⟩:=h;exact⟨kvs,s _ _ b,a⟩
def vN (kvs)(k j:Key):br (zbP kvs k) j=if j=k then none else br kvs j:=by
 unfold zbP
 induction kvs with
 | nil=>simp [br]
 | cons c kvs d =>
  rw[List.filter_cons];by_cases e:c.1=k
  ·rw[if_neg (by simp [e]),d];by_cases a:j=k
   ·rw[if_pos a,if_pos a]
   ·rw[if_neg a,if_neg a,eH (λz=>a (z.symm.trans e))]
  ·rw[if_pos (by simp [e])];by_cases a:c.1=j
   ·have:j≠k:=λz=>e (a.trans z);rw[eX a,if_neg this,eX a]
   ·rw[eH a,d];by_cases b:j=k
    ·rw[if_pos b,if_pos b]
    ·rw[if_neg b,if_neg b,eH a]
def Kst.pop {H:Hp}{d:Addr}{ks:List Int}{n:Nat}{kvs:List (Key × V)}{p:Int}(g:∀m:Int,(JfU m).isSome=decide (m∈ks))(f:JbA n)(c:∀a∈kvs,∃m:Int,Jgb a.1 m):Kst (JjL H d kvs p) d (ks.filter λm=>decide (m≠p)) n:=by
 refine⟨_,ao,λm=>?_,JlO _ f,λa b=>c a ((List.mem_filter.mp b).1)⟩;rw[vN];by_cases e:m=p
 ·subst e;rw[if_pos rfl];simp
 ·rw[if_neg (λz=>e (by cases z;rfl)),g];simp [e]
def Aw:∀ps kvs m,(Xu (Jkx (Jd4 ps)) m).isSome=((JfU m).isSome||decide (m∈ps)):=by
 have c:∀a kvs m,(Xu (Jkx a) m).isSome=((JfU m).isSome||(Xu a m).isSome):=by
  intro a
  induction a with
  | nil=>intro kvs m;simp [bJ,br]
  | cons b a d =>
   intro kvs m;show(br (bJ (Jba b.1 b.2) a) _).isSome=_;rw[d,jM];by_cases e:b.1=Sum.inl m
   ·rw[if_pos e.symm,eX e];simp
   ·rw[if_neg (Ne.symm e),eH e]
 intro ps kvs m;rw[c,(jS ps).1]
def Ax (a kvs):(Jkx a).length≤JhW a.length:=by
 induction a generalizing kvs with
 | nil=>exact nRq _
 | cons b a c =>
  have e:=c (Jba b.1 b.2);have d:=jR kvs b.1 b.2;show(bJ _ a).length≤_;rw[List.length_cons];lia
def Ay {kvs:List (Key × V)}{k:Key}{v:V}(h:∀b∈kvs,∃m:Int,Jgb b.1 m)(d:∃m:Int,Jgb k m):∀b∈JkR v,∃m:Int,b.1=Sum.inl m:=by
 unfold zaz;split
 ·intro b a;let⟨q,c,e⟩:=List.mem_map.mp a;split at e
  ·rw[←e];exact h q c
  ·rw[←e];exact h q c
 ·intro b a;rcases mPq a with q | q
  ·exact h b q
  ·rw[mS q];exact d
def vO {a:List (Key × V)}(c:∀b∈a,∃m:Int,Jgb b.1 m):∀ {kvs:List (Key × V)},(∀b∈kvs,∃m:Int,Jgb b.1 m)→∀b∈Jkx a,∃m:Int,b.1=Sum.inl m:=by
 induction a with
 | nil=>exact λh=>h
 | cons b a d =>
  intro kvs h;exact d (λq e=>c q (Xe e)) (Ay h (c b List.mem_cons_self))
def vP (ps):∀b∈Jd4 ps,∃m:Int,b.1=Sum.inl m :=
 vO (λb a=>by let⟨p,_,e⟩:=List.mem_map.mp a;exact⟨p,by rw[←e]⟩) (λ_ h=>QN h)
def Kst.of:Kst (JgH H d ps) d ps ps.length:=⟨_,ao,(jS ps).1,(jS ps).2,vP ps⟩
def cv (ts:V3 Int)(ks:List Int)(a p y:Int):Bool:=decide (p∈ks)&&(decide (y≠-1)&&(decide (QJ p=0)||(decide (QJ p=a)&&ks.any λo=>decide (o≠p)&&decide (QJ o=a))))
def eJ (Rs:Vp Int)(ts:V3 Int)(a:Int)(st:List Int × List Int)(t:Jc7 Int):List Int × List Int :=
 if Vq (cv ts st.1 a (-t.1) t.2) then((st.1.filter λm=>decide (m≠-t.1))++(JbZ t.2).filter (λm=>decide (m≠t.1)),st.2++[t.2]) else st
def lrn (Rs:Vp Int)(ts:V3 Int)(f:Int)(i:Nat):List Int × List Int:=(ts.reverse.take i).foldl (eJ Rs ts (cnt ts)) (JbZ f,[f])
def jo (h:ts.reverse[i]?=some t):JfZ (i+1)=eJ Rs ts (cnt ts) (JfZ i) t:=by unfold lrn;rw[bE h,List.foldl_append];rfl
def gp (Rs:Vp Int)(ts:V3 Int)(f:Int):List Int:=(JfZ ts.length).1
def cB (Rs:Vp Int)(ts:V3 Int)(f:Int):List Int:=(JfZ ts.length).2
def aZ (Rs:Vp Int)(ts:V3 Int)(f:Int):List Int:=(negs ts).reverse.filter λp=>decide (p∈gp Rs ts f)
def jq (l:List Int)(m:Int):Prop:=(l=[]→m=0)∧(l≠[]→m∈l∧∀n∈l,n≤m)
structure dt (Rs:Vp Int)(ts)(f:Int):Prop where
 nd:(negs ts).Nodup
 f0:0≤f
 f1:f<(Rs.length:Int)
 fp:∀p∈JbZ f,Jn6 p ts
 why:∀t∈ts,t.2≠-1→0≤t.2∧t.2<(Rs.length:Int)∧∀p∈JbZ t.2,p≠t.1→Jn6 p ts
def kK (c:Jla f):∀i,∀p∈(JfZ i).1,p∈negs ts:=by
 intro i
 induction i with
 | zero=>exact c.fp
 | succ i b =>
  rcases Nat.lt_or_ge i ts.reverse.length with a | a
  ·rw[jo (gG a)];have d:=List.mem_reverse.mp (List.getElem_mem a);unfold eJ;split
   ·rename_i e;intro p g;rcases mPq g with q | q
    ·exact b p ((List.mem_filter.mp q).1)
    ·have y:ts.reverse[i].2≠-1:=by unfold cv at e;rw[Bool.and_eq_true,Bool.and_eq_true]at e;exact oDq e.2.1
     have:=List.mem_filter.mp q;exact(c.why _ d y).2.2 p this.1 (oDq this.2)
   ·exact b
  ·have e:JfZ (i+1)=lrn Rs ts f i:=by unfold lrn;rw[tO (by lia),tO a]
   rw[e];exact b
def Az (Rs)(ts)(f):∀i,(JfZ i).2.length≤1+i:=by
 intro i
 induction i with
 | zero=>exact nRq _
 | succ i b =>
  rcases Nat.lt_or_ge i ts.reverse.length with a | a
  ·rw[jo (gG a)];unfold eJ;split
   ·rw[lAq];simp only[lS];lia
   ·lia
  ·have e:JfZ (i+1)=lrn Rs ts f i:=by unfold lrn;rw[tO (by lia),tO a]
   rw[e];lia
def AA {K:W.Frag}{H:Hp}{a:Addr}{ps:List Int}{Q:VK}(h:Jom a)(q:∀H' t,Jln (QC H' t ((ps.drop 1).map V.int)) t):rSlTA K (.ref a) (some 1) none H Q:=by
 have b:Jng (ps.map V.int).length 0 1=min 1 (ps.map V.int).length:=HT.sIx_nat _ _ 1;have f:HT.sIx (ps.map V.int).length (ps.map V.int).length none=(ps.map V.int).length:=HT.sIx_none _ _;cases ps with
 | nil=>exact Jfc a _ rfl h (Vf rfl) (q H a (ap.refl _) h)
 | cons p ps =>
  refine .inl ⟨a,_,rfl,h,λz=>?_,λt d=>q _ t (Jdg d) ?_⟩
  ·have c:=z.1;rw[b,lM,List.length_cons]at c;lia
  ·have e:dh ((p :: ps).map V.int) (some 1) none=((p :: ps).drop 1).map V.int:=by unfold dh;rw[b,f,lM,List.length_cons,Nat.min_eq_left (by lia),←List.map_drop,tO (by rw[lM,List.length_drop,List.length_cons];exact nRq _)]
   rw[e];exact SqT.of ao
def iO {ts:List (Jc7 Int)}{i:Nat}(h:Jbo i):ts.reverse[i]?=ts[VM 1-i]?:=by rw[List.getElem?_reverse h]
def vQ (ts):(negs ts).reverse=ts.reverse.map λt=>-t.1:=by unfold negs;rw[List.map_reverse]
def Kst.ne (h:Kst H d ks n)(a:Je7 l):l≠d:=λe=>by let⟨kvs,b,_⟩:=h;rw[e,b]at a;cases a
def Lev.ne (h:Jn5 H d)(a:Je7 l):l≠d:=λe=>by let⟨kvs,b,_⟩:=h;rw[e,b]at a;cases a
def TOk (Rs:Vp Int)(ts:V3 Int):Prop:=∀i t,ts[i]?=some t →
 t.1≠0∧(-60≤t.1∧t.1≤60)∧t.1∉(ts.take i).map Prod.fst∧-t.1∉(ts.take i).map Prod.fst ∧
 (t.2=-1∨∃(k:Nat) (r:List Int),t.2=(k:Int)∧Rs[k]?=some r∧t.1∈r∧∀p∈r,p≠t.1→-p∈(ts.take i).map Prod.fst)
def TOk.nil (Rs):TOk Rs []:=λi t h=>by cases h
def vR {a:Type}{xs ys:List a}{i:Nat}(h:JmE i):(xs++ys).take i=xs.take i:=by rw[List.take_append,show i-xs.length=0 by lia];simp
def TOk.snoc {Rs:List (List Int)}{ts:List (Jc7 Int)}{t:Int × Int}(h:JaQ Rs)(h0:t.1≠0)(c:-60≤t.1∧t.1≤60)(b:t.1∉ts.map Prod.fst)(a:-t.1∉ts.map Prod.fst)
  (y:t.2=-1∨∃(k:Nat) (r:List Int),t.2=(k:Int)∧Rs[k]?=some r∧t.1∈r∧∀p∈r,p≠t.1→-p∈ts.map Prod.fst):TOk Rs (ts++[t]):=λi u e=>by
 rcases Nat.lt_or_ge i ts.length with q | q
 ·rw[List.getElem?_append_left q]at e;rw[vR (Nat.le_of_lt q)];exact h i u e
 ·rw[List.getElem?_append_right q]at e;have f:i-ts.length=0:=by let⟨z⟩:=gEq e;simp only[lS]at z;lia
  rw[f]at e;cases e;have d:i=ts.length:=by lia
  subst d;rw[vR (nRq _),List.take_length];exact⟨h0,c,b,a,y⟩
def TOk.nd (h:JaQ Rs):∀i j:Nat,i<j→∀t u:Jc7 Int,ts[i]?=some t→ts[j]?=some u→t.1≠u.1∧t.1≠-u.1:=λi j a t u d c=>by
 have q:=h j u c;have b:t.1∈(ts.take j).map Prod.fst:=by refine Xz t ?_ rfl;refine mO (i:=i) ?_;rw[List.getElem?_take,if_pos a];exact d
 exact⟨λe=>q.2.2.1 (by rw[←e];exact b),λe=>q.2.2.2.1 (by rw[←e];exact b)⟩
def TOk.negs (h:JaQ Rs):(L2.negs ts).Nodup:=by rw[List.nodup_iff_pairwise_ne,List.pairwise_iff_getElem];intro i j b a c e;rw[hF]at b a;have q:=(h.nd i j c _ _ (gG b) (gG a)).1;have k:=jT (gG b);have g:=jT (gG a);rw[gG (by rw[hF];exact b)]at k;rw[gG (by rw[hF];exact a)]at g;have f:=Option.some.inj k;have d:=Option.some.inj g;rw[f,d]at e;lia
def TOk.atoms (h:JaQ Rs):(ts.map λt=>t.1.natAbs).Nodup:=by rw[List.nodup_iff_pairwise_ne,List.pairwise_iff_getElem];intro i j c b a e;rw[lM]at c b;have q:=h.nd i j a _ _ (gG c) (gG b);rw[List.getElem_map,List.getElem_map]at e;lia
theorem pX:∀n {xs:List Nat},xs.Nodup→(∀x∈xs,x<n)→JhH n
 | 0,[],_,_=>nRq _
 | 0,x :: xs,_,h=>J2 (Jam x) _
 | n+1,xs,a,h=>by
  have q:=pX n (a.erase n) (λx b=>by have z:=(List.Nodup.mem_erase_iff a).mp b;have:=h x z.2;have:=z.1;lia)
  rw[List.length_erase]at q;split at q <;> lia
def TOk.len (h:JaQ Rs):JdR 61:=by
 have q:=pX 61 h.atoms (λx a=>by let⟨t,b,e⟩:=List.mem_map.mp a;let⟨k,c⟩:=List.mem_iff_getElem?.mp b;have:=(h k t c).2.1;lia)
 rw[lM]at q;exact q
def Fails (Rs:Vp Int)(ts:V3 Int)(f:Nat):Prop:=∃r,Rs[f]?=some r∧∀p∈r,-p∈ts.map Prod.fst
def kL {Rs:List (List Int)}{k:Nat}{r:List Int}(h:Rs[k]?=some r):JbZ (k:Int)=r:=by unfold aY;rw[Int.toNat_natCast,List.getD_eq_getElem?_getD,h];rfl
def TOk.ln {Rs:List (List Int)}{ts:List (Jc7 Int)}{f:Nat}(h:JaQ Rs)(l:Fails Rs ts f):Jla (f:Int):=by
 let⟨r,c,g⟩:=l;have s:f<Rs.length:=(gEq c).1;refine⟨h.negs,by lia,by lia,λp q=>?_,λt e y=>?_⟩
 ·rw[kL c]at q;exact pW.mpr (g p q)
 ·let⟨i,j⟩:=List.mem_iff_getElem?.mp e;rcases(h i t j).2.2.2.2 with z | ⟨k,r',e1,e2,e3,e4⟩
  ·exact absurd z y
  ·have o:k<Rs.length:=(gEq e2).1;refine⟨by lia,by lia,λp a b=>?_⟩;rw[e1,kL e2]at a;have q:=e4 p a b;refine pW.mpr ?_;let⟨u,d,n⟩:=List.mem_map.mp q;exact Xz u (List.mem_of_mem_take d) n
def TOk.more (h:JaQ Rs):JaQ (Rs++Qs):=λi t e=>by
 let⟨g,f,d,c,b⟩:=h i t e;refine⟨g,f,d,c,?_⟩;rcases b with z | ⟨k,r,l,a,j⟩
 ·exact .inl z
 ·exact .inr ⟨k,r,l,by rw[List.getElem?_append_left (gEq a).1];exact a,j⟩
noncomputable def zaW (i:Int):Int:=if i<0 then -i else i
structure FRow (ts:V3 Int)(row:List Int)(n):Prop where
 le:row.length≤n
 neg:∀p∈row,-p∈ts.map Prod.fst
 last:∀t,ts.getLast?=some t→-t.1∈row
def FRow.ins (h:FRow ts row n){t:Int × Int}(b:t∈ts)(i):FRow ts (L2.ins row i (-t.1)) (n+1):=by
 refine⟨by rw[zV];exact Nat.succ_le_succ h.le,λp c=>?_,λu a=>vH.mpr (.inr (h.last u a))⟩;rcases vH.mp c with e | e
 ·rw[e,Int.neg_neg];exact List.mem_map.mpr (Jbz t b)
 ·exact h.neg p e
def pY:XJ i≤cnt ts:=by
 have e:cnt ts=XJ i+cnt (ts.drop i):=by rw[←hC,List.take_append_drop]
 have:=iw (ts.drop i);lia
def pZ (p):QJ p≤cnt ts:=pY
def mK (p):0≤lvF ts p:=iw _
def Plc (H:Hp)(d:Addr)(ts:V3 Int):Prop:=∃kvs:List _,Jc2 d∧∀p:Int,JfU p=if p∈ts.map Prod.fst then Je (QJ (-p)) else none
def Plc.same (h:Plc H d ts)(s:Xg H):Plc H' d ts:=by let⟨kvs,b,a⟩:=h;exact⟨kvs,s _ _ b,a⟩
def gF (ts:V3 Int)(ks:List Int)(a p:Int):Bool:=decide (QJ p=0)||(decide (QJ p=a)&&!(((ks.filter λm=>decide (m≠p)).filter λo=>decide (QJ o=a)).isEmpty))
def TOk.y (h:JaQ Rs):∀t∈ts,-1≤t.2:=λt a=>by let⟨i,b⟩:=List.mem_iff_getElem?.mp a;rcases(h i t b).2.2.2.2 with z | ⟨k,_,z,_⟩ <;> lia
def kM (h0:0≤y)(a:y<(Rs.length:Int)):Rs[y.toNat]?=some (JbZ y):=by unfold aY;rw[List.getD_eq_getElem?_getD,gG (by lia)];rfl
def jr {ts:List (Jc7 Int)}{i j:Nat}(h:i≤j):XJ i≤cnt (ts.take j):=by
 have e:ts.take j=ts.take i++(ts.take j).drop i:=by have:=JdW (ts.take j);rw[List.take_take,Nat.min_eq_left h]at this;exact this.symm
 rw[e,hC];have:=iw ((ts.take j).drop i);lia
def kN (h:Jn6 q ts):∃(i:Nat) (t:Jc7 Int),ts[i]?=some t∧q=-t.1:=by let⟨t,a,e⟩:=List.mem_map.mp h;let⟨i,b⟩:=List.mem_iff_getElem?.mp a;exact⟨i,t,b,e.symm⟩
def TOk.same_ix (a:JaQ Rs){i j:Nat}{t u:Int × Int}(c:ts[i]?=some t)(b:ts[j]?=some u)(e:t.1=u.1):i=j:=by
 rcases Nat.lt_trichotomy i j with h | h | h
 ·exact absurd e (a.nd i j h t u c b).1
 ·exact h
 ·exact absurd e.symm (a.nd j i h u t b c).1
def kO (h:Vq (cv ts ks last p y)):p∈ks∧y≠-1∧(QJ p=0∨(QJ p=last∧∃o∈ks,o≠p∧QJ o=last)):=by
 unfold cv at h;rw[Bool.and_eq_true,Bool.and_eq_true,Bool.or_eq_true,Bool.and_eq_true,List.any_eq_true]at h;refine Qj (oDq h.1) (oDq h.2.1);rcases h.2.2 with z | ⟨b,o,c,a⟩
 ·exact .inl (oDq z)
 ·rw[Bool.and_eq_true]at a;exact .inr ⟨oDq b,o,c,oDq a.1,oDq a.2⟩
def vS (g:p∈ks)(f:y≠-1)(e:QJ p=0∨(QJ p=last∧∃o∈ks,o≠p∧QJ o=last)):Vq (cv ts ks last p y):=by
 unfold cv;rw[Bool.and_eq_true,Bool.and_eq_true,Bool.or_eq_true,Bool.and_eq_true,List.any_eq_true];refine Qj (dTq g) (dTq f);rcases e with z | ⟨c,o,d,b,a⟩
 ·exact .inl (dTq z)
 ·exact Jhl (dTq c) o d (by rw[dTq b,dTq a];rfl)
def jU (d:JaQ Rs){i:Nat}(x:Jbo i):∃t:Jc7 Int,ts[VM 1-i]?=some t∧JfZ (i+1)=eJ Rs ts (cnt ts) (JfZ i) t ∧
  ∀q:Int,q∈(JfZ (i+1)).1→q∈(JfZ i).1∨∃j u,j<VM 1-i∧ts[j]?=some u∧q=-u.1∧Jmj (JfZ i).1 (-t.1) t.2∧q∈aY Rs t.2:=by
 obtain⟨t,g⟩:∃t,ts[VM 1-i]?=some t:=Jlj (by lia);have n:=iO x;rw[g]at n;have e:=jo (Rs:=Rs) (f:=f) n;refine⟨t,g,e,λq a=>?_⟩;rw[e]at a;unfold eJ at a;by_cases r:Jmj (JfZ i).1 (-t.1) t.2
 ·rw[if_pos r]at a;rcases mPq a with z | z
  ·exact .inl (List.mem_filter.mp z).1
  ·let⟨l,p⟩:=List.mem_filter.mp z;have o:=oDq p;have s:=(kO r).2.1;rcases(d _ t g).2.2.2.2 with w | ⟨k,row,e1,e2,_,e4⟩
   ·exact absurd w s
   ·have b:=l;rw[e1,kL e2]at b;have w:=e4 q b o;let⟨u,v,y⟩:=List.mem_map.mp w;let⟨j,h⟩:=List.mem_iff_getElem?.mp v;have c:j<VM 1-i:=by have:=(gEq h).1;rw[List.length_take]at this;lia
    rw[List.getElem?_take,if_pos c]at h;exact .inr (Jk9 j u c h r l)
 ·rw[if_neg r]at a;exact .inl a
def mM (a:JaQ Rs){i j:Nat}{u:Int × Int}(g:Jbo i)(d:ts[j]?=some u)(h:VM 1-i≤j)(c:-u.1∈(JfZ (i+1)).1):-u.1∈(JfZ i).1:=by
 let⟨t,o,e,b⟩:=jU a g;rcases b _ c with z | ⟨n,l,q,k,p,_⟩
 ·exact z
 ·have:=a.same_ix d k (by lia);lia
def p_ (b:JaQ Rs){i:Nat}{t:Int × Int}(n:Jbo i)(d:ts[VM 1-i]?=some t)(r:Jmj (JfZ i).1 (-t.1) t.2):-t.1∉(JfZ (i+1)).1:=λl=>by
 let⟨t',c,e,o⟩:=jU b n;rw[d]at c;cases c;have a:=l;rw[e]at a;unfold eJ at a;rw[if_pos r]at a;rcases mPq a with z | z
 ·exact(oDq (List.mem_filter.mp z).2) rfl
 ·let⟨g,h⟩:=List.mem_filter.mp z;have j:=(kO r).2.1;rcases(b _ t d).2.2.2.2 with w | ⟨k,row,e1,e2,_,e4⟩
  ·exact j w
  ·rw[e1,kL e2]at g;have w:=e4 _ g (oDq h);rw[Int.neg_neg]at w;exact(b _ t d).2.2.1 w
def mQ (b:JaQ Rs){i:Nat}{t:Int × Int}{q:Int}(g:Jbo i)(d:ts[VM 1-i]?=some t)(c:q∈(JfZ i).1)(n:q≠-t.1∨QM (JcU ts (JfZ i).1 ts (-t.1) t.2)):q∈(JfZ (i+1)).1:=by
 let⟨t',a,e,_⟩:=jU b g;rw[d]at a;cases a;rw[e];unfold eJ;by_cases r:Jmj (JfZ i).1 (-t.1) t.2
 ·rw[if_pos r];rcases n with n | n
  ·exact List.mem_append_left _ (JG c (dTq n))
  ·rw[n]at r;cases r
 ·rw[if_neg r];exact c
def AB (a:JaQ Rs):∀i,Jci i→∀j t,ts[j]?=some t→VM i≤j→-t.1∈(JfZ i).1→QJ (-t.1)≠0:=by
 intro i
 induction i with
 | zero =>
  intro _ j t b h;have:=(gEq b).1;lia
 | succ i e =>
  intro k j t b h d;have c:=mM a (by lia) b (by lia) d;rcases Nat.lt_or_ge j (VM i) with q | q
  ·have g:j=VM 1-i:=by lia
   subst g;intro z;have r:Jmj (JfZ i).1 (-t.1) t.2:=by refine vS c (λy=>?_) (.inl z);rw[JiQ b,kJ b]at z;have:=iw (ts.take (VM 1-i));unfold zaS at z;rw[if_pos y]at z;lia
   exact p_ a (by lia) b r d
  ·exact e (by lia) j t b q c
def AD {Rs:List (List Int)}{ts:List (Jc7 Int)}{f:Int}(a:JaQ Rs)(N:Jla f)(hL:1≤cnt ts)(h0:∃q∈JbZ f,QJ q=cnt ts):∀i,Jci i→(∃q∈(JfZ i).1,QJ q=cnt ts) ∧
  ∀j t,ts[j]?=some t→VM i≤j→-t.1∈(JfZ i).1→QJ (-t.1)=cnt ts→∀q∈(JfZ i).1,QJ q=cnt ts→q=-t.1:=by
 intro i
 induction i with
 | zero =>
  intro _;refine⟨h0,λj t b h=>?_⟩;have:=(gEq b).1;lia
 | succ i S =>
  intro hi;let⟨⟨I,x,G⟩,D⟩:=S (by lia);let⟨t,g,e,A⟩:=jU a (show Jbo i by lia);have d:Jbo i:=by lia
  have O:=JiQ g;by_cases r:Jmj (JfZ i).1 (-t.1) t.2
  ·let⟨M,r2,L⟩:=kO r;have B:=p_ a d g r;rcases L with z | ⟨z,o,T,no,lo⟩
   ·refine JlZ I (mQ a d g x (.inl (λw=>by rw[w]at G;lia))) G (λj u b h k l q n s=>?_);have p:=mM a d b (by lia) k;rcases Nat.lt_or_ge j (VM i) with w | w
    ·have C:j=VM 1-i:=by lia
     subst C;rw[g]at b;cases b;lia
    ·rcases A q n with v | ⟨R,Z,h1,W,U,_⟩
     ·exact D j u b w p l q v s
     ·have Q:=JiQ W;rw[←U]at Q;have:=jr (ts:=ts) (show R+1≤VM 1-i+1 by lia);lia
   ·refine JlZ o (mQ a d g T (.inl no)) lo (λj u b h k l q n s=>?_);have p:=mM a d b (by lia) k;rcases Nat.lt_or_ge j (VM i) with w | w
    ·have C:j=VM 1-i:=by lia
     subst C;rw[g]at b;cases b;exact absurd k B
    ·have J:=D j u b w p l _ M z;have:=a.same_ix g b (by lia);lia
  ·have r':QM (JcU ts (JfZ i).1 ts (-t.1) t.2):=by
    cases h:cv ts (JfZ i).1 _ _ t.2 with
    | true=>exact absurd h r
    | false=>rfl
   have Y:(JfZ (i+1)).1=(JfZ i).1:=by rw[e];unfold eJ;rw[if_neg r]
   rw[Y];refine JlZ I x G (λj u b h k l q n s=>?_);rcases Nat.lt_or_ge j (VM i) with w | w
   ·have C:j=VM 1-i:=by lia
    subst C;rw[g]at b;cases b;apply Decidable.byContradiction;intro F;by_cases y:t.2=-1
    ·let⟨H,u,E,X⟩:=kN (kK N i q n);subst X;have P:=JiQ E;rcases Nat.lt_trichotomy H (VM 1-i) with c | c | c
     ·have c1:=jr (ts:=ts) (show H+1≤VM 1-i by lia);have K:=kJ g;unfold zaS at K;rw[if_pos y]at K;lia
     ·subst c;rw[g]at E;cases E;exact F rfl
     ·have J:=D H u E (by lia) n s _ k l;exact F J.symm
    ·exact r (vS k y (.inr ⟨l,q,n,F,s⟩))
   ·exact D j u b w k l q n s
def kP (h:q∈JcH f):Jn6 q ts∧q∈(JfZ ts.length).1:=by let⟨b,a⟩:=List.mem_filter.mp h;exact⟨List.mem_reverse.mp b,oDq a⟩
def vT (a:JaQ Rs)(h:q∈JcH f):QJ q≠0:=by let⟨d,c⟩:=kP h;let⟨j,t,b,e⟩:=kN d;subst e;exact AB a ts.length (nRq _) j t b (by lia) c
def vU (a:JaQ Rs)(h:cnt ts=0):JcH f=[]:=by rw[List.eq_nil_iff_forall_not_mem];intro q b;have e:=vT a b;have d:=pZ (ts:=ts) q;have c:=mK (ts:=ts) q;lia
def vV {Rs:List (List Int)}{ts:List (Jc7 Int)}{f:Int}(c:JaQ Rs)(w:Jla f)(D:1≤cnt ts)(h0:∃q∈JbZ f,QJ q=cnt ts):∃a rest,JcH f=V9 a∧QJ a=cnt ts∧∀r∈rest,QJ r≠cnt ts:=by
 let⟨⟨q,s,x⟩,B⟩:=AD c w D h0 ts.length (nRq _);have y:=kK w ts.length q s;have n:q∈aZ Rs ts f:=Jhi y (dTq s);have only:∀r∈JcH f,QJ r=cnt ts→r=q:=λr g p=>by let⟨j,t,d,e⟩:=kN y;subst e;exact B j t d (by lia) s x r (kP g).2 p
 have k:(JcH f).Pairwise λa b=>QJ b≤lvF ts a:=by refine List.Pairwise.filter _ ?_;rw[List.pairwise_reverse,List.pairwise_iff_getElem];intro i j o d C;rw[hF]at o d;have A:=jT (gG o);have z:=jT (gG d);rw[gG (by rw[hF];exact o)]at A;rw[gG (by rw[hF];exact d)]at z;have v:=Option.some.inj A;have u:=Option.some.inj z;rw[v,u,fk c.negs (gG o),fk c.negs (gG d)];exact jr (by lia)
 have l:(JcH f).Nodup:=List.Pairwise.filter _ (by rw[List.pairwise_reverse];exact List.Pairwise.imp (λh=>Ne.symm h) c.negs);generalize JcH f=ps at n only k l
 match ps,n,only,k,l with
 | a :: rest,n,only,k,l =>
  have la:QJ a=cnt ts:=by
   rcases List.mem_cons.mp n with e | e
   ·rw[←e];exact x
   ·have H:=(List.pairwise_cons.mp k).1 q e;have G:=pZ (ts:=ts) a;lia
  refine VO a rest la (λr g p=>?_);have F:=only r (Xe g) p;have E:=only a List.mem_cons_self la;rw[F,←E]at g;exact(List.nodup_cons.mp l).1 g
theorem vW {Rs:List (List Int)}{hs:List Int}:∀ {es:List (Jc7 Int)},(∀t∈es,t.2≠-1)→cnt es=0
 | [],_=>rfl
 | t :: es,h=>by have c:=vW (Rs:=Rs) (hs:=hs) λu a=>h u (Xe a);have b:=Jam t;simp only[cnt,zaS,if_neg b,c];rfl
def bS (Rs:Vp Int)(ts:V3 Int)(f:Int):Nat→V3 Int
 | 0=>[]
 | i+1=>match ts.reverse[i]? with
  | some t=>if Jmj (JfZ i).1 (-t.1) t.2 then Jn9 i++[t] else Jn9 i
  | none=>Jn9 i
def mU (h:ts.reverse[i]?=some t):Jn9 (i+1)=if Jmj (JfZ i).1 (-t.1) t.2 then Jn9 i++[t] else bS Rs ts f i:=by
 show(match ts.reverse[i]? with | some t=>_ | none=>_)=_
 rw[h]
def AE:∀i,Jci i→(JfZ i).2=f :: (Jn9 i).map Prod.snd:=by
 intro i
 induction i with
 | zero=>intro _;rfl
 | succ i a =>
  intro c;obtain⟨t,b⟩:∃t,ts.reverse[i]?=some t:=Jlj (by rw[List.length_reverse];lia);rw[jo b,mU b];unfold eJ;split
  ·show(JfZ i).2++[t.2]=_;rw[a (by lia),mAq];rfl
  ·exact a (by lia)
def AF:∀ {i j:Nat},i≤j→Jci j→∃a,Jn9 j=Jn9 i++a:=by
 intro i j h
 induction h with
 | refl=>exact λ_=>⟨[],(List.append_nil _).symm⟩
 | @step j _ b =>
  intro d;let⟨a,e⟩:=b (by lia);obtain⟨t,c⟩:∃t,ts.reverse[j]?=some t:=Jlj (by rw[List.length_reverse];lia);rw[mU c];split
  ·exact⟨a++[t],by rw[e,List.append_assoc]⟩
  ·exact⟨a,e⟩
def qa:∀n,Jci n→∀l t,(Jn9 n)[l]?=some t→∃i,i<n∧ts[VM 1-i]?=some t∧Jmj (JfZ i).1 (-t.1) t.2∧(Jn9 (i+1)).length=l+1:=by
 intro n
 induction n with
 | zero=>intro _ l t h;cases h
 | succ n e =>
  intro o l t h;obtain⟨u,g⟩:∃u,ts.reverse[n]?=some u:=Jlj (by rw[List.length_reverse];lia);have a:=mU (Rs:=Rs) (f:=f) g;by_cases r:Jmj (JfZ n).1 (-u.1) u.2
  ·rw[if_pos r]at a;rw[a]at h;rcases Nat.lt_or_ge l (Jn9 n).length with q | q
   ·rw[List.getElem?_append_left q]at h;let⟨i,j,d,c,b⟩:=e (by lia) l t h;exact⟨i,by lia,d,c,b⟩
   ·rw[List.getElem?_append_right q]at h;have k:l - (Jn9 n).length=0:=by have:=(gEq h).1;simp only[lS]at this;lia
    rw[k]at h;cases h;refine⟨n,by lia,?_,r,by rw[a,lAq];simp only[lS];lia⟩;rw[←iO (by lia)];exact g
  ·rw[if_neg r]at a;rw[a]at h;let⟨i,j,d,c,b⟩:=e (by lia) l t h;exact⟨i,by lia,d,c,b⟩
def AG (h:t∈JgA f):t∈ts:=by let⟨l,a⟩:=List.mem_iff_getElem?.mp h;let⟨i,_,b,_⟩:=qa ts.length (nRq _) l t a;exact mO b
def vX (b:JaQ Rs)(v:Jla f):∀d i,i+d=ts.length→∀q∈(JfZ i).1,q∈JcH f∨-q∈((JgA f).drop (Jn9 i).length).map Prod.fst:=by
 intro d
 induction d with
 | zero =>
  intro i e q c;have x:i=ts.length:=by lia
  subst x;exact .inl (Jhi (kK v _ q c) (dTq c))
 | succ d n =>
  intro i e q c;have g:Jbo i:=by lia
  let⟨t,k,_,_⟩:=jU (f:=f) b g;have o:=iO g;rw[k]at o;have j:=mU (Rs:=Rs) (f:=f) o;let⟨a,p⟩:=AF (show Jci (i+1) by lia) (nRq _);by_cases r:Jmj (JfZ i).1 (-t.1) t.2
  ·rw[if_pos r]at j;have s:(JgA f).drop (Jn9 i).length=t :: a:=by rw[p,j,List.append_assoc,List.drop_left];rfl
   by_cases z:q=-t.1
   ·right;rw[s,z,Int.neg_neg];exact List.mem_map.mpr (Jbz t List.mem_cons_self)
   ·rcases n _ (by lia) q (mQ b g k c (.inl z)) with w | w
    ·exact .inl w
    ·right;have l:(JgA f).drop (Jn9 (i+1)).length=a:=by rw[p,List.drop_left]
     rw[l]at w;rw[s,List.map_cons];exact List.mem_cons_of_mem _ w
  ·have u:QM (JcU ts (JfZ i).1 ts (-t.1) t.2):=by
    cases h:cv ts (JfZ i).1 _ _ t.2 with
    | true=>exact absurd h r
    | false=>rfl
   rw[if_neg r]at j;have:=n _ (by lia) q (mQ b g k c (.inr u));rw[j]at this;exact this
def AH (a:JaQ Rs){i:Nat}{t:Int × Int}(g:Jbo i)(b:ts[VM 1-i]?=some t)(r:Jmj (JfZ i).1 (-t.1) t.2):∀d,Jci (i+1+d)→-t.1∉(JfZ (i+1+d)).1:=by
 intro d
 induction d with
 | zero=>exact λ_=>p_ a g b r
 | succ d c =>
  intro h e;exact c (by lia) (mM a (by lia) b (by lia) e)
def eY (Rs:Vp Int)(ts:V3 Int)(f:Int)(k:Nat):List Int:=(JcH f).map (λp=>-p)++((JgA f).reverse.take k).map Prod.fst
def TOk.cons (a:JaQ Rs){q:Int}(h:q∈ts.map Prod.fst)(g:-q∈ts.map Prod.fst):False:=by
 let⟨u,f,n⟩:=List.mem_map.mp h;let⟨v,e,l⟩:=List.mem_map.mp g;let⟨i,d⟩:=List.mem_iff_getElem?.mp f;let⟨j,b⟩:=List.mem_iff_getElem?.mp e;have k:=(a i u d).1;rcases Nat.lt_trichotomy i j with c | c | c
 ·exact(a.nd i j c u v d b).2 (by lia)
 ·subst c;rw[d]at b;cases b;lia
 ·exact(a.nd j i c v u b d).2 (by lia)
def kQ (h:q∈eY Rs ts f k):q∈ts.map Prod.fst:=by
 rcases mPq h with z | z
 ·let⟨p,b,e⟩:=List.mem_map.mp z;rw[←e];exact pW.mp (kP b).1
 ·let⟨t,a,e⟩:=List.mem_map.mp z;exact Xz t (AG (List.mem_reverse.mp (List.mem_of_mem_take a))) e
theorem vY:∀l:List Int,(∀x∈l,x=a)→bp [a] l=[a]
 | [],_=>rfl
 | x :: l,h=>by
  have e:=Jam x;subst e;have:bp [x] (x :: l)=bp [x] l:=by simp [bp]
  rw[this];exact vY l λy b=>h y (Xe b)
def AI (o:a∈row)(k:a∉hs)(j:-a∉hs)(i:∀q∈row,q≠a→-q∈hs):opn row hs=[a]:=by
 unfold opn;have d:a∈row.filter λp=>decide (p∉hs)&&decide (-p∉hs):=JG o (by simp [k,j]);have b:∀x∈row.filter (λp=>decide (p∉hs)&&decide (-p∉hs)),x=a:=λx h=>by let⟨f,c⟩:=List.mem_filter.mp h;rw[Bool.and_eq_true]at c;apply Decidable.byContradiction;intro n;exact(oDq c.2) (i x f n)
 generalize (row.filter λp=>decide (p∉hs)&&decide (-p∉hs))=l at d b
 match l,d,b with
 | x :: l,_,b =>
  have e:=Jfd x;subst e;have:JbJ (x :: l)=bp [x] l:=by simp [bp]
  rw[this];exact vY l λy g=>b y (Xe g)
def opn_no (h:∀q∈row,-q∈hs):opn row hs=[]:=by rw[List.eq_nil_iff_forall_not_mem];intro q a;let⟨c,_,b⟩:=zT.mp a;exact b (h q c)
def vZ (b:k≤(JgA f).length){q:Int}(h:q∈JcH f∨-q∈((JgA f).drop ((JgA f).length - k)).map Prod.fst):-q∈eY Rs ts f k:=by
 rcases h with z | z
 ·exact List.mem_append_left _ (Xz q z rfl)
 ·refine Jj ?_;let⟨t,a,e⟩:=List.mem_map.mp z;refine Xz t ?_ e;have:(JgA f).reverse.take k=((JgA f).drop ((JgA f).length - k)).reverse:=by rw[List.take_reverse]
  rw[this];exact List.mem_reverse.mpr a
def AJ (a:JaQ Rs)(H:Jla f){k:Nat}{t:Int × Int}(h:(JgA f).reverse[k]?=some t):(0≤t.2∧t.2<(Rs.length:Int))∧QM ((JbZ t.2).any λq=>decide (q∈eY Rs ts f k))∧opn (JbZ t.2) (eY Rs ts f k)=[t.1]∧eY Rs ts f (k+1)=eY Rs ts f k++[t.1]:=by
 have Z:k<(JgA f).length:=by have:=(gEq h).1;rw[List.length_reverse]at this;exact this
 have P:(JgA f)[(JgA f).length - 1 - k]?=some t:=by rw[←List.getElem?_reverse (by lia)];exact h
 let⟨i,K,s,E,Q⟩:=qa ts.length (nRq _) _ t P;have l:=mO s;have I:=(kO E).2.1;have L:=H.why t l I;have b:-t.1∉ts.map Prod.fst:=λz=>a.cons (Xz t l rfl) z;obtain⟨Y,c,W,U,T,e4⟩:∃(k:Nat) (r:List Int),t.2=(k:Int)∧Rs[k]?=some r∧t.1∈r∧∀p∈r,p≠t.1→-p∈(ts.take (VM 1-i)).map Prod.fst:=by
  rcases(a _ t s).2.2.2.2 with w | w
  ·exact absurd w I
  ·exact w
 have F:JbZ t.2=c:=by rw[W,kL U]
 have d:∀q∈c,q≠t.1→-q∈eY Rs ts f k:=λq y n=>by
  refine vZ (by lia) ?_;have D:q∈(JfZ (i+1)).1:=by let⟨t',o,e,_⟩:=jU a K;rw[s]at o;cases o;rw[e];unfold eJ;rw[if_pos E];exact List.mem_append_right _ (JG (by rw[F];exact y) (dTq n))
  have:=vX a H (VM (i+1)) _ (by lia) q D;rw[Q]at this;rw[show(JgA f).length - k=(JgA f).length - 1 - k+1 by lia];exact this
 have G:t.1∉eY Rs ts f k:=λz=>by
  rcases mPq z with z | z
  ·let⟨p,J,e⟩:=List.mem_map.mp z;have S:p=-t.1:=by lia
   rw[S]at J;have g:=AH a K s E (VM (i+1)) (by lia);rw[show i+1+VM (i+1)=ts.length by lia]at g;exact g (kP J).2
  ·let⟨u,O,R⟩:=List.mem_map.mp z;let⟨j,C⟩:=List.mem_iff_getElem?.mp O;have A:j<k:=by have:=(gEq C).1;rw[List.length_take]at this;lia
   rw[List.getElem?_take,if_pos A]at C;have B:(JgA f)[(JgA f).length - 1 - j]?=some u:=by rw[←List.getElem?_reverse (by lia)];exact C
   let⟨N,_,M,_,X⟩:=qa ts.length (nRq _) _ u B;have ei:=a.same_ix s M R.symm;have:i=N:=by lia
   subst this;lia
 have x:-t.1∉eY Rs ts f k:=λz=>b (kQ z);refine⟨⟨L.1,L.2.1⟩,?_,?_,?_⟩
 ·rw[F,List.any_eq_false];intro q y z;have v:=oDq z;by_cases n:q=t.1
  ·rw[n]at v;exact G v
  ·exact a.cons (kQ v) (kQ (d q y n))
 ·rw[F];exact AI T G x d
 ·unfold eY;rw[bE h,mAq,List.append_assoc];rfl
def AK (a:JaQ Rs)(d:Jla f):QM ((JbZ f).any λq=>decide (q∈eY Rs ts f (JgA f).length))∧opn (JbZ f) (eY Rs ts f (JgA f).length)=[]:=by
 have b:∀q∈JbZ f,-q∈eY Rs ts f (JgA f).length:=λq c=>by refine vZ (nRq _) ?_;have:=vX a d ts.length 0 (by lia) q c;rw[Nat.sub_self];exact this
 refine⟨?_,opn_no b⟩;rw[List.any_eq_false];intro q c z;exact a.cons (kQ (oDq z)) (kQ (b q c))
def v_:(cB Rs ts f).reverse=(JgA f).reverse.map Prod.snd++[f]:=by unfold cB;rw[AE _ (nRq _),List.reverse_cons,List.map_reverse]
def AL (h:y<(Rs.length:Int)):aY (Rs++Qs) y=JbZ y∨y<0:=by
 by_cases h0:y<0
 ·exact .inr h0
 ·left;unfold aY;rw[List.getD_eq_getElem?_getD,List.getD_eq_getElem?_getD,List.getElem?_append_left (by lia)]
structure Got (K)(H:Hp)(rl tl)(xs zs)(Rs:Vp Int)(ts:V3 Int)(fl):Prop where
 r:Je7 rl
 rh:JkQ zcM
 t:XD tl zs
 th:JdK dP zs
 ne:rl≠tl
 tok:JaQ Rs
 ok:Jla fl
 last:1≤cnt ts→∃q∈JbZ fl,QJ q=cnt ts
 t61:JdR 61
 r20:∀r∈Rs,Je4 100
 R300:JhV 300
def Got.same (g:Got K H rl tl xs zs Rs ts fl)(s:Xg H):Got K H' rl tl xs zs Rs ts fl :=
 ⟨s _ _ g.r,ar.keep s.kt (dX _) g.rh,s _ _ g.t,ar.keep s.kt (dr _) g.th,g.ne,g.tok,g.ok,g.last,g.t61,g.r20,g.R300⟩
def Got.zl (g:Got K H rl tl xs zs Rs ts fl):Jg4 ts.length:=by rw[←g.th.length,lM]
def Got.xl (g:Got K H rl tl xs zs Rs ts fl):Ja0 Rs.length:=by rw[←g.rh.length,lM]
end L2
namespace L2
open PySem PySem.Spec PyProof.Rows
set_option maxRecDepth 100000
end L2
namespace L2
open PySem
def NoF (Rs:Vp Int)(hs:List Int):Prop:=∀r∈Rs,∃q∈r,-q∉hs
def Comp (Rs:Vp Int)(ts:V3 Int):Prop:=∀i t,ts[i]?=some t→t.2=-1→NoF Rs ((ts.take i).map Prod.fst)
def Comp.nil (Rs):Comp Rs []:=λi t h=>by cases h
def Comp.take (c:Comp Rs ts)(j):Comp Rs (ts.take j):=λi t h y=>by
 have a:i<j:=by have:=(gEq h).1;rw[List.length_take]at this;lia
 rw[List.getElem?_take,if_pos a]at h;rw[List.take_take,Nat.min_eq_left (Nat.le_of_lt a)];exact c i t h y
def TOk.take (h:JaQ Rs)(j):TOk Rs (ts.take j):=λi t e=>by
 have a:i<j:=by have:=(gEq e).1;rw[List.length_take]at this;lia
 rw[List.getElem?_take,if_pos a]at e;rw[List.take_take,Nat.min_eq_left (Nat.le_of_lt a)];exact h i t e
structure fQ (ts:V3 Int)(lv)(j):Prop where
 le:Jci j
 low:∀m,m<j→XJ (m+1)≤lv
 high:Jbo j→lv<XJ (j+1)
def fQ.inj (a:fQ ts lv j)(b:fQ ts lv k):j=k:=by
 rcases Nat.lt_trichotomy j k with h | h | h
 ·have d:=b.low j h;have c:=a.high (by have:=b.le;lia);lia
 ·exact h
 ·have d:=a.low k h;have c:=b.high (by have:=a.le;lia);lia
structure kR (Rs)(ts)(f n)(j):Prop where
 tok:JaQ Rs
 ok:Jla f
 last:1≤cnt ts→∃q∈JbZ f,QJ q=cnt ts
 mx:jq (((JcH f).drop 1).map (lvF ts)) n
 cut:fQ ts n j
def kR.n0 (R:kR Rs ts f n j):0≤n:=by
 by_cases e:((JcH f).drop 1).map (lvF ts)=[]
 ·rw[R.mx.1 e];decide
 ·let⟨a,_,b⟩:=List.mem_map.mp (R.mx.2 e).1;rw[←b];exact mK a
def kR.split (R:kR Rs ts f n j)(k:JcH f≠[]):∃a rest,JcH f=V9 a∧QJ a=cnt ts∧n<cnt ts∧(∀r∈rest,QJ r≤n)∧(1≤n→∃r∈rest,QJ r=n):=by
 have h:1≤cnt ts:=by apply Decidable.byContradiction;intro z;have:=iw ts;exact k (vU R.tok (by lia))
 let⟨a,rest,e,la,l⟩:=vV R.tok R.ok h (R.last h);have g:=R.mx;rw[e]at g;have b:=g;refine⟨a,rest,e,la,?_,λr d=>?_,λo=>?_⟩
 ·by_cases z:rest.map (lvF ts)=[]
  ·rw[b.1 z];lia
  ·let⟨r,c,i⟩:=List.mem_map.mp (b.2 z).1;have o:=l r c;have p:=pZ (ts:=ts) r;lia
 ·have z:rest.map (lvF ts)≠[]:=λz=>by rw[List.map_eq_nil_iff]at z;rw[z]at d;cases d
  exact(b.2 z).2 _ (Xz r d rfl)
 ·have z:rest.map _≠[]:=λz=>by have:=b.1 z;lia
  let⟨r,c,i⟩:=List.mem_map.mp (b.2 z).1;exact⟨r,c,i⟩
def hI (a:JaQ Rs)(h:q∈JcH f):∃i t,ts[i]?=some t∧q=-t.1∧QJ q=cnt (ts.take (i+1)):=by let⟨i,t,b,e⟩:=kN (kP h).1;exact⟨i,t,b,e,by rw[e];exact JiQ b⟩
end L2
namespace L2
open PySem PySem.Spec PyProof.Rows
set_option maxRecDepth 100000
section
variable {X:Cx}
def AM (c:TA):TE:=λb H Q=>c b H λvs a=>∃j:Int,vs=Ji6 j∧∀r,JcZ (Qu (a r)) r (upd a r (.rng 0 j))
def AN (n:Gl X "range")(l:Jcy "range")(u:PA X [a] ta)(hs:Vc [a]=[(false,Vg a)]:=by rfl):VE (JJ "range" p [a] [] pos) (AM ta):=by
 intro c s f H Q I h;refine Joh I n l boot_range (thn (u pos c s f H _ I h) λus g h_=>?_) hs rfl;let⟨vs,w,d,k,q1⟩:=h_;let⟨j,e,q⟩:=q1;subst e;cases k with
 | cons r i =>
  cases i;let⟨t,rfl⟩:=r;refine call_range_1 ?_;refine JaX g.heap.objs.size _ (d.laid (λb v e=>JgM e) (nRq _) ?_) (q _ (JgY _));exact⟨_,_,_,Heap.get?_push_size _ rfl⟩
def AO (D:Vq X.calm):JgN X "list" (λxs H Q=>∃r j,xs=Vz r∧Xh r (.rng 0 j)∧0≤j∧j≤100000∧∀l,JiX l l (Jou (((List.range j.toNat).map λi:Nat=>(i:Int)).map V.int))):=by
 intro k s J H xs us Q I r h;let⟨z,j,rfl,C,P,O,q⟩:=h;let⟨u,rfl,y⟩:=eR r;cases y;let⟨N,M,K,e⟩:=JbR z C;have E:Builtin.Range.rangeSize 0 j 1=(j.toNat:Int):=by rw[rangeSize_one];split <;> lia
 refine call_list_range (I.ok.hd D) e (small_one (by lia) (by lia) (by lia) (by lia)) E (by lia) λh' tk acc c A F a=>?_;have G:acc.toList.length=j.toNat:=by rw[Array.length_toList];exact a.1
 have d:bc (((List.range j.toNat).map λi:Nat=>(i:Int)).map V.int) acc.toList:=by
  have f:∀n L o,L.length=n→(∀i v,L[i]?=some v→∃t,v=Jaj (0+(((o+i:Nat):Nat):Int) * 1))→bc (((List.range' o n).map λi:Nat=>(i:Int)).map V.int) L:=by
   intro n
   induction n with
   | zero =>
    intro L o b _;cases L with
    | nil=>exact .nil
    | cons _ _=>cases b
   | succ n B =>
    intro L o b p
    match L,b with
    | x :: L,b =>
     refine .cons ?_ (B L _ (by simpa using b) λi v e=>?_)
     ·let⟨t,e⟩:=p 0 x rfl;exact⟨t,by rw[e];congr 1;show(0:Int)+(o+0:Int) * 1=(o:Int);lia⟩
     ·let⟨t,g⟩:=p (i+1) v e;exact⟨t,by rw[g];congr 1;lia⟩
  have:=f j.toNat acc.toList 0 G λi v e=>by let⟨t,g⟩:=a.2 i v (by rw[←Array.getElem?_toList];exact e);exact⟨t,by rw[g,Nat.zero_add]⟩
  rw[List.range_eq_range'];exact this
 refine JnJ _ (t':=tk) A _ (show JcJ _ h' _ (.lst (((List.range j.toNat).map λi:Nat=>(i:Int)).map V.int)) from⟨?_,acc.toList,c,d,by rw[Array.toArray_toList];exact F⟩) (q _ (Q2 _));rw[lM,lM,List.length_range,sizeLine_eq];lia
end
end L2
namespace L2
open PySem
noncomputable def loF (x y:Int):Int:=if y<x then y else x
noncomputable def hiF (x y:Int):Int:=if y > x then y else x
def mrg (c:Int→Int)(a b:Int):Int→Int:=λt=>if c t=hiF (c a) (c b) then loF (c a) (c b) else c t
structure Hd (N:Nat)(hd:Int→Int):Prop where
 idem:∀t,hd (hd t)=hd t
 le:∀t,hd t≤t
 rng:∀t,hd t≠t→0≤hd t∧t<(N)
def Hd.zero (N):Hd N (λt=>t):=⟨λ_=>rfl,λ_=>Int.le_refl _,λ_ h=>JcL h⟩
def lohi (x y):loF x y≤hiF x y∧((loF x y=x∧hiF x y=y)∨(loF x y=y∧hiF x y=x)):=by unfold loF hiF;split <;> split <;> lia
def Hd.in' (h:Hd N hd){a:Int}(b:0≤a∧a<(N:Int)):0≤hd a∧hd a<(N:Int):=by
 have c:=h.le a;by_cases e:hd a=a
 ·rw[e];exact b
 ·have:=h.rng a e;lia
def Hd.lo_id (h:Hd N hd)(a b):hd (loF (hd a) (hd b))=loF (hd a) (hd b):=by rcases(lohi _ _).2 with ⟨e,_⟩ | ⟨e,_⟩ <;> rw[e] <;> exact h.idem _
def Hd.hi_id (h:Hd N hd)(a b):hd (hiF (hd a) (hd b))=hiF (hd a) (hd b):=by rcases(lohi _ _).2 with ⟨_,e⟩ | ⟨_,e⟩ <;> rw[e] <;> exact h.idem _
def mrg_eq (e:loF (hd a) (hd b)=hiF (hd a) (hd b)):mrg hd a b=hd:=by
 funext t;unfold mrg;by_cases c:hd t=hiF (hd a) (hd b)
 ·rw[if_pos c,e,c]
 ·rw[if_neg c]
def Hd.mrg (h:Hd N hd){a b:Int}(f:0≤a∧a<(N:Int))(d:0≤b∧b<(N:Int)):Hd N (mrg hd a b):=by
 have g:=lohi (hd a) (hd b);have la:=h.in' f;have i:=h.in' d;refine⟨λt=>?_,λt=>?_,λt=>?_⟩
 ·by_cases e:loF (hd a) (hd b)=hiF (hd a) (hd b)
  ·rw[mrg_eq e];exact h.idem t
  ·unfold L2.mrg;by_cases c:hd t=hiF (hd a) (hd b)
   ·rw[if_pos c,h.lo_id,if_neg e]
   ·rw[if_neg c,h.idem,if_neg c]
 ·unfold L2.mrg;have:=h.le t;split <;> lia
 ·unfold L2.mrg;intro z;by_cases c:hd t=hiF (hd a) (hd b)
  ·rw[if_pos c]at z ⊢;refine VI (by lia);by_cases w:hd t=t
   ·lia
   ·exact(h.rng t w).2
  ·rw[if_neg c]at z ⊢;exact h.rng t z
abbrev Lk:=Jc7 (Jc7 Int)
def hdL (a:List Lk):Int→Int:=a.foldl (λb l=>mrg b l.1 l.2.1) λt=>t
def wa (a)(l):hdL (a++[l])=mrg (hdL a) l.1 l.2.1:=by unfold hdL;rw[List.foldl_append];rfl
def InN (N:Nat)(a:List Lk):Prop:=∀l∈a,(0≤l.1∧l.1<(N:Int))∧0≤l.2.1∧l.2.1<(N:Int)
def hdL_ok (h:InN N ls):∀i,i≤ls.length→Hd N (hdL (ls.take i)):=by
 intro i
 induction i with
 | zero=>exact λ_=>Hd.zero N
 | succ i b =>
  intro c;obtain⟨l,a⟩:∃l,ls[i]?=some l:=Jlj (by lia);rw[bE a,wa];have:=h l (mO a);exact(b (by lia)).mrg this.1 this.2
def wb {b:Type}{P:List b→Prop}(h0:P [])(f:∀xs x,P xs→P (xs++[x])):∀xs,P xs:=by
 intro xs;generalize a:xs.length=n
 induction n generalizing xs with
 | zero=>rw[List.length_eq_zero_iff.mp a];exact h0
 | succ n d =>
  have c:xs≠[]:=λe=>by rw[e]at a;cases a
  rw[←List.dropLast_concat_getLast c];refine f _ _ (d _ ?_);rw[List.length_dropLast];lia
theorem gq:∀(n:Nat) {xs:List Int},xs.Nodup→(∀x∈xs,0≤x∧x<(n:Int))→JhH n
 | 0,[],_,_=>nRq _
 | 0,x :: xs,_,h=>by have:=Jam x;lia
 | n+1,xs,a,h=>by
  have q:=gq n (a.erase (n:Int)) (λx b=>by have z:=(List.Nodup.mem_erase_iff a).mp b;have:=h x z.2;have:=z.1;lia)
  rw[List.length_erase]at q;split at q <;> lia
noncomputable def dL (l:Lk):Dt:=.tup [.int l.1,.int l.2.1,.int l.2.2]
def Mem (H:Hp)(c:Jhg V)(d:Int→Int)(e:List Addr)(x:Int)(b:List Int):Prop:=b.Nodup∧(∀t,t∈b↔d t=x)∧((Qu (Xu c x)∧b=[x])∨∃a,Xu c x=Ja a∧XD a (b.map V.int)∧a∉e)
structure GO (H:Hp)(C g ld gd)(N b)(hd)(av):Prop where
 h:Hd N hd
 ne:ld≠gd
 ex:∃dx kl kg,Jig g [("least",.ref ld),("gathered",.ref gd)]∧JaJ ld kl∧JaJ gd kg∧(∀t:Int,(Xu kl t).getD (.int t)=.int (hd t))∧(∀x:Int,hd x=x→∃ms:List Int,Mem H kg hd av x ms)∧kl.length≤b * N∧kg.length≤b
def GO.same (G:GO H C g ld gd N b hd av)(s:Xg H):GO H' C g ld gd N b hd av:=by
 let⟨w,k,l,v,u,t,r,q,p,o⟩:=G.ex;refine⟨G.h,G.ne,w,k,l,s _ _ v,s _ _ u,s _ _ t,r,λx n=>?_,p,o⟩;let⟨e,j,i,c⟩:=q x n;refine⟨e,j,i,?_⟩;rcases c with c | ⟨a,f,d⟩
 ·exact .inl c
 ·exact Jhl a f (s _ _ d.1) d.2
def kS (a c:Addr)(H H':Hp):Prop:=∀b o,b≠a→b≠c→Jiv b o b o
def kS.trans (a:kS ld gd H H1)(b:kS ld gd H1 H2):kS ld gd H H2:=λc o e d h=>b c o e d (a c o e d h)
def ap.g (s:Xg H):kS ld gd H H':=λb o _ _ h=>s b o h
def GO.sub (G:GO H C g ld gd N b hd av)(h:∀a∈av',a∈av):GO H C g ld gd N b hd av':=by
 let⟨w,l,n,v,u,t,s,r,q,p⟩:=G.ex;refine⟨G.h,G.ne,w,l,n,v,u,t,s,λx o=>?_,q,p⟩;let⟨d,k,j,c⟩:=r x o;refine⟨d,k,j,?_⟩;rcases c with c | ⟨a,i,f,e⟩
 ·exact .inl c
 ·exact Jhl a i f (λz=>e (h a z))
noncomputable def zaT (v:Jn_ Int)(p:Int):Bool:=if 0<p then v p else !v (-p)
def qb (h:p≠0):zaT v (-p)=!zaT v p:=by
 unfold zaT;rcases Int.lt_or_gt_of_ne h with c | c
 ·rw[if_pos (by lia),if_neg (by lia),Bool.not_not]
 ·rw[if_neg (by lia),if_pos c,Int.neg_neg]
def SatR (v:Jn_ Int)(r:List Int):Prop:=∃p∈r,Vq (zaT v p)
def dZ (v:Jn_ Int)(rs:Vp Int):Prop:=∀r∈rs,SatR v r
def kT (h0:0≤f)(a:f<(rs.length:Int)):aY rs f∈rs:=by have:=kM h0 a;exact mO this
def AQ (d:JaQ rs)(g:Jk_ rs f){v:Int→Bool}(h:dZ v rs):∀i,Jci i→SatR v (XA rs f i).1:=by
 intro i
 induction i with
 | zero=>exact λ_=>h _ (kT g.f0 g.f1)
 | succ i s =>
  intro B;let⟨q,n,b⟩:=s (by lia);have l:ts.reverse[i]?=some (ts[VM 1-i]'(by lia)):=by rw[iO (by lia)];exact gG _
  generalize u:ts[VM 1-i]'(by lia)=t at l;have j:t∈ts:=by rw[←u];exact List.getElem_mem _
  rw[jo l];unfold eJ;by_cases c:Jmj (XA rs f i).1 (-t.1) t.2
  ·rw[if_pos c];by_cases e:q=-t.1
   ·have y:=(kO c).2.1;have w:=g.why t j y;let⟨p,x,a⟩:=h _ (kT w.1 w.2.1);have r:p≠t.1:=λz=>by let⟨k,A⟩:=List.getElem?_of_mem j;have o:=(d _ _ A).1;rw[e,qb o,←z,a]at b;cases b
    exact⟨p,Jj (JG x (dTq r)),a⟩
   ·exact⟨q,Xr (JG n (dTq e)),b⟩
  ·rw[if_neg c];exact⟨q,n,b⟩
def we (a:JaQ rs)(b:Jk_ rs f){v:Int→Bool}(h:dZ v rs):SatR v (JcG rs f):=by let⟨q,c,d⟩:=AQ a b h _ (nRq _);refine⟨q,?_,d⟩;exact Jhi (kK b _ q c) (dTq c)
noncomputable def wgt (n:Nat):Nat→V3 Int→Nat
 | _,[]=>0
 | i,t :: r=>(if t.2=-1 then 1 else 2 ^ (n-i))+JeQ (i+1) r
theorem kU (n):∀b bs i,JeQ i (b++bs)=JeQ i b+JeQ (i+b.length) bs
 | [],bs,i=>by simp [wgt]
 | a :: b,bs,i=>by show _+JeQ (i+1) (b++bs)=_+JeQ (i+1) b+_;rw[kU n b bs (i+1),List.length_cons,show i+1+b.length=i+(b.length+1) by lia];lia
theorem qd (n):∀b i,i+b.length≤n→JeQ i b+2≤2 ^ (n-i+1)
 | [],i,h=>by have:1≤2 ^ (n-i):=Nat.one_le_two_pow;show 0+2≤_;rw[Nat.pow_succ];lia
 | a :: b,i,h=>by
  rw[List.length_cons]at h;have c:=qd n b (i+1) (by lia);have e:n-(i+1)+1=n-i:=by lia
  rw[e]at c;have:1≤2 ^ (n-i):=Nat.one_le_two_pow;show(if a.2=-1 then 1 else 2 ^ (n-i))+JeQ _ b+2≤_
  rw[Nat.pow_succ];split <;> lia
def AR (n)(ts)(t):Jit ts<wgt n 0 (ts++[t]):=by
 have:1≤2 ^ (n-ts.length):=Nat.one_le_two_pow;rw[kU,Nat.zero_add];show _<_+((if t.2=-1 then 1 else 2 ^ (n-ts.length))+0)
 split <;> lia
def AS (o:JdR n)(h:ts[j]?=some t)(d:t.2=-1)(f:k≠-1):Jit ts<wgt n 0 (ts.take j++[(p,k)]):=by
 have b:=(gEq h).1;have e:ts=ts.take j++t :: ts.drop (j+1):=by
  have:=List.take_append_drop j ts;rw[List.drop_eq_getElem_cons b]at this;have g:ts[j]=t:=by have:=gG b;rw[h]at this;injection this with this;exact this.symm
  rw[g]at this;exact this.symm
 have a:(ts.take j).length=j:=by rw[List.length_take];lia
 have l:Jit ts=Jit (ts.take j)+(1+JeQ (j+1) (ts.drop (j+1))):=by
  conv=>lhs;rw[e]
  rw[kU,a,Nat.zero_add];show _+((if t.2=-1 then 1 else _)+_)=_
  rw[if_pos d]
 have i:Jit (ts.take j++[(p,k)])=Jit (ts.take j)+2 ^ (n-j):=by
  rw[kU,a,Nat.zero_add];show _+((if k=-1 then 1 else _)+0)=_
  rw[if_neg f];rfl
 have c:=qd n (ts.drop (j+1)) (j+1) (by rw[List.length_drop];lia);rw[show n-(j+1)+1=n-j by lia]at c;lia
noncomputable def bsF:Nat→V3 Int→List Int
 | _,[]=>[]
 | i,t :: r=>if t.2=-1 then(i:Int) :: bsF (i+1) r else bsF (i+1) r
theorem qe:∀b bs i,bsF i (b++bs)=bsF i b++bsF (i+b.length) bs
 | [],bs,i=>rfl
 | a :: b,bs,i=>by
  have c:=qe b bs (i+1);rw[show i+1+b.length=i+(a :: b).length by rw[List.length_cons];lia]at c;show(if a.2=-1 then(i:Int) :: bsF _ (b++bs) else bsF _ (b++bs))=(if a.2=-1 then(i:Int) :: bsF _ b else bsF _ b)++_
  split <;> rw[c] <;> rfl
def mV (ts)(t):bsF 0 (ts++[t])=if t.2=-1 then bsF 0 ts++[(ts.length:Int)] else bsF 0 ts:=by
 rw[qe,Nat.zero_add];show bsF 0 ts++(if t.2=-1 then(ts.length:Int) :: [] else [])=_
 split
 ·rfl
 ·rw[List.append_nil]
def mX:∀ts:V3 Int,((bsF 0 ts).length:Int)=cnt ts:=by
 refine wb rfl ?_;intro ts t a;rw[mV,hC];have e:cnt [t]=if t.2=-1 then 1 else 0:=by show zaS t+0=_;unfold zaS;rw[Int.add_zero]
 rw[e];split
 ·rw[lAq];show((_+1:Nat):Int)=_;lia
 ·lia
def AU:∀ts:V3 Int,bsF 0 ts≠[]→∃j t,ts[j]?=some t∧t.2=-1∧bsF 0 ts=bsF 0 (ts.take j)++[(j:Int)]∧XJ j+1=cnt ts:=by
 refine wb (λh=>JcL h) ?_;intro ts t b h;rw[mV]at h ⊢;by_cases c:t.2=-1
 ·rw[if_pos c];refine⟨ts.length,t,by rw[List.getElem?_append_right (nRq _),Nat.sub_self];rfl,c,?_,?_⟩
  ·rw[Jdi _,List.take_length]
  ·rw[Jdi _,List.take_length,hC];show _=_+(zaS t+0);unfold zaS;rw[if_pos c,Int.add_zero]
 ·rw[if_neg c]at h ⊢;let⟨j,u,a,g,f,e⟩:=b h;have d:=(gEq a).1;refine⟨j,u,by rw[List.getElem?_append_left d];exact a,g,?_,?_⟩
  ·rw[List.take_append_of_le_length (by lia)];exact f
  ·rw[List.take_append_of_le_length (by lia),hC,e];show _=_+(zaS t+0);unfold zaS;rw[if_neg c,Int.add_zero,Int.add_zero]
structure HS where
 rs:Vp Int
 pp:List Dt
 ts:V3 Int
 lk:Nat
 bs:List Int
 wt:JjK (Jc7 Int)
 wg:Int→List Int
 od:List Int
 la:JjK Int
abbrev HS.hs (S:HS):List Int:=S.ts.map Prod.fst
noncomputable def HS.hold (S:HS)(p y:Int):HS:={ S with ts:=S.ts++[(p,y)] }
noncomputable def HS.setW (S:HS)(r a b:Int):HS:={ S with wt:=λx=>if x=r then some (a,b) else S.wt x }
noncomputable def HS.addG (S:HS)(c r:Int):HS:={ S with wg:=λx=>if x=c then S.wg x++[r] else S.wg x }
noncomputable def HS.setG (S:HS)(c:Int)(ns:List Int):HS:={ S with wg:=λx=>if x=c then ns else S.wg x }
def HS.watch (S:HS)(r a b:Int):HS:=((S.setW r a b).addG a r).addG b r
def fm (a:List Int)(o:Int)(hs:List Int):Option Int:=a.find? λq=>decide (q≠o)&&decide (-q∉hs)
def AV (h:Xa (fm row o hs) q):q∈row∧q≠o∧-q∉hs:=by have b:=List.mem_of_find?_eq_some h;have a:=List.find?_some h;simp only[Bool.and_eq_true,decide_eq_true_eq]at a;exact⟨b,a.1,a.2⟩
def wh (h:Qu (fm row o hs))(b:q∈row)(a:q≠o):-q∈hs:=by have:=List.find?_eq_none.mp h q b;simp only[Bool.and_eq_true,decide_eq_true_eq,not_and,Decidable.not_not]at this;exact this a
noncomputable def zat (S:HS)(c r:Int):Int:=let p:=(S.wt r).getD (0,0);if p.1=c then p.2 else p.1
abbrev LkS:=HS × List Int × Option Int
def stepK (c:Int)(st:LkS)(r:Int):LkS :=
 if Jfr st.1∈st.1.hs then(st.1,st.2.1++[r],st.2.2)
 else match fm (aY st.1.rs r) (Jfr st.1) st.1.hs with
  | some q=>((st.1.setW r (Jfr st.1) q).addG q r,st.2.1,st.2.2)
  | none=>if -(Jfr st.1)∈st.1.hs then(st.1,st.2.1++[r],some r) else(st.1.hold (Jfr st.1) r,st.2.1++[r],st.2.2)
def cW (S:HS)(c:Int)(i:Nat):LkS:=((S.wg c).take i).foldl (stepK c) (S,[],none)
def wj (h:(S.wg c)[i]?=some r):cW S c (i+1)=stepK c (cW S c i) r:=by unfold cW;rw[bE h,List.foldl_append];rfl
def Wp (ts:V3 Int)(k:Nat)(a b:Int):Prop:=∀i t,i<k→ts[i]?=some t→t.1=-a→∃j u,ts[j]?=some u∧u.1=b∧XJ (j+1)≤XJ (i+1)
structure WOk (S:HS)(g:Int→List Int)(k):Prop where
 has:∀(r:Nat) (row),S.rs[r]?=some row→2≤row.length→∃a b,Jeh r (a,b)
 is:∀(r a b),Jeh r (a,b)→a∈JfN r∧b∈JfN r∧a≠b∧0≤r∧r<(S.rs.length:Int)
 gw:∀r c,r∈g c↔∃a b,Jeh r (a,b)∧(c=a∨c=b)
 nd:∀c,(g c).Nodup
 wp:∀r a b,Jeh r (a,b)→Wp S.ts k a b∧Wp S.ts k b a
 one:∀a,[a]∈S.rs→∃(j:Nat) (u:Jc7 Int),S.ts[j]?=some u∧u.1=a∧JbE (j+1)=0
 nil:[]∉S.rs
def eZ {ts es:List (Jc7 Int)}{i:Nat}{t:Int × Int}(h:ts[i]?=some t):(ts++es)[i]?=some t∧cnt ((ts++es).take (i+1))=cnt (ts.take (i+1)):=by have a:=(gEq h).1;exact⟨by rw[List.getElem?_append_left a];exact h,by rw[List.take_append_of_le_length (by lia)]⟩
def Wp.more {ts:List (Jc7 Int)}{k:Nat}{a b:Int}(h:Wp ts k a b)(n:Jci k)(es):Wp (ts++es) k a b:=by intro i t f c e;rw[List.getElem?_append_left (by lia)]at c;let⟨j,u,d,l,g⟩:=h i t f c e;refine⟨j,u,(eZ d).1,l,?_⟩;rw[(eZ d).2,(eZ c).2];exact g
def js {ts:List (Jc7 Int)}{p:Int}(h:p∈ts.map Prod.fst):∃(i:Nat) (t:Jc7 Int),ts[i]?=some t∧t.1=p:=by let⟨t,c,b⟩:=List.mem_map.mp h;let⟨i,a⟩:=List.getElem?_of_mem c;exact⟨i,t,a,b⟩
def d_ {ts:List (Jc7 Int)}{i:Nat}{t:Int × Int}(h:ts[i]?=some t):t.1∈ts.map Prod.fst:=Xz t (mO h) rfl
structure LkI (n k)(c)(S0:HS)(L:List Int)(i)(st:LkS):Prop where
 rs:st.1.rs=S0.rs
 eq:st.1.pp=S0.pp∧st.1.lk=S0.lk∧st.1.bs=S0.bs∧st.1.od=S0.od∧st.1.la=S0.la
 ex:∃es,st.1.ts=S0.ts++es∧∀t∈es,t.2≠-1
 tok:TOk st.1.rs st.1.ts
 rng:∀t∈st.1.ts,t.1.natAbs≤n
 w:WOk st.1 (λx=>if x=c then Jfe st.2.1 i else st.1.wg x) k
 wc:st.1.wg c=L
 ol:Qu st.2.2→∀r∈st.2.1,∃a b,Xa (st.1.wt r) (a,b)∧((a=c∧b∈st.1.hs)∨(b=c∧a∈st.1.hs))
 fl:∀f,Xa st.2.2 f→0≤f∧f<(S0.rs.length:Int)∧c∈aY S0.rs f∧∀p∈aY S0.rs f,-p∈st.1.hs
def wm (W:WOk S g k){c r:Int}(h:r∈g c):(Jeh r (c,Jfr S)∨Jeh r (Jfr S,c))∧Jfr S≠c∧Jfr S∈JfN r∧c∈JfN r∧0≤r∧r<(S.rs.length:Int):=by
 let⟨a,b,e,f⟩:=(W.gw r c).mp h;have d:=W.is r a b e;unfold zat;rw[e];show(Xa (some _) (c,if a=c then b else a)∨Xa (some _) (if a=c then b else a,c))∧(if a=c then b else a)≠c∧(if a=c then b else a)∈_∧_
 rcases f with rfl | rfl
 ·rw[if_pos rfl];exact⟨.inl rfl,Ne.symm d.2.2.1,d.2.1,d.1,d.2.2.2⟩
 ·rw[if_neg d.2.2.1];exact⟨.inr rfl,d.2.2.1,d.1,d.2.1,d.2.2.2⟩
def jV (h:∀t∈es,t.2≠-1):cnt es=0:=vW (Rs:=[]) (hs:=[]) h
def mid_nd (h:(as++x :: bs).Nodup):x∉as++bs∧(as++bs).Nodup:=by have a:=(List.perm_middle.nodup_iff).mp h;exact List.nodup_cons.mp a
def LkI.step (I:LkI n k c S0 L i st){r:Int}(hr:L[i]?=some r)(hk:k≤S0.ts.length)(hc:-c∈S0.hs)(n60:n≤60)
  (hrow:∀W∈S0.rs,∀p∈W,Jha n):LkI n k c S0 L (i+1) (stepK c st r):=by
 let⟨S,o,fl⟩:=st;have hi:=(gEq hr).1;have ed:L.drop i=r :: L.drop (i+1):=by rw[List.drop_eq_getElem_cons hi];have:=gG hi;rw[hr]at this;injection this with this;rw[this]
 let⟨C,M,⟨es,K,Q⟩,s,w,g,H,O,P⟩:=I;have T:=C;have J:=K;have hk':Jnp k:=by rw[J,lAq];lia
 have hc':-c∈S.hs:=by show -c∈S.ts.map Prod.fst;rw[J,mAq];exact List.mem_append_left _ hc
 have hrc:r∈(λx=>if x=c then Jfe o i else S.wg x) c:=by
  show r∈if c=c then Jfe o i else S.wg c
  rw[if_pos rfl,ed];exact List.mem_append_right _ List.mem_cons_self
 let⟨ow,oc,E,crow,r0,r1⟩:=wm g hrc;have gE:(λx=>if x=c then Jfe o i else S.wg x)=λx=>if x=c then Jfe (o++[r]) (i+1) else S.wg x:=by funext x;rw[ed,List.append_assoc];rfl
 have hol:∀d∈o++[r],d∈o∨d=r:=λd h=>(mPq h).imp id mS;have wE:∃a b,Jeh r (a,b)∧((a=c∧b=Jfr S)∨(b=c∧a=Jfr S)):=ow.elim (λz=>⟨_,_,z,JiC rfl⟩) λz=>⟨_,_,z,Jnt rfl⟩;unfold stepK;show LkI n k c S0 L (i+1) _
 by_cases c1:Jfr S∈S.hs
 ·rw[if_pos c1];refine⟨C,M,⟨es,K,Q⟩,s,w,gE ▸ g,H,λY d h'=>?_,P⟩;rcases hol d h' with z | rfl
  ·exact O Y d z
  ·let⟨a,b,v,y⟩:=wE;exact⟨a,b,v,y.imp (λ z=>⟨z.1,by rw[z.2];exact c1⟩) λ z=>⟨z.1,by rw[z.2];exact c1⟩⟩
 rw[if_neg c1];show LkI n k c S0 L (i+1) _
 cases hf:fm _ _ S.hs with
 | some q =>
  let⟨q1,q2,q3⟩:=AV hf;have qc:q≠c:=λz=>q3 (z ▸ hc');have ndc:=g.nd c;have R:(Jfe o i).Nodup:=by
   have:(if c=c then Jfe o i else S.wg c).Nodup:=ndc
   rwa [if_pos rfl]at this
  rw[ed]at R;have md:=mid_nd R;have wtE:∀x a b,((S.setW r _ q).addG q r).wt x=some (a,b)→(x=r∧a=Jfr S∧b=q)∨(x≠r∧Jeh x (a,b)):=λx a b h=>by
   have h':(if x=r then some _ else S.wt x)=some (a,b):=h
   by_cases e:x=r
   ·rw[if_pos e]at h';injection h' with h';injection h' with v y;exact .inl ⟨e,v.symm,y.symm⟩
   ·rw[if_neg e]at h';exact .inr ⟨e,h'⟩
  have U:∀x,x≠r→((S.setW r (Jfr S) q).addG q r).wt x=S.wt x:=λx e=>if_neg e;have wtR:((S.setW r (Jfr S) q).addG q r).wt r=some _:=if_pos rfl;have old:∀x,x≠c→(r∈S.wg x↔x=Jfr S):=λx hx=>by
   have:=g.gw r x;have this:=this
   rw[if_neg hx]at this;rw[this];let⟨a,b,v,y⟩:=wE;constructor
   ·rintro ⟨a',b',N,D⟩;rw[v]at N;injection N with N;injection N with h5 h6;rcases y with ⟨e1,Z⟩ | ⟨e1,Z⟩
    ·rcases D with D | D
     ·exact absurd (D.trans (h5.symm.trans e1)) hx
     ·exact D.trans (h6.symm.trans Z)
    ·rcases D with D | D
     ·exact D.trans (h5.symm.trans Z)
     ·exact absurd (D.trans (h6.symm.trans e1)) hx
   ·intro e;refine⟨a,b,v,?_⟩;rcases y with ⟨_,Z⟩ | ⟨_,Z⟩
    ·exact .inr (e.trans Z.symm)
    ·exact .inl (e.trans Z.symm)
  refine⟨C,M,⟨es,K,Q⟩,s,w,⟨λx W hx hl=>?_,λx a b h=>?_,λd x=>?_,λx=>?_,λx a b h=>?_,g.one,g.nil⟩,?_,λY d h'=>?_,P⟩
  ·by_cases e:(x:Int)=r
   ·rw[e];exact JnP _ wtR
   ·rw[U _ e];exact g.has x W hx hl
  ·rcases wtE x a b h with ⟨rfl,rfl,rfl⟩ | ⟨_,h⟩
   ·exact⟨E,q1,Ne.symm q2,r0,r1⟩
   ·exact g.is x a b h
  ·show(d∈if x=c then Jfe o (i+1) else if x=q then JmH x [r] else S.wg x)↔_
   by_cases e:d=r
   ·subst e;have rhs:(∃a b,((S.setW d (JeR S d) q).addG q d).wt d=some (a,b)∧(x=a∨x=b))↔(x=JeR S d∨x=q):=by
     rw[wtR];constructor
     ·rintro ⟨a,b,N,D⟩;injection N with N;injection N with h5 h6;rw[h5,h6];exact D
     ·exact λh=>Jv _ _ h
    rw[rhs];by_cases B:x=c
    ·rw[if_pos B];exact⟨λh=>absurd h md.1,λh=>h.elim (λz=>absurd (z.symm.trans B) oc) λz=>absurd (z.symm.trans B) qc⟩
    ·rw[if_neg B];by_cases G:x=q
     ·rw[if_pos G];exact⟨λ_=>.inr G,λ_=>Jj List.mem_cons_self⟩
     ·rw[if_neg G,old x B];exact⟨.inl,λh=>h.elim id λz=>VR G⟩
   ·rw[U _ e];have:=g.gw d x;rw[←this];show _↔(d∈if x=c then Jfe o i else S.wg x)
    by_cases B:x=c
    ·rw[if_pos B,if_pos B,ed,List.mem_append,List.mem_append,List.mem_cons];exact⟨λh=>h.imp id .inr,λh=>h.imp id λz=>z.elim (λz=>VR e) id⟩
    ·rw[if_neg B,if_neg B];by_cases G:x=q
     ·rw[if_pos G,List.mem_append,List.mem_singleton];exact⟨λh=>h.elim id λz=>VR e,.inl⟩
     ·rw[if_neg G]
  ·show(if x=c then Jfe o (i+1) else if x=q then JmH x [r] else S.wg x).Nodup
   by_cases B:x=c
   ·rw[if_pos B];exact md.2
   ·rw[if_neg B];have nx:=g.nd x;have nx:=nx
    rw[if_neg B]at nx;by_cases G:x=q
    ·rw[if_pos G];refine Jf8 nx (λa ha b hb e=>?_);have hb:=mS hb;rw[e,hb]at ha;exact q2 (G.symm.trans ((old x B).mp ha))
    ·rw[if_neg G];exact nx
  ·rcases wtE x a b h with ⟨rfl,rfl,rfl⟩ | ⟨_,h⟩
   ·refine⟨λj t hj A e=>?_,λj t hj A e=>?_⟩
    ·have wpc:=ow.elim (λz=>(g.wp _ _ _ z).2) λz=>(g.wp _ _ _ z).1;let⟨l,u,v,y,_⟩:=wpc j t hj A e;exact absurd (s.cons (y ▸ d_ v) hc') id
    ·exact absurd (e ▸ d_ A) q3
   ·exact g.wp x a b h
  ·show(if c=q then JmH c [r] else S.wg c)=L
   rw[if_neg (Ne.symm qc)];exact H
  ·have hne:d≠r:=λe=>md.1 (Xr (e ▸ h'));let⟨a,b,v,y⟩:=O Y d h';exact⟨a,b,(U _ hne).trans v,y⟩
 | none =>
  by_cases c2:-(Jfr S)∈S.hs
  ·rw[if_pos c2];refine⟨C,M,⟨es,K,Q⟩,s,w,gE ▸ g,H,λY=>?_,λf F=>?_⟩
   ·cases Y
   ·injection F with F;subst F;rw[←T];refine⟨r0,r1,crow,λp hp=>?_⟩;by_cases e:p=zat S c r
    ·rw[e];exact c2
    ·exact wh hf hp e
  ·rw[if_neg c2];have hro:=hrow _ (T ▸ kT r0 r1) _ E;have X:(S.hold (Jfr S) r).hs=S.hs++[Jfr S]:=by show(S.ts++[(Jfr S,r)]).map Prod.fst=_;rw[mAq];rfl
   refine⟨C,M,⟨es++[(Jfr S,r)],?_,λt A=>?_⟩,?_,λt A=>?_,?_,H,λY d h'=>?_,λf F=>?_⟩
   ·show S.ts++[(Jfr S,r)]=S0.ts++(es++[(Jfr S,r)]);rw[J,List.append_assoc]
   ·rcases mPq A with A | A
    ·exact Q t A
    ·rw[mS A];lia
   ·refine TOk.snoc s hro.1 (by lia) c1 c2 (Jfc r.toNat (JfN r) ?_ (kM r0 r1) E (λp hp ne=>wh hf hp ne));lia
   ·rcases mPq A with A | A
    ·exact w t A
    ·rw[mS A];exact hro.2
   ·refine⟨g.has,g.is,?_,?_,λx a b h=>⟨(g.wp x a b h).1.more hk' _,(g.wp x a b h).2.more hk' _⟩,λa h=>?_,g.nil⟩
    ·exact(gE ▸ g:WOk S (λx=>if x=c then Jfe (o++[r]) (i+1) else S.wg x) k).gw
    ·exact(gE ▸ g:WOk S (λx=>if x=c then Jfe (o++[r]) (i+1) else S.wg x) k).nd
    ·let⟨j,u,v,y,N⟩:=g.one a h;exact⟨j,u,(eZ v).1,y,(eZ v).2.trans N⟩
   ·rcases hol d h' with z | rfl
    ·let⟨a,b,v,y⟩:=O Y d z;refine⟨a,b,v,?_⟩;show(a=c∧b∈(S.hold _ r).hs)∨(b=c∧a∈(S.hold _ r).hs);rw[X];exact y.imp (λz=>⟨z.1,Xr z.2⟩) λz=>⟨z.1,Xr z.2⟩
    ·let⟨a,b,v,y⟩:=wE;refine⟨a,b,v,?_⟩;show(a=c∧b∈(S.hold _ d).hs)∨(b=c∧a∈(S.hold (JeR S d) d).hs);rw[X];exact y.imp (λ z=>⟨z.1,by rw[z.2];exact Jj List.mem_cons_self⟩) λ z=>⟨z.1,by rw[z.2];exact Jj List.mem_cons_self⟩
   ·have:=P f F;refine⟨this.1,this.2.1,this.2.2.1,λp hp=>?_⟩;rw[X];exact Xr (this.2.2.2 p hp)
structure HB (n)(B)(S:HS):Prop where
 tok:TOk S.rs S.ts
 rng:∀t∈S.ts,t.1.natAbs≤n
 row:∀r∈S.rs,r.Nodup∧∀p∈r,Jha n
 snd:∀v,dZ v B→dZ v S.rs
 sub:∀r∈B,r∈S.rs
 len:S.rs.length=B.length+S.pp.length
 bs:S.bs=bsF 0 S.ts
 od:∀a:Int,a∈S.od↔1≤a∧a≤n
 odn:S.od.Nodup
 la:∀a x,Xa (S.la a) x→x=a∨x=-a
structure cV (n)(B)(S):Prop where
 b:HB n B S
 w:WOk S S.wg S.lk
 lk:Jnp S.lk
 lv:∀i,S.lk≤i→Jjq i→JbE (i+1)=cnt S.ts
structure eB (n)(B)(S)(f):Prop where
 b:HB n B S
 ln:dt S.rs S.ts f
 last:1≤cnt S.ts→∃q∈JfN f,lvF S.ts q=cnt S.ts
 w:1≤cnt S.ts→∃k,WOk S S.wg k∧Jnp k∧∀i,Jjq i→JbE (i+1)<cnt S.ts→i<k
structure eK (S S':HS):Prop where
 rs:S'.rs=S.rs
 pp:S'.pp=S.pp
 ts:∃es,S'.ts=S.ts++es∧∀t∈es,t.2≠-1
def eK.refl (S):eK S S:=⟨rfl,rfl,[],by rw[List.append_nil],λ_ h=>nomatch h⟩
def eK.trans (a:eK S T)(b:eK T U):eK S U:=by let⟨es,g,f⟩:=a.ts;let⟨h,e,d⟩:=b.ts;exact⟨b.rs.trans a.rs,b.pp.trans a.pp,es++h,by rw[e,g,List.append_assoc],λt c=>(mPq c).elim (f t) (d t)⟩
def eK.wgt (a:eK S T)(n):Jit S.ts≤wgt n 0 T.ts:=by let⟨es,b,_⟩:=a.ts;rw[b,kU];lia
def HB.tlen (h:HB n B S):Jnr n:=by
 have l:=h.tok.atoms;have d:=pX n (xs:=S.ts.map λt=>t.1.natAbs-1) ?_ ?_
 ·rw[lM]at d;exact d
 ·rw[show(S.ts.map λt=>t.1.natAbs-1)=(S.ts.map λt=>t.1.natAbs).map (· - 1) by rw[List.map_map];rfl];refine List.pairwise_map.mpr (l.imp_of_mem λ{x y} b f e z=>e ?_);let⟨t,a,rfl⟩:=List.mem_map.mp b;let⟨u,g,rfl⟩:=List.mem_map.mp f;let⟨i,c⟩:=List.getElem?_of_mem a;let⟨j,k⟩:=List.getElem?_of_mem g;have:=(h.tok _ _ c).1;have:=(h.tok _ _ k).1;lia
 ·intro x b;let⟨t,a,rfl⟩:=List.mem_map.mp b;let⟨i,c⟩:=List.getElem?_of_mem a;have:=(h.tok _ _ c).1;have:=h.rng t a;lia
def HB.rlen (h:HB n B S)(b:n≤40):∀r∈S.rs,Je4 100:=λr a=>by
 have f:=gq 81 (xs:=r.map λp=>p+40) ?_ ?_
 ·rw[lM]at f;lia
 ·refine List.pairwise_map.mpr ((h.row r a).1.imp λ{x y} e z=>e (by lia))
 ·intro x c;let⟨p,d,rfl⟩:=List.mem_map.mp c;have:=((h.row r a).2 p d).2;lia
theorem qf:∀es i,(∀t∈es,t.2≠-1)→bsF i es=[]
 | [],_,_=>rfl
 | e :: es,i,h=>by
  show(if e.2=-1 then _ else bsF (i+1) es)=[]
  rw[if_neg (Jam e)];exact qf es _ λt a=>h t (Xe a)
def eC (S:HS)(c:Int):HS × Option Int:=((cW S c (S.wg c).length).1.setG c (cW S c (S.wg c).length).2.1,(cW S c (S.wg c).length).2.2)
def LkI.zero (M:cV n B S)(c):LkI n S.lk c S (S.wg c) 0 (S,[],none):=by
 refine⟨rfl,JdC rfl rfl rfl,⟨[],(List.append_nil _).symm,λ_ h=>nomatch h⟩,M.b.tok,M.b.rng,?_,rfl,λ_ r h=>(nomatch h),λf h=>(nomatch h)⟩;have e:(λx=>if x=c then([]:List Int)++(S.wg c).drop 0 else S.wg x)=S.wg:=by
  funext x;by_cases h:x=c
  ·rw[if_pos h,h];rfl
  ·rw[if_neg h]
 rw[e];exact M.w
def LkI.all (M:cV n B S)(d:n≤60){c:Int}(g:-c∈S.hs):∀i,i≤(S.wg c).length→LkI n S.lk c S (S.wg c) i (cW S c i):=by
 intro i
 induction i with
 | zero=>exact λ_=>LkI.zero M c
 | succ i f =>
  intro j;obtain⟨r,e⟩:∃r,(S.wg c)[i]?=some r:=Jlj (by lia);rw[wj e];exact(f (by lia)).step e M.lk g d λa h=>(M.b.row a h).2
def cV.look (M:cV n B S)(Y:n≤60){s:Int × Int}(U:S.ts[S.lk]?=some s) :
  eK S (eC S (-s.1)).1∧((eC S (-s.1)).2=none→cV n B { (eC S (-s.1)).1 with lk:=S.lk+1 })∧∀f,(eC S (-s.1)).2=some f→eB n B { (eC S (-s.1)).1 with lk:=S.lk+1 } f:=by
 have hc:- -s.1∈S.hs:=by rw[Int.neg_neg];exact d_ U
 have I:=LkI.all M Y hc _ (nRq _);have ec:s.1=- -s.1:=(Int.neg_neg _).symm;unfold eC;generalize -s.1=c at hc I ec;generalize cW S c (S.wg c).length=st at I;let⟨d,H,fl⟩:=st;let⟨g,o,⟨es,l,E⟩,p,A,k,Iwc,Q,D⟩:=I;have gE:(λx=>if x=c then H++(S.wg c).drop (S.wg c).length else d.wg x)=(d.setG c H).wg:=by funext x;rw[List.drop_length,List.append_nil];rfl
 rw[gE]at k;have hk:=(gEq U).1;have ce:=jV E;have cE:cnt d.ts=cnt S.ts:=by rw[l,hC,ce,Int.add_zero]
 have O:d.ts[S.lk]?=some s:=by rw[l];exact(eZ U).1
 have L:Jnh (S.lk+1)=cnt d.ts:=by rw[cE,l,(eZ U).2];exact M.lv _ (nRq _) hk
 have K:∀i,S.lk≤i→i<d.ts.length→Jnh (i+1)=cnt d.ts:=λi w F=>by have Z:=jr (ts:=d.ts) (i:=S.lk+1) (j:=i+1) (by lia);have h4:=pY (ts:=d.ts) (i:=i+1);lia
 have hb:HB n B { d.setG c H with lk:=S.lk+1 }:=by
  refine⟨p,A,?_,?_,?_,?_,?_,?_,?_,?_⟩
  ·show ∀r∈d.rs,_;rw[g];exact M.b.row
  ·show ∀v,dZ v B→dZ v d.rs;rw[g];exact M.b.snd
  ·show ∀r∈B,r∈d.rs;rw[g];exact M.b.sub
  ·show d.rs.length=B.length+d.pp.length;rw[g,o.1];exact M.b.len
  ·show d.bs=bsF 0 d.ts;rw[o.2.2.1,l,qe,qf es _ E,List.append_nil];exact M.b.bs
  ·show ∀a:Int,a∈d.od↔_;rw[o.2.2.2.1];exact M.b.od
  ·show d.od.Nodup;rw[o.2.2.2.1];exact M.b.odn
  ·show ∀a x,Xa (d.la a) x→_;rw[o.2.2.2.2];exact M.b.la
 refine⟨⟨g,o.1,es,l,E⟩,λhn=>⟨hb,⟨k.has,k.is,k.gw,k.nd,?_,k.one,k.nil⟩,?_,λi w F=>K i (by have:S.lk+1≤i:=w;lia) F⟩,λf hf=>⟨hb,?_,λ_=>Qj c ?_,λ_=>⟨S.lk,⟨k.has,k.is,k.gw,k.nd,k.wp,k.one,k.nil⟩,?_,λi w F=>?_⟩⟩⟩
 ·intro r a b h;have h':d.wt r=some _:=h;have G:=k.wp r a b h;have ab:=(k.is r a b h).2.2.1;have J:∀x y,(x=a∧y=b)∨(x=b∧y=a)→Wp d.ts S.lk x y→Wp d.ts (S.lk+1) x y:=by
   intro x y N wp i t hi q e;by_cases c1:i<S.lk
   ·exact wp i t c1 q e
   have ei:i=S.lk:=by lia
   rw[ei]at q ⊢;rw[O]at q;injection q with q;have R:x=c:=by rw[←q,ec]at e;lia
   have hr:=(k.gw r c).mpr ⟨a,b,h,N.elim (λz=>.inl (R.symm.trans z.1)) λz=>.inr (R.symm.trans z.1)⟩;have P:r∈if c=c then H else d.wg c:=hr
   rw[if_pos rfl]at P;let⟨a',b',T,w2⟩:=Q hn r P;rw[h']at T;injection T with T;injection T with e1 e2;have yh:y∈d.hs:=by
    rcases N with ⟨X,W⟩ | ⟨X,W⟩
    ·rcases w2 with ⟨_,C⟩ | ⟨C,_⟩
     ·rw[W,e2];exact C
     ·exact absurd ((X.symm.trans R).trans (C.symm.trans e2.symm)) ab
    ·rcases w2 with ⟨C,_⟩ | ⟨_,C⟩
     ·exact absurd ((e1.trans C).trans (R.symm.trans X)) ab
     ·rw[W,e1];exact C
   let⟨j,u,hj,hu⟩:=js yh;exact⟨j,u,hj,hu,by rw[L];exact pY⟩
  exact⟨J a b (JiC rfl) G.1,J b a (Jnt rfl) G.2⟩
 ·show S.lk+1≤d.ts.length;rw[l,lAq];lia
 ·have w:=D f hf;have F:Fails d.rs d.ts f.toNat:=⟨aY d.rs f,by rw[g];exact kM w.1 w.2.1,by rw[g];exact w.2.2.2⟩;have Z:=p.ln F;rw[show(f.toNat:Int)=f by lia]at Z;exact Z
 ·show c∈aY d.rs f;rw[g];exact(D f hf).2.2.1
 ·show lvF d.ts c=cnt d.ts;rw[show c=-s.1 by lia,fk p.negs O];exact L
 ·show S.lk≤d.ts.length;rw[l,lAq];lia
 ·have h2':Jnh (i+1)<cnt d.ts:=F;rcases Nat.lt_or_ge i S.lk with z | z
  ·exact z
  ·rw[K i z w]at h2';lia
noncomputable def HS.pick (S:HS)(a:Int):HS:={ S with ts:=S.ts++[((S.la a).getD (-a),-1)],bs:=S.bs++[(S.ts.length:Int)] }
def cV.pick (M:cV n B S)(C:n≤60)(J:JhL S.lk){a:Int}(H:a∈S.od)(q:a∉S.hs)(o:-a∉S.hs):cV n B (S.pick a):=by
 have k:(S.la a).getD (-a)=a∨(S.la a).getD (-a)=-a:=by
  cases e:S.la a with
  | none=>exact .inr rfl
  | some x=>exact M.b.la a x e
 have I:=(M.b.od a).mp H;generalize G:(S.la a).getD _=p at k;have c:(S.pick a).ts=S.ts++[(p,-1)]:=by show S.ts++[((S.la a).getD (-a),-1)]=_;rw[G]
 have E:=k.elim (λz=>z ▸ q) λz=>z ▸ o;have D:=k.elim (λz=>z ▸ o) λz=>by rw[z,Int.neg_neg];exact q
 have l:Jha n:=by rcases k with z | z <;> rw[z] <;> lia
 refine⟨⟨?_,?_,M.b.row,M.b.snd,M.b.sub,M.b.len,?_,M.b.od,M.b.odn,M.b.la⟩,⟨M.w.has,M.w.is,M.w.gw,M.w.nd,?_,?_,M.w.nil⟩,?_,?_⟩
 ·rw[c];exact TOk.snoc M.b.tok l.1 (by lia) E D (.inl rfl)
 ·rw[c];intro t d;rcases mPq d with d | d
  ·exact M.b.rng t d
  ·rw[mS d];exact l.2
 ·rw[c,mV,if_pos rfl];show S.bs++[(S.ts.length:Int)]=_;rw[M.b.bs]
 ·rw[c];intro r x y h;exact⟨(M.w.wp r x y h).1.more M.lk _,(M.w.wp r x y h).2.more M.lk _⟩
 ·rw[c];intro x F;let⟨j,u,g,f,s⟩:=M.w.one x F;exact⟨j,u,(eZ g).1,f,(eZ g).2.trans s⟩
 ·rw[c,lAq];show S.lk≤_;lia
 ·rw[c];intro i g f;have A:S.lk≤i:=g;rw[lAq]at f;rw[tO (by rw[lAq];show S.ts.length+1≤_;lia)]
def cV.yes (M:cV n B S)(D:JhL S.lk)(h:∀a∈S.od,a∈S.hs∨-a∈S.hs):∀r∈B,∃p∈r,p∈S.hs:=by
 intro r d;have d:=M.b.sub r d;have g:∀p∈r,p∈S.hs∨-p∈S.hs:=λp C=>by
  have f:=(M.b.row r d).2 p C;rcases Int.lt_or_gt_of_ne f.1 with c | c
  ·have:=h (-p) ((M.b.od _).mpr (by lia));rw[Int.neg_neg]at this;exact this.symm
  ·exact h p ((M.b.od _).mpr (by lia))
 match r,d,g with
 | [],d,_=>exact absurd d M.w.nil
 | [a],d,_ =>
  let⟨j,u,f,o,_⟩:=M.w.one a d;exact⟨a,List.mem_cons_self,o ▸ d_ f⟩
 | a :: b :: l,d,g =>
  let⟨k,s⟩:=List.getElem?_of_mem d;let⟨x,y,q⟩:=M.w.has k _ s (by simp only[List.length_cons];lia);have f:=M.w.is _ _ _ q;have e:JfN (k:Int)=a :: b :: l:=by have:=kM f.2.2.2.1 f.2.2.2.2;rw[Int.toNat_natCast,s]at this;injection this with this;exact this.symm
  rw[e]at f;rcases g x f.1 with z | z
  ·exact⟨x,f.1,z⟩
  ·let⟨i,t,v,A⟩:=js z;let⟨j,u,o,E,_⟩:=(M.w.wp _ _ _ q).1 i t (by rw[D];exact(gEq v).1) v A;exact⟨y,f.2.1,E ▸ d_ o⟩
noncomputable def putW (r:Int)(c:List Int)(d:JjK (Jc7 Int)):Int→Option (Jc7 Int):=match c with
 | a :: b :: _=>λx=>if x=r then some (a,b) else d x
 | _=>d
noncomputable def putG (r:Int)(d:List Int)(c:Int→List Int):Int→List Int:=match d with
 | a :: b :: _=>λx=>if x=b then(if x=a then c x++[r] else c x)++[r] else if x=a then c x++[r] else c x
 | _=>c
def HS.put (S:HS)(l:Dt)(ps a:List Int):HS:={ S with rs:=S.rs++[ps],pp:=S.pp++[l],wt:=putW (S.rs.length:Int) a S.wt,wg:=putG (S.rs.length:Int) a S.wg }
def HS.cut (S:HS)(j:Nat)(la:JjK Int):HS:={ S with ts:=S.ts.take j,bs:=bsF 0 (S.ts.take j),lk:=j,la:=la }
def wo (h0:0≤r)(a:r<(rs.length:Int)):aY (rs++[ps]) r=aY rs r:=by
 rcases AL a with h | h
 ·exact h
 ·lia
def AW (rs)(ps):aY (rs++[ps]) (rs.length:Int)=ps:=by unfold aY;rw[Int.toNat_natCast,List.getD_eq_getElem?_getD,List.getElem?_append_right (nRq _),Nat.sub_self];rfl
def WOk.put (W:WOk S S.wg k){l:Dt}{ps:List Int}(A:ps.Nodup)(C:ps≠[])(H:∀a,ps=[a]→∃j u,S.ts[j]?=some u∧u.1=a∧JbE (j+1)=0)
  (G:∀a b d,ps=a :: b :: d→Wp S.ts k a b∧Wp S.ts k b a):WOk (Jlb ps ps) (Jlb ps ps).wg k:=by
 have B:∀x a b,Jeh x _→x≠(S.rs.length:Int):=λx a b h=>by have:=(W.is x a b h).2.2.2.2;lia
 match ps,A,C,H,G with
 | [],_,C,_,_=>exact JcL C
 | [a],_,_,H,_ =>
  refine⟨λr g F v=>?_,λr x y h=>?_,W.gw,W.nd,W.wp,λx E=>?_,λh=>?_⟩
  ·have f:(S.rs++[[a]])[r]?=some g:=F;rcases Nat.lt_or_ge r S.rs.length with c | c
   ·rw[List.getElem?_append_left c]at f;exact W.has r g f v
   ·have:=mO (by rw[List.getElem?_append_right c]at f;exact f);rw[mS this]at v;exact absurd v (by simp)
  ·have:=W.is r x y h;show x∈aY (S.rs++[[a]]) r∧y∈aY (S.rs++[[a]]) r∧x≠y∧0≤r∧r<((S.rs++[[a]]).length:Int);rw[wo this.2.2.2.1 this.2.2.2.2,lAq];exact⟨this.1,this.2.1,this.2.2.1,this.2.2.2.1,by simp only[List.length_cons,List.length_nil];lia⟩
  ·have o:=E;rcases mPq o with h | h
   ·exact W.one x h
   ·have:=mS h;injection this with this;rw[this];exact H a rfl
  ·have h':=h;rcases mPq h' with h | h
   ·exact W.nil h
   ·cases mS h
 | a :: b :: d,A,_,_,G =>
  have ab:a≠b:=λe=>by rw[e]at A;exact(List.nodup_cons.mp A).1 List.mem_cons_self
  have t:∀x y z,(Jlb (a :: b :: d) (a :: b :: d)).wt x=some (y,z)→(x=(S.rs.length:Int)∧y=a∧z=b)∨(x≠(S.rs.length:Int)∧Jeh x _):=λx y z h=>by
   have h':(if x=(S.rs.length:Int) then some _ else S.wt x)=some _:=h
   by_cases e:x=(S.rs.length:Int)
   ·rw[if_pos e]at h';injection h' with h';injection h' with i n;exact .inl ⟨e,i.symm,n.symm⟩
   ·rw[if_neg e]at h';exact .inr ⟨e,h'⟩
  have p:(Jlb (a :: b :: d) (a :: b :: d)).wt _=some _:=if_pos rfl;have s:∀x,x≠(S.rs.length:Int)→(Jlb (a :: b :: d) (a :: b :: d)).wt x=S.wt x:=λx e=>if_neg e;have K:∀x,(Jlb (a :: b :: d) (a :: b :: d)).wg x=if x=a∨x=b then JmH x [(S.rs.length:Int)] else S.wg x:=λx=>by
   show(if x=b then(if x=a then JmH x [_] else S.wg x)++[_] else if x=a then JmH x [_] else S.wg x)=_
   by_cases i:x=a
   ·rw[if_neg (λz=>ab (i.symm.trans z)),if_pos i,if_pos (.inl i)]
   ·by_cases n:x=b
    ·rw[if_pos n,if_neg i,if_pos (.inr n)]
    ·rw[if_neg n,if_neg i,if_neg (λz=>z.elim i n)]
  have ng:∀x,(S.rs.length:Int)∉S.wg x:=λx h=>by let⟨y,z,w,_⟩:=(W.gw _ x).mp h;exact B _ _ _ w rfl
  refine⟨λr g F v=>?_,λr x y h=>?_,λr x=>?_,λx=>?_,λr x y h=>?_,λx E=>?_,λh=>?_⟩
  ·have f:(S.rs++[a :: b :: d])[r]?=some g:=F;rcases Nat.lt_or_ge r S.rs.length with c | c
   ·rw[List.getElem?_append_left c]at f;rw[s _ (by lia)];exact W.has r g f v
   ·have:=(gEq f).1;rw[lAq]at this;have this:r<S.rs.length+1:=this;rw[show r=S.rs.length by lia];exact⟨a,b,p⟩
  ·show x∈aY (S.rs++[a :: b :: d]) r∧y∈aY (S.rs++[a :: b :: d]) r∧x≠y∧0≤r∧r<((S.rs++[a :: b :: d]).length:Int);rw[lAq];show _∧_∧_∧_∧r<(S.rs.length+1:Int);rcases t r x y h with ⟨rfl,rfl,rfl⟩ | ⟨_,h⟩
   ·rw[AW];exact Ji9 List.mem_cons_self (Xe List.mem_cons_self) ab (by lia)
   ·have:=W.is r x y h;rw[wo this.2.2.2.1 this.2.2.2.2];exact⟨this.1,this.2.1,this.2.2.1,this.2.2.2.1,by lia⟩
  ·rw[K x];by_cases e:r=(S.rs.length:Int)
   ·rw[e,p];by_cases z:x=a∨x=b
    ·rw[if_pos z];exact⟨λ_=>Jv a b z,λ_=>Jj List.mem_cons_self⟩
    ·rw[if_neg z];refine⟨λh=>absurd h (ng x),λh_=>?_⟩;let⟨y,L,w,J⟩:=h_;injection w with w;injection w with i n;rw[←i,←n]at J;exact absurd J z
   ·rw[s r e,←W.gw r x];by_cases z:x=a∨x=b
    ·rw[if_pos z,List.mem_append,List.mem_singleton];exact⟨λh=>h.elim id λq=>absurd q e,.inl⟩
    ·rw[if_neg z]
  ·rw[K x];by_cases z:x=a∨x=b
   ·rw[if_pos z];refine Jf8 (W.nd x) (λy I L D e=>?_);rw[e,mS D]at I;exact ng x I
   ·rw[if_neg z];exact W.nd x
  ·rcases t r x y h with ⟨rfl,rfl,rfl⟩ | ⟨_,h⟩
   ·exact G x y d rfl
   ·exact W.wp r x y h
  ·have o:=E;rcases mPq o with h | h
   ·exact W.one x h
   ·have:=mS h;injection this with _ this;cases this
  ·have h':=h;rcases mPq h' with h | h
   ·exact W.nil h
   ·cases mS h
def jW {ts:List (Jc7 Int)}{i j:Nat}{t:Int × Int}(a:i<j)(h:ts[i]?=some t):(ts.take j)[i]?=some t∧cnt ((ts.take j).take (i+1))=cnt (ts.take (i+1)):=by refine VI (by rw[List.getElem?_take,if_pos a];exact h);rw[List.take_take,Nat.min_eq_left (by lia)]
def jt {ts:List (Jc7 Int)}{i j:Nat}{t:Int × Int}(h:(ts.take j)[i]?=some t):i<j∧ts[i]?=some t:=by
 rw[List.getElem?_take]at h;split at h
 ·exact⟨by assumption,h⟩
 ·cases h
def fQ.ix (c:fQ ts m j)(h:ts[i]?=some t):XJ (i+1)≤m↔i<j:=by
 have a:Jbo i:=(gEq h).1;constructor
 ·intro e;rcases Nat.lt_or_ge i j with z | z
  ·exact z
  ·have d:=c.high (by lia);have b:=jr (ts:=ts) (i:=j+1) (j:=i+1) (by lia);lia
 ·exact c.low i
def WOk.cut {S:HS}{g:Int→List Int}{k:Nat}(W:WOk S g k){m:Int}{j:Nat}(c:fQ S.ts m j)(B:0≤m)(E:m<cnt S.ts)(A:∀i,Jjq i→JbE (i+1)<cnt S.ts→i<k){la:Int→Option Int}{a y:Int}{od:List Int} :
  WOk { (JhM j).hold a y with od:=od } g j:=by
 have D:(S.ts.take j).length=j:=by rw[List.length_take];have:=c.le;lia
 have p:∀x y,Wp S.ts k x y→Wp (S.ts.take j) j x y:=by intro x y h i t q w e;have b:=jt w;have s:=(gEq b.2).1;have C:=(c.ix b.2).mpr q;let⟨l,u,f,o,d⟩:=h i t (A i s (by lia)) b.2 e;have n:=(c.ix f).mp (by lia);refine⟨l,u,(jW n f).1,o,?_⟩;rw[(jW n f).2,(jW q b.2).2];exact d
 refine⟨W.has,W.is,W.gw,W.nd,λr x z h=>⟨(p _ _ (W.wp r x z h).1).more (by lia) _,(p _ _ (W.wp r x z h).2).more (by lia) _⟩,λx v=>?_,W.nil⟩;let⟨l,u,b,f,o⟩:=W.one x v;have n:=(c.ix b).mp (by lia);have d:=jW n b;exact⟨l,u,(eZ d.1).1,f,(eZ d.1).2.trans (d.2.trans o)⟩
def AX (a:JaQ Rs):(negs ts).Pairwise λx y=>QJ x≤lvF ts y:=by rw[List.pairwise_iff_getElem];intro i j c b d;rw[hF]at c b;have f:=gG c;have e:=gG b;have h:(negs ts)[i]=-ts[i].1:=List.getElem_map _;have g:(negs ts)[j]=-ts[j].1:=List.getElem_map _;rw[h,g,JiQ f,JiQ e];exact jr (by lia)
def AY (a:JaQ Rs):(JcH f).Pairwise λx y=>QJ y≤lvF ts x:=by exact(List.pairwise_reverse.mpr (AX a)).filter _
def mY (a:JaQ Rs):(JcH f).Nodup:=by exact(List.pairwise_reverse.mpr (a.negs.imp Ne.symm)).filter _
def AZ (Rs)(ts)(f):((negs ts).reverse.filter λp=>decide (p∈JcH f))=aZ Rs ts f:=by unfold aZ;refine List.filter_congr λp a=>decide_eq_decide.mpr ?_;rw[List.mem_filter,decide_eq_true_eq];exact⟨λh=>h.2,λh=>⟨a,h⟩⟩
def A0:∀i,Jci i→1≤(JfZ i).2.length∧((JfZ i).2.length=1→JfZ i=(JbZ f,[f])):=by
 intro i
 induction i with
 | zero=>exact λ_=>⟨nRq _,λ_=>rfl⟩
 | succ i a =>
  intro e;let⟨d,c⟩:=a (by lia);have b:ts.reverse[i]?=some (ts[VM 1-i]'(by lia)):=by rw[iO (by lia)];exact gG _
  rw[jo b];unfold eJ;split
  ·simp only[lAq,List.length_cons,List.length_nil];exact JgO (λh=>JfO h)
  ·exact⟨d,c⟩
def wq (a:Jla f)(h:(cB Rs ts f).length=1){q:Int}:q∈JcH f↔q∈aY Rs f:=by have e:=(A0 _ (nRq ts.length)).2 h;unfold aZ gp;rw[e,List.mem_filter,decide_eq_true_eq];exact⟨λh=>h.2,λh=>⟨List.mem_reverse.mpr (a.fp q h),h⟩⟩
def eB.no (C:eB n B S f)(h:JbG f=[])(v):¬dZ v B:=λz=>by let⟨p,a,_⟩:=we C.b.tok C.ln (C.b.snd v z);rw[h]at a;cases a
def eB.zero (C:eB n B S f)(h:JbG f≠[]):1≤cnt S.ts:=by
 have:=iw S.ts;by_cases e:cnt S.ts=0
 ·exact absurd (vU C.b.tok e) h
 ·lia
def eB.next (C:eB n B S f)(n60:n≤60)(ne:JbG f≠[])(mx:jq (((JbG f).drop 1).map (lvF S.ts)) m)(g:fQ S.ts m j)
  {la:Int→Option Int}(O:∀a x,Xa (la a) x→x=a∨x=-a){od:List Int}(o1:∀a:Int,a∈od↔1≤a∧a≤n)(o2:od.Nodup):∃a rest,JbG f=V9 a ∧
   (∀l,cV n B { ((Jlb (JbG f) (JbG f)).cut j la).hold a (S.rs.length:Int) with od:=od }) ∧
   ((Jhw f).length=1→cV n B { (JhM j).hold a f with od:=od })∧∀y,y≠-1→Jit S.ts<wgt n 0 (JoA (a,y)):=by
 have hL:=C.zero ne;have c:=C.b.tok;have R:kR S.rs S.ts f m j:=⟨c,C.ln,C.last,mx,g⟩;let⟨a,rest,D,lA,U,lR,l1⟩:=R.split ne;have m0:=R.n0;let⟨k,W,kl,hk⟩:=C.w hL;have jl:Jjq j:=by
  rcases Nat.lt_or_ge j S.ts.length with z | z
  ·exact z
  ·have e:JhL j:=by have:=g.le;lia
   rcases Nat.eq_zero_or_pos S.ts.length with z | z
   ·rw[List.length_eq_zero_iff.mp z]at U;have:m<0:=U;lia
   ·have:=g.low (S.ts.length-1) (by lia);rw[show JhL (S.ts.length-1+1) by lia,List.take_length]at this;lia
 have cj:JbE j≤m:=by
  rcases Nat.eq_zero_or_pos j with z | z
  ·rw[z];exact m0
  ·have:=g.low (j-1) (by lia);rw[show j-1+1=j by lia]at this;exact this
 have hj:=gG jl;have ch:(S.ts[j]).2=-1:=by
  have E:=g.high jl;rw[kJ hj]at E;unfold zaS at E;by_cases z:(S.ts[j]).2=-1
  ·exact z
  ·rw[if_neg z]at E;lia
 have A:∀q∈JbG f,q≠0∧q.natAbs≤n:=λq X=>by let⟨i,t,u,e,_⟩:=hI c X;have E:=(c i t u).1;have h2:=C.b.rng t (mO u);lia
 have J:a∈aZ S.rs S.ts f:=by rw[D];exact List.mem_cons_self
 have o:∀q∈rest,-q∈(S.ts.take j).map Prod.fst:=λq X=>by
  have hq':q∈aZ S.rs S.ts f:=by rw[D];exact List.mem_cons_of_mem _ X
  let⟨i,t,u,e,lv⟩:=hI c hq';have ij:=(g.ix u).mp (by rw[←lv];exact lR q X);rw[e,Int.neg_neg];exact d_ (jW ij u).1
 have a2:-a∉(S.ts.take j).map Prod.fst:=λz=>by let⟨i,t,u,e,lv⟩:=hI c J;let⟨i',t',L,e'⟩:=js z;have E:=jt L;have ii:=c.same_ix u E.2 (by rw[e'];lia);have:=(g.ix u).mpr (by lia);lia
 have a1:a∉(S.ts.take j).map Prod.fst:=λz=>by let⟨i,t,u,e,lv⟩:=hI c J;let⟨i',t',L,e'⟩:=js z;exact c.cons (e' ▸ d_ (jt L).2) (by rw[e,Int.neg_neg];exact d_ u)
 have d:(S.ts.take j).length=j:=by rw[List.length_take];lia
 have H:∀y,∀t∈JoA (a,y),t.1.natAbs≤n:=λy t G=>by
  rcases mPq G with h | h
  ·exact C.b.rng t (List.mem_of_mem_take h)
  ·rw[mS h];exact(A a J).2
 have Q:∀y,y≠-1→Ja7 0 j=bsF 0 (JoA (a,y)):=λy hy=>by rw[mV,if_neg hy]
 have M:∀y i,j≤i→i<(JoA (a,y)).length→cnt ((JoA (a,y)).take (i+1))=cnt _:=λy i E h2=>by rw[tO (by rw[lAq,d];show j+1≤_;lia)]
 have N:∀y,j≤(JoA (a,y)).length:=λy=>by rw[lAq,d];lia
 have T:-60≤a∧a≤60:=by have:=A a J;lia
 refine⟨a,rest,D,λl=>?_,λE=>?_,λy hy=>AS C.b.tlen hj ch hy⟩
 ·have Y:(S.rs.length:Int)≠-1:=by lia
  have W1:=W.cut g m0 U hk (la:=la) (a:=a) (y:=(S.rs.length:Int)) (od:=od);have W2:=WOk.put W1 (l:=l) (mY c) ne (λx F=>?_) (λx y more F=>?_)
  ·refine⟨⟨?_,H _,?_,?_,?_,?_,Q _ Y,o1,o2,O⟩,W2,N _,M _⟩
   ·show TOk (S.rs++[JbG f]) (JoA (a,(S.rs.length:Int)));refine TOk.snoc ((c.take j).more) (A a J).1 T a1 a2 (Jfc S.rs.length (JbG f) rfl ?_ J (λp K np=>?_))
    ·rw[List.getElem?_append_right (nRq _),Nat.sub_self];rfl
    ·rw[D]at K;exact o p ((List.mem_cons.mp K).resolve_left np)
   ·intro r I;rcases mPq I with h | h
    ·exact C.b.row r h
    ·rw[mS h];exact⟨mY c,A⟩
   ·intro v hv r I;rcases mPq I with h | h
    ·exact C.b.snd v hv r h
    ·rw[mS h];exact we c C.ln (C.b.snd v hv)
   ·exact λr I=>List.mem_append_left _ (C.b.sub r I)
   ·show(S.rs++[JbG f]).length=B.length+(S.pp++[l]).length;rw[lAq,lAq,C.b.len];exact Nat.add_assoc _ _ _
  ·have e:rest=[]:=by rw[D]at F;injection F
   have ea:x=a:=by rw[D]at F;injection F with F;exact F.symm
   have m00:m=0:=mx.1 (by rw[D,e];rfl);refine⟨j,(a,(S.rs.length:Int)),?_,ea.symm,?_⟩
   ·show(JoA (a,(S.rs.length:Int)))[j]?=_;rw[List.getElem?_append_right (by lia),d,Nat.sub_self];rfl
   ·show cnt ((JoA (a,(S.rs.length:Int))).take (j+1))=0;rw[tO (by rw[lAq,d];show j+1≤_;lia),hC,show cnt [(a,(S.rs.length:Int))]=0 from jV λt G=>by rw[mS G];exact Y];have:=iw (S.ts.take j);lia
  ·rw[D]at F;injection F with ea er;refine⟨λi t u G e=>?_,λi t u G e=>?_⟩
   ·have s:(JoA (a,(S.rs.length:Int)))[i]?=some t:=G;rw[List.getElem?_append_left (by lia)]at s;exact absurd (show -a∈_ by rw[ea,←e];exact d_ s) a2
   ·have s:(JoA (a,(S.rs.length:Int)))[i]?=some t:=G;rw[List.getElem?_append_left (by lia)]at s;refine⟨j,(a,(S.rs.length:Int)),?_,ea,?_⟩
    ·show(JoA (a,(S.rs.length:Int)))[j]?=_;rw[List.getElem?_append_right (by lia),d,Nat.sub_self];rfl
    ·show cnt ((JoA (a,(S.rs.length:Int))).take (j+1))≤cnt ((JoA (a,(S.rs.length:Int))).take (i+1));rw[tO (by rw[lAq,d];show j+1≤_;lia),hC,show cnt [(a,(S.rs.length:Int))]=0 from jV λt G=>by rw[mS G];exact Y,(eZ s).2];have h3:=jt s;rw[(jW u h3.2).2];have yr:y∈rest:=by rw[er];exact List.mem_cons_self
     have yP:y∈aZ S.rs S.ts f:=by rw[D];exact List.mem_cons_of_mem _ yr
     have ly:lvF S.ts y=cnt (S.ts.take (i+1)):=by have:=fk c.negs h3.2;rw[e,Int.neg_neg]at this;exact this
     have y0:=vT c yP;have y1:=mK (ts:=S.ts) y;have y2:=lR y yr;let⟨r,I,P⟩:=l1 (by lia);have pw:=AY (f:=f) c;rw[D,er]at pw;have Z:=(List.pairwise_cons.mp (List.pairwise_cons.mp pw).2).1;have:m≤lvF S.ts y:=by
      rw[er]at I;rcases List.mem_cons.mp I with z | z
      ·rw[←P,z];exact Int.le_refl _
      ·rw[←P];exact Z r z
     lia
 ·have f0:f≠-1:=by have:=C.ln.f0;lia
  refine⟨⟨?_,H _,C.b.row,C.b.snd,C.b.sub,C.b.len,Q _ f0,o1,o2,O⟩,W.cut g m0 U hk,N _,M _⟩;refine TOk.snoc (c.take j) (A a J).1 T a1 a2 (Jfc f.toNat (JfN f) ?_ (kM C.ln.f0 C.ln.f1) ((wq C.ln E).mp J) (λp K np=>?_))
  ·have:=C.ln.f0;lia
  ·have K:=(wq C.ln E).mpr K;rw[D]at K;exact o p ((List.mem_cons.mp K).resolve_left np)
structure cK (n:Nat)(B)(i)(S:HS):Prop where
 rs:S.rs=B
 pp:S.pp=[]
 lk:S.lk=0
 bs:S.bs=[]
 od:∀a:Int,a∈S.od↔1≤a∧a≤n
 odn:S.od.Nodup
 la:∀a x,Xa (S.la a) x→x=a∨x=-a
 tok:TOk B S.ts
 rng:∀t∈S.ts,t.1.natAbs≤n
 fo:∀t∈S.ts,t.2≠-1
 w:WOk { S with rs:=B.take i } S.wg 0
def wp0 (ts)(a b):Wp ts 0 a b:=λ_ _ h=>J2 h _
def cK.zero {n:Nat}{B:List (List Int)}{S:HS}(rs:S.rs=B)(pp:S.pp=[])(i:S.lk=0)(bs:S.bs=[])(od:∀a:Int,a∈S.od↔1≤a∧a≤n)(d:S.od.Nodup)(la:∀a,Qu (S.la a))(ts:S.ts=[])(e:∀r,Qu (S.wt r))(f:∀c,S.wg c=[]):cK n B 0 S:=by
 refine⟨rs,pp,i,bs,od,d,λa x h=>(by rw[la]at h;cases h),(by rw[ts];exact TOk.nil _),(by rw[ts];exact λ_ h=>(nomatch h)),(by rw[ts];exact λ_ h=>(nomatch h)),⟨λr g h=>?_,λr a b h=>?_,λr c=>?_,λc=>?_,λr a b h=>?_,λa h=>?_,λh=>?_⟩⟩
 ·cases h
 ·have h':=h;rw[e]at h';cases h'
 ·rw[f];refine⟨λh=>(nomatch h),λh_=>?_⟩;let⟨a,b,h,_⟩:=h_;have h':=h;rw[e]at h';cases h'
 ·rw[f];exact List.Pairwise.nil
 ·exact⟨wp0 _ _ _,wp0 _ _ _⟩
 ·cases h
 ·cases h
def A1 {B:List (List Int)}{i:Nat}{r:List Int}(h:B[i]?=some r):(B.take i).length=i:=by have:=(gEq h).1;rw[List.length_take];lia
def cnt0 (h:cK n B i S)(j):JbE j=0:=jV λt a=>h.fo t (List.mem_of_mem_take a)
def cK.add {n:Nat}{B:List (List Int)}{i:Nat}{S v:HS}{r:List Int}(h:cK n B i S)(d:B[i]?=some r)(y:r.Nodup)(x:r≠[])(F:∀a,r=[a]→a∈S.hs)(es:v={ S with wt:=putW (i:Int) r S.wt,wg:=putG (i:Int) r S.wg }):cK n B (i+1) v:=by
 subst es;refine⟨h.rs,h.pp,h.lk,h.bs,h.od,h.odn,h.la,h.tok,h.rng,h.fo,?_⟩;have W:=WOk.put h.w (l:=.int 0) y x (λa e=>?_) λa b t _=>⟨wp0 _ _ _,wp0 _ _ _⟩
 ·have s:=A1 d;have e:(({ S with rs:=B.take i }:HS).put (.int 0) r r).wg=putG (i:Int) r S.wg:=by show putG ((B.take i).length:Int) r S.wg=_;rw[s]
  have q:(({ S with rs:=B.take i }:HS).put (.int 0) r r).wt=putW (i:Int) r S.wt:=by show putW ((B.take i).length:Int) r S.wt=_;rw[s]
  rw[e]at W;refine⟨λk p o A=>?_,λk a b o=>?_,λk c=>?_,W.nd,λk a b o=>?_,λa C=>?_,λz=>?_⟩
  ·have:=W.has k p (by show(B.take i++[r])[k]?=_;rw[←bE d];exact o) A;rw[q]at this;exact this
  ·have:=W.is k a b (by rw[q];exact o);rw[bE d];exact this
  ·have:=W.gw k c;rw[q]at this;exact this
  ·exact⟨wp0 _ _ _,wp0 _ _ _⟩
  ·have g:=C;rw[bE d]at g;exact W.one a g
  ·have f:=z;rw[bE d]at f;exact W.nil f
 ·let⟨j,u,E,D⟩:=js (F a e);exact⟨j,u,E,D,cnt0 h _⟩
def cK.hold (h:cK n B i S)(o:n≤60)(d:B[i]?=some [a])(f:a≠0∧a.natAbs≤n)(v:a∉S.hs)(s:-a∉S.hs):cK n B (i+1) (S.hold a i):=by
 have h':cK n B i (S.hold a i):=by
  refine⟨h.rs,h.pp,h.lk,h.bs,h.od,h.odn,h.la,TOk.snoc h.tok f.1 (by lia) v s (Jfc i [a] rfl d List.mem_cons_self (λp r l=>absurd (mS r) l)),λt b=>?_,λt b=>?_,⟨h.w.has,h.w.is,h.w.gw,h.w.nd,λ_ _ _ _=>⟨wp0 _ _ _,wp0 _ _ _⟩,λx q=>?_,h.w.nil⟩⟩
  ·rcases mPq b with z | z
   ·exact h.rng t z
   ·rw[mS z];exact f.2
  ·rcases mPq b with z | z
   ·exact h.fo t z
   ·rw[mS z];show(i:Int)≠-1;lia
  ·let⟨j,u,c,k,g⟩:=h.w.one x q;exact⟨j,u,(eZ c).1,k,(eZ c).2.trans g⟩
 refine h'.add d (by simp) (by simp) (λx e=>?_) rfl;injection e with e;show x∈(S.ts++[(a,(i:Int))]).map Prod.fst;rw[mAq,←e];exact Jj List.mem_cons_self
def cK.hb (h:cK n B i S)(c:∀r∈B,r.Nodup∧∀p∈r,Jha n):HB n B S:=by refine⟨h.rs ▸ h.tok,h.rng,h.rs ▸ c,λv a=>h.rs ▸ a,λr b=>h.rs ▸ b,by rw[h.rs,h.pp];rfl,?_,h.od,h.odn,h.la⟩;rw[h.bs,qf _ _ h.fo]
def cK.fail (h:cK n B i S)(c:∀r∈B,r.Nodup∧∀p∈r,Jha n)(a:B[i]?=some r)(b:∀p∈r,-p∈S.hs):eB n B S (i:Int):=by have d:cnt S.ts=0:=jV h.fo;exact⟨h.hb c,(h.rs ▸ h.tok:TOk S.rs S.ts).ln ⟨r,h.rs ▸ a,b⟩,λz=>VR (by lia),λz=>VR (by lia)⟩
def cK.mid (h:cK n B B.length S)(a:∀r∈B,r.Nodup∧∀p∈r,Jha n):cV n B S:=by
 have e:({ S with rs:=B.take B.length }:HS)=S:=by rw[List.take_length,←h.rs]
 have w:=h.w;rw[e]at w;refine⟨h.hb a,by rw[h.lk];exact w,by rw[h.lk];exact Nat.zero_le _,λi _ _=>?_⟩;rw[cnt0 h,jV h.fo]
def jX (S:HS):Option Int:=S.od.find? λa=>decide (a∉S.hs)&&decide (-a∉S.hs)
def gu (ps od:List Int):List Int:=ps.map zaW++od.filter λa=>decide (a∉ps.map zaW)
def lnD (ps hs:List Int):Dt:=.tup [.str "learnt",.tup (ps.map Dt.int),.tup (hs.map Dt.int)]
def LaP (ts:V3 Int)(D:Nat→Prop)(a la:JjK Int):Prop:=∀z,(∀i t,D i→ts[i]?=some t→zaW t.1=z→Xa (la z) t.1)∧((∀i t,D i→ts[i]?=some t→zaW t.1≠z)→la z=a z)
def wu (h:zaW a=zaW b):a=b∨a=-b:=by unfold zaW at h;split at h <;> split at h <;> lia
def LaP.put (h:LaP ts D la0 la)(b:JaQ rs)(f:ts[k]?=some u)(g:∀x,D' x↔D x∨x=k):LaP ts D' la0 λz=>if z=zaW u.1 then some u.1 else la z:=λz=>by
 refine⟨λi t l a e=>?_,λj=>?_⟩
 ·show(if z=zaW u.1 then some u.1 else la z)=_
  by_cases c:z=zaW u.1
  ·rw[if_pos c];rcases wu (e.trans c) with e | e
   ·rw[e]
   ·exact(b.cons (d_ a) (by rw[e,Int.neg_neg];exact d_ f)).elim
  ·rw[if_neg c];rcases(g i).mp l with d | d
   ·exact(h z).1 i t d a e
   ·subst d;rw[f]at a;cases a;exact absurd e.symm c
 ·show(if z=zaW u.1 then some u.1 else la z)=_
  rw[if_neg λc=>j k u ((g k).mpr (.inr rfl)) f c.symm];exact(h z).2 λi t d=>j i t ((g i).mpr (.inl d))
def LaP.det (a:LaP ts D la0 la)(b:LaP ts D la0 la'):la=la':=by
 funext z;by_cases c:∃i t,D i∧ts[i]?=some t∧zaW t.1=z
 ·let⟨i,t,f,e,d⟩:=c;rw[(a z).1 i t f e d,(b z).1 i t f e d]
 ·rw[(a z).2 λi t f e d=>c ⟨i,t,f,e,d⟩,(b z).2 λi t f e d=>c ⟨i,t,f,e,d⟩]
def LaP.imp (h:LaP ts D la0 la)(d:∀x,Jbo x→(D' x↔D x)):LaP ts D' la0 la:=λz=>by have c:∀ {i t},ts[i]?=some t→Jbo i:=λ{i t} h=>(gEq h).1;exact⟨λi t b a=>(h z).1 i t ((d i (c a)).mp b) a,λe=>(h z).2 λi t b a=>e i t ((d i (c a)).mpr b) a⟩
structure LStp (most)(S:HS)(f)(S'):Prop where
 ex:∃(a:Int) (rest:List Int) (m:Int) (j:Nat) (la:JjK Int),JbG f=V9 a∧jq (((JbG f).drop 1).map (lvF S.ts)) m∧fQ S.ts m j∧LaP S.ts (λx=>j≤x) S.la la ∧
  (((Jhw f).length=1∧S'={ (JhM j).hold a f with od:=gu (V9 a) S.od }) ∨ ((Jhw f).length≠1∧(S.pp.length:Int)<most∧S'={ ((S.put (lnD (V9 a) (Jhw f).reverse) (V9 a) (V9 a)).cut j la).hold a (S.rs.length:Int) with od:=gu (V9 a) S.od }))
def LStp.det (x:LStp most S f S1)(y:LStp most S f S2):S1=S2:=by
 let⟨a,rest,m,j,la,s,g,r,o,n⟩:=x.ex;let⟨C,b,k,B,l,i,h,v,u,t⟩:=y.ex;rw[s]at i;injection i with A z;subst A z;have w:m=k:=by
  by_cases e:((JbG f).drop 1).map (lvF S.ts)=[]
  ·rw[g.1 e,h.1 e]
  ·exact Int.le_antisymm ((h.2 e).2 _ (g.2 e).1) ((g.2 e).2 _ (h.2 e).1)
 subst w;cases r.inj v;cases o.det u;rcases n with ⟨p,q⟩ | ⟨p,_,q⟩ <;> rcases t with ⟨d,c⟩ | ⟨d,_,c⟩
 ·rw[q,c]
 ·exact absurd p d
 ·exact absurd d p
 ·rw[q,c]
inductive Ph where
 | beg (i:Nat)
 | grow
 | rest
 | odds (f:Int)
def begR (S:HS)(i:Nat):Jj0 Int (HS × Ph)
 | []=>(S,.odds i)
 | [a]=>if -a∈S.hs then(S,.odds i) else if a∈S.hs then(S,.beg (i+1)) else(S.hold a i,.beg (i+1))
 | a :: b :: _=>(S.watch i a b,.beg (i+1))
def begF (S:HS)(i:Nat):HS × Ph:=match S.rs[i]? with
 | none=>(S,.grow)
 | some r=>begR S i r
noncomputable def phO:JmI Int Ph
 | none=>.grow
 | some f=>.odds f
def kW (S:HS):HS × Ph:=match S.ts[S.lk]? with
 | none=>(S,.rest)
 | some t=>({ (eC S (-t.1)).1 with lk:=S.lk+1 },phO (eC S (-t.1)).2)
def Stp (most:Int)(x y:HS × Ph):Prop:=match x.2 with
 | .beg i=>y=begF x.1 i
 | .grow=>y=kW x.1
 | .rest=>∃a,Xa (jX x.1) a∧y=(x.1.pick a,.grow)
 | .odds f=>LStp most x.1 f y.1∧y.2=.grow
def Stp.det (a:Stp most x y)(b:Stp most x z):y=z:=by
 let⟨S,p⟩:=x;cases p with
 | beg i=>exact Eq.trans a (Eq.symm b)
 | grow=>exact Eq.trans a (Eq.symm b)
 | rest =>
  let⟨c,j,h⟩:=a;let⟨d,e,g⟩:=b;rw[j]at e;cases e;rw[h,g]
 | odds f=>exact Prod.ext (a.1.det b.1) (a.2.trans b.2.symm)
inductive Rch (most)(x):HS × Ph→Prop
 | refl:Jbf x x
 | step {y z:HS × Ph}:Jbf x y→Stp most y z→Jbf x z
def Rch.trans (a:Jbf x y)(b:Jbf y z):Jbf x z:=by
 induction b with
 | refl=>exact a
 | step _ s c=>exact c.step s
def Rch.head (h:Jbf x y):x=y∨∃z,Stp most x z∧Rch most z y:=by
 induction h with
 | refl=>exact .inl rfl
 | step a b c =>
  rcases c with rfl | ⟨z,e,d⟩
  ·exact .inr (JnP b .refl)
  ·exact .inr ⟨z,e,d.step b⟩
def Rch.one (a:Jbf x y):Jbf x z→Jbf y z∨Rch most z y:=by
 induction a with
 | refl=>exact .inl
 | step a b d =>
  intro c;rcases d c with h | h
  ·rcases h.head with rfl | ⟨w,f,e⟩
   ·exact .inr (.step .refl b)
   ·cases f.det b;exact .inl e
  ·exact .inr (h.step b)
inductive Wd where
 | long
 | yes
 | no
 deriving DecidableEq
def Fnd (most:Int)(x:HS × Ph)(w:Wd):Prop:=match x.2 with
 | .rest=>Qu (jX x.1)∧w=.yes
 | .odds f=>(¬((cB x.1.rs x.1.ts f).length=1∧aZ x.1.rs x.1.ts f≠[])∧most≤(x.1.pp.length:Int)∧w=.long)∨(aZ x.1.rs x.1.ts f=[]∧(x.1.pp.length:Int)<most∧w=.no)
 | _=>False
def Fnd.stop (h:Fnd most x w):¬Stp most x y:=λs=>by
 let⟨S,p⟩:=x;cases p with
 | beg i=>exact h
 | grow=>exact h
 | rest =>
  let⟨a,c,_⟩:=s;have b:=h.1;rw[c]at b;cases b
 | odds f =>
  let⟨a,rest,m,j,la,c,_,_,_,d⟩:=s.1.ex;rcases h with ⟨b,g⟩ | ⟨b,_⟩
  ·rcases d with d | d
   ·exact b ⟨d.1,λe=>by have c:=c;have e:=e;rw[c]at e;cases e⟩
   ·have:=d.2.1;lia
  ·have c:=c;have b:=b;rw[c]at b;cases b
def Fnd.det (a:Fnd most x w)(b:Fnd most x u):w=u:=by
 let⟨S,p⟩:=x;cases p with
 | beg i=>exact a.elim
 | grow=>exact a.elim
 | rest=>rw[a.2,b.2]
 | odds f =>
  rcases a with ⟨_,e,c⟩ | ⟨_,e,c⟩ <;> rcases b with ⟨_,g,d⟩ | ⟨_,g,d⟩
  ·rw[c,d]
  ·lia
  ·lia
  ·rw[c,d]
def Ans (most:Int)(S:HS)(w:Wd):Prop:=∃x,Jbf (S,.beg 0) x∧Fnd most x w
def Ans.det:Jiw S w→Jiw S u→w=u:=λ⟨x,c,a⟩ ⟨y,d,b⟩=>by
 have e:x=y:=by
  rcases c.one d with h | h
  ·rcases h.head with e | ⟨z,s,_⟩
   ·exact e
   ·exact absurd s a.stop
  ·rcases h.head with e | ⟨z,s,_⟩
   ·exact e.symm
   ·exact absurd s b.stop
 subst e;exact a.det b
structure LnR (Rs:Vp Int)(ps hs:List Int):Prop where
 rng:∀h∈hs,0≤h∧h<(Rs.length:Int)
 ex:∃xs:List Int,hs.length=xs.length+1∧(∀i h x,hs[i]?=some h→xs[i]?=some x→nf (JbZ h) ((ps.map λp=>-p)++xs.take i)=[x]∧x∉(ps.map λp=>-p)++xs.take i)∧∀h,hs[xs.length]?=some h→nf (JbZ h) ((ps.map λp=>-p)++xs)=[]
def wx (h:QM (row.any λq=>decide (q∈hs))):nf row hs=opn row hs:=by unfold nf opn;congr 1;refine List.filter_congr λp a=>?_;have:=Ji_ h a;rw[decide_eq_true_eq]at this;rw[dTq this,Bool.true_and]
def LnR.of (b:JaQ Rs)(j:Jla f):LnR Rs (JcH f) (cB Rs ts f).reverse:=by
 rw[v_];generalize l:(JgA f).reverse=a;have C:(JgA f).length=a.length:=by rw[←l,List.length_reverse]
 have o:∀k,eY Rs ts f k=(JcH f).map (λp=>-p)++(a.map Prod.fst).take k:=λk=>by rw[←l,←List.map_take];rfl
 have q:∀ {k t},a[k]?=some t→_:=λ{k t} h=>AJ b j (by rw[l];exact h);have A:∀ {h},(a.map Prod.snd++[f])[a.length]?=some h→h=f:=λ{h} e=>by rw[List.getElem?_append_right (by rw[lM];exact nRq _),lM,Nat.sub_self]at e;injection e with e;exact e.symm
 refine⟨λh y=>?_,a.map Prod.fst,by simp,λi h x d c=>?_,λh d=>?_⟩
 ·rcases mPq y with z | z
  ·let⟨t,s,rfl⟩:=List.mem_map.mp z;let⟨k,u⟩:=List.getElem?_of_mem s;exact(q u).1
  ·rw[mS z];exact⟨j.f0,j.f1⟩
 ·rw[List.getElem?_map]at c;cases e:a[i]? with
  | none=>rw[e]at c;cases c
  | some t =>
   rw[e]at c;cases c;have v:=(gEq e).1;rw[List.getElem?_append_left (by rw[lM];exact v),List.getElem?_map,e]at d;cases d;let⟨_,r,n,_⟩:=q e;rw[o]at r n;have B:=wx r;refine⟨B.trans n,λz=>?_⟩;have:t.1∈opn (JbZ t.2) ((JcH f).map (λp=>-p)++(a.map Prod.fst).take i):=by rw[n];exact List.mem_cons_self
   have:=List.mem_filter.mp (((iu _ _).mp this).resolve_left λw=>nomatch w);simp only[Bool.and_eq_true,decide_eq_true_eq]at this;exact this.2.1 z
 ·rw[lM]at d;cases A d;have g:=AK b j;rw[C,o,tO (by rw[lM];exact nRq _)]at g;rw[wx g.1,g.2]
structure LnG (n)(Rs)(ps hs):Prop where
 r:LnR Rs ps hs
 p:∀p∈ps,Jha n
 a:(ps.map zaW).Nodup
 h:hs.length≤100
structure Pap (n)(B)(pp)(rs):Prop where
 ex:∃L:Jf (List Int) (List Int),pp=L.map (λx=>lnD x.1 x.2)∧rs=B++L.map Prod.fst∧∀(i) (x),L[i]?=some x→LnG n (B++(L.take i).map Prod.fst) x.1 x.2
def Pap.nil (n)(B):Pap n B [] B:=Jbn [] ((List.append_nil _).symm) (λi x h=>by cases h)
def Pap.more (h:Pap n B pp rs)(r:LnG n rs ps hs):Pap n B (pp++[lnD ps hs]) (rs++[ps]):=by
 let⟨L,e,b,d⟩:=h.ex;refine⟨L++[(ps,hs)],by rw[e,mAq];rfl,by rw[b,mAq,List.append_assoc];rfl,λi x a=>?_⟩;rcases Nat.lt_or_ge i L.length with z | z
 ·rw[List.getElem?_append_left z]at a;rw[List.take_append_of_le_length (by lia)];exact d i x a
 ·have c:i=L.length:=by have:=(gEq a).1;rw[lAq]at this;have:i<L.length+1:=this;lia
  subst c;rw[List.getElem?_append_right (nRq _),Nat.sub_self]at a;cases a;rw[Jdi _,List.take_length,←b];exact r
theorem wz:∀i,(Jn9 i).length≤i
 | 0=>nRq _
 | i+1=>by
  have:=wz (Rs:=Rs) (ts:=ts) (f:=f) i;unfold bS;split
  ·split
   ·rw[lAq];show _+1≤_;lia
   ·lia
  ·lia
def eB.lnG (C:eB n B S f)(g:n≤40):LnG n S.rs (JbG f) (Jhw f).reverse:=by
 have a:=C.b.tok;refine⟨LnR.of a C.ln,λq l=>?_,List.pairwise_map.mpr ((mY a).imp_of_mem λ{x y} k h d z=>?_),?_⟩
 ·let⟨i,u,c,e⟩:=hI a l;have r:=(a i u c).1;have p:=C.b.rng u (mO c);lia
 ·let⟨i,u,c,e⟩:=hI a k;let⟨j,v,o,s⟩:=hI a h;rcases wu z with z | z
  ·exact d z
  ·exact a.cons (d_ c) (by rw[show -u.1=v.1 by lia];exact d_ o)
 ·rw[v_,lAq,lM,List.length_reverse];have:=wz (Rs:=S.rs) (ts:=S.ts) (f:=f) S.ts.length;have:=C.b.tlen;show _+1≤_;lia
def eB.two (C:eB n B S f)(h:∀r∈S.rs,2≤r.length):JbG f≠[]:=by
 have g:=C.b.tok;have y:=kT C.ln.f0 C.ln.f1;have s:S.ts≠[]:=λz=>by
  have o:=h _ y;cases e:JfN f with
  | nil=>rw[e]at o;exact Jak o
  | cons a r =>
   have:=C.ln.fp a (by rw[e];exact List.mem_cons_self);rw[z]at this;cases this
 have l:1≤cnt S.ts:=by
  cases e:S.ts with
  | nil=>exact absurd e s
  | cons t r =>
   have v:S.ts[0]?=some t:=by rw[e];rfl
   have c:t.2=-1:=by
    rcases(g 0 t v).2.2.2.2 with c | ⟨k,d,e1,e2,e3,e4⟩
    ·exact c
    ·have i:=mO e2;have u:=(C.b.row d i).1;have j:=h d i;obtain⟨q,x,p⟩:∃q∈d,q≠t.1:=by
      rcases d with _ | ⟨a,_ | ⟨b,d⟩⟩
      ·exact absurd j (by simp)
      ·exact absurd j (by simp)
      ·by_cases z:a=t.1
       ·exact Jan b (λw=>(List.nodup_cons.mp u).1 (by rw[z,←w];simp))
       ·exact Jan a z
     exact absurd (e4 q x p) (by simp)
   show 1≤zaS t+cnt r;have:=iw r;unfold zaS;rw[if_pos c];lia
 let⟨a,rest,e,_⟩:=vV g C.ln l (C.last l);rw[e];exact λz=>nomatch z
end L2
namespace L2
open PySem PySem.Spec PyProof.Rows
section
variable {P:Program} {w:World}
abbrev Sgn:=Str × List Key
def eD (P:Program)(w:World)(h:Heap)(k:Sgn)(a:Addr):Prop :=
 ∃o t q n,h.get? a=some o∧o.cls=.type "tuple"∧o.data=.seq #[.str k.1 t,.ref q] n∧IsTupleKey (ck P w) h k.2 q
def eD.typeIs {s:Shared}{k:Sgn}{a:Addr}(x:JjE P w k a):Jjn a "tuple":=let ⟨o,_,_,_,ho,hc,_⟩:=x;⟨o,ho,hc⟩
def eD.inj (i:eD P w h x a)(g:eD P w h y a):x=y:=by let⟨o,t,q,n,j,_,l,k⟩:=i;let⟨A,t',f,B,b,_,d,c⟩:=g;cases j.symm.trans b;have e:=l.symm.trans d;injection e with e _;have z:=JiL e;injection z with v u;injection v with s _;injection u with r _;injection r with p;subst p;exact Prod.ext s (k.inj c)
def eD.keeps (x:eD P w h k a)(f:h.get? d=some o)(g:JnT ep)(hs:Heap.SameBut d h h'):eD P w h' k a:=by
 let⟨i,t,q,n,c,l,b,j⟩:=x;have e:a≠d:=by rintro rfl;cases c.symm.trans f;rw[g]at b;exact nomatch b
 exact⟨i,t,q,n,(hs.2 a e).trans c,l,b,j.keeps f g hs⟩
def qg (P:Program)(w:World)(k:Sgn):Int:=reduceHash (Builtin.Tuple.tupleHashOf [(ck P w).hash (.inr k.1),tupleKeyHash (ck P w) k.2])
variable {A:Around} {E:Value→Shared→Prop} {s:Shared}
def A2 {k:Sgn}{a:Addr}{Q:Int→Shared→Prop}(u:Jed 10)(i:JjE P w k a)(h:Q (qg P w k) { s with toks:=s.toks+(k.2.length+3) }) :
  wpAny (JiM P) A (pyHash (.ref a)) Q E s:=by
 have d:=i.typeIs;let⟨o,t,q,n,l,_,r,p⟩:=i;unfold pyHash
 first | unfold pyHashByItsType | skip
 first | refine wpAny_bind (wpAny_cRoomFor_or (.inr (by lia)) ?_) | skip
 refine Q1 d F.slot_tuple_hash.lookup ?_;show V0 _ _ Q E s
 rw[if_neg (by rw[beq_builtin_none];exact Bool.false_ne_true)];refine Q1 d F.slot_tuple_hash.lookup ?_;refine wpAny_bind (wpAny_callSpecialIfBoundUnlessNone?_slot d F.slot_tuple_hash (JoE F.slot_tuple_hash d F.entry_tuple_hash (F.args_tuple_hash_1 _)));show V0 _ (JdQ a >>= _) _ _ s;refine JeS l r ?_;refine wpAny_bind ?_;rw[←Array.forIn_toList];refine wpAny_forIn_list _
  (λrest b s'=>(rest=JU (.str k.1 t) q∧b=#[]∧s'=s)∨(rest=Vz q∧b=#[(ck P w).hash (.inr k.1)]∧s'={ s with toks:=s.toks+1 }) ∨ (rest=[]∧b=#[(ck P w).hash (.inr k.1),tupleKeyHash (ck P w) k.2]∧s'={ s with toks:=s.toks+1+(k.2.length+1) }))
  _ ?_ ?_ _ _ (.inl (JkM rfl))
 ·rintro x rest b s' (⟨e,rfl,rfl⟩ | ⟨e,rfl,rfl⟩ | ⟨e,rfl,rfl⟩)
  ·injection e with g f;subst g f;refine wpAny_bind ((ck P w).pyHash (lY P w k.1 t) ?_)
   first
    | exact wpAny_pure (.inr (.inl (JkM rfl)))
    | exact wpAny_bind _
  ·injection e with g f;subst g f;refine wpAny_bind (wpAny_pyHash_tuple (knd:=ck P w) (by lia) p ?_)
   first
    | exact wpAny_pure (Jnb (JkM rfl))
    | exact wpAny_bind _
  ·exact nomatch e
 ·rintro b s' (⟨e,rfl,rfl⟩ | ⟨e,rfl,rfl⟩ | ⟨e,rfl,rfl⟩)
  ·exact nomatch e
  ·exact nomatch e
  refine wpAny_ret_mkInt ?_;have j:s.toks+(k.2.length+3)=s.toks+1+(k.2.length+1)+1:=by lia
  rw[j]at h;unfold qg reduceHash at h;generalize Builtin.Tuple.tupleHashOf _=z at h ⊢;show V0 _ (if Vq (decide (-2 ^ 63≤z)&&decide (z<2 ^ 63)) then _ else _) Q E _
  by_cases c:Vq (decide (-2 ^ 63≤z)&&decide (z<2 ^ 63))
  ·rw[if_pos c];rw[if_pos c]at h;exact wpAny_pure h
  ·rw[if_neg c];rw[if_neg c]at h;exact JeV h
def A3 {x y:Sgn}{a b:Addr}{R:Fin→Shared→Prop}(O:Jed 5)(H:JjE P w x a)(G:JjE P w y b)(h:R (.done (.ret (.bool (decide (x=y))))) s) :
  wpAny (JiM P) A (Builtin.«tuple.__eq__» (JfG (Jaz a b))) R E s:=by
 have o:=G.typeIs;let⟨L,C,F,N,i,_,n,k⟩:=H;let⟨K,tb,D,M,g,_,l,j⟩:=G;show V0 _ (isInstance (.ref b) (.type "tuple") >>= _) _ _ s;refine JnE o ?_;simp only[Bool.not_true,Bool.false_eq_true,if_false];refine JeS i n ?_;refine JeS g l ?_;refine wpAny_bind ?_;refine wpAny_forIn_list _
  (λrest r s'=>Qu r.1∧s'=s∧((rest=[(.str x.1 C,.str y.1 tb),(.ref F,.ref D)])∨(rest=[(.ref F,.ref D)]∧x.1=y.1)∨(rest=[]∧x=y)))
  _ ?_ ?_ _ _ (JkM (.inl rfl))
 ·rintro ⟨u,v⟩ rest r s' ⟨f,rfl,e | ⟨e,d⟩ | ⟨e,d⟩⟩
  ·injection e with B t;injection B with q p;subst t q p;refine wpAny_bind ((ck P w).eqBool (lY P w x.1 C) (lY P w y.1 tb) ?_);by_cases c:x.1=y.1
   ·rw[dTq (show(Sum.inr x.1:Key)=.inr y.1 by rw[c])];simp only[Bool.not_true,Bool.false_eq_true,if_false];exact wpAny_pure ⟨by trivial,by trivial,.inr (Qr (by trivial) c)⟩
   ·rw[dFq (show ¬(Sum.inr x.1:Key)=.inr y.1 from λz=>c (Sum.inr.inj z))];simp only[Bool.not_false,if_true];rw[dFq (show ¬x=y from λz=>c (by rw[z]))]at h;exact wpAny_bind (Jag (wpAny_pure h))
  ·injection e with B t;injection B with q p;subst t q p;refine wpAny_bind (wpAny_eqBool_tuple (knd:=ck P w) (by lia) k j ?_);by_cases c:x.2=y.2
   ·rw[dTq c];simp only[Bool.not_true,Bool.false_eq_true,if_false];exact wpAny_pure ⟨by trivial,by trivial,.inr (JaF (by trivial) (Prod.ext d c))⟩
   ·rw[dFq c];simp only[Bool.not_false,if_true];rw[dFq (show ¬x=y from λz=>c (by rw[z]))]at h;exact wpAny_bind (wpAny_pure (Jag h))
  ·exact nomatch e
 ·rintro ⟨J,I⟩ s' ⟨f,rfl,e | ⟨e,d⟩ | ⟨e,d⟩⟩
  ·exact nomatch e
  ·exact nomatch e
  simp only at f;subst f;refine wpAny_pure ?_;rw[dTq d]at h;exact h
def A4 {x y:Sgn}{a b:Addr}{Q:Bool→Shared→Prop}(g:Jed 10)(d:JjE P w x a)(f:JjE P w y b)(h:Q (decide (x=y)) s) :
  wpAny (JiM P) A (eqBool (.ref a) (.ref b)) Q E s:=by
 unfold eqBool
 try with_reducible refine wpAny_holding ?_
 by_cases c:Vq (Value.ref a == Value.ref b)
 ·rw[if_pos c];have e:a=b:=by have:=eq_of_beq c;injection this
  subst e;cases d.inj f;exact wpAny_bind (wpAny_rule (wpAny_pure (by simpa using h)))
 ·rw[if_neg c];exact wpAny_bind (wpAny_richCompare_same_room d.typeIs f.typeIs F.slot_tuple_eq (wpAny_call_entry F.slot_tuple_eq d.typeIs F.entry_tuple_eq (A3 (by show VC (Jec 1+5);lia) d f (Jmd (λe=>nomatch e) (wpAny_truthy_bool h))) (F.args_tuple_eq_2 _ _)) (by lia))
def quiet7 (e:IsTupleKey (ck P w) s.heap ks a)(h:Q true s):Xb P w A (eqIsQuiet 7 (.ref a)) Q E s:=by
 have f:=e.typeIs;let⟨o,items,n,g,_,j,i⟩:=e;unfold eqIsQuiet;refine Q1 f F.slot_tuple_eq.lookup ?_;refine JnE f ?_;simp only[Bool.not_true,Bool.false_eq_true,if_false];refine J4 g j ?_;refine wpAny_bind ?_;rw[←Array.forIn_toList];refine wpAny_forIn_list _ (λrest r s'=>Qu r.1∧s'=s∧∀v∈rest,Vq (carriedByValue v)) _ ?_ ?_ _ _ (JkM i.byValue)
 ·rintro v rest r s' ⟨d,rfl,b⟩;rw[eqIsQuiet_byValue _ (Jfd v)];refine Qo ?_;simp only[Bool.not_true,Bool.false_eq_true,if_false];exact wpAny_pure (JkM (λu c=>b u (Xe c)))
 ·rintro ⟨l,k⟩ s' ⟨d,rfl,_⟩;simp only at d;subst d;exact wpAny_pure h
def A5 {k:Sgn}{a:Addr}{Q:Bool→Shared→Prop}(f:JjE P w k a)(h:Q true s):Xb P w A (eqIsQuiet 8 (.ref a)) Q E s:=by
 have g:=f.typeIs;let⟨o,t,q,n,i,_,l,j⟩:=f;unfold eqIsQuiet;refine Q1 g F.slot_tuple_eq.lookup ?_;refine JnE g ?_;simp only[Bool.not_true,Bool.false_eq_true,if_false];refine J4 i l ?_;refine wpAny_bind ?_;rw[←Array.forIn_toList];refine wpAny_forIn_list _ (λrest r s'=>Qu r.1∧s'=s∧∀v∈rest,Vq (carriedByValue v)∨QB v q) _ ?_ ?_ _ _ (JkM (λv d=>?_))
 ·rintro v rest r s' ⟨e,rfl,b⟩;rcases b v List.mem_cons_self with d | rfl
  ·rw[eqIsQuiet_byValue _ d];refine Qo ?_;simp only[Bool.not_true,Bool.false_eq_true,if_false];exact wpAny_pure (JkM (λu c=>b u (Xe c)))
  ·refine wpAny_bind (quiet7 j ?_);simp only[Bool.not_true,Bool.false_eq_true,if_false];exact wpAny_pure (JkM (λu c=>b u (Xe c)))
 ·rintro ⟨x,p⟩ s' ⟨e,rfl,_⟩;simp only at e;subst e;exact wpAny_pure h
 ·rcases List.mem_cons.mp d with rfl | d
  ·exact .inl rfl
  ·exact .inr (mS d)
end
def gv (P)(w):HeapKind P w Sgn where
 is:=eD P w
 hash:=qg P w
 draws:=λk=>k.2.length+3
 room:=λA=>Jed 10
 inj:=λb a=>b.inj a
 keeps:=λx e f hs=>x.keeps e f hs
 pyHash:=λc d h=>A2 c d h
 eqBool:=λc b a h=>A4 c b a h
 quiet:=λd h=>A5 d h
section
variable {prog:Program} {w:World} {K:Type} [DecidableEq K] {knd:HeapKind prog w K} {A:Around} {E:Value→Shared→Prop} {s:Shared}
def A6 {d a:Addr}{xs:List (K × Jbp Value)}{k:K}{c:Value}{Q:Value→Shared→Prop}(u:knd.room A)(b:knd.is s.heap k a)(z:Jni knd d)
  (D:∀p,Xa (Je1 xs) p→Q p.2 { s with toks:=s.toks+knd.draws k })
  (C:Qu (Je1 xs)→∀h',h'.DictOfH knd d (xs++[(k,a,c)])→JaB d h'→Q c { s with heap:=h',toks:=s.toks+knd.draws k })
  (hsz:Vi xs.length):J6 w A (dictSetDefault d (.ref a) c) Q E s:=by
 let⟨o,es,F,h,B,g,q,n,r⟩:=z;unfold dictSetDefault
 try with_reducible refine wpAny_holding ?_
 refine wpAny_bind (knd.pyHash u b ?_);refine wpAny_bind (wpAny_dictFind_heap u b h g q n r ?_ ?_)
 ·intro l;have i:=not_mem_keys_of_get l;refine wpAny_bind (wpAny_rule (wpAny_bind (wpAny_updateDictKeys (hz:=by have e:=size_of_entries q;lia) h g (wpAny_pure (C (atKey_none_of_get l) _ ⟨_,_,F+1,Heap.get?_update_self _ h (Obj.isFreed_of_dict (Obj.data_mapDictKeys g _)),B.mapDictKeys _,Obj.data_mapDictKeys g _,?_,?_,?_⟩ (Heap.SameBut.update ..))))))
  ·simp [q,entryOfKey]
  ·intro x f;rcases mPq f with f | f
   ·exact knd.keeps (n x f) h g (Heap.SameBut.update ..)
   ·simp only[List.mem_singleton]at f;subst f;exact knd.keeps b h g (Heap.SameBut.update ..)
  ·rw[mAq,List.nodup_append];refine Qj r (by simp);intro x f y t;simp only[List.map_cons,List.map_nil,List.mem_singleton]at t;subst t;exact λe=>i (e ▸ f)
 ·intro j p v;refine wpAny_bind (wpAny_dictEntries h g ?_);rw[entry_at q j,v];exact JeV (D p (atKey_of_get r v))
def A7 (knd:HeapKind prog w K)(d a)(j:QM (d == sysModules))(b) :
  MeetsIn prog w (Builtin.«dict.setdefault» (JfG (Jdk d a b))) (λA R s=>knd.room A.in1∧∃k xs,knd.is s.heap k a∧Jni knd d∧Vi xs.length∧(∀p,Xa (Je1 xs) p→Jm1 p.2 { s with toks:=s.toks+knd.draws k })∧(Qu (Je1 xs)→∀h',h'.DictOfH knd d (xs++[(k,a,b)])→JaB d h'→Jm1 b { s with heap:=h',toks:=s.toks+knd.draws k })) :=
 .of_wp λA R s ⟨g,k,xs,c,f,hz,n,l⟩=>by
  refine wpAny_bind ?_;refine wpAny_bind (wpAny_notOrdered_dict f.typeIs ?_);refine wpAny_pure ?_;show V0 _ (if Vq (d == sysModules) then _ else(dictSetDefault d (.ref a) b >>= _)) _ _ s
  rw[if_neg (by rw[j];exact Bool.false_ne_true)];exact wpAny_bind (A6 g c f (λp h=>wpAny_pure (Qd p.2 (n p h))) (λi h' e hs'=>wpAny_pure (Qd b (l i h' e hs'))) hz)
end
abbrev SE:=Sgn × Jbp V
def fU (p:SE)(q:Sgn × Jbp Value):Prop:=p.1=q.1∧p.2.1=q.2.1∧bn p.2.2 q.2.2
def gx (P:Program)(w:World)(a:Addr)(kvs:List SE):HO:=.ext λh=>QM (a == sysModules)∧∃xs:List _,JlS xs ∧
 ∃o es b,h.get? a=some o∧o.ExactDict∧JnT b∧es.toList=Jfs (gv P w)∧(xs.map (·.1)).Nodup
def SD (P:Program)(w:World)(H:Hp)(a:Addr)(kvs:List SE):Prop:=(JaJ a []∧kvs=[])∨Xh a (gx P w a kvs)
def e_ (K:W.Frag)(H:Hp)(k:Sgn)(p:Addr):Prop:=∃q,Ji1 p k.1 q∧Jfo q (k.2.map kV)
noncomputable def atS (kvs:List SE)(k:Sgn):Option SE:=kvs.find? λe=>decide (e.1=k)
def mZ (r:JlS xs)(k) :
  (∃e q,Xa (Je3 k) e∧Xa (Je1 xs) q∧bn e.2.2 q.2)∨(Qu (Je3 k)∧Qu (Je1 xs)):=by
 induction r with
 | nil=>exact Jnt rfl
 | @cons p q ps b h t c =>
  by_cases a:p.1=k
  ·refine .inl ⟨p,q.2,?_,?_,h.2.2⟩
   ·unfold atS;rw[List.find?_cons_of_pos (by exact dTq a)]
   ·unfold atKey;rw[List.find?_cons_of_pos (by exact dTq (h.1.symm.trans a))];rfl
  ·have f:atS (p :: ps) k=atS ps k:=by unfold atS;rw[List.find?_cons_of_neg (by simpa using a)]
   have d:Je1 (q :: b)=atKey b k:=by unfold atKey;rw[List.find?_cons_of_neg (by simpa using λz=>a (h.1.trans z))]
   rw[f,d];exact c
section
variable {X:Cx}
def jY (I:QD s)(h:e_ X.K H k p):JjE P w k p:=by
 let⟨q,j,i⟩:=h;let⟨g,r,⟨o,z,y,n,x⟩,_⟩:=I.tuple j;let⟨f,c,⟨d,v,u,e,l⟩,_⟩:=I.tuple i;cases r with
 | cons b t =>
  cases t with
  | cons a t =>
   cases t;let⟨tk,rfl⟩:=b;cases a;exact⟨o,tk,q,n,z,y,x,d,f.toArray,e,v,u,l,by simpa using pI c⟩
inductive qh (P)(w)(K):V→List V→Hp→VK→Prop|m{x vs H Q} d p k v kvs:Jow x d (vs=JfJ p v) (JjF P w H d) (JaM kvs.length) ((∀e∈kvs,e_ K H e.1 e.2.1)→e_ K H k p→((∃e,Xa (Je3 k) e∧Q e.2.2 H)∨(Qu (Je3 k)∧Q v (XE d (gx P w d (kvs++[(k,p,v)])))))→qh P w K x vs H Q)
def A8 (hu:Jbj 64):MtR X "dict.setdefault" (qh X.prog X.w X.K):=by
 intro pins s σ H x vs v us Q I rx rv h;let⟨d,p,k,y,kvs,rfl,rfl,hd,hz,B,hk,q⟩:=h;cases rx;cases rv with
 | cons rp t =>
 cases t with
 | @cons _ y' _ _ ry t =>
 cases t;cases rp;have R:QM (d == sysModules)∧Jm9 d∧∃xs:List _,JlS xs ∧
   ∃o es C,s.heap.get? d=some o∧o.ExactDict∧JnT C∧es.toList=Jfs (JfP X.w)∧(xs.map (·.1)).Nodup:=by
  rcases hd with ⟨e,rfl⟩ | e
  ·let⟨z,i,ws,c,o,es,C,P,O,N,M,E,h6⟩:=Jkv e;cases c;refine⟨i,by rw[e];exact True.intro,[],.nil,o,es,C,P,O,N,?_,List.nodup_nil⟩;cases es with
   | mk l =>
    cases l with
    | nil=>rfl
    | cons a r=>exact absurd E (by intro z;cases z)
  ·let⟨⟨i,xs,r⟩⟩:=JbR d e;exact⟨i,by rw[e];exact True.intro,xs,r⟩
 let⟨i,mu,xs,c,o,es,C,P,O,N,M,E⟩:=R;have all:∀x∈xs,(JfP X.w).is s.heap x.1 x.2.1:=by
  clear q M E hz hd
  induction c with
  | nil=>intro x j;exact nomatch j
  | @cons a b G bs r t L =>
   intro x j;rcases List.mem_cons.mp j with rfl | j
   ·have:=B a List.mem_cons_self;rw[r.1,r.2.1]at this;exact jY I this
   ·exact L (λe he=>B e (Xe he)) x j
 have dd:Jni _ d:=⟨o,es,C,P,O,N,M,all,E⟩;have ll:=Paired.length c;refine call_meetsIn PySem.F.slot_dict_setdefault dd.typeIs PySem.F.entry_dict_setdefault (PySem.F.args_dict_setdefault_3 _ _ _) (A7 (JfP X.w) d p i y')
  ⟨(by show VC (JaG 1+10);lia),k,xs,jY I hk,dd,by lia,λu n=>?_,λhn h' Z hs=>?_⟩
 ·rcases mZ c k with ⟨e,u2,g,f,r2⟩ | ⟨_,f⟩
  ·cases n.symm.trans f;rcases q with ⟨e',q1,D⟩ | ⟨q1,_⟩
   ·cases q1.symm.trans g;exact Q5 _ H _ r2 D
   ·rw[q1]at g;exact nomatch g
  ·rw[n]at f;exact nomatch f
 ·rcases mZ c k with ⟨e,u2,g,f,r2⟩ | ⟨g,f⟩
  ·rw[hn]at f;exact nomatch f
  rcases q with ⟨e',q1,D⟩ | ⟨_,D⟩
  ·rw[q1]at g;exact nomatch g
  let⟨o',U,Y,S,g2,g3,g4,g5,g6⟩:=Z;have J:JcJ (XE d (gx X.prog X.w d (kvs++[(k,p,y)]))) h' d (gx X.prog X.w d (kvs++[(k,p,y)])):=by
   refine⟨⟨i,_,?_,o',U,Y,S,g2,g3,g4,g6⟩,V8 S,λa b z kp=>?_⟩
   ·have app:∀ {G:List SE} {bs:List _},Jff G bs→Paired fU (G++[(k,p,y)]) (bs++[(k,p,y')]):=by
     intro G bs r
     induction r with
     | nil=>exact Jdx (JkM ry)
     | cons r t L=>exact JhE L
    exact app c
   ·let⟨z1,ys,z2,o2,T,W,z3,z4⟩:=z;exact⟨z1,ys,z2,o2,T,W,kp _ z3,z4⟩
  exact⟨y,_,jk I mu hs (V8 S) J,ry,D⟩
def sd_is (I:QD s)(h:JjF X.prog X.w H d) :
  s.TypeIs (.ref d) "dict"∧∀a,QB (Value.ref d) a→∃f,s.heap.get? a=some f∧Qu f.dict:=by
 have z:∃o,s.heap.get? d=some o∧o.ExactDict:=by
  rcases h with ⟨e,_⟩ | e
  ·let⟨_,_,_,_,o,_,_,c,b,_⟩:=JbR d e;exact⟨o,c,b⟩
  ·let⟨⟨_,_,_,o,_,_,c,b,_⟩⟩:=JbR d e;exact⟨o,c,b⟩
 let⟨o,e,b⟩:=z;refine JlZ o e b.1 (λa g=>?_);cases g;exact⟨o,e,b.2.1⟩
def tSetd (P:Program)(w:World)(K:W.Frag)(c:TE)(t:TA):TE:=λa H Q=>c a H λx b=>(∃d kvs,Jny d∧JjF P w b d)∧t a b λxs e=>qh P w K x xs e Q
def A9 (y:Jbj 64)(z:VE o to)(B:JgK X e t)
  (f:Jjg o "setdefault" o=eval o X.env:=by rfl)
  (g:Vq ((JfW (Jft e)).all (λx=>!x.1)&&(JnH []).all (λx=>x.1.isSome)
   && decide ((Jft e).length+([]:List Keyword).length+(if([]:List Keyword).isEmpty then 0 else 1)<30)):=by rfl)
  (c:Vq (apos.endLine == cpos.line):=by rfl)(hs:Jfu e=(false,Vg e) :: starEach es X.env:=by rfl)(b:(JfW es).any (·.1)=false:=by rfl) :
  PE X (JlK o "setdefault" (Jft e) [] cpos) (tSetd X.prog X.w X.K to t):=by intro a s i H Q I h;refine JdV f g c (thn (z a s i H _ I h) λv p ⟨x,L,k,r,⟨d,kvs,E,l⟩,q1⟩=>?_);subst E;cases r;let⟨D,C⟩:=sd_is k l;refine Joa "dict" "dict.setdefault" PySem.F.slot_dict_setdefault PySem.F.type_dict_setdefault D C ?_;have j:=B cpos a p i L _ k q1;rw[hs]at j ⊢;refine VD (by show QM (false||(JjW _).any _);rw[b] <;> rfl) ?_;exact thn j λus n ⟨vs,J,G,q,u⟩=>A8 y a n i J (.ref d) vs _ us Q G rfl q u
end
section
variable {X:Cx}
def wA (K)(c:X.K=K)(a:JlH e)(b:Jjg e f e=Vg e):VE (Jhd e pos) (tFld K ta f):=by subst c;exact aV a b
end
section
variable {X:Cx}
def wB:J_ X "sorted" (λxs H Q=>∃p ns,xs=Vz p∧Jik H p (ns.map V.int)∧ns.length<64∧∀l (a:List Int),J5 l (a.Perm ns→JcZ (a.Pairwise (·≤·)) l (Jou (a.map V.int)))):=by intro i s B H xs us Q I r h;let⟨p,ns,rfl,n,y,q⟩:=h;let⟨u,rfl,k⟩:=eR r;cases k;let⟨f,g,pl,hz⟩:=I.list n;have t:=zb g;have d:=g.length;rw[lM]at d;refine sorted_ints pl.isList t (by lia) λc a A j z=>?_;let⟨e,v⟩:=sortedAll_at s.heap f c;have C:=j.length_eq;exact JaX _ _ (I.laid (t':=s.toks) (λb o x=>sortedAll_old x) (Nat.le_succ _) (show JcJ _ _ _ (.lst (a.map V.int)) from⟨Jg2 (by rw[lM];lia),c.toList,e,oZ A,v⟩)) (q _ a (I.hok.fresh (Nat.le_succ _)) j z)
end
def seqJ (h:∀n:St→Hp→Prop,n σ H→t { D with nx:=n } σ H)(a:u D σ H):tSeq t u D σ H:=h (u D) a
section
variable {X:Cx}
inductive m_:V→List V→Hp→VK→Prop|m{x vs H Q} (d) (k) (v) (kvs):Jow x d (vs=[kV k,v]) (Jc2 d) (JaM kvs.length) (((∃u,Xa (JfM k) u∧Q u H)∨(Qu (JfM k)∧Q v (Xo H d (JkR v))))→m_ x vs H Q)
def A_:MtR X "dict.setdefault" m_:=by
 intro l s J H x vs v us Q I p r h;let⟨d,k,y,kvs,rfl,rfl,n,hz,q⟩:=h;cases p;cases r with
 | cons A t =>
 cases t with
 | @cons _ o _ _ j t =>
 cases t;let⟨z,i,f,b,dd⟩:=Jkv n;have B:Vi f.length:=by rw[←b.length];exact z
 have a:=b.val k;refine call_meetsIn PySem.F.slot_dict_setdefault dd.typeIs PySem.F.entry_dict_setdefault (PySem.F.args_dict_setdefault_3 _ _ _) (kt_meets_setdefault (Jkw X.w) d (ir A) i o) ⟨f,dd,B,λu C=>?_,λD h' c hs=>?_⟩
 ·rw[C]at a;rcases q with ⟨g,q1,e⟩ | ⟨q1,_⟩
  ·rw[q1]at a;exact Q5 g H _ a e
  ·rw[q1]at a;exact a.elim
 ·rw[D]at a;rcases q with ⟨g,q1,e⟩ | ⟨q1,e⟩
  ·rw[q1]at a;exact a.elim
  ·have G:∃q,h'.get? d=some q:=let ⟨q,_,_,hq,_⟩:=c;⟨q,hq⟩;have E:(JkR y).length≤sizeLine:=by have:=mw kvs k y;lia
   exact⟨y,_,jk I (by rw[n];exact True.intro) hs G (kG E i (b.put k j) c),j,e⟩
def tSetK (c:TE)(t:TA):TE:=λa H Q=>c a H λx b=>(∃d kvs,Jny d∧Xa (b d) (.dK kvs))∧t a b λxs e=>m_ x xs e Q
def qi (w:VE o to)(y:JgK X e t)
  (f:Jjg o "setdefault" o=eval o X.env:=by rfl)
  (g:Vq ((JfW (Jft e)).all (λx=>!x.1)&&(JnH []).all (λx=>x.1.isSome)
   && decide ((Jft e).length+([]:List Keyword).length+(if([]:List Keyword).isEmpty then 0 else 1)<30)):=by rfl)
  (c:Vq (apos.endLine == cpos.line):=by rfl)(hs:Jfu e=(false,Vg e) :: starEach es X.env:=by rfl)(b:(JfW es).any (·.1)=false:=by rfl) :
  PE X (JlK o "setdefault" (Jft e) [] cpos) (tSetK to t):=by intro a s i H Q I h;refine JdV f g c (thn (w a s i H _ I h) λv p ⟨x,E,k,r,⟨d,kvs,B,l⟩,q1⟩=>?_);subst B;cases r;let⟨A,z,_⟩:=pJ k (Jjv kvs l);refine Joa "dict" "dict.setdefault" PySem.F.slot_dict_setdefault PySem.F.type_dict_setdefault A z ?_;have j:=y cpos a p i E _ k q1;rw[hs]at j ⊢;refine VD (by show QM (false||(JjW _).any _);rw[b] <;> rfl) ?_;exact thn j λus n ⟨vs,D,C,q,u⟩=>A_ a n i D (.ref d) vs _ us Q C rfl q u
end
end L2
namespace L2
open PySem
structure Two (F O H):Prop where
 f:ap F H
 o:ap O H
 d:∀b,O b≠none→Qu (F b)
def Two.own (T:JoI F H){a:Addr}(h:O a≠none)(u):Two F (JoC O) (Jnz u):=by
 refine⟨λb o e=>?_,λb o e=>?_,λb e=>?_⟩
 ·rw[aq (λz=>by rw[z,T.d a h]at e;cases e)];exact T.f b o e
 ·by_cases z:b=a
  ·rw[z,ao]at e ⊢;exact e
  ·rw[aq z]at e ⊢;exact T.o b o e
 ·by_cases z:b=a
  ·rw[z];exact T.d a h
  ·rw[aq z]at e;exact T.d b e
def Two.newO (T:JoI F H){a:Addr}(h:Vu a)(u):Two F (JoC O) (Jnz u):=by
 have c:Qu (F a):=by
  cases e:F a with
  | none=>rfl
  | some o=>rw[T.f a o e]at h;cases h
 refine⟨λb o e=>?_,λb o e=>?_,λb e=>?_⟩
 ·rw[aq (λz=>by rw[z,c]at e;cases e)];exact T.f b o e
 ·by_cases z:b=a
  ·rw[z,ao]at e ⊢;exact e
  ·rw[aq z]at e ⊢;exact T.o b o e
 ·by_cases z:b=a
  ·rw[z];exact c
  ·rw[aq z]at e;exact T.d b e
def Two.swap (T:JoI F H):Two O F H:=⟨T.o,T.f,λb e=>by
 cases h:O b with
 | none=>rfl
 | some o=>exact absurd (T.d b (by rw[h];exact λz=>nomatch z)) e⟩
def Two.frm (T:JoI F H){a:Addr}(h:F a≠none)(u):JoI (JoC F) (Jnz u):=(T.swap.own h u).swap
def Two.newF (T:JoI F H){a:Addr}(h:Vu a)(u):JoI (JoC F) (Jnz u):=(T.swap.newO h u).swap
def Two.base (T:JoI F H)(s:ap F0 F):JoI F0 H:=⟨s.trans T.f,T.o,λb e=>by
 cases h:F0 b with
 | none=>rfl
 | some o=>have:=s b o h;rw[T.d b e]at this;cases this⟩
def Two.none (T:JoI F H){a:Addr}(h:JjB (H a)):JjB (O a)∧JjB (F a):=by
 constructor
 ·cases e:O a with
  | none=>rfl
  | some o=>rw[T.o a o e]at h;cases h
 ·cases e:F a with
  | none=>rfl
  | some o=>rw[T.f a o e]at h;cases h
def bj.oth (h:Xh a u)(n:∀xs,u≠.tup xs)(d:∀q xs,u≠.frz q (.tup xs)):JoG (Jnz o):=λb zs q=>by
 have c:b≠a:=λz=>by
  rw[z]at q;rcases q with q | ⟨w,q⟩ <;> rw[h]at q <;> injection q with q
  ·exact n _ q
  ·exact d _ _ q
 unfold Rd at q ⊢;rw[aq c];exact q
def wC (kvs)(k:Key)(v):(k∈kvs.map Prod.fst∧(JkR v).map Prod.fst=kvs.map Prod.fst)∨(k∉kvs.map Prod.fst∧(JkR v).map Prod.fst=kvs.map Prod.fst++[k]):=by
 unfold zaz;by_cases c:Vq (kvs.any (λb=>decide (b.1=k)))
 ·rw[if_pos c];let⟨x,a,e⟩:=List.any_eq_true.mp c;refine Qr (Xz x a (oDq e)) ?_;rw[List.map_map];refine List.map_congr_left λy _=>?_;simp only[Function.comp_apply];split <;> simp_all
 ·rw[if_neg c];refine JaF (λz=>?_) (by rw[mAq];rfl);let⟨x,a,e⟩:=List.mem_map.mp z;exact c (JbB x a (dTq e))
structure DI (kvs:Jhg V)(g:JjK V):Prop where
 nd:(kvs.map Prod.fst).Nodup
 ks:∀k∈kvs.map Prod.fst,∃m:Int,Jgb k m∧-100≤m∧JkA m
 val:∀p:Int,JfU p=g p
def DI.nil:DI [] λ_=>none:=⟨List.Pairwise.nil,λk h=>(nomatch h),λ_=>rfl⟩
def DI.put (h:DI kvs g){p:Int}(f:-100≤p∧JkA p)(v):DI (Jba (Sum.inl p) v) λx=>if x=p then some v else g x:=by
 refine⟨?_,λk d=>?_,λx=>?_⟩
 ·rcases wC kvs _ v with ⟨c,e⟩ | ⟨c,e⟩ <;> rw[e]
  ·exact h.nd
  ·exact List.nodup_append.mpr (Jan h.nd (λa j b i e=>c (by rw[mS i]at e;rw[←e];exact j)))
 ·rcases wC kvs _ v with ⟨c,e⟩ | ⟨c,e⟩ <;> rw[e]at d
  ·exact h.ks k d
  ·rcases mPq d with z | z
   ·exact h.ks k z
   ·exact⟨p,mS z,f⟩
 ·rw[jM,h.val];by_cases e:x=p
  ·rw[if_pos (by rw[e]),if_pos e]
  ·rw[if_neg (λz=>Jm8 z),if_neg e]
def DI.drop (h:DI kvs g)(p):DI (JaI kvs p) λx=>if x=p then none else g x:=by
 have sub:((JaI kvs p).map Prod.fst).Sublist _:=List.Sublist.map _ List.filter_sublist;refine⟨h.nd.sublist sub,λk a=>h.ks k (sub.subset a),λx=>?_⟩;rw[vN,h.val];by_cases e:x=p
 ·rw[if_pos (by rw[e]),if_pos e]
 ·rw[if_neg (λz=>Jm8 z),if_neg e]
noncomputable def keyI:Key→Int
 | .inl m=>m+100
 | .inr _=>0
def DI.len (h:DI kvs g):JbA 200000:=by
 have:=gq 200000 (xs:=(kvs.map Prod.fst).map keyI) ?_ ?_
 ·rw[lM,lM]at this;exact this
 ·refine List.pairwise_map.mpr (h.nd.imp_of_mem λ{x y} a c e z=>e ?_);let⟨m,rfl,_⟩:=h.ks x a;let⟨b,rfl,_⟩:=h.ks y c;have f:m+100=b+100:=z;rw[show m=b by lia]
 ·intro x a;let⟨k,d,rfl⟩:=List.mem_map.mp a;let⟨m,rfl,j,i⟩:=h.ks k d;show 0≤m+100∧m+100<_;lia
structure HA where
 h:Addr
 dx:Addr
 kn:Addr
 pp:Addr
 tr:Addr
 hd:Addr
 bg:Addr
 wd:Addr
 wg:Addr
 od:Addr
 lt:Addr
noncomputable def HA.st (A:HA):List Addr:=[A.h,A.kn,A.pp,A.tr,A.hd,A.bg,A.wd,A.wg,A.od,A.lt]
noncomputable def zby (A:HA)(a:Addr)(most:Int)(b:Nat):Jgx V:=[("problem",.ref a),("most",.int most),("known",.ref A.kn),("paper",.ref A.pp),("trail",.ref A.tr),("held",.ref A.hd),("looked",.int b),("begins",.ref A.bg),("watched",.ref A.wd),("watching",.ref A.wg),("order",.ref A.od),("lately",.ref A.lt)]
structure HC where
 xs:List V
 ys:List V
 zs:List V
 kh:Jhg V
 kw:Jhg V
 gw:JjK V
 kg:Jhg V
 gg:JjK V
 kl:Jhg V
def gy (C:Addr)(A:HA)(a:Addr)(most:Int)(S:HS)(R:HC):List HO:=[JlI (JaZ A a S.lk),.lst R.xs,.lst R.ys,.lst R.zs,.dK R.kh,.lst (S.bs.map V.int),.dK R.kw,.dK R.kg,.lst (S.od.map V.int),.dK R.kl]
inductive WdR (K)(H):Option V→Option (Jc7 Int)→Prop
 | no:WdR K H none none
 | is {q:Addr} {a b:Int}:Jfo q (Jc9 a b)→WdR K H (Ja q) (some (a,b))
inductive WgR (O:Hp)(A:HA)(gg:JjK V)(c):List Int→Prop
 | no:Qu (gg c)→WgR O A gg c []
 | is {l:Addr} {ns:List Int}:gg c=Ja l→Qb (O l) (ns.map V.int)→l∉A.st→(∀c',gg c'=Ja l→c'=c)→WgR O A gg c ns
def gA (hs:List Int):Int→Option V:=λp=>if p∈hs then Jk7 true else none
structure HuO (K)(C)(O H:Hp)(A:HA)(pr)(most)(S)(hs)(R):Prop where
 nd:A.st.Nodup
 at_:∀(i:Nat) (a) (o),A.st[i]?=some a→(Jlw C A pr S R)[i]?=some o→Xa (O a) o
 kn:J7 (S.rs.map zcM) R.xs
 pp:J7 S.pp R.ys
 pn:JdT S.pp
 tr:J7 (S.ts.map dP) R.zs
 hd:DI R.kh (gA hs)
 wd:DI R.kw R.gw
 wr:∀r,WdR K H (R.gw r) (S.wt r)
 wg:DI R.kg R.gg
 gr:∀c,WgR O A R.gg c (S.wg c)
 lt:DI R.kl λa=>(S.la a).map V.int
def NTup (o:HO):Prop:=(∀xs,o≠.tup xs)∧∀q xs,o≠.frz q (.tup xs)
def NoT (O:Hp):Prop:=∀b o,Xa (O b) o→NTup o
def NoT.upd (h:NoT O){a:Addr}{u:HO}(n:NTup u):NoT (JoC O):=λb o e=>by
 by_cases z:b=a
 ·rw[z,ao]at e;injection e with e;exact e ▸ n
 ·rw[aq z]at e;exact h b o e
structure Hu (K)(C)(F O H)(A)(pr)(most)(S)(hs)(R):Prop where
 n:NoT O
 t:JoI F H
 u:HuO K C O H A pr most S hs R
def at_upd {g:List Addr}{k:List HO}{O:Hp}(l:g.Nodup)(h:∀(i:Nat) a o,g[i]?=some a→k[i]?=some o→Xa (O a) o){i:Nat}{a:Addr}{u:HO}(d:g[i]?=some a) :
  ∀(j:Nat) b o,g[j]?=some b→(k.set i u)[j]?=some o→upd O a u b=some o:=by
 intro j b o f c;rw[List.getElem?_set]at c;by_cases e:i=j
 ·rw[if_pos e]at c;split at c
  ·rw[e,f]at d;injection d with d;injection c with c;rw[d,c,ao]
  ·cases c
 ·rw[if_neg e]at c;have n:b≠a:=λz=>by rw[z]at f;have q:=(gEq d);have p:=(gEq f);exact e ((List.getElem_inj l).mp (q.2.trans p.2.symm))
  rw[aq n];exact h j b o f c
def WdR.keep (k:JoG H')(h:WdR K H g p):WdR K H' g p:=by
 cases h with
 | no=>exact .no
 | is h=>exact .is (k.sq h)
def WgR.upd (h:WgR O A gg c ns)(g:a∈A.st∨Qu (O a))(i:∀l∈A'.st,l∈A.st∨Qu (O l)):WgR (JoC O) A' gg c ns:=by
 cases h with
 | no h=>exact .no h
 | @is l ns k b d j =>
  refine .is k ?_ (λz=>(i _ z).elim d λe=>by rw[b]at e;cases e) j;have f:l≠a:=λz=>g.elim (λq=>d (by rw[z];exact q)) λe=>by rw[←z,b]at e;cases e
  rw[aq f];exact b
section
variable {K:W.Frag} {C:Addr} {F O H:Hp} {A:HA} {pr:Addr} {most:Int} {S:HS} {hs:List Int} {R:HC}
def Hu.heap (U:Jdv F)(k:JoG H')(t:JoI F' H'):JcT F' H':=⟨U.n,t,{ U.u with kn:=U.u.kn.keep k (dX _),pp:=U.u.pp.keep k U.u.pn,tr:=U.u.tr.keep k (dr _),wr:=λr=>(U.u.wr r).keep k }⟩
def Hu.newF (U:Jdv F){a:Addr}(h:Vu a)(u):JcT (JoC F) (Jnz u):=U.heap (bj.new h) (U.t.newF h u)
def Hu.base (U:Jdv F)(s:ap F0 F):Jdv F0:=⟨U.n,U.t.base s,U.u⟩
def Hu.frmL (U:Jdv F){a:Addr}{xs:List V}(h:Qb (F a) xs)(u):JcT (JoC F) (Jnz u):=U.heap (bj.oth (U.t.f _ _ h) (λ_ z=>nomatch z) λ_ _ z=>nomatch z) (U.t.frm (by rw[h];exact λz=>nomatch z) u)
def Hu.at' (U:Jdv F)(i:Nat){a:Addr}{o:HO}(c:A.st[i]?=some a)(b:(Jlw C A pr S R)[i]?=some o):H a=some o:=U.t.o _ _ (U.u.at_ i a o c b)
def Hu.ins (U:Jdv F):H A.h=some (JlJ A S.lk):=Jd6 0
def Hu.set (U:Jdv F)(i){a:Addr}{o u:HO}(d:A.st[i]?=some a)(p:(Jlw C A pr S R)[i]?=some o)(n:∀xs,o≠.tup xs)(h:∀q xs,o≠.frz q (.tup xs))(g:NTup u) :
  NoT (JoC O)∧Two F (JoC O) (Jnz u)∧JoG (Jnz u)∧(∀(j:Nat) b e,A.st[j]?=some b→((Jlw C A pr S R).set i u)[j]?=some e→Xa (upd O a u b) e)∧∀c,WgR (JoC O) A R.gg c (S.wg c):=by have f:=U.u.at_ i a o d p;refine⟨U.n.upd g,U.t.own (by rw[f];exact λz=>nomatch z) u,bj.oth (U.t.o _ _ f) n h,at_upd U.u.nd U.u.at_ d,λc=>(U.u.gr c).upd (.inl (mO d)) λl k=>.inl k⟩
def cC:(∀ys,HO.lst xs≠.tup ys)∧∀q ys,HO.lst xs≠.frz q (.tup ys):=⟨λ_ z=>(nomatch z),λ_ _ z=>(nomatch z)⟩
def du:(∀ys,HO.dK xs≠.tup ys)∧∀q ys,HO.dK xs≠.frz q (.tup ys):=⟨λ_ z=>(nomatch z),λ_ _ z=>(nomatch z)⟩
def gB:(∀ys,HO.ins C dx fs≠.tup ys)∧∀q ys,HO.ins C dx fs≠.frz q (.tup ys):=⟨λ_ z=>(nomatch z),λ_ _ z=>(nomatch z)⟩
def Hu.setTr (U:Jdv F){ts:List (Jc7 Int)}{zs:List V}(h:JdK dP zs):Jb7 F (Va O A.tr zs) (Jju A.tr zs) { S with ts:=ts } { R with zs:=zs }:=by let⟨b,t,k,a,g⟩:=JkB 3 rfl cC.1 cC.2 cC;exact⟨b,t,U.u.nd,a,X_ k _,JY k,U.u.pn,h.keep k (dr _),U.u.hd,U.u.wd,λr=>(U.u.wr r).keep k,U.u.wg,g,U.u.lt⟩
def Hu.setHd (U:Jdv F){kh:List (Key × V)}{hs':List Int}(h:DI kh (gA hs')):V_ F (Xo O A.hd kh) (Xo H A.hd kh) A S hs' { R with kh:=kh }:=by let⟨b,t,k,a,g⟩:=JkB 4 rfl du.1 du.2 du;exact⟨b,t,U.u.nd,a,X_ k _,JY k,U.u.pn,Jau k _,h,U.u.wd,λr=>(U.u.wr r).keep k,U.u.wg,g,U.u.lt⟩
def Hu.setBg (U:Jdv F)(bs):JcK F (Va O A.bg (bs.map V.int)) (Jju A.bg (bs.map V.int)) { S with bs:=bs }:=by let⟨b,t,k,a,g⟩:=JkB 5 rfl cC.1 cC.2 cC;exact⟨b,t,U.u.nd,a,X_ k _,JY k,U.u.pn,Jau k _,U.u.hd,U.u.wd,λr=>(U.u.wr r).keep k,U.u.wg,g,U.u.lt⟩
def Hu.setKn (U:Jdv F){rs:List (List Int)}{xs:List V}(h:JhZ (rs.map zcM)):Jb7 F (Va O A.kn xs) (Jju A.kn xs) { S with rs:=rs } { R with xs:=xs }:=by let⟨b,t,k,a,g⟩:=JkB 1 rfl cC.1 cC.2 cC;exact⟨b,t,U.u.nd,a,h.keep k (dX _),JY k,U.u.pn,Jau k _,U.u.hd,U.u.wd,λr=>(U.u.wr r).keep k,U.u.wg,g,U.u.lt⟩
def Hu.setPp (U:Jdv F){pp:List Dt}{ys:List V}(h:J7 pp ys)(n:JdT pp):Jb7 F (Va O A.pp ys) (Jju A.pp ys) { S with pp:=pp } { R with ys:=ys }:=by let⟨b,t,k,a,g⟩:=JkB 2 rfl cC.1 cC.2 cC;exact⟨b,t,U.u.nd,a,X_ k _,h.keep k n,n,Jau k _,U.u.hd,U.u.wd,λr=>(U.u.wr r).keep k,U.u.wg,g,U.u.lt⟩
def Hu.setWd (U:Jdv F){r:Int}(c:-100≤r∧JkA r){q:Addr}{x y:Int}(d:Jfo q (Jc9 x y)):Jb7 F (Xo O A.wd (Jgp R.kw r (.ref q))) (Xo H A.wd (Jgp R.kw r (.ref q))) (S.setW r x y) { R with kw:=zaz R.kw (Sum.inl r) (.ref q),gw:=λz=>if z=r then some (.ref q) else R.gw z }:=by
 let⟨b,t,k,a,g⟩:=JkB 6 rfl du.1 du.2 du;refine⟨b,t,U.u.nd,a,X_ k _,JY k,U.u.pn,Jau k _,U.u.hd,U.u.wd.put c _,λz=>?_,U.u.wg,g,U.u.lt⟩;show WdR K _ (if z=r then Ja q else R.gw z) (if z=r then some (x,y) else S.wt z)
 by_cases e:z=r
 ·rw[if_pos e,if_pos e];exact .is (k.sq d)
 ·rw[if_neg e,if_neg e];exact(U.u.wr z).keep k
def Hu.setLt (U:Jdv F){c:Int}(d:-100≤c∧JkA c)(x):Jb7 F (Xo O A.lt (Jgp R.kl c (.int x))) (Xo H A.lt (Jgp R.kl c (.int x))) { S with la:=λz=>if z=c then some x else S.la z } { R with kl:=zaz R.kl (Sum.inl c) (.int x) }:=by
 let⟨b,t,k,a,g⟩:=JkB 9 rfl du.1 du.2 du;refine⟨b,t,U.u.nd,a,X_ k _,JY k,U.u.pn,Jau k _,U.u.hd,U.u.wd,λr=>(U.u.wr r).keep k,U.u.wg,g,?_⟩;have e:(λz=>(if z=c then some x else S.la z).map V.int)=λz=>if z=c then Je x else(S.la z).map V.int:=by funext z;split <;> rfl
 rw[e];exact U.u.lt.put d _
def Hu.setLk (U:Jdv F)(n):JcK F (Jc1 O A.h A.dx (Jfj A n)) (XE A.h (JlJ A n)) { S with lk:=n }:=by let⟨b,t,k,a,g⟩:=JkB 0 rfl gB.1 gB.2 gB;exact⟨b,t,U.u.nd,a,X_ k _,JY k,U.u.pn,Jau k _,U.u.hd,U.u.wd,λr=>(U.u.wr r).keep k,U.u.wg,g,U.u.lt⟩
end
def Two.take (T:JoI F H){n:Addr}{o:HO}(h:Xa (F n) o)(h0:JjB (F0 n))(s:ap F0 F):Two F0 (upd O n o) H:=by
 refine⟨s.trans T.f,λb u e=>?_,λb e=>?_⟩
 ·by_cases z:b=n
  ·rw[z,ao]at e;rw[z,←e];exact T.f _ _ h
  ·rw[aq z]at e;exact T.o b u e
 ·by_cases z:b=n
  ·rw[z];exact h0
  ·rw[aq z]at e;exact(T.base s).d b e
def ni {b:Type}{L:List b}(c:L.Nodup){i j:Nat}{a:b}(g:L[i]?=some a)(f:L[j]?=some a):i=j:=by have e:=gEq g;have d:=gEq f;exact(List.getElem_inj c).mp (e.2.trans d.2.symm)
theorem qj:∀ {L:List α} {i:Nat},L.Nodup→n∉L→(L.set i n).Nodup
 | [],_,a,_=>a
 | x :: L,0,a,h=>JhN (λz=>h (Xe z)) ((List.nodup_cons.mp a).2)
 | x :: L,i+1,a,h=>by
  refine JhN (λz=>?_) (qj (List.nodup_cons.mp a).2 λz=>h (Xe z));rcases List.mem_or_eq_of_mem_set z with z | z
  ·exact(List.nodup_cons.mp a).1 z
  ·exact h (z ▸ List.mem_cons_self)
section
variable {K:W.Frag} {C:Addr} {F O H:Hp} {A:HA} {pr:Addr} {most:Int} {S:HS} {hs:List Int} {R:HC}
def Hu.oN (U:Jdv F){n:Addr}{o:HO}(h:Xa (F n) o):Qu (O n):=by
 cases e:O n with
 | none=>rfl
 | some u=>have:=U.t.d n (by rw[e];exact λz=>nomatch z);rw[h]at this;cases this
def HuO.stO (U:HuO K C O H A pr most S hs R){n:Addr}(h:Qu (O n)):n∉A.st:=λz=>by let⟨i,a⟩:=List.getElem?_of_mem z;have b:=(gEq a).1;have:=U.at_ i n _ a (gG (show i<(Jlw C A pr S R).length from b));rw[h]at this;cases this
def Hu.give (U:Jdv F){n:Addr}{c:Int}{ns:List Int}(E:-100≤c∧JkA c)(h:Qb (F n) (ns.map V.int))(h0:Qu (F0 n))(s:ap F0 F) :
  ∃M x,Jb7 F0 M (Xo H A.wg (Jgp R.kg c (.ref n))) (S.setG c ns) x∧(x.gg=λz=>if z=c then Ja n else R.gg z)∧x.xs=R.xs:=by
 have v:=U.oN h;have j:=U.u.stO v;have L:=U.t.take h h0 s;have J:JcS F0 (Va O n (ns.map V.int)) H:=by refine⟨U.n.upd cC,L,U.u.nd,λi a o b p=>?_,U.u.kn,U.u.pp,U.u.pn,U.u.tr,U.u.hd,U.u.wd,U.u.wr,U.u.wg,λc=>(U.u.gr c).upd (.inr v) λl D=>.inl D,U.u.lt⟩;have w:a≠n:=λz=>j (z ▸ mO b);rw[aq w];exact U.u.at_ i a o b p
 let⟨y,t,k,a,g⟩:=J.set 7 rfl rfl du.1 du.2 du;refine Xs _ { R with kg:=zaz R.kg _ _,gg:=λz=>if z=c then some _ else R.gg z } ⟨y,t,U.u.nd,a,X_ k _,JY k,U.u.pn,Jau k _,U.u.hd,U.u.wd,λr=>(U.u.wr r).keep k,U.u.wg.put E _,λz=>?_,U.u.lt⟩ rfl
 have f:∀z,R.gg z≠some (.ref n):=λz e=>by
  have:=U.u.gr z;generalize S.wg z=B at this;cases this with
  | no h=>rw[h]at e;cases e
  | is b p _ _ =>
   rw[e]at b;injection b with b;injection b with b;rw[←b,v]at p;cases p
 show WgR _ A (λz=>if z=c then Ja n else R.gg z) z (if z=c then ns else S.wg z)
 by_cases e:z=c
 ·rw[if_pos e];refine .is (by show(if z=c then _ else _)=_;rw[if_pos e]) ?_ j λd h'=>?_
  ·have w:n≠A.wg:=λq=>j (q ▸ mO (i:=7) rfl);rw[aq w,ao]
  ·have h':=h'
   by_cases q:d=c
   ·rw[q,e]
   ·rw[if_neg q]at h';exact absurd h' (f d)
 ·rw[if_neg e];have g':=g z;generalize S.wg z=B at g';cases g' with
  | no h=>exact .no (by show(if z=c then _ else _)=_;rw[if_neg e];exact h)
  | @is l _ b p I G =>
   refine .is (by show(if z=c then _ else _)=_;rw[if_neg e];exact b) p I λd h'=>?_
   have h':=h'
   by_cases q:d=c
   ·rw[if_pos q]at h';injection h' with h';injection h' with h';rw[←h']at b;exact absurd b (f z)
   ·rw[if_neg q]at h';exact G d h'
def Hu.addL (U:Jdv F){l:Addr}{c:Int}(h:R.gg c=Ja l)(r):XD l ((S.wg c).map V.int)∧Hu K C F (Va O l ((JmH c [r]).map V.int)) (Jou ((JmH c [r]).map V.int)) A pr most (S.addG c r) hs R:=by
 have g:=U.u.gr c;generalize I:S.wg c=G at g;cases g with
 | no h'=>rw[h]at h';cases h'
 | @is j _ b w v s =>
  rw[h]at b;injection b with b;injection b with b;subst b;have p:=U.t.o _ _ w;have k:=bj.oth (o:=.lst ((G++[r]).map V.int)) p cC.1 cC.2;refine⟨p,U.n.upd cC,U.t.own (by rw[w];exact λz=>nomatch z) _,U.u.nd,λi a o x J=>?_,X_ k _,JY k,U.u.pn,Jau k _,U.u.hd,U.u.wd,λr=>(U.u.wr r).keep k,U.u.wg,λz=>?_,U.u.lt⟩
  ·have d:a≠l:=λz=>v (z ▸ mO x);rw[aq d];exact U.u.at_ i a o x J
  ·show WgR _ A R.gg z (if z=c then JmH z [r] else S.wg z)
   by_cases e:z=c
   ·rw[if_pos e,e,I];exact .is h ao v s
   ·rw[if_neg e];have g:=U.u.gr z;generalize S.wg z=E at g;cases g with
    | no h'=>exact .no h'
    | @is j _ f D B y =>
     refine .is f ?_ B y;have d:j≠l:=λq=>e (s z (q ▸ f));rw[aq d];exact D
def Hu.gg0 (U:Jdv F){c:Int}(h:Qu (R.gg c)):S.wg c=[]:=by
 have g:=U.u.gr c;generalize S.wg c=b at g;cases g with
 | no _=>rfl
 | is a _ _ _=>rw[h]at a;cases a
def Hu.gg1 (U:Jdv F){c:Int}{v:V}(h:Xa (R.gg c) v):∃l,QB v l∧H l=some (.lst ((S.wg c).map V.int)):=by
 have g:=U.u.gr c;generalize S.wg c=d at g;cases g with
 | no h'=>rw[h]at h';cases h'
 | @is l _ a b _ _ =>
  rw[h]at a;injection a with a;exact⟨l,a,U.t.o _ _ b⟩
def Hu.moveTr {x:Hp}(U:Jdv F){n:Addr}{ts:List (Jc7 Int)}{zs:List V}(h:Qb (F n) zs)(hz:JdK dP zs)(h0:Qu (x n))(s:ap x F) :
  ∃I,Hu K C x I (XE A.h (JlJ { A with tr:=n } S.lk)) { A with tr:=n } pr most { S with ts:=ts } hs { R with zs:=zs }:=by
 have g:=U.oN h;have b:=U.u.stO g;have B:=U.u.at_ 0 _ _ rfl rfl;have y:n≠A.h:=λz=>b (z ▸ mO (i:=0) rfl);have k:=bj.oth (o:=JlJ { A with tr:=n } S.lk) U.ins gB.1 gB.2;have j:({ A with tr:=n }:HA).st.Nodup:=by have e:({ A with tr:=n }:HA).st=A.st.set 3 n:=rfl;rw[e];exact qj U.u.nd b
 refine⟨_,(U.n.upd cC).upd gB,(U.t.take h h0 s).own (by rw[Jix y,B];exact λz=>nomatch z) _,j,λi a o f d=>?_,X_ k _,JY k,U.u.pn,hz.keep k (dr _),U.u.hd,U.u.wd,λr=>(U.u.wr r).keep k,U.u.wg,λz=>?_,U.u.lt⟩
 ·by_cases q:i=0
  ·subst q;cases f;cases d;exact ao
  by_cases p:i=3
  ·subst p;cases f;cases d;rw[aq y,ao]
  have c:A.st[i]?=some a:=by have e:({ A with tr:=n }:HA).st=A.st.set 3 n:=rfl;rw[e,List.getElem?_set_ne (Ne.symm p)]at f;exact f
  have w:(Jlw C A pr S R)[i]?=some o:=by have e:Jlw C { A with tr:=n } pr { S with ts:=ts } { R with zs:=zs }=((Jlw C A pr S R).set 3 _).set 0 _:=rfl;rw[e,List.getElem?_set_ne (Ne.symm q),List.getElem?_set_ne (Ne.symm p)]at d;exact d
  have G:a≠A.h:=λz=>q (ni U.u.nd c (show A.st[0]?=some a by rw[z];rfl));have E:a≠n:=λz=>b (z ▸ mO c);rw[aq G,aq E];exact U.u.at_ i a o c w
 ·have D:=(U.u.gr z).upd (u:=.lst zs) (.inr g) (A':={ A with tr:=n }) λl v=>(List.mem_or_eq_of_mem_set (i:=3) v).imp id λe=>by rw[e];exact g
  exact D.upd (.inl (mO (i:=0) rfl)) λl v=>.inl v
def Hu.moveOd {x:Hp}(U:Jdv F){n:Addr}{od:List Int}(h:Qb (F n) (od.map V.int))(h0:Qu (x n))(s:ap x F) :
  ∃I,Hu K C x I (XE A.h (JlJ { A with od:=n } S.lk)) { A with od:=n } pr most { S with od:=od } hs R:=by
 have g:=U.oN h;have b:=U.u.stO g;have B:=U.u.at_ 0 _ _ rfl rfl;have y:n≠A.h:=λz=>b (z ▸ mO (i:=0) rfl);have k:=bj.oth (o:=JlJ { A with od:=n } S.lk) U.ins gB.1 gB.2;have j:({ A with od:=n }:HA).st.Nodup:=by have e:({ A with od:=n }:HA).st=A.st.set 8 n:=rfl;rw[e];exact qj U.u.nd b
 refine⟨_,(U.n.upd cC).upd gB,(U.t.take h h0 s).own (by rw[Jix y,B];exact λz=>nomatch z) _,j,λi a o f d=>?_,X_ k _,JY k,U.u.pn,Jau k _,U.u.hd,U.u.wd,λr=>(U.u.wr r).keep k,U.u.wg,λz=>?_,U.u.lt⟩
 ·by_cases q:i=0
  ·subst q;cases f;cases d;exact ao
  by_cases p:i=8
  ·subst p;cases f;cases d;rw[aq y,ao]
  have c:A.st[i]?=some a:=by have e:({ A with od:=n }:HA).st=A.st.set 8 n:=rfl;rw[e,List.getElem?_set_ne (Ne.symm p)]at f;exact f
  have w:(Jlw C A pr S R)[i]?=some o:=by have e:Jlw C { A with od:=n } pr { S with od:=od } R=((Jlw C A pr S R).set 8 _).set 0 _:=rfl;rw[e,List.getElem?_set_ne (Ne.symm q),List.getElem?_set_ne (Ne.symm p)]at d;exact d
  have G:a≠A.h:=λz=>q (ni U.u.nd c (show A.st[0]?=some a by rw[z];rfl));have E:a≠n:=λz=>b (z ▸ mO c);rw[aq G,aq E];exact U.u.at_ i a o c w
 ·have D:=(U.u.gr z).upd (u:=.lst (od.map V.int)) (.inr g) (A':={ A with od:=n }) λl v=>(List.mem_or_eq_of_mem_set (i:=8) v).imp id λe=>by rw[e];exact g
  exact D.upd (.inl (mO (i:=0) rfl)) λl v=>.inl v
end
def hln (h:n≤200000):JaM n:=by rw[sizeLine_eq];lia
def HS.setG_self {S:HS}{c:Int}{ns:List Int}(h:S.wg c=ns):S.setG c ns=S:=by
 have:(λx=>if x=c then ns else S.wg x)=S.wg:=by
  funext x;by_cases e:x=c
  ·rw[if_pos e,e,h]
  ·rw[if_neg e]
 unfold HS.setG;rw[this]
def Ba (hs)(p):(λx=>if x=p then some (V.bl true) else gA hs x)=gA (hs++[p]):=by
 funext x;unfold gA;by_cases e:x=p
 ·rw[if_pos e,if_pos (Jj (by rw[e];exact List.mem_cons_self))]
 ·rw[if_neg e];by_cases c:x∈hs
  ·rw[if_pos c,if_pos (Xr c)]
  ·rw[if_neg c,if_neg (λz=>(mPq z).elim c λz=>e (mS z))]
def iP (hs)(p):(gA hs p).isSome=decide (p∈hs):=by
 unfold gA;by_cases c:p∈hs
 ·rw[if_pos c,dTq c];rfl
 ·rw[if_neg c,dFq c];rfl
def ee (R a:HC):Prop:=(∀c v,Xa (R.gg c) v→Xa (a.gg c) v)∧a.xs=R.xs
section
variable {K:W.Frag} {C:Addr} {F O H:Hp} {A:HA} {pr:Addr} {most:Int} {S:HS} {hs:List Int} {R:HC}
def Hu.setd (U:Jdv F){c r:Int}(x:-100≤c∧JkA c){e:Addr}(g:Vu e){Q:VK}
  (q:∀l d,Qb (d l) ((S.wg c).map V.int)→JcZ (∃o b,Jb7 F o (Va d l ((JmH c [r]).map V.int)) (S.addG c r) b∧ee R b) l d) :
  m_ (.ref A.wg) (Jej c e) (Jju e []) Q:=by
 have a:=U.newF g (.lst []);have j:=(U.t.none g).2;have f:JeN F F e []:=Jdg j;refine Jhs A.wg (Sum.inl c) (.ref e) R.kg rfl (a.at' 7 rfl rfl) (hln U.u.wg.len) ?_;rw[U.u.wg.val];cases h:R.gg c with
 | some v =>
  let⟨l,rfl,w⟩:=a.gg1 h;exact .inl (QI (q l _ w ⟨_,_,((a.addL h r).2).base f,Vf (λ_ _ z=>z)⟩))
 | none =>
  have s:=U.gg0 h;let⟨o,b,n,i,p⟩:=a.give (ns:=[]) x ao j f;rw[HS.setG_self s]at n;have k:=n.addL (by rw[i];exact if_pos rfl) r;refine JaF rfl (q e _ k.1 ⟨_,_,k.2,λz v hz=>?_,p⟩);rw[i];show(if z=c then _ else _)=_
  rw[if_neg (λy=>by rw[y,h]at hz;cases hz)];exact hz
def Hu.same (U:Jdv F)(s:Xg H):JcT F H':=U.heap s.kt ⟨U.t.f.trans s,U.t.o.trans s,U.t.d⟩
def Hu.more (U:Jdv F)(s:Xg H){d:Addr}{o:HO}(h:Vu d)(c:Xy d o):JcT (upd F d o) H':=by
 have a:=U.same s;refine⟨a.n,⟨λb u e=>?_,a.t.o,λb e=>?_⟩,a.u⟩
 ·by_cases z:b=d
  ·rw[z,ao]at e;rw[z,←e];exact c
  ·rw[aq z]at e;exact a.t.f b u e
 ·have g:b≠d:=λz=>e (by rw[z];exact(U.t.none h).1);rw[aq g];exact a.t.d b e
def Hu.tupF (U:Jdv F){d:Addr}{o:HO}(a:Xh d o)(h:¬NTup o):ap F (upd F d o)∧Hu K C (upd F d o) O H A pr most S hs R:=by
 have od:Qu (O d):=by
  cases e:O d with
  | none=>rfl
  | some u=>have:=U.t.o _ _ e;rw[a]at this;injection this with this;exact absurd (U.n d u e) (this ▸ h)
 refine⟨λb u e=>?_,U.n,⟨λb u e=>?_,U.t.o,λb e=>?_⟩,U.u⟩
 ·by_cases z:b=d
  ·have:=U.t.f _ _ e;rw[z,a]at this;rw[z,ao];exact this
  ·rw[aq z];exact e
 ·by_cases z:b=d
  ·rw[z,ao]at e;rw[z,←e];exact a
  ·rw[aq z]at e;exact U.t.f b u e
 ·have c:b≠d:=λz=>e (by rw[z];exact od);rw[aq c];exact U.t.d b e
def Hu.sqF (U:Jdv F){d:Addr}{xs:List V}(h:Jfp d):∃b,ap F b∧Jdv b∧SqT K b d xs:=by
 rcases h with (h | ⟨q,h⟩) | h
 ·let⟨s,a⟩:=U.tupF h λz=>z.1 _ rfl;exact⟨_,s,a,.inl (.inl ao)⟩
 ·let⟨s,a⟩:=U.tupF h λz=>z.2 _ _ rfl;exact⟨_,s,a,.inl (JaF q ao)⟩
 ·exact⟨F,ap.refl F,U,.inr h⟩
def Hu.held (U:Jdv F)(p):cn H A.hd (.int p) (gA hs p):=by have:=cn.k (k:=Sum.inl p) (Jd6 4);rw[U.u.hd.val]at this;exact this
def Hu.hold (U:Jdv F){q:Addr}{p y:Int}(e:-100≤p∧JkA p)(a:Vu q) :
  ∃h c,V_ F h (Xo (Va (Jt H q (Jc9 p y)) A.tr (R.zs++Vz q)) A.hd (Jgp R.kh p (.bl true))) A (S.hold p y) (hs++[p]) c∧ee R c:=by
 have b:=Jlx a (Jc9 p y);have d:JdH F F q (Jc9 p y):=Jdg (U.t.none a).2;have g:=b.setTr (ts:=S.ts++[(p,y)]) (zs:=R.zs++Vz q) (by rw[mAq];refine JaO b.u.tr ?_;exact of_dP (SqT.of ao))
 have f:=g.setHd (hs':=hs++[p]) (by rw[←Ba];exact U.u.hd.put e _);exact⟨_,_,f.base d,Vf (λ_ _ z=>z)⟩
end
end L2
namespace L2
open PySem PySem.Spec PyProof.Rows
section
variable {P:Program} {w:World} {H H':Hp} {h h' B:Heap} {a:Addr} {o:HO}
def bU.there (x:bU P w H h a o):∃b,h.get? a=some b:=by
 cases o with
 | lst xs=>obtain⟨_,_,_,_,q⟩:=x;exact V8 q
 | tup xs=>obtain⟨_,_,_,b,q,_⟩:=x;exact V8 q
 | dK kvs=>obtain⟨_,_,_,_,o,_,_,q,_⟩:=x;exact V8 q
 | dT kvs=>obtain⟨_,_,_,_,o,_,_,q,_⟩:=x;exact V8 q
 | set S n=>obtain⟨o,_,_,_,q,_⟩:=x;exact V8 q
 | ins C g c=>obtain⟨_,_,_,q,_⟩:=x;exact V8 q
 | own y=>exact x
 | xd c=>obtain⟨_,⟨_,_,_,q,_⟩,_⟩:=x;exact V8 q
 | rng lo e=>obtain⟨_,_,_,q⟩:=x;exact V8 q
 | frz b u=>exact V8 x.1
 | tbl ps=>exact V8 (show h.get? a=some _ from x)
 | met f y=>exact V8 (show h.get? a=some _ from x)
 | ext d=>exact x.2.1
def Trk (H:Hp)(h B:Heap):Prop:=∀b c,H b≠none→h.get? b=some c→B.get? b=some c
def Old (e:List Addr)(H:Hp)(h B:Heap):Prop:=∀b d,h.get? b=some d→b∉e→∃c,B.get? b=some c∧(J5 b (c=d))
def HOk.stays (c:Ji4 h)(t:Trk H h B)(k:B.StaysIn h'):Ji4 h':=λa o e =>
 (c a o e).stay (λb u d q=>k b u (t b u (d.elim (λz=>by rw[z,e];exact nofun) λz=>by rw[z];exact nofun) q)) (λ_ q=>q) λ_ _ q=>q
def Trk.stays (g:Ji4 h)(t:Trk H h B)(k:B.StaysIn h'):Trk H h' B:=λb j f e=>by
 cases q:H b with
 | none=>exact absurd q f
 | some u =>
  let⟨c,i⟩:=(g b u q).there;have z:=t b c f i;have d:=k b c z;rw[e]at d;cases d;exact z
end
def CX1 (P:Program)(w:World):CXT:=λouter H s E e s'=>∃ea C H' B a,QB e ea∧s'.os=s.os∧AllBare s'.gens∧JiI outer [] H H' s'.heap∧Jii H' s'.heap ∧
 Heap.FlyingW B outer ea (.ref C) a s'.heap∧Trk H' s'.heap B∧Old (frs outer) H s.heap B∧Jfn C H'
structure Xe1 (X:Cx)(E):Prop where
 xe:X.xe=λe s'=>Jbc (leaving X.env e) (λ_ s''=>CX1 X.prog X.w X.outer X.H₀ X.s₀ E e s'') (λe' s''=>CX1 X.prog X.w X.outer X.H₀ X.s₀ E e' s'') s'
 stk:X.stack=JeX X.env
 fr:Jof X.env.frame
 ex:X.ex=[]
section
variable {X:Cx} {E:XK} {pins:List (Jbp Obj)} {σ:St} {H H':Hp} {s s':Shared} {B:Heap} {ea C:Addr} {a0:Value}
def wD (x:Xe1 X E)(I:QD s){d:Shared}(L:d.os=s.os)(o:AllBare d.gens)(u:JiJ [] H H' s'.heap)(D:JhC H' s'.heap)
  (F:Jjr B X.outer ea C a0 d.heap)(J:s'.heap.UpToSlots d.heap)(trk:Trk H' s'.heap B)(t:Old (frs X.stack) H s.heap B)(P:Jfn C H') :
  CX1 X.prog X.w X.outer X.H₀ X.s₀ E (.ref ea) d:=by
 have y:frs X.stack=X.env.locals :: X.fs:=by rw[x.stk];unfold frs;rw[List.filterMap_cons,x.fr];rfl
 have h:∀b,b∉X.ex:=λb c=>by rw[x.ex]at c;cases c
 have nf:∀b a,X.s₀.heap.get? b=some a→b∉X.fs→b∉frs X.stack:=λb a e c z=>by
  rw[y]at z;rcases List.mem_cons.mp z with z | z
  ·exact absurd (Jq e I.ok.above) (by rw[z];exact Nat.lt_irrefl _)
  ·exact c z
 have st:=F.1;have U:=I.base;have f:Old X.fs X.H₀ X.s₀.heap B:=λb a e c=>by let⟨v,j⟩:=U.there b a e (h b);let⟨l,i,A⟩:=t b v j (nf b a e c);refine⟨l,i,λn=>?_⟩;have k:=U.keep b a e n c (h b);rw[j]at k;cases k;exact A (U.free b a e n (h b))
 have g:∀b a,X.s₀.heap.get? b=some a→Qu (X.H₀ b)→b∈X.fs→∃r,d.heap.get? b=some { a with slots:=r }:=λb a e n c=>by let⟨r,k⟩:=U.slot b a e n c (h b);let⟨K,k2⟩:=u.any k (U.free b a e n (h b)) (by simp);let⟨_,R,G,O⟩:=I.ok.funs.mem c;rw[e]at G;cases G;let⟨p,k3⟩:=J b _ k2 λvs q=>O vs q;exact⟨p,k3⟩
 refine⟨ea,C,H',B,a0,rfl,L.trans I.os,o,⟨λb a e n c _=>?_,λb a e n c _=>g b a e n c,λb a e n _=>?_,λb a e _=>?_,λb xs q=>u.tups b xs (U.tups b xs q),λb a xs q=>u.frzs b a xs (U.frzs b a xs q),λb ps q=>?_⟩,D.stays trk st,F,Trk.stays D trk st,f,P⟩
 ·let⟨l,i,A⟩:=f b a e c;rw[A n]at i;exact st b a i
 ·let⟨v,j⟩:=U.there b a e (h b);exact u.free b v j (U.free b a e n (h b)) (by simp)
 ·by_cases c:b∈X.fs
  ·let⟨r,k⟩:=g b a e (I.ok.frf b c) c;exact V8 k
  ·let⟨l,i,_⟩:=f b a e c;exact⟨l,st b l i⟩
 ·let⟨N,j⟩:=U.tbls b ps q;let⟨M,Q⟩:=u.tbls b _ j;exact⟨N++M,by rw[Q,Array.append_assoc]⟩
def hJ (a:Xe1 X E):fz (CX1 X.prog X.w) X E:=by
 intro pins σ H s e s' I h;let⟨ea,C,H',B,a0,rfl,j,c,u,k,n,trk,d,l⟩:=h;rw[a.xe];have b:=n;rw[a.stk]at b;have f:X.A.frames=some (JeX X.env):=by rw[I.ok.frames,a.stk]
 exact wpAny_leaves_onW f a.fr b λh' g i=>wD a I j c u k g i trk d l
def Bb (c:Xe1 X E)(I:QD s)(m:Heap.MadeExcOf s.heap h' ea (.ref C) vs)(u:Jfn C H):X.xe (.ref ea) { s with heap:=h' }:=by
 rw[c.xe];have o:=W.funFrames_hide I.stack λenv p a r=>List.mem_filterMap.mpr ⟨env,p,r⟩;have f:s.heap.FunFrames (W.hideAll s.heap (frs X.stack)) (JeX X.env):=by have z:=o;rw[show X.stack=JeX X.env from c.stk]at z ⊢;exact z
 have g:X.A.frames=some (JeX X.env):=by rw[I.ok.frames,c.stk]
 refine wpAny_leaves_madeW (base:=W.hideAll s.heap _) g c.fr (λb d q=>W.of_hideAll _ q) f m λw t x _ _ k=>?_;refine wD (s':={ s with heap:=h' }) c I rfl I.bare (Un.kept m.keeps) (I.hok.kept m.keeps) x k (λb d e q=>?_) (λb d q e=>⟨d,W.hideAll_get _ q e,λ_=>rfl⟩) u;cases z:H b with
 | none=>exact VR e
 | some v =>
  let⟨n,j⟩:=(Jk6 v z).there;have i:=m.keeps b n j;have l:=q;rw[l]at i;cases i;exact W.hideAll_get _ j λy=>e (I.stkFree b y)
def own_at {K:W.Frag}{h:Heap}{g:List Value}{a:String}(i:K.In h)(q:Jei K C g a) :
  ∃bm N nm j bs hdct sn sub ab col dd k0 k1 k2 k3 k5 mN,h.get? C=some (excClassObj nm j C N bs bm hdct sn sub ab col dd k0 k1 k2 k3 k5 a)∧h.Ns N mN∧Qu (mN "__init__")∧OwnTail h g bm:=by
 unfold W.excIn at q;split at q
 ·rename_i F G x o;split at q
  ·rename_i I p w v u t y r d c;simp only[Bool.and_eq_true,beq_iff_eq,Bool.not_eq_true']at q;let⟨⟨⟨⟨⟨rfl,rfl⟩,f⟩,k⟩,b⟩,e⟩:=q;let⟨nm,bs,z,ns,j,A,sn,sub,ab,col,D⟩:=G;subst d f;have n:x=#[w,v,u,t,Qm y,r]:=by let⟨l⟩:=x;simp only at c;rw[c]
   subst n;exact⟨p,ns,nm,j,bs,A,sn,sub,ab,col,F,w,v,u,t,r,_,i _ _ o,.of_isNs (W.isNs_of_in i b),W.nsMap_none_of_in i b e,W.tail_of_in i k⟩
  ·cases q
 ·cases q
variable {e0:Expr} {rest:List Expr} {t:TA} {x:Str} {np cpos pos:Pos} {Bn newId initId:String} {bm:List Value}
def tRaise (E:XK)(C:Addr)(t:TA):TS:=λ_ σ H=>t σ H λvs a=>Vi vs.length∧Jfn C a
def qk (k:Xe1 X E)(o:Vq X.calm)(n:Gl X x)(l:X.mg x=Ja C)(F:ExcBaseFacts Bn newId initId bm)(q:Jei X.K C bm newId)(p:PA X (V9 e0) t)
  (e:QM (x == ("__debug__":Str)):=by decide)(a:Vc (V9 e0)=(false,Vg e0) :: starEach rest X.env:=by rfl)(c:(JfW rest).any (·.1)=false:=by rfl) :
  PS X (.Raise (some (JJ x np (V9 e0) [] cpos)) none pos) (tRaise E C t):=by
 intro pins s σ H D I h;let⟨f,N,nm,j,bs,hdct,sn,sub,ab,col,dd,k0,k1,k2,k3,k5,mN,v,r,d,T⟩:=own_at I.mod.kin q;refine wpAny_Raise_call_subT (nm:=nm) (q:=j) (N:=N) (bs:=bs) (hdct:=hdct) (sn:=sn) (sub:=sub) (ab:=ab) (col:=col) (dd:=dd) (k0:=k0) (k1:=k1) (k2:=k2) (k3:=k3) (k5:=k5) F
  (T.hasType F.hasBase) (I.ok.hd o) (by rw[a];show QM (false||(JjW _).any _);rw[c];rfl) d (iH I n l (VI rfl) e)
 have g:=p cpos pins s σ H _ I h;rw[a]at g ⊢;refine Calls.evalArgs_plain (wpAny_mono g (λvs z h_=>?_) λ_ _ y=>y);let⟨w,A,b,i,hz,u⟩:=h_;exact⟨rfl,by rw[←i.length];exact hz,b.bk _ _ v,r.keeps b.bk,T.keeps b.bk,λh' ea m=>Bb k b m u⟩
end
abbrev Cx.susp (X:Cx)(ea:Addr):Cx:={ X with A:=X.A.mark (Ja ea),calm:=false,xe:=λ_ _=>False }
abbrev Cx.tryc (X:Cx)(pins:JgP Obj)(E1:Value→Shared→Prop):Cx:={ X with pn:=X.pn++pins,xe:=E1 }
section
variable {X:Cx} {pins:List (Jbp Obj)} {σ:St} {H H':Hp} {s s':Shared} {B:Heap} {ea C:Addr} {a0:Value} {D:iG} {f:Flow} {E1:Value→Shared→Prop}
def Inv.susp (I:QD s)(ea):Vn (X.susp ea) H s :=
 (JmB ⟨I.ok.mod,I.ok.kind,I.ok.glob,I.ok.blt,I.ok.above,I.ok.inj,I.ok.has,I.ok.cab,λz=>(by cases z),I.ok.frames,I.ok.stk,I.ok.exf,I.ok.bs,I.ok.bsz,I.ok.noex,I.ok.exfs,I.ok.funs,I.ok.frf⟩ I.pin)
def Inv.unsusp (a:X.Ok)(I:Vn (X.susp ea) H s):QD s:=JmB a I.pin
def SP.unsusp (c:X.Ok)(h:SP (X.susp ea) pins D f s):SP X pins D f s:=by
 cases f with
 | next=>obtain⟨a,b,I,q⟩:=h;exact⟨a,b,I.unsusp c,q⟩
 | brk=>obtain⟨a,b,I,q⟩:=h;exact⟨a,b,I.unsusp c,q⟩
 | cont=>obtain⟨a,b,I,q⟩:=h;exact⟨a,b,I.unsusp c,q⟩
 | ret u=>obtain⟨v,a,b,I,r,q⟩:=h;exact⟨v,a,b,I.unsusp c,r,q⟩
def Inv.tryc (I:QD s)(E1):JnY (JfQ E1) σ H s :=
 (JmB ⟨I.ok.mod,I.ok.kind,I.ok.glob,I.ok.blt,I.ok.above,I.ok.inj,I.ok.has,I.ok.cab,I.ok.hd,I.ok.frames,I.ok.stk,I.ok.exf,I.ok.bs,I.ok.bsz,I.ok.noex,I.ok.exfs,I.ok.funs,I.ok.frf⟩ (λp a=>JgL (by simpa using a)))
def Inv.untryc (a:X.Ok)(I:Inv (JfQ E1) pins1 σ H s):QD s :=
 (JmB a (λp b=>JgL (Xr b)))
def SP.untryc (c:X.Ok)(h:SP (JfQ E1) pins1 D f s):SP X pins D f s:=by
 cases f with
 | next=>obtain⟨a,b,I,q⟩:=h;exact⟨a,b,I.untryc c,q⟩
 | brk=>obtain⟨a,b,I,q⟩:=h;exact⟨a,b,I.untryc c,q⟩
 | cont=>obtain⟨a,b,I,q⟩:=h;exact⟨a,b,I.untryc c,q⟩
 | ret u=>obtain⟨v,a,b,I,r,q⟩:=h;exact⟨v,a,b,I.untryc c,r,q⟩
structure Came (X)(pins)(σ:St)(H)(s)(H')(B)(s':Shared):Prop where
 I:QD s
 os:s'.os=s.os
 bare:AllBare s'.gens
 u:JiJ [] H H' s'.heap
 ok:JhC H' s'.heap
 trk:Trk H' s'.heap B
 old:Old (frs X.stack) H s.heap B
def Came.inv (c:Came X pins σ H s H' B s'){h':Heap}(st:B.StaysIn h')(p:s'.heap.UpToSlots h'):Vy H' { s' with heap:=h' }:=by
 have g:∀b a,s.heap.get? b=some a→Vu b→b∈frs X.stack→∃j,h'.get? b=some { a with slots:=j }:=λb a e n d=>by let⟨j,k⟩:=c.u.slot b a e n d (by simp);let⟨_,v,o,r⟩:=c.I.stack.mem d;rw[e]at o;cases o;let⟨i,k3⟩:=p b _ k λvs q=>r vs q;exact⟨i,k3⟩
 refine c.I.call' (s':={ s' with heap:=h' }) (ch:=[]) c.os ⟨λb a e n d _=>?_,λb a e n d _=>g b a e n d,λb a e n _=>c.u.free b a e n (by simp),λb a e _=>?_,c.u.tups,c.u.frzs,c.u.tbls⟩ (c.ok.stays c.trk st) c.bare (λb d=>by cases d)
 ·let⟨l,h,t⟩:=c.old b a e d;rw[t n]at h;exact st b a h
 ·by_cases d:b∈frs X.stack
  ·let⟨j,k⟩:=g b a e (c.I.stkFree b d) d;exact V8 k
  ·let⟨l,h,_⟩:=c.old b a e d;exact⟨l,st b l h⟩
def PH (X:Cx)(hs:List ExceptHandler)(a:Addr→TS):Prop :=
 ∀pins σ H s H' B s' D ea C a0 h',Came X pins σ H s H' B s'→Jjr B X.stack ea C a0 h'→s'.heap.UpToSlots h'→a C D σ H' →
  wpAny (Xp X.w) X.A (handleBy (.ref ea) X.env hs) (SP X pins D) X.xe { s' with heap:=h' }
def qo:PH X hs (λ_=>uh):=λ_ _ _ _ _ _ _ _ _ _ _ _ _ _ _ z=>z.elim
def tExc (K:W.Frag)(c:Addr)(ts:TS)(a:Addr→TS):Addr→TS:=λC D σ H=>∃b,Xa (Jek K C c) b∧if Vq b then ts D σ H else a C D σ H
def wF {x:Str}{r i:Pos}{o:Stmt}{a:List Stmt}{rest:List ExceptHandler}{p:Addr}{ts:TS}{n:Addr→TS}(v:Gl X x)(u:X.mg x=Ja p)(hs:∀ea,PSs (X.susp ea) (o :: a) ts)(t:PH X rest n)
  (j:QM (x == ("__debug__":Str)):=by decide):PH X (V9 (.ExceptHandler (some (JbI r)) none (o :: a) i)) (tExc X.K p ts n):=by
 intro pins σ H s H' B s' D ea C a0 h' c d g h;let⟨b,z,h⟩:=h;have I:=c.inv d.1 g;have F:=I.susp ea;let⟨J,y,k⟩:=d.there;have A:W.Looks (Xp X.w) h' (JbS ea) (.ref C):=k ▸ (W.Looks.ld y).andThen .now;refine wpAny_handleBy_cons (codeAny_handlers_test (iH F v u ?_ j)) (by intro q;cases q);refine W.exm_one I.kIn A z _ _ _ _ (λ_ _ q=>q) ?_;cases b with
 | true =>
  refine codeAny_handlers_suite (lands_againW d λL l e=>?_);have E:=(c.inv l.1 (g.trans e)).susp ea;exact wpAny_mono (hs ea pins _ σ H' D E h) (λf G q=>q.unsusp I.ok) λ_ _ q=>q.elim
 | false=>exact t pins σ H s H' B s' D ea C a0 h' c d g h
def tTry (n:Nat)(tb:XK→TS)(b:Addr→TS):TS:=λD σ H=>tb (λc _ H'=>∃C,QB c C∧∀a:St,a.length=n→b C D a H') D σ H
def qp (d:X.stack=JeX X.env)(r:Jof X.env.frame)
  (P:∀pins E1 F,fz (CX1 X.prog X.w) (JfQ E1) F→PSs (JfQ E1) body (tb F))(O:PH X (h0 :: hs) th) :
  PS X (.Try body (h0 :: hs) [] [] pos) (tTry X.N.length tb th):=by
 intro pins s σ H D I h;refine wpAny_Try_except ?_;have M:fz (CX1 X.prog X.w) (JfQ (λe b=>Jbd (noteFrame e X.env) (λ_ J=>Jbd (setFlight e none) (λ_ G=>Jbd (handleBy e X.env (h0 :: hs)) (SP X pins D) G) J) b))
   (λc _ H'=>∃C,QB c C∧∀a:St,a.length=X.N.length→th C D a H'):=by
  intro n a E b e s' y t;let⟨ea,C,H',B,a0,rfl,K,i,u,L,S,trk,o,W,T,Q⟩:=t;cases T;have c:Came X pins a E b H' B s':=⟨y.untryc I.ok,K,i,u,L,trk,o⟩;have x:Jjr B (JeX X.env) ea C a0 s'.heap:=by have z:=S;rw[show(JfQ _).stack=JeX X.env from d]at z;exact z
  have p:X.A.frames=some (JeX X.env):=by rw[I.ok.frames,d]
  refine wpAny_looks_onW p r x λU v l=>?_;refine wpAny_landsW v λR g k=>?_;rw[←d]at g;exact O pins a E b H' B s' D ea C a0 R c g (l.trans k) (Q a y.len)
 refine wpAny_mono (P pins _ _ M [] s σ H D (I.tryc _) h) (λf b q=>?_) λe b q=>q;have j:=q.untryc I.ok;cases f with
 | next=>exact wpAny_execs_nil j
 | brk=>exact j
 | cont=>exact j
 | ret u=>exact j
end
def fc (ea C:Addr)(h:Heap):Prop:=∃a,h.get? ea=some a∧QB a.cls C
section
variable {X:Cx} {pins:List (Jbp Obj)} {σ:St} {H H':Hp} {s s':Shared} {B:Heap} {ea C:Addr} {a0:Value} {D:iG} {f:Flow}
def Inv.adopt (I:QD s)(E:fc ea C s.heap)(A:X.s₀.heap.get? ea=none)(w:V1 ea)(y:∀x c,Ql x c→c≠ea)(v:∀p∈X.pn++pins,p.1≠ea)(F:Vu ea) :
  Inv X pins σ (XE ea (Jhx ea C)) s:=by
 have g:∀b u,Xh b u→upd H ea (Jhx ea C) b=some u:=λb u e=>by rw[Jch e F];exact e
 have h:∀b,b≠ea→J5 b (Qu (upd H ea (Jhx ea C) b)):=λb d e=>by rw[aq d];exact e
 have U:=I.base;refine Jhn I.ok I.os ⟨U.keep,U.slot,λb i e n d=>h b (λz=>by rw[z,A]at e;cases e) (U.free b i e n d),U.there,λb xs q=>g _ _ (U.tups b xs q),λb i xs q=>g _ _ (U.frzs b i xs q),λb ps q=>?_⟩ I.loc I.cell (h _ (Ne.symm w) I.free) (λx c e=>h _ (y x c e) (Jh2 c e)) (λp o=>?_) (λb u e=>?_) I.len
 ·let⟨m,e⟩:=U.tbls b ps q;exact⟨m,g _ _ e⟩
 ·let⟨e,n,a,b,c⟩:=JgL o;exact⟨e,h _ (v p o) n,a,b,c⟩
 ·by_cases d:b=ea
  ·subst d;rw[ao]at e;cases e;let⟨j,r,G⟩:=E;refine⟨⟨j,r,G⟩,⟨j,r⟩,λK J p k=>?_⟩;let⟨l,q1,t⟩:=p;exact⟨l,k l q1,t⟩
  ·rw[aq d]at e;exact(Jk6 u e).stay (λ_ _ _ q=>q) (λc q=>g c _ q) λc xs q=>g c _ q
def Inv.forget (I:QD s)(y:h'.Ns X.env.locals m')(hs:JaB X.env.locals h'):Vb X (Ja4 X.N.length) H { s with heap:=h',toks:=t' }:=by
 have g:∀b o,X.s₀.heap.get? b=some o→V1 b:=λb o e=>JgU e;have U:=I.base;refine Jml I.ok ⟨λb d e n j h=>(hs.2 b (g b d e)).trans (U.keep b d e n j h),λb d e n j h=>?_,U.free,λb d e h=>?_,U.tups,U.frzs,U.tbls⟩ ⟨m',y,λi x v _ k _=>?_⟩ (λx c e=>?_) (λp t=>?_) (λb u e=>?_) (by simp)
 ·let⟨l,q⟩:=U.slot b d e n j h;exact⟨l,(hs.2 b (g b d e)).trans q⟩
 ·let⟨r,q⟩:=U.there b d e h;exact⟨r,(hs.2 b (g b d e)).trans q⟩
 ·rw[List.getElem?_replicate]at k;split at k <;> cases k
 ·let⟨v,o,w,A⟩:=JjS x e;exact⟨v,o,(hs.2 c (I.cne x c e)).trans w,A⟩
 ·let⟨e,n,a,b,c⟩:=JgL t;exact⟨(hs.2 p.1 a).trans e,n,a,b,c⟩
 ·refine(Jk6 u e).stay (λc F E q=>(hs.2 c ?_).trans q) (λ_ q=>q) λ_ _ q=>q;rintro rfl;rcases E with z | z
  ·rw[←z,I.free]at e;cases e
  ·rw[I.free]at z;cases z
def Came.apart (c:Came X pins σ H s H' B s'){h':Heap}(e:Jjr B X.stack ea C a0 h'):s.heap.get? ea=none:=by
 cases q:s.heap.get? ea with
 | none=>rfl
 | some h =>
  by_cases d:ea∈frs X.stack
  ·let⟨_,_,k,l,vs,_,_,_,i,_,j,_⟩:=e;let⟨_,o,b,a⟩:=k.mem d;rw[i]at b;cases b;exact absurd j (a vs)
  ·let⟨n,g,_⟩:=c.old ea h q d;rw[e.2.1]at g;cases g
def wG (K:W.Frag)(e:Addr)(i c:Nat)(ts:TS)(d:Addr→TS):Addr→TS:=λC D σ H=>∃b,Xa (Jek K C e) b ∧
 if Vq b then ∀ea,J5 ea (ts { nx:=λ_ a=>D.nx (Ja4 c) a,rt:=D.rt,bk:=λ_ a=>D.bk (Ja4 c) a,ct:=λ_ a=>D.ct (Ja4 c) a } (σ.set i (Ja ea)) (XE ea (Jhx ea C))) else d C D σ H
def ph_as {x n:Str}{np G:Pos}{b0:Stmt}{g:List Stmt}{rest:List ExceptHandler}{C1:Addr}{i:Nat}{ts:TS}{th:Addr→TS}(hg:Gl X x)(hm:X.mg x=Ja C1)(hN:X.N.Nodup)(hi:X.N[i]?=some n)
  (hl:JlL n)(hex:X.ex=[])(hs:∀ea,PSs (X.susp ea) (b0 :: g) ts)(hr:PH X rest th)(hdb:QM (x == ("__debug__":Str)):=by decide) :
  PH X (V9 (.ExceptHandler (some (JbI np)) (some n) (b0 :: g) G)) (wG X.K C1 i X.N.length ts th):=by
 intro pins σ H s H' B s' D ea C a0 h' c fl sm h;let⟨b,hb,h⟩:=h;have I:=c.inv fl.1 sm;have I':=I.susp ea;let⟨oe,he,hcl⟩:=fl.there;have LT:W.Looks (Xp X.w) h' (JbS ea) (.ref C):=hcl ▸ (W.Looks.ld he).andThen .now;refine wpAny_handleBy_cons (codeAny_handlers_test (iH I' hg hm ?_ hdb)) (by intro q;cases q);refine W.exm_one I.kIn LT hb _ _ _ _ (λ_ _ q=>q) ?_;cases b with
 | false=>exact hr pins σ H s H' B s' D ea C a0 h' c fl sm h
 | true =>
  have hp:QM (X.env.scope.kind == .class||(X.env.scope.kind == .module&&X.env.locals != X.env.globals)):=by rw[I.ok.kind];rfl
  refine codeAny_handlers_suite_as (lands_againW fl λh2 j sm2=>?_);have I2:=c.inv j.1 (sm.trans sm2);have Y:=c.apart j;let⟨L,P,S⟩:=j.there;have nB:=j.2.1;have hH:Jgy ea:=by
   cases q:H' ea with
   | none=>rfl
   | some u =>
    have z:=Trk.stays c.ok c.trk j.1 ea L (by rw[q];exact nofun) P;rw[nB]at z;cases z
  have J:=I2.adopt ⟨L,P,S⟩ (by
   cases q:X.s₀.heap.get? ea with
   | none=>rfl
   | some o =>
    by_cases hx:ea∈X.ex
    ·rw[hex]at hx;cases hx
    ·let⟨o',e'⟩:=c.I.base.there ea o q hx;rw[Y]at e';cases e') (by
   rintro rfl;let⟨m,⟨o,_,_,O,_⟩,_⟩:=c.I.loc;rw[Y]at O;cases O) (λy d e z=>by
   let⟨v,o,O,_⟩:=c.I.cell y d e;rw[z,Y]at O;cases O) (λp hp z=>by have e:=(c.I.pin p hp).1;rw[z,Y]at e;cases e) hH
  refine wpAny_mono (iY (X:=X.susp ea) (v:=.ref ea) (J.susp ea) hN hi (.inl hl) rfl (Q:=λ_ T=>Vb (X.susp ea) (σ.set i (Ja ea)) (upd H' ea (Jhx ea C)) T) (λT I3=>I3) (.inr hl)) (λ_ T I3=>?_) λ_ _ q=>False.elim q;refine wpAny_mono (hs ea pins T _ _ _ I3 (h ea hH)) (λfl4 s4 U=>?_) λ_ _ q=>False.elim q;have Z:∀ {a:St} {l:Hp},Vb (X.susp ea) a l s4→∀ {R:Unit→Shared→Prop},(∀F,Vb X _ l F→R () F)→wpAny (Xp X.w) X.A (do bindName X.env n .none;unbindBehindTheSuite X.env n G) R X.xe s4:=λ{a l} t {R} k=>by let⟨m,hn,_⟩:=t.loc;exact wpAny_nameGoes hl hn hp λh5 m5 hn5 hs5=>k _ ((t.unsusp I.ok).forget hn5 hs5)
  cases fl4 with
  | next=>obtain⟨a,l,t,q⟩:=U;exact Z t λF E=>⟨_,l,E,q⟩
  | brk=>obtain⟨a,l,t,q⟩:=U;exact Z t λF E=>⟨_,l,E,q⟩
  | cont=>obtain⟨a,l,t,q⟩:=U;exact Z t λF E=>⟨_,l,E,q⟩
  | ret u=>obtain⟨v,a,l,t,r,q⟩:=U;exact Z t λF E=>⟨v,_,l,E,r,q⟩
def Bc {prog:Program}{w:World}{A:Around}{E:Value→Shared→Prop}{K:W.Frag}{x:Addr}{t c:Value}{Q:Value→Shared→Prop}(j:W.Looks (Xq w) s.heap (JbS x) t)(n:K.In s.heap)(k:QM (t == c))
  (e:JaW (W.kitCls K t c))(h:Jjm true s):J6 w A (JbO "isinstance" (JfJ x c)) Q E s:=by
 let⟨l,g,d,p,r⟩:=s;refine call_isinstance_of ?_ (λz=>nomatch z);refine wpAny_bind (j.at ?_);rw[if_neg (λq=>by rw[k]at q;exact Bool.noConfusion q)];let⟨b,i,a⟩:=W.kit_cls n e;have o:W.Looks _ l (isInstance (.ref x) c) true:=j.andThen a;refine wpAny_bind (b.at ?_);rw[if_pos (by decide)]
 k_delta "plainIsInstance"
 refine JbQ (i.at ?_);simp only[Bool.not_true,Bool.false_eq_true,if_false];refine wpAny_bind (o.at ?_)
 first
  | exact wpAny_pure _
  | (simp only[if_true];first | exact wpAny_pure (wpAny_pure h) | exact wpAny_pure h | exact wpAny_bind _)
inductive qr (K):List V→Hp→VK→Prop|m{xs H Q} ea C n:xs=JfJ ea (.ty n)→Jin ea (Jhx ea C) (JaW (Jjs K (.ref C) n)→Jev H→qr K xs H Q)
def Be:JgE X (qr X.K):=by intro pins s σ H xs us Q I r h;let⟨ea,C,n,rfl,i,e,q⟩:=h;let⟨u,b,rfl,d,c⟩:=jL r;cases (show JiN b n from c);cases (show Jl u ea from d);let⟨⟨k,g,a⟩⟩:=JbR ea i;have j:W.Looks (Xp X.w) s.heap (JbS ea) (.ref C):=a ▸ (W.Looks.ld g).andThen .now;exact Bc j I.kIn rfl e (Jmo true q)
end
end L2
namespace L2
open PySem
def nwH (h:Vu a)(o):∃H',Jnz o=H'∧Xg H∧H' a=some o:=Jmd (aW h o) ao
inductive Ex2 {α₁ α₂:Type}(p:α₁→α₂→Prop):Prop | m (a:α₁) (b:α₂):p a b→Ex2 p
inductive Ex3 {α₁ α₂ α₃:Type}(p:α₁→α₂→α₃→Prop):Prop | m (a:α₁) (b:α₂) (c:α₃):p a b c→Ex3 p
inductive Ex4 {α₁ α₂ α₃ α₄:Type}(p:α₁→α₂→α₃→α₄→Prop):Prop | m (a:α₁) (b:α₂) (c:α₃) (d:α₄):p a b c d→Ex4 p
inductive Ex5 {α₁ α₂ α₃ α₄ α₅:Type}(p:α₁→α₂→α₃→α₄→α₅→Prop):Prop | m (a:α₁) (b:α₂) (c:α₃) (d:α₄) (e:α₅):p a b c d e→Ex5 p
inductive Ex6 {α₁ α₂ α₃ α₄ α₅ α₆:Type}(p:α₁→α₂→α₃→α₄→α₅→α₆→Prop):Prop | m (a:α₁) (b:α₂) (c:α₃) (d:α₄) (e:α₅) (f:α₆):p a b c d e f→Ex6 p
inductive Ex7 {α₁ α₂ α₃ α₄ α₅ α₆ α₇:Type}(p:α₁→α₂→α₃→α₄→α₅→α₆→α₇→Prop):Prop | m (a:α₁) (b:α₂) (c:α₃) (d:α₄) (e:α₅) (f:α₆) (g:α₇):p a b c d e f g→Ex7 p
inductive An3 (a b c:Prop):Prop | m:a→b→c→An3 a b c
inductive An4 (a b c d:Prop):Prop | m:a→b→c→d→An4 a b c d
inductive An5 (a b c d e:Prop):Prop | m:a→b→c→d→e→An5 a b c d e
inductive An6 (a b c d e f:Prop):Prop | m:a→b→c→d→e→f→An6 a b c d e f
inductive An7 (a b c d e f g:Prop):Prop | m:a→b→c→d→e→f→g→An7 a b c d e f g
end L2
namespace K98
open PySem L2
noncomputable def top (i:Nat):Stmt:=PySem.Challenge.pw_yesorno_k98_follows.main.body.getD i (.Pass ⟨0,0,0,0⟩)
abbrev wH:Stmt:=V5 1 0
abbrev wI:Stmt:=V5 1 1
abbrev wJ:Stmt:=V5 1 2
abbrev qt:Stmt:=top 2
abbrev nj:Stmt:=top 3
abbrev qu:Stmt:=top 4
abbrev qv:Stmt:=top 5
abbrev nq:Stmt:=top 6
abbrev qw:Stmt:=top 26
abbrev qx:Stmt:=top 27
abbrev qy:Stmt:=top 28
abbrev qz:Stmt:=top 29
abbrev qA:Stmt:=top 30
abbrev qB:Stmt:=V5 31 0
abbrev qC:Stmt:=V5 31 1
abbrev qD:Stmt:=V5 31 2
abbrev sAdd:Stmt:=V5 31 3
abbrev qG:Stmt:=V5 31 4
abbrev sRow:Stmt:=V5 31 6
abbrev nu:Stmt:=top 33
abbrev qH:Stmt:=top 34
abbrev qI:Stmt:=top 35
abbrev ny:Stmt:=top 48
abbrev nC:Stmt:=top 49
abbrev qJ:Stmt:=top 50
abbrev qK:Stmt:=top 52
abbrev wK:Stmt:=V5 54 0
abbrev nD:Stmt:=top 55
abbrev qL:Stmt:=top 56
abbrev s_levels:Stmt:=top 58
abbrev s_part_levels:Stmt:=top 60
abbrev s_is_replaced:Stmt:=top 61
abbrev s_learnt:Stmt:=top 62
abbrev wL:Stmt:=V5 64 0
abbrev wM:Stmt:=V5 64 1
abbrev wN:Stmt:=V5 64 2
abbrev wO:Stmt:=V5 64 3
abbrev wQ:Stmt:=V5 64 4
abbrev wR:Stmt:=V5 64 5
abbrev wU:Stmt:=V5 64 6
abbrev wV:Stmt:=V5 64 7
abbrev wW:Stmt:=V5 64 8
abbrev wX:Stmt:=V5 64 9
abbrev wY:Stmt:=V5 64 10
abbrev wZ:Stmt:=V5 64 11
abbrev jZ:Stmt:=top 65
abbrev qM:Stmt:=top 67
abbrev qO:Stmt:=top 69
abbrev qP:Stmt:=top 70
abbrev qR:Stmt:=top 71
abbrev qS:Stmt:=top 73
abbrev qT:Stmt:=top 75
abbrev qU:Stmt:=top 76
abbrev nF:Stmt:=top 78
abbrev qV:Stmt:=top 80
abbrev qW:Stmt:=top 82
abbrev qX:Stmt:=top 83
abbrev qZ:Stmt:=top 84
abbrev nH:Stmt:=top 85
abbrev q_:Stmt:=top 86
abbrev ra:Stmt:=top 87
abbrev rb:Stmt:=top 88
abbrev rf:Stmt:=top 89
abbrev nI:Stmt:=top 90
abbrev ri:Stmt:=top 91
abbrev kX:Stmt:=top 92
abbrev rj:Stmt:=top 93
abbrev rk:Stmt:=top 94
abbrev rn:Stmt:=top 95
abbrev rz:Stmt:=top 96
abbrev fX:Stmt:=top 97
abbrev rA:Stmt:=top 98
abbrev rB:Stmt:=top 99
abbrev rC:Stmt:=top 100
abbrev rD:Stmt:=top 101
abbrev eL:Stmt:=top 102
abbrev rE:Stmt:=top 103
abbrev abc:Str:="abcdefghijklmnopqrstuvwxyz"
def isL (c:Str):Bool:=!(Builtin.Str.occurrences abc c 0 abc.length 1).isEmpty
def gC (z:Str):List Bool:=z.cps.toList.map λc=>isL ⟨#[c]⟩
noncomputable def zfA:List V:=[.str "or",.str "and",.str "not",.str "never",.str "always",.str "then",.str "as",.str "unlike"]
def kY (z:Str):Bool:=decide (0<(z.length:Int))&&(gC z).all id
def fY (z:Str):Bool:=kY z&&(decide ((z.length:Int)≤8)&&!inV (.str z) zfA)
def sz (n)(h:Q3 n):Vi n:=Jg2 h
def Bf:abc.cps.toList.length=26:=by decide +kernel
def Bg:Vq (zfA.all zeo):=by decide +kernel
def w_ (z):(gC z).length=z.length:=by simp [gC,Str.length]
def at_in (h0:0≤i)(b:i<(xs.length:Int)):∃c,atI xs i=some c:=by
 have a:JhX i.toNat:=by lia
 have e:i=(i.toNat:Int):=by lia
 have q:=ay (gG a);rw[←e]at q;exact V8 q
def ju (a b:Str):(a++b).length=a.length+b.length:=by show(a.cps++b.cps).size=a.cps.size+b.cps.size;exact Array.size_append
def xa (h:w.length≤n):(Txt.slice w lo hi).length≤n:=Nat.le_trans (Txt.slice_le w lo hi) h
def Bj (a:z.cps[i]?=some ch):(gC z).take (i+1)=(gC z).take i++[isL ⟨#[ch]⟩]:=by
 have b:(gC z)[i]?=some (isL ⟨#[ch]⟩):=by unfold gC;rw[List.getElem?_map,Array.getElem?_toList,a];rfl
 rw[List.take_add_one,b];rfl
def nJ (c):(⟨#[c]⟩:Str).length=1:=rfl
abbrev Tm:=Str × List Int
noncomputable def dT (t:Tm):Dt:=.tup [.str t.1,.tup (t.2.map Dt.int)]
theorem xb:∀ns:List Int,Vq (ze0 (ns.map Dt.int))
 | []=>by simp [ze0]
 | n :: ns=>by simp only[List.map_cons,ze0,nob,Bool.true_and];exact xb ns
def rF:∀ns:List Int,JdT (ns.map Dt.int)
 | []=>by simp [zaM]
 | n :: ns=>by simp only[List.map_cons,zaM,nol,Bool.true_and];exact rF ns
theorem hO:∀ns:List Int,za6 (ns.map Dt.int)=0
 | []=>by simp [za6]
 | n :: ns=>by simp only[List.map_cons,za6,dep,hO ns];rfl
def xf (t):Vq (nob (dT t)):=by simp only[dT,nob,ze0,xb,Bool.and_self]
def rG (t):JiU (dT t):=by simp only[dT,nol,zaM,rF,Bool.and_self]
def dep_dT (t):dep (dT t)=2:=by simp only[dT,dep,za6,hO];rfl
theorem eE:∀T:List Tm,JdT (T.map dT)
 | []=>by simp [zaM]
 | t :: T=>by simp only[List.map_cons,zaM,rG,Bool.true_and];exact eE T
theorem xg:∀T:List Tm,za6 (T.map dT)≤2
 | []=>by simp [za6]
 | t :: T=>by have h:=xg T;simp only[List.map_cons,za6,dep_dT];lia
def Bk (h:Dt.int a=Dt.int b):a=b:=by cases h;rfl
theorem xh:∀ {c bs:List Int},c.map Dt.int=bs.map Dt.int→c=bs
 | [],[],_=>rfl
 | [],b :: bs,h=>by cases h
 | a :: c,[],h=>by cases h
 | a :: c,b :: bs,h=>by rw[List.map_cons,List.map_cons]at h;injection h with e d;rw[Bk e,xh d]
def dT_inj (h:dT a=dT b):a=b:=by let⟨n,ps⟩:=a;let⟨m,e⟩:=b;injection h with h;injection h with d c;injection d with d;injection c with c _;injection c with c;have g:n=m:=d;have f:ps=e:=xh c;rw[g,f]
def peq_dT (a b):peq (dT a) (dT b)=decide (a=b):=by
 by_cases h:a=b
 ·subst h;rw[gX,dTq rfl]
 ·rw[dFq h];cases e:peq _ _ with
  | false=>rfl
  | true=>exact absurd (dT_inj (pB _ _ (xf a) (xf b) e)) h
inductive Out where
 | num (n:Nat) | name | term | many | part
noncomputable def bad (T:List Tm)(ps:List Int):Bool:=decide (3<ps.length)||ps.any λp=>decide (p<0)||decide ((T.length:Int)≤p)
def nM [BEq α][LawfulBEq α]{code:α→Dt}(g:∀a b,Jh8 (code a) (code b)↔a=b)(T:List α)(t:α):((T.map code).any λd=>peq d (code t))=decide (t∈T):=by
 rw[Bool.eq_iff_iff,List.any_eq_true];constructor
 ·rintro ⟨d,f,e⟩;let⟨u,c,rfl⟩:=List.mem_map.mp f;rw[g]at e;rw[←e];exact dTq c
 ·intro h;exact⟨code t,Xz t (oDq h) rfl,gX _⟩
def iff_dT (a b):Jh8 (dT a) (dT b)↔a=b:=by rw[peq_dT];exact decide_eq_true_iff
inductive At where
 | plain (z:Str)
 | same (a b:Int)
 deriving DecidableEq
noncomputable def dA:At→Dt
 | .plain z=>.tup [.str "plain",.str z]
 | .same a b=>.tup [.str "same",.int a,.int b]
def xi (t):Vq (nob (dA t)):=by cases t <;> simp only[dA,nob,ze0,Bool.and_self]
def dc (t):JiU (dA t):=by cases t <;> simp only[dA,nol,zaM,Bool.and_self]
def xj (t):dep (dA t)=1:=by cases t <;> simp only[dA,dep,za6] <;> rfl
def dA_inj (h:dA a=dA b):a=b:=by
 cases a <;> cases b
 all_goals
  injection h with h;injection h with e c;injection c with c d
  first
   | (injection c with c;injection d with d _;injection d with d;rw[c,d])
   | (injection c with c;rw[c])
   | (injection e with e;exact absurd e (by decide +kernel))
   | cases c
def peq_dA (a b):peq (dA a) (dA b)=decide (a=b):=by
 by_cases h:a=b
 ·subst h;rw[gX,dTq rfl]
 ·rw[dFq h];cases e:peq _ _ with
  | false=>rfl
  | true=>exact absurd (dA_inj (pB _ _ (xi a) (xi b) e)) h
def xk (a b):Jh8 (dA a) (dA b)↔a=b:=by rw[peq_dA];exact decide_eq_true_iff
noncomputable def dR (r:List Int):Dt:=.tup (r.map Dt.int)
def fq (r):JiU (dR r):=by simp only[dR,nol,rF]
def dep_dR (r):dep (dR r)=1:=by simp only[dR,dep,hO]
theorem cq {b:Type}{code:b→Dt}(c:∀a,JiU (code a)):∀T:List b,JdT (T.map code)
 | []=>by simp [zaM]
 | t :: T=>by simp only[List.map_cons,zaM,c,Bool.true_and];exact cq c T
theorem j_ {b:Type}{code:b→Dt}{n:Nat}(c:∀a,dep (code a)≤n):∀T:List b,za6 (T.map code)≤n
 | []=>by simp [za6]
 | t :: T=>by have h:=j_ c T;have:=c t;simp only[List.map_cons,za6];lia
def kTA:¬(("terms":Str)="atoms"):=by decide +kernel
def kTR:¬(("terms":Str)="rows"):=by decide +kernel
def kAR:¬(("atoms":Str)="rows"):=by decide +kernel
def hQ (a c b:Addr):Jgx V:=JkC "rows" b (JkC "atoms" c (JkC "terms" a []))
def iA (a c b):(hQ a c b).lookup ("terms":Str)=some (.ref a):=by unfold hQ;rw[gi,if_neg kTR,gi,if_neg kTA,gi,if_pos rfl]
def iC (b a c):(hQ b a c).lookup ("atoms":Str)=some (.ref a):=by unfold hQ;rw[gi,if_neg kAR,gi,if_pos rfl]
def gD (b c a):(hQ b c a).lookup ("rows":Str)=some (.ref a):=by unfold hQ;rw[gi,if_pos rfl]
def fZ (a f b){m:Str}(e:¬m="rows")(d:¬m="atoms")(c:¬m="terms"):(hQ a f b).lookup m=none:=by
 unfold hQ;rw[gi,if_neg e,gi,if_neg d,gi,if_neg c]
 all_goals rfl
def Fr1 (H H':Hp)(z:Addr):Prop:=∀b o,Jin b o (b≠z→Xy b o)
def Fr1.of_same (s:Xg H):Job H z:=λb o e _=>s b o e
def Fr1.trans (a:Fr1 H H1 z)(b:Fr1 H1 H2 z):Fr1 H H2 z:=λc o e n=>b c o (a c o e n) n
def Fr1.keepT (f:Job H z)(h:Je7 z):JoG H':=λb ys q=>by
 rcases q with q | ⟨o,q⟩
 ·exact .inl (f b _ q (eM q h (λe=>by cases e)))
 ·exact JaF o (f b _ q (eM q h (λe=>by cases e)))
structure bu (K)(C)(H:Hp)(p tl al rl)(T:List Tm)(As:List At)(Rs:Vp Int):Prop where
 ob:∃dx,Jig p (hQ tl al rl)
 tm:∃xs,Je7 tl∧JjQ dT
 am:∃xs,Je7 al∧JhZ (As.map dA)
 rm:∃xs,Je7 rl∧JkQ dR
 na:al≠tl
 nr:rl≠tl
 nx:rl≠al
def bu.keep {K:W.Frag}{C:Addr}{H H':Hp}{p a d b z:Addr}{T:List Tm}{g:List At}{Rs:List (List Int)}{zs:List V}(h:JhQ C H a d b T g)(f:Job H z)(hz:XD z zs)(n:z≠a)(l:z≠d)(k:z≠b):JhQ C H' a d b T g:=by let⟨⟨x,i⟩,⟨xs,w,v⟩,⟨ys,u,t⟩,⟨j,s,r⟩,q,o,c⟩:=h;exact⟨⟨x,f _ _ i (eM i hz (λe=>by cases e))⟩,⟨xs,f _ _ w n.symm,v.keep (f.keepT hz) (eE T)⟩,⟨ys,f _ _ u l.symm,t.keep (f.keepT hz) (JkD g)⟩,⟨j,f _ _ s k.symm,r.keep (f.keepT hz) (cq fq Rs)⟩,q,o,c⟩
def bu.same {K:W.Frag}{C:Addr}{H H':Hp}{p c e d:Addr}{T:List Tm}{b:List At}{Rs:List (List Int)}(h:JhQ C H c e d T b)(s:Xg H):JhQ C H' c e d T b:=by let⟨⟨t,r⟩,⟨xs,q,o⟩,⟨ys,n,l⟩,⟨f,k,j⟩,i,g,a⟩:=h;exact⟨⟨t,s _ _ r⟩,⟨xs,s _ _ q,o.keep (.of_same s) (eE T)⟩,⟨ys,s _ _ n,l.keep (.of_same s) (JkD b)⟩,⟨f,s _ _ k,j.keep (.of_same s) (cq fq Rs)⟩,i,g,a⟩
def bu.setT {K:W.Frag}{C:Addr}{H:Hp}{p a l d:Addr}{T T':List Tm}{c:List At}{Rs:List (List Int)}{us:List V}(h:JhQ C H a l d T c)(hs:XH (Jot a) (T'.map dT) us):JhQ C (Jot a) a l d T' c:=by let⟨⟨t,k⟩,⟨xs,j,u⟩,⟨ys,s,r⟩,⟨n,q,o⟩,i,g,b⟩:=h;have f:JoG (Jot a):=bj.lst j;exact⟨⟨t,by rw[aq (eM k j (λe=>by cases e))];exact k⟩,⟨us,ao,hs⟩,⟨ys,by rw[aq i];exact s,r.keep f (JkD c)⟩,⟨n,by rw[aq g];exact q,o.keep f (cq fq Rs)⟩,i,g,b⟩
def bu.setA {K:W.Frag}{C:Addr}{H:Hp}{p c b d:Addr}{T:List Tm}{t As':List At}{Rs:List (List Int)}{us:List V}(h:JhQ C H c b d T t)(hs:XH (Jot b) (As'.map dA) us):JhQ C (Jot b) c b d T As':=by let⟨⟨s,j⟩,⟨xs,r,q⟩,⟨ys,i,u⟩,⟨k,o,n⟩,g,l,a⟩:=h;have f:JoG (Jot b):=bj.lst i;exact⟨⟨s,by rw[aq (eM j i (λe=>by cases e))];exact j⟩,⟨xs,by rw[aq g.symm];exact r,q.keep f (eE T)⟩,⟨us,ao,hs⟩,⟨k,by rw[aq a];exact o,n.keep f (cq fq Rs)⟩,g,l,a⟩
def bu.setR {K:W.Frag}{C:Addr}{H:Hp}{p d k a:Addr}{T:List Tm}{c:List At}{Rs Rs':List (List Int)}{us:List V}(h:JhQ C H d k a T c)(hs:XH (Jot a) (Rs'.map dR) us):bu K C (Jot a) p d k a T c Rs':=by let⟨⟨s,j⟩,⟨xs,r,q⟩,⟨ys,o,n⟩,⟨t,i,u⟩,l,g,b⟩:=h;have f:JoG (Jot a):=bj.lst i;exact⟨⟨s,by rw[aq (eM j i (λe=>by cases e))];exact j⟩,⟨xs,by rw[aq g.symm];exact r,q.keep f (eE T)⟩,⟨ys,by rw[aq b.symm];exact o,n.keep f (JkD c)⟩,⟨us,ao,hs⟩,l,g,b⟩
def SqI (K:W.Frag)(H:Hp)(q:Addr)(ps:List Int):Prop:=Jl_ H q V.int∨Jom q
def SqI.same (h:JnL H q)(s:Xg H):JnL H' q:=h.elim (λz=>.inl (s.seq z)) λz=>.inr ((bj.of_same s).sq z)
inductive rH:Sp|m{vs H Q E9} (z):JmY (vs=[.str z]) z.length ((∀H',JiF (Jx (kY z) H'))→rH vs H Q E9)
inductive rJ:Sp|m{vs H Q E9} (z):JmY (vs=[.str z]) z.length ((∀H',JiF (Jx (fY z) H'))→rJ vs H Q E9)
inductive nN:Sp|m{vs H Q E9} (z):JmY (vs=[.str z]) z.length (Jnv z→(∀H',JiF (Jen H'))→nN vs H Q E9)
inductive kZ (K):Sp|m{vs H Q E9} (a tl) (m) (xs) (ds) (d):vs=Jdl a tl m→Jbk K H d a→Je7 tl→JhZ ds→za6 ds≤50→JmY ((ds.length:Int)<m) m (QM (ds.any λe=>peq e d)→Q7 (ds.length:Nat) (Jju tl (xs++Vz a))→kZ K vs H Q E9)
inductive nO (C):Sp|m{vs H Q E9} (p dx):vs=Vz p→Jig p []→(∀tl al rl H',J5 tl (J5 al (J5 rl (al≠tl→rl≠tl→rl≠al→Xy p (QF dx (hQ tl al rl))→JQ tl []→JQ al []→JQ rl []→(∀b o,Jin b o (b≠p→Xy b o))→Jen H'))))→nO C vs H Q E9
inductive rK (K)(C):Sp|m{vs H Q E9} (p tl al rl) (T) (As) (Rs) (n):Jmu (vs=JfK p n) C (0≤n→n<(T.length:Int)→Jen H→rK K C vs H Q E9)
inductive iD (K):Sp|m{vs H Q E9} (a) (ns:List Int) (k):vs=JfK a k→Jmn H a→JdP 63→0≤k→(∀i:Int,Q7 i H)→iD K vs H Q E9
def hR (n:Int):Prop:=n.natAbs.log2<1920∧((toString n:String):Str).length≤1002
noncomputable def zaO (m:Nat)(n:Int):Bool:=decide (n=0)||decide ((m:Int)<n)||decide (n < -(m:Int))
inductive nQ (K)(C CP):Sp|m{vs H Q E} (p tl al rl) (T) (As) (Rs) (n):Jmu (vs=JfK p n) C (hR n→(if Vq (zaO As.length n) then ∀H',Jlo CP H' else Jen H)→nQ K C CP vs H Q E)
def k_ (h:Vu p)(o):Jna (XE p o):=λb u q=>by rw[Jm2 h];exact q
abbrev bmV:List Value:=[.type "ValueError",.type "Exception",.type "BaseException",.type "object"]
structure Txt (K)(mg:Jdr Str)(aK C CP CM):Prop where
 small:∃t,Xa (mg "SMALL_LETTERS") (.str abc t)
 longest:∃t,Jo4 "LONGEST_NAME" 8
 parts:∃t,Jo4 "MOST_TERM_PARTS" 3
 terms:∃t,Jo4 "MOST_TERMS" 60
 atoms:∃t,Jo4 "MOST_ATOMS" 40
 rparts:∃t,Jo4 "MOST_ROW_PARTS" 20
 rows:∃t,Jo4 "MOST_ROWS" 200
 kept:mg "KEPT_WORDS"=Ja aK
 tup:∀H,Jfo aK zfA
 len:QG "len"
 all:QG "all"
 range:QG "range"
 isi:QG "isinstance"
 bool:QG "bool"
 tuple:QG "tuple"
 abs:QG "abs"
 bpart:mg "BadPart"=Ja CP
 bmany:mg "TooMany"=Ja CM
 xpart:Jei K CP bmV "ValueError.__new__"
 xmany:Jei K CM bmV "ValueError.__new__"
 cl:Cls K C
 nT:cF K C "terms"
 nA:cF K C "atoms"
 nR:cF K C "rows"
section
variable {P:Program} {w:World} {K:W.Frag} {mg:Str→Option Value} {base:Heap} {aK C CP CM:Addr}
def Fun.okX (F:V4 x qual st)(S:Vj N ps st)(b:∀vs H Q E,sp vs H Q E→JgZ vs.length)
  (a:∀cdv A outer s H vs Q E,Jb_ k (JgR qual st f)→sp vs H Q E →
   ∃t,PSs (Jka (Jda w) P w K mg N qual st f A s H E) (zas st) t∧t { nx:=λ_ H'=>Q .non H',rt:=Q } (zc4 N vs) H):Jmf P w K w (k+1) f fd ps sp:=by let⟨l,od,kV,i,j,o,cdv,n,e,rfl,g,d⟩:=F.ex;exact oX g d S b λA outer s H vs Q E h c=>a cdv A outer s H vs Q E h c
def xe1:Xe1 (Jcv (Jda w) P w K mg N qual scope f cd A s H E) E:=Jj5 rfl
def gH (a:a_ k A):Jed 64:=a.units
def scIW:Vj ["text"] ["text"] qw:=fsc
def Bl (F:V4 "is_word" "is_word" qw)(T:JcR C):Jhb ["text"] rH:=by
 let⟨p,n⟩:=T.small;refine F.ok scIW (λvs H Q E h=>?_) (λcdv A outer s H vs Q E r h=>?_)
 ·let⟨z,rfl⟩:=h;rfl
 let⟨z,rfl,hz,q⟩:=h;refine JN (Qi (JkE (cZ eu (JcQ uR 0) af) (VB (vg rfl) T.all PyProof.Rows.Boot.all (Qc (Vw (N':=["letter"]) (ix:=[]) rfl rfl rfl (λ_=>JmW []) rfl rfl (λj i h=>by simp at h) (vf (pv 0)) (λB u e g=>cZ yJ (pv 0) (Jk4 (v:=.str abc) n _) rfl))))))
 refine Jb0 _ z rfl (sz _ hz) _ _ rfl rfl _ rfl ?_;refine bo (λc=>?_) (λc=>?_)
 ·refine JiH z (λD k=>Qj (λi m ys H'=>m=z.length-i∧i≤z.length∧ys=((gC z).take i).map V.bl∧H'=Jju D ys) (JdC z.length (Nat.zero_le _) rfl));rintro i m ys H' ⟨rfl,t,rfl,rfl⟩;refine VI ao;by_cases a:i<z.length
  ·refine JaF a (λx o y=>?_);let⟨rfl,ch,d,rfl⟩:=y;have l:=Bj d;refine JeT _ _ _ rfl rfl ao ?_ (z.length-(i+1)) (by lia) rfl a ?_ lZ
   ·rw[lM,List.length_take,w_];exact Nat.lt_of_le_of_lt (JiO (Jks _)) (by decide)
   ·rw[l,mAq];rfl
  ·have b:i=z.length:=by lia
   subst b;refine .inl ⟨nRq _,D,gC z,rfl,SqL.of (by rw[ao,tO (by rw[w_];exact nRq _)]),?_⟩;have:=q _ (k_ k (.lst (((gC z).take z.length).map V.bl)));unfold kY at this;rw[c,Bool.true_and]at this;exact this
 ·have:=q H (ap.refl H);unfold kY at this;rw[Bool.eq_false_iff.mpr c,Bool.false_and]at this;exact this
def scIN:Vj ["word"] ["word"] qx:=fsc
def Bm (F:V4 "is_name" "is_name" qx)(T:JcR C)(G:QR 1 g gd ["text"] rH)(l:Jnw gd "text")(i:Joo g)(e:mg "is_word"=Ja g) :
  aS P w K mg base CX0 2 f fd ["word"] rJ:=by
 let⟨n,k⟩:=T.longest;refine F.ok scIN (λvs H Q E h=>?_) (λcdv A outer s H vs Q E j h=>?_)
 ·let⟨z,rfl⟩:=h;rfl
 let⟨z,rfl,hz,q⟩:=h;refine JN (Qi (gQ (Jgl G j e i l 0) (JkE (cZ op_le (JcQ uR 0) (Jk4 (v:=.int 8) k _)) (cZ mi (pv 0) (JjG (v:=.ref aK) T.kept rfl) rfl))))
 refine JdD _ z hz (λa b=>QI ?_);refine bo (λc=>?_) (λc=>?_)
 ·refine Jb0 _ z rfl (sz _ hz) _ _ rfl rfl _ rfl ?_;refine bo (λd=>?_) (λd=>?_)
  ·refine⟨_,rfl,aK,zfA,rfl,.inr (T.tup a),rfl,Bg,?_⟩;have:=q a b;unfold fY at this;rw[c,d,Bool.true_and,Bool.true_and]at this;exact this
  ·have:=q a b;unfold fY at this;rw[c,Bool.eq_false_iff.mpr d,Bool.true_and,Bool.false_and]at this;exact this
 ·have:=q a b;unfold fY at this;rw[Bool.eq_false_iff.mpr c,Bool.false_and]at this;exact this
def scAN:Vj ["word"] ["word"] qy:=fsc
def cb:PSs X st (λ_ _ _=>False):=λ_ _ _ _ _ _ h=>h.elim
def Bo (F:V4 "ask_name" "ask_name" qy)(G:JgD 2 "is_name" g gd ["word"] rJ):JeF 3 ["word"] nN:=by
 refine F.ok scAN (λvs H Q E h=>?_) (λcdv A outer s H vs Q E c h=>?_)
 ·let⟨z,rfl⟩:=h;rfl
 let⟨z,rfl,hz,d,h⟩:=h;refine JN (aj (Jnk (Jcw (Jgl G.ok c G.m G.kp G.b 0))))
 rfl'
 refine JdD _ z hz (λe a=>QI ?_);rw[d];exact bq (h e a)
def scPl:Vj ["thing","things","most"] ["thing","things","most"] qA:=fsc
def Bp (F:V4 "place_of" "place_of" qA)(T:JcR C):Jhb ["thing","things","most"] (kZ K):=by
 refine F.ok scPl (λvs H Q E h=>?_) (λcdv A outer s H vs Q E p h=>?_)
 ·let⟨a,b,m,xs,i,d,rfl⟩:=h;rfl
 let⟨a,b,m,xs,i,d,rfl,o,j,hs,q,v,u,t,r⟩:=h;have n:=gH p;have g:=hs.length.symm;refine JN (ae (Jnk (Jk3 (op_inD n) (pv 0) 1)) (JcI (Jnk (aA jK (Jf0 1) (pv 2))) (Jlf cQ (pv 1) (Vh 0)) (V2 gh (Jf0 1))))
 rfl'
 refine⟨_,rfl,_,rfl,b,xs,i,d,rfl,Vd j,hs,o,Vx q,_,rfl,VY (λc=>?_)⟩
 ·have l:=c;rw[t]at l;cases l
 refine⟨_,rfl,b,xs,rfl,Vd j,_,rfl,_,_,rfl,rfl,_,rfl,bo (λk=>?_) (λk=>?_)⟩
 ·lia
 ·refine Jov _ (Jez j) _ b xs _ j (cR (by lia)) ?_;refine⟨_,rfl,b,_,rfl,Vd ao,_,_,rfl,rfl,?_⟩;have e:(((xs++[V.ref a]).length:Nat):Int)-1=(i.length:Nat):=by rw[lAq,g];simp
  rw[e];exact r
def scI:Vj ["self"] ["self"] qB:=fsc
def Bq (F:Jmb "Problem.__init__" qB)(T:JcR C):Jhb ["self"] (nO C):=by
 refine F.ok scI (λvs H Q E h=>?_) (λcdv A outer s H vs Q E G h=>?_)
 ·let⟨p,q,rfl⟩:=h;rfl
 let⟨p,q,rfl,B,k⟩:=h;refine JN (Xc (Jm5 ac) (Jm5 ac) (aj (Jm5 ac)));refine Jf6 (λl v=>?_);have c:=bV B v;refine Jmm p C q [] (by rw[aq c];exact B) T.cl T.nT (by decide);refine Jf6 (λi d=>?_);have j:i≠p:=λz=>by rw[z,ao]at d;cases d
 have r:i≠l:=λz=>by rw[z,aq c.symm,ao]at d;cases d
 have D:Vu i:=by rw[aq j,aq r]at d;exact d
 refine Jmm p C q _ (by rw[aq j.symm,ao]) T.cl T.nA (by show JhI 1;decide);refine Jf6 (λg a=>?_);have n:g≠p:=λz=>by rw[z,ao]at a;cases a
 have u:g≠i:=λz=>by rw[z,aq j,ao]at a;cases a
 have t:g≠l:=λz=>by rw[z,aq c.symm,aq r.symm,aq c.symm,ao]at a;cases a
 have y:Vu g:=by rw[aq n,aq u,aq n,aq t]at a;exact a
 refine Jmm p C q _ (by rw[aq n.symm,ao]) T.cl T.nR (by show JhI 2;decide);refine k l i g _ v D y r t u ao ?_ ?_ ?_ λb o e x=>?_
 ·rw[aq c.symm,aq t.symm,aq c.symm,aq r.symm,aq c.symm,ao]
 ·rw[aq j,aq u.symm,aq j,ao]
 ·rw[aq n,ao]
 ·rw[aq x,Jch e y,aq x,Jch e D,aq x,Jch e v];exact e
def scAT:Jma (VL "number") "number" qC:=fsc
def Br (F:V4 "ask_term" "Problem.ask_term" qC)(T:JcR C):Jhb (VL "number") (rK K C):=by
 refine F.ok scAT (λvs H Q E h=>?_) (λcdv A outer s H vs Q E o h=>?_)
 ·let⟨p,a,k,e,T,l,Rs,n,rfl⟩:=h;rfl
 let⟨p,a,k,e,T',l,Rs,n,rfl,S,r,q,h⟩:=h;let⟨⟨j,g⟩,⟨xs,i,hs⟩⟩:=id S;have b:Ja0 T'.length:=by rw[←hs.length,lM]
 refine JN (aj (Jnk (Jg8 (Jcj jJ 1 af) (Jcj jK 1 (JoP bO 0)))))
 rfl'
 refine Jhs _ rfl _ _ rfl _ rfl (bo (λc=>?_) (λc=>⟨_,rfl,_,rfl,p,C,j,_,_,rfl,g,T.cl,T.nT,iA _ _ _,a,xs,rfl,Vd i,_,_,rfl,rfl,_,rfl,bo (λd=>?_) (λd=>h)⟩))
 ·have:=oDq c;lia
 ·lia
def scC:Vj (Ja5 "_law_k") (Ja5 "_law_k") qW:=fsc
def Bu (F:V4 "_law_cell_at" "_law_cell_at" qW)(T:JcR C):Jhb (Ja5 "_law_k") (iD K):=by
 refine F.ok scC (λvs H Q E h=>?_) (λcdv A outer s H vs Q E l h=>?_)
 ·let⟨a,ns,k,rfl⟩:=h;rfl
 let⟨a,ns,k,rfl,d,g,h0,q⟩:=h;refine JN (Jdd (Jnj (Jcj jJ 1 (Jf0 0)) (Qi (Jg cu 0 (pv 1)))) af);refine⟨_,rfl,_,rfl,a,_,rfl,.inl d,_,_,rfl,rfl,_,rfl,?_⟩;refine bo (λc=>?_) (λc=>?_)
 ·have j:=oDq c;rw[lM]at j;have e:JjD k.toNat:=by lia
  have i:k=(k.toNat:Int):=by lia
  have b:atI (ns.map V.int) _=some _:=ay (by rw[List.getElem?_map,gG e] <;> rfl);rw[←i]at b;exact JjP _ _ rfl a _ _ _ d b (q _)
 ·exact q 0
def gJ (c:-1000≤n)(b:Q3 n):hR n:=by
 have a:Q3 n.natAbs:=by lia
 refine VI ?_
 ·by_cases h0:n.natAbs=0
  ·rw[h0];decide
  ·have:=(Nat.log2_lt h0 (k:=1920)).mpr (Nat.lt_of_le_of_lt a (by decide +kernel));exact this
 ·have:=PyProof.Rows.len_str_of_int n;lia
def scAP:Jma (VL "part") "part" qD:=fsc
def Bv (F:V4 "ask_part" "Problem.ask_part" qD)(T:JcR C):Jmv P w K w 1 f fd "part" (nQ K C CP):=by
 refine Fun.okX F scAP (λvs H Q E h=>?_) (λcdv A outer s H vs Q E B h=>?_)
 ·let⟨p,q,o,r,T,d,Rs,n,rfl⟩:=h;rfl
 let⟨p,q,o,r,T',d,Rs,n,rfl,S,i,h⟩:=h;let⟨⟨v,t⟩,_,⟨xs,u,hs⟩⟩:=id S;have b:Ja0 d.length:=by rw[←hs.length,lM]
 let⟨g,e⟩:=i;refine JN (aj (Jnj (Jg8 (Jcj bZ 1 af) (aA eu (Jal ja T.abs (Vh 1)) (JoP bO 0))) (aj (Jiy xe1 rfl rfl T.bpart T.xpart (Qc (vk (kD (pe_fv (pv 1)) (kD bz vj))))))))
 refine Jlm (bo (λc=>b_ ?_) (λc=>⟨_,rfl,n,rfl,_,rfl,p,C,v,_,_,rfl,t,T.cl,T.nA,iC _ _ _,o,xs,rfl,Vd u,_,_,rfl,rfl,_,rfl,bo (λk=>?_) (λk=>?_)⟩))
 rotate_left 2
 ·have l:¬n=0:=λz=>Jiz (by rw[z]);have a:¬(xs.length:Int)<(if n<0 then -n else n):=λz=>k (dTq z)
  rw[b]at a;have j:QM (zaO d.length n):=by
   unfold zaO;have y:¬(d.length:Int)<n:=by split at a <;> lia
   have x:¬n < -(d.length:Int):=by split at a <;> lia
   rw[dFq l,dFq y,dFq x];rfl
  rw[if_neg (by rw[j];decide)]at h;exact h
 all_goals
  have j:Vq (zaO d.length n):=by
   unfold zaO
   first
    | (have l:=oDq c
       have a:n=0:=by injection l
       rw[dTq a];rfl)
    | (have z:=oDq k
       rw[b]at z;split at z
       ·rw[dTq (show n < -(d.length:Int) by lia),Bool.or_true]
       ·rw[dTq (show(d.length:Int)<n by lia),Bool.or_true,Bool.true_or])
  rw[if_pos j]at h;refine QI (.inr (Jb0 n g _ rfl ?_ _ rfl ?_ ?_ (by show Vi 1;decide) (h H (ap.refl H))))
  ·rw[ju];exact Nat.le_trans (JeK e) (by decide +kernel)
  ·rw[ju,ju];exact Nat.le_trans (Nat.add_le_add_right (JeK e) _) (by decide +kernel)
  ·rw[ju,ju];exact Nat.le_trans (Nat.add_le_add_right (JeK e) _) (by decide +kernel)
end
inductive nS (K)(C):Sp|m{vs H Q E9} (p tl al rl) (T) (As) (Rs) (z):Jmu (vs=JfJ p (.str z)) C (JmX z.length (Jnv z→As.length<40→.plain z∉As→(∀H':Hp,JhT C H' T (As++[.plain z])→Job H al→Q7 ((As.length+1:Nat):Int) H')→nS K C vs H Q E9))
inductive lj (K)(C CM):Sp|m{vs H Q E} (p tl al rl q) (T) (As) (Rs) (ps):Jmu (vs=Jaz p q) C (JnL H q→JmY (QV 20) As.length ((∀n∈ps,n≠0∧-(As.length:Int)≤n∧n≤(As.length:Int))→JhV 200→(Rs.length=200→∀H',Jlo CM H')→(Rs.length<200→∀H':Hp,bu K C H' p tl al rl T As (Rs++[JbJ ps])→Job H rl→Q7 (Rs.length:Nat) H')→lj K C CM vs H Q E))
inductive lq (K):Sp|m{vs H Q E9} (q) (ps):vs=Vz q→JnL H q→QV 1000→(∀H' l,Jln (JT l ((JbJ ps).map V.int)) l)→lq K vs H Q E9
def Bw (a b):peq (.int a) (.int b)=decide (a=b):=by simp only[peq];rfl
def q1 {Q:VK}{n:Nat}{H:Hp}(h:Q7 ((n+1:Nat):Int) H):Q7 ((n:Int)+1) H:=h
section
variable {P:Program} {w:World} {K:W.Frag} {mg:Str→Option Value} {base:Heap} {aK C CP CM:Addr}
def Bx (S:Jkn C)(f:Jbk K H (dA t) a)(g:As.length<40)(no:t∉As)
  (k:∀H',JhT C H' T (As++[t])→Job H al→Q7 (As.length:Nat) H'):kZ K (Jdl a al 40) H Q E:=by let⟨xs,d,hs⟩:=id S.am;refine⟨a,al,40,xs,As.map dA,dA t,rfl,f,d,hs,Vx (j_ (λa=>by rw[xj];exact nRq _) As),by rw[lM];lia,by decide,by rw[nM xk];exact dFq no,?_⟩;have c:JoG (Jju al (xs++Vz a)):=bj.lst d;rw[lM];refine k _ (S.setA ?_) (λb o e h=>by rw[aq h];exact e);rw[mAq];exact(hs.keep c (JkD As)).append (ar.one (f.keep c (dc t)))
def scP:Jma (VL "name") "name" qG:=fsc
def By {f M L:Addr}{o O dP:FuncData}(F:Fun K "add_plain" "Problem.add_plain" qG f o)(T:JcR C)(e:JgD 3 "ask_name" M O ["word"] nN)(d:Jiu "place_of" L dP ["thing","things","most"] (kZ K)) :
  aS P w K mg base CX0 4 f o (VL "name") (nS K C):=by
 let⟨t,l⟩:=T.atoms;refine F.ok scP (λvs H Q E h=>?_) (λcdv A outer s H vs Q E n h=>?_)
 ·let⟨p,r,R,y,T,X,Rs,z,rfl⟩:=h;rfl
 let⟨p,r,R,y,T',X,Rs,z,rfl,S,lo,D,g,no,h⟩:=h;have k:a_ 1 _:=n.mono (by decide);refine JN (Jdd (bD (Jgl e.ok n e.m e.kp e.b 1)) (V2 eo (JfA d.ok k d.m d.kp d.b (Jj2 (bQ (Jhh bz 1)) (Js 0) (Jk4 (v:=.int 40) l _)))))
 rfl'
 refine⟨_,rfl,z,rfl,lo,D,λW u=>Jmd lS2 (λa I=>?_)⟩;have c:=u.trans (k_ I (.tup [.str "plain",.str z]));have q:=S.same c;let⟨⟨N,B⟩⟩:=id q;have G:Has K (Jt W a [.str "plain",.str z]) (Jhz z) _:=JeL ao (JeU (by simp only[Has]) (by simp only[Has]));exact Jf5 _ p C N _ _ rfl B T.cl T.nA (iC _ _ _) (Bx q G g no λH' U J=>Xs _ _ rfl (q1 (h H' U ((Fr1.of_same c).trans J))))
end
inductive rL (K)(C):Sp|m{vs H Q E9} (p tl al rl q) (T) (As) (Rs) (n) (ps):Jmu (vs=[.ref p,.str n,.ref q]) C (JmY (Jom q) n.length (Jnv n→QV 3→(∀i∈ps,0≤i∧i<(T.length:Int))→T.length<60→(n,ps)∉T→(∀H':Hp,JhU C H' (T++[(n,ps)])→Job H tl→Q7 (T.length:Nat) H')→rL K C vs H Q E9))
section
variable {P:Program} {w:World} {K:W.Frag} {mg:Str→Option Value} {base:Heap} {aK C CP CM:Addr}
def scA:Vj ["self","name","parts","part"] (Jj4 "name") sAdd:=fsc
def xm {ps:List Int}{i:Nat}{x:V}(h:(ps.map V.int)[i]?=some x):∃k,ps[i]?=some k∧x=.int k:=by
 rw[List.getElem?_map]at h;cases e:ps[i]? with
 | none=>rw[e]at h;cases h
 | some k =>
  rw[e]at h;exact Qd k ((Option.some.inj h).symm)
def ok_add {f fN fT fP:Addr}{Z dN t dP:FuncData}(F:Fun K "add_term" "Problem.add_term" sAdd f Z)(T:JcR C)(G:JgD 3 "ask_name" fN dN ["word"] nN)
  (GT:QR 1 fT t (VL "number") (rK K C))(bT:Ja9 t "number")(mT:Jnm "ask_term" fT)(D:Jiu "place_of" fP dP ["thing","things","most"] (kZ K)):QR 4 f Z (Jj4 "name") (rL K C):=by
 let⟨t3,e3⟩:=T.parts;let⟨t60,N⟩:=T.terms;refine F.ok scA (λvs H Q E h=>?_) (λcdv A outer s H vs Q E X h=>?_)
 ·let⟨p,y,al,U,q,T,As,Rs,n,ps,rfl,_⟩:=h;rfl
 let⟨p,y,al,U,q,T',As,Rs,n,ps,rfl,S,Y,lo,hn,h3,hp,len,no,h⟩:=h;have l:a_ 1 _:=X.mono (by decide);refine JN (Xc (bD (Jgl G.ok X G.m G.kp G.b 1)) (Jnk (aA eu (Jf0 2) (Jk4 (v:=.int 3) e3 _))) (Jdd (Jcc (Jlc 2) (i:=3) scA.nd (Jc5 0 mT GT l bT aJ (Vh 3))) (JfA D.ok l D.m D.kp D.b (Jj2 (Jib 1 (Jo3 gk 2)) (Js 0) (Jk4 (v:=.int 60) N _)))))
 rfl'
 refine⟨_,rfl,n,rfl,lo,hn,λH1 I=>?_⟩;have S1:=S.same I;have d:=I.tup Y;have hl1:(ps.map V.int).length=ps.length:=lM _;refine Jov _ q _ (.inr d) _ _ _ rfl (bo (λc=>?_) (λc=>?_))
 ·lia
 let⟨⟨dx,ho⟩,_⟩:=id S1;refine Jhk _ q d (Jim dU (λi u g=>g=H1∧∃z,u=[some _,some _,some _,z]) (λi u g h=>by let⟨e,_⟩:=h;exact by rw[e];exact d) (Jbz rfl _))
 ·rintro i u H8 x g hi ⟨rfl,z,rfl⟩ ⟨rfl,hx⟩;let⟨k,ek,rfl⟩:=xm (hx _ d);have R:=hp k (mO ek);exact⟨_,rfl,p,dx,_,rfl,ho,QK _ _ _,_,rfl,p,y,al,U,T',As,Rs,k,rfl,S1,R.1,R.2,rfl,_,rfl⟩
 ·rintro u g ⟨rfl,z,rfl⟩;refine JnD _ _ q _ rfl (.inr ⟨d,lS2,λa ha=>?_⟩);have B:=I.trans (k_ ha (.tup (VV n q)));have L:Has K _ (dT (n,ps)) _:=JeL ao (JeU (by simp only[Has]) (XC (B.tup Y) ps));generalize Jk8 g a=H3 at B L;have S3:=S.same B;let⟨⟨O,J⟩,⟨xs,r,j⟩,_⟩:=id S3;refine⟨_,rfl,p,C,O,_,_,rfl,J,T.cl,T.nT,iA _ _ _,a,y,60,xs,T'.map dT,dT _,rfl,L,r,j,Vx (xg T'),by rw[lM];lia,by decide,by rw[nM iff_dT];exact dFq no,?_⟩;rw[lM];have W:bj H3 (Va H3 y (xs++Vz a)):=bj.lst r;refine h _ (S3.setT ?_) (λb o e M=>by rw[aq M];exact B b o e);rw[mAq];exact(j.keep W (eE T')).append (ar.one (L.keep W (rG _)))
end
def Bz (a b):Jh8 (.int a) (.int b)↔a=b:=by rw[Bw];exact decide_eq_true_iff
section
variable {K:W.Frag}
def cA {ps:List Int}{i:Nat}{x:V}(h:(ps.map V.int)[i]?=some x):∃k,ps[i]?=some k∧x=.int k:=xm h
def SeqJ (J:It)(ps:List Int)(H:Hp):Prop:=∃b:Hp→Prop,Wk J ps.length b∧(∀H',JiF (b H'))∧∀i H' x a,Xg H→Jmh a→a=H'∧∃k,ps[i]?=some k∧Jjl x k
def BB (b:Jl_ H a V.int):SeqJ (Itl K a) ps H:=by
 refine⟨λH'=>Jz H' a _,?_,λH' s=>s.seq b,?_⟩
 ·have:=cU (K:=K) (a:=a) (xs:=ps.map V.int);rw[lM]at this;exact this
 ·rintro i H' x d s ⟨rfl,c⟩;exact Jbm (cA (c _ (s.seq b)))
def BE (b:Jom a):SeqJ (Itt K a) ps H:=by
 refine⟨λH'=>QC H' a _,?_,λH' s=>s.tup b,?_⟩
 ·have:=dU (K:=K) (a:=a) (xs:=ps.map V.int);rw[lM]at this;exact this
 ·rintro i H' x d s ⟨rfl,c⟩;exact Jbm (cA (c _ (s.tup b)))
def iSeqI (K:W.Frag)(d:TE):L2.TI:=λc H R=>d c H λx b=>∃a ps H0,Jny a∧JnL H0 a∧ap H0 b∧∀J,SeqJ J ps H0→R J b
def lu (w:VE l tl):PI X tg l (iSeqI X.K tl):=by
 intro d s r H R I h;refine thn (w d s r H _ I h) λv c h_=>?_;let⟨x,j,g,u,q1⟩:=h_;let⟨a,ps,H0,rfl,f,k,q⟩:=q1;cases u;have n:∀b∈[c.heap.objs.size],eg X d j b:=λb y=>by
  have e:b=c.heap.objs.size:=by simpa using y
  subst e;exact g.fpOk (nRq _) (g.hok.fresh (nRq _))
 rcases f with f | f
 ·let⟨i,t,p,hz⟩:=g.list (k.seq f);refine JO p.isList;exact Jhr c.heap.objs.size [c.heap.objs.size] _ _ j (g.kept (t':=c.toks) λb o e=>JgM e) (ui a _) (JiY (Heap.get?_push_size _ rfl)) n (q _ (BB f))
 ·let⟨i,t,p,hz⟩:=g.tuple (k.tup f);refine JcA (show c.heap.IsTuple a i.toArray from p);exact Jhr c.heap.objs.size [c.heap.objs.size] _ _ j (g.kept (t':=c.toks) λb o e=>JgM e) (uj a _) (JiY (Heap.get?_push_size _ rfl)) n (q _ (BE f))
end
section
variable {P:Program} {w:World} {K:W.Frag} {mg:Str→Option Value} {base:Heap} {aK C CP CM:Addr}
def scO:Vj ["parts","kept","part"] ["parts"] qz:=fsc
def BJ {f:Addr}{B:FuncData}(F:Fun K "once_each" "once_each" qz f B)(T:JcR C):QR 1 f B ["parts"] (lq K):=by
 refine F.ok scO (λvs H Q E h=>?_) (λcdv A outer s H vs Q E R h=>?_)
 ·let⟨q,ps,rfl⟩:=h;rfl
 let⟨q,ps,rfl,S,L,k⟩:=h;have O:=gH R;refine JN (JH (i:=1) scO.nd (bM ac) (Jcc (lu (pv 0)) (i:=2) scO.nd (aj (Jnj (Jk3 (pE O) (pv 2) 1) (Jmk 1 (Vh 2))))) (Qi (Jo3 gk 1)))
 refine Jf6 (λl y=>?_);have v:JeN H H l []:=k_ y _;refine Jhs _ rfl q ps H S v (λJ ⟨Y,G,I,D⟩=>Jim G (λi r d=>Jna d∧(∃z,r=[some _,some _,z])∧Qb (d l) ((JbJ (ps.take i)).map V.int)) (λi r d h=>I _ h.1) ⟨v,Vf _,ao⟩)
 ·rintro i r d x W X ⟨g,⟨z,rfl⟩,a⟩ N;let⟨rfl,n,U,rfl⟩:=D i d x W g N;have u:=vz (acc:=[]) U;have j:((JbJ (ps.take i)).map V.int).length<sizeLine:=by rw[lM];have:=jn (ps.take i) [];rw[List.length_take,List.length_nil]at this;exact Nat.lt_of_le_of_lt (show Q3 _ by lia) (by decide)
  refine⟨_,rfl,_,rfl,l,_,(JbJ _).map Dt.int,.int n,rfl,Vd a,ar.ints _,by simp only[Has],by rw[hO];decide,_,rfl,?_⟩;have ea:=nM Bz (JbJ (ps.take i)) n;by_cases t:n∈bp [] (ps.take i)
  ·rw[dTq t]at ea;refine VY (λc=>absurd (show Vq (!((JbJ _).map Dt.int).any λd'=>peq d' _) from c) (by rw[ea];decide));rw[if_pos t]at u;exact⟨g,Vf _,by rw[u];exact a⟩
  ·rw[dFq t]at ea;refine J9 (λc=>absurd (show Vq (!((JbJ _).map Dt.int).any λd'=>peq d' _) by rw[ea];rfl) c);rw[if_neg t]at u;refine Jov _ (Jez a) _ l _ _ a j ?_;refine Qj (λb o e=>by rw[Jch e y];exact g b o e) (Vf _);rw[u,mAq,ao];rfl
 ·rintro r d ⟨g,⟨z,rfl⟩,a⟩;rw[List.take_length]at a;exact JfX _ l _ (JeO a (λM p=>k _ M (g.trans (k_ p _)) ao))
def scRw:Jma (JbL "parts" "part") "parts" sRow:=fsc
def ok_row {f fP fO:Addr}{fd dP dO:FuncData}(F:V4 "add_row" "Problem.add_row" sRow)(T:JcR C)(GP:Jmv P w K w 1 fP dP "part" (nQ K C CP))(bP:JlM dP)(mP:Jnm "ask_part" fP)
  (GO:Jiu "once_each" fO dO ["parts"] (lq K)):Jmv P w K w 2 f fd "parts" (lj K C CM):=by
 let⟨t20,R⟩:=T.rparts;let⟨Z,g⟩:=T.rows;refine Fun.okX F scRw (λvs H Q E h=>?_) (λcdv A outer s H vs Q E hr h=>?_)
 ·let⟨p,B,Y,d,q,T,j,Rs,ps,rfl,_⟩:=h;rfl
 let⟨p,B,Y,d,q,T',j,Rs,ps,rfl,S,I,len,al3,D,rlen,hE,h⟩:=h;refine JN (Xc (Jbb rfl (lu (pv 1)) (VH (i:=2) scRw.nd) (Jc5 0 mP GP hr bP (hJ xe1) (Vh 2))) (Jnk (aA eu (Jf0 1) (Jk4 (v:=.int 20) R _))) (JcI (Jnj (aA jK (JoP bO 0) (Jk4 (v:=.int 200) g _)) (aj (Jiy xe1 rfl rfl T.bmany T.xmany (Qc (vk (kD bz (kD (pe_fv (Jk4 (v:=.int 200) g _)) (kD bz vj)))))))) (Jlf cQ (Js 0) (Qc (Jgl GO.ok hr GO.m GO.kp GO.b 1))) (V2 gh (JoP bO 0))))
 rfl'
 let⟨⟨W,M⟩,_,_,⟨xs,O,hs⟩,_⟩:=id S;have r:Ja0 Rs.length:=by rw[←hs.length,lM]
 have hpl:(ps.map V.int).length=ps.length:=lM _;refine Jhs _ rfl q ps H I (ap.refl H) (λJ ⟨Ok,wk,ok,yl⟩=>Jim wk (λi t a=>a=H∧∃z,t=[Ja p,Ja q,z]) (λi t a h=>ok _ (h.1 ▸ ap.refl _)) (Jbz rfl _))
 ·rintro i t H8 x a hi ⟨rfl,z,rfl⟩ hy;let⟨rfl,k,ek,rfl⟩:=yl i _ x a (ap.refl _) hy;have sk:=D k (mO ek);have hb:¬Vq (zaO j.length k):=by unfold zaO;rw[dFq sk.1,dFq (show ¬(j.length:Int)<k by lia),dFq (show ¬k < -(j.length:Int) by lia)];decide
  refine⟨_,rfl,p,W,_,rfl,M,QK _ _ _,_,rfl,p,B,Y,d,T',j,Rs,k,rfl,S,gJ (by lia) (by lia),?_⟩;rw[if_neg hb];exact Jbz rfl _
 rintro t a ⟨rfl,z,rfl⟩;have G:=I;refine Jov _ q _ G _ _ _ rfl (VY (λc=>?_))
 ·lia
 refine⟨_,rfl,p,C,W,_,_,rfl,M,T.cl,T.nR,gD _ _ _,d,xs,rfl,Vd O,_,_,rfl,rfl,_,rfl,bo (λX=>?_) (λX=>?_)⟩
 ·have c3:=oDq X;exact Jmd (by decide +kernel) (.inr (Jb0 200 (by decide +kernel) _ rfl (by decide +kernel) _ rfl (by decide +kernel) (by decide +kernel) (by decide) (hE (by lia) a (ap.refl a))))
 refine⟨_,rfl,p,C,W,_,_,rfl,M,T.cl,T.nR,gD _ _ _,Jez O,_,rfl,q,ps,rfl,I,by lia,λy l u N=>?_⟩;have n:=u _ _ O;have hd:Jbk K y _ l:=JdI N _;have kt:bj y (Va y d (xs++Vz l)):=bj.lst n;have S3:bu K C _ p B Y d T' j (Rs++[JbJ ps]):=(S.same u).setR (by rw[mAq];exact((hs.keep (.of_same u) (cq fq Rs)).keep kt (cq fq Rs)).append (ar.one (hd.keep kt (fq _))))
 let⟨⟨U,L⟩,_⟩:=id S3;refine JcX d xs _ rfl n (cR (by lia)) ?_;refine⟨_,rfl,p,C,U,_,_,rfl,L,T.cl,T.nR,gD _ _ _,d,_,rfl,Vd ao,_,_,rfl,rfl,?_⟩;have en:(((xs++[V.ref l]).length:Nat):Int)-1=(Rs.length:Nat):=by rw[lAq,r];simp
 rw[en];exact h (by lia) _ S3 λb o e n2=>by rw[aq n2];exact u b o e
end
end K98
namespace Le98
open PySem L2
abbrev s_levels:Stmt:=K98.s_levels
abbrev s_part_levels:Stmt:=K98.s_part_levels
abbrev s_is_replaced:Stmt:=K98.s_is_replaced
abbrev s_learnt:Stmt:=K98.s_learnt
structure Txt (K)(mg:Jdr Str):Prop where
 len:QG "len"
 dict:QG "dict"
 range:QG "range"
 tuple:QG "tuple"
 list:QG "list"
 any:QG "any"
 zip:QG "zip"
 reversed:QG "reversed"
 max:QG "max"
 isinstance:QG "isinstance"
 int:QG "int"
 bool:QG "bool"
 abs:QG "abs"
 ib:Jop K "int" "bool"
inductive rM (K):Sp|m{vs H Q E9} (a) (xs) (ts):vs=Vz a→Jcr a→JdK dP xs→JdR 100→(∀H' l,Jga H l (JQ l ((fJ ts ts.length).map V.int)) l)→rM K vs H Q E9
def lx:Vj ["trail","found","level","step"] ["trail"] s_levels:=fsc
def ok_levels (F:V4 "levels" "levels" s_levels):Jhb ["trail"] (rM K):=by
 refine F.ok lx (λvs H Q E h=>?_) (λcdv A outer s H vs Q E G h=>?_)
 ·let⟨a,xs,ts,rfl,_⟩:=h;rfl
 let⟨a,xs,ts,rfl,v,y,I,q⟩:=h;have d:Ja0 ts.length:=by rw[←y.length,lM]
 refine JN (JmP (i:=1) lx.nd (bM ac) (JH (i:=2) lx.nd af (Jj6 (pv 0) (i:=3) lx.nd (ae (be (Jk1 3 (JcB af)) (aj (ps_aug (i:=2) lx.nd rfl (Or.inl rfl) af ip_add))
     aU) (Jmk 1 (Vh 2)))) (JjJ 1)))
 rfl'
 refine⟨Nat.zero_le _,λl e=>JdD _ a ⟨xs,(Jdg e).seq v⟩ (yI (xs:=xs) (λi j H'=>Ex3 λ c st ys=>An5 (j=[Ja a,Ja l,Je c,st]) (c=XJ i) (Xg H) (JkP l) (ys=(fJ ts i).map V.int))
  (JcX 0 none [] rfl (Jdg e) ao rfl) ?_ ?_ ?_)⟩
 ·rintro i j H' _ ⟨c,st,ys,_,_,s,_⟩;exact s.seq v
 ·rintro i x j H' u ⟨c,st,ys,rfl,rfl,s,b,rfl⟩;let⟨t,p,C,rfl,D⟩:=ip y u;have J:JhX i:=(gEq u).1;have n:=s.tup D;have k:=kJ C;have B:=Au ts i;have r:((fJ ts i).map V.int).length<sizeLine:=by rw[lM,vM];exact cR (by lia)
  refine⟨_,rfl,p,_,_,_,rfl,rfl,n,rfl,_,rfl,rfl,_,rfl,bo (λc=>?_) (λc=>?_)⟩
  ·have o:t.2=-1:=by have:=oDq c;injection this
   have g:zaS t=1:=by unfold zaS;rw[if_pos o]
   refine⟨_,rfl,_,_,rfl,rfl,_,rfl,Jez b,_,rfl,l,_,_,rfl,rfl,b,r,_,_,_,rfl,?_,s.upd e,ao,?_⟩
   ·rw[k,g]
   ·rw[B,k,g,mAq];rfl
  ·have o:¬t.2=-1:=λz=>Jiz (by rw[z]);have g:zaS t=0:=by unfold zaS;rw[if_neg o]
   refine⟨_,rfl,Jez b,_,rfl,l,_,_,rfl,rfl,b,r,_,_,_,rfl,?_,s.upd e,ao,?_⟩
   ·rw[k,g,Int.add_zero]
   ·rw[B,k,g,Int.add_zero,mAq];rfl
 ·rintro j H' ⟨c,st,ys,rfl,rfl,s,b,rfl⟩;refine QI (q H' l s e ?_);rw[b,d]
inductive rN (K):Sp|m{vs H Q E9} (a) (xs) (ts):vs=Vz a→Jcr a→JdK dP xs→JdR 100→(negs ts).Nodup→(∀H' d,Jga H d (Jn5 H' d) d)→rN K vs H Q E9
def nU:Vj ["trail","found","step","level"] ["trail"] s_part_levels:=fsc
def ok_part_levels {P:Program}{w:World}{K:W.Frag}{mg:Str→Option Value}{base:Heap}{f fL:Addr}{fd dL:FuncData}(F:V4 "part_levels" "part_levels" s_part_levels)(T:Txt K mg)(g:Jiu "levels" fL dL ["trail"] (rM K)):JeF 2 ["trail"] (rN K):=by
 refine F.ok nU (λvs H Q E h=>?_) (λcdv A outer s H vs Q E hr h=>?_)
 ·let⟨a,xs,ts,rfl,_⟩:=h;rfl
 let⟨a,xs,ts,rfl,L,Z,hn,nd,q⟩:=h;have hu:=c_ hr;have n:Ja0 ts.length:=by rw[←Z.length,lM]
 refine JN (JH (i:=1) nU.nd fj (Jcb (vJ rfl T.zip (JX 0 (Jgl g.ok hr g.m g.kp g.b 0))) (JkX rfl (i:=2) nU.nd (i:=3) nU.nd gf) (aj (g_ hu (pv 1) (JcB (JC 2)) (pv 3) rfl))) (JjJ 1))
 rfl'
 refine λd Y=>?_;have I:Jna (Xo H d []):=Jdg Y;have C:=ao (H:=H) (a:=d) (o:=.dK []);generalize Xo H d []=H0 at I C;refine Jb0 _ _ rfl a xs ts rfl (I.seq L) (ar.keep I.kt (dr _) Z) hn (λH1 l s1 hl B=>?_);have v:=I.trans s1;have X:=s1 _ _ C;have el:((fJ ts ts.length).map V.int).length=xs.length:=by rw[lM,vM,n]
 refine⟨a,l,rfl,V8 (v.seq L),QE _ B,Jim (vI el.symm) (λi D H'=>Ex3 λ O N kvs=>An6 (D=[Ja a,Ja d,O,N]) (Xg H) (JQ l ((fJ ts ts.length).map V.int)) (Xy d (.dK kvs)) (JbA i) (∀p:Int,JfU p=if Jn6 p (ts.take i) then Je (QJ p) else none)) (λi D H' h=>by let⟨_,_,_,_,r,u,_⟩:=h;exact QE (r.seq L) u) ⟨none,none,[],rfl,v,B,X,nRq _,λp=>by simp [br,negs]⟩⟩
 ·rintro i D H' x H'' hi ⟨O,N,kvs,rfl,r,u,j,lk,J⟩ ⟨p,y,z,rfl,hp,rfl,hy,hz⟩;let⟨t,tp,ht,rfl,U⟩:=ip Z (hy _ (r.seq L));have S:=hz _ (SqL.of u);let⟨c,hc,rfl⟩:=cA S;rw[Av ts (by lia)]at hc;cases hc;have G:JdH H' H' p (JfK tp (XJ (i+1))):=Jdg hp;refine⟨p,_,rfl,SqT.of ao,rfl,_,_,rfl,_,_,rfl,rfl,?_⟩;have R:l≠d:=λe=>by rw[e,j]at u;cases u
  refine⟨_,rfl,_,rfl,_,rfl,tp,_,_,_,rfl,rfl,(r.trans G).tup U,rfl,_,rfl,d,_,rfl,eA.k (k:=Sum.inl (-t.1)) (G _ _ j) (cR (by lia)),?_⟩;refine⟨_,_,_,rfl,(r.trans G).upd Y,?_,ao,?_,λq=>?_⟩
  ·rw[aq R];exact G _ _ u
  ·have:=jR kvs (Sum.inl (-t.1)) (.int (XJ (i+1)));lia
  ·rw[jM,J];have em:negs (ts.take (i+1))=negs (ts.take i)++[-t.1]:=by unfold negs;rw[bE ht,mAq];rfl
   rw[em];by_cases e:q=-t.1
   ·subst e;rw[if_pos rfl,if_pos (Jj (by simp)),fk nd ht]
   ·rw[if_neg (λz=>e (by cases z;rfl))];by_cases M:q∈negs (ts.take i)
    ·rw[if_pos M,if_pos (Xr M)]
    ·rw[if_neg M,if_neg (λz=>by
      rcases mPq z with z | z
      ·exact M z
      ·exact e (mS z))]
 ·rintro D H' ⟨O,N,kvs,rfl,r,u,j,lk,J⟩;rw[n,Jc_ _]at J;exact QI (q H' d r Y ⟨kvs,j,J⟩)
def lvK (ts:V3 Int):Key→Int
 | .inl m=>QJ m
 | .inr _=>0
inductive lB (K:W.Frag):Sp|m{vs H Q E9} (p y last) (kd ld) (ks) (n) (ts):vs=[.int p,.int y,.ref kd,.ref ld,.int last]→Kst H kd ks n→Jn5 H ld→kd≠ld→n≤100000→(∀m∈ks,Jn6 m ts)→(∀H',JiF (Jx (cv ts ks last p y) H'))→lB K vs H Q E9
def BQ:Vj (JoM "why") (JoM "why") s_is_replaced:=fsc
def any_ks {ts:List (Jc7 Int)}{ks:List Int}{kvs:List (Key × V)}{p a:Int}(k:∀m:Int,(JfU m).isSome=decide (m∈ks))(r:∀c∈kvs,∃m:Int,Jgb c.1 m) :
  (((kvs.filter λc=>decide (Joc c.1 p)).map λc=>decide (lvK ts c.1=a)).any id)=ks.any λo=>decide (o≠p)&&decide (QJ o=a):=by
 rw[Bool.eq_iff_iff,List.any_eq_true,List.any_eq_true];constructor
 ·rintro ⟨b,n,s⟩;let⟨c,i,e⟩:=List.mem_map.mp n;let⟨f,q⟩:=List.mem_filter.mp i;let⟨m,g⟩:=r c f;have h:m∈ks:=by
   have:(JfU m).isSome=true:=by rw[←jh];exact JbB c f (dTq g)
   rw[k]at this;exact oDq this
  refine Qj m h;have j:=oDq q;rw[g]at j e;have l:m≠p:=λz=>j (by rw[z]);have t:decide (QJ m=a)=true:=by
   have:decide (lvK ts (Sum.inl m)=a)=true:=by rw[e];exact s
   exact this
  rw[dTq l,t];rfl
 ·rintro ⟨m,h,e⟩;rw[Bool.and_eq_true]at e;have:(JfU m).isSome=true:=by rw[k];exact dTq h
  rw[←jh]at this;let⟨c,f,g⟩:=List.any_eq_true.mp this;have d:=oDq g;refine Jbz true (List.mem_map.mpr (Qj c (JG f (dTq λz=>(oDq e.1) ?_))))
  ·rw[d]at z;cases z;rfl
  ·rw[d];exact e.2
def ok_is_replaced {P:Program}{w:World}{K:W.Frag}{mg:Str→Option Value}{base:Heap}{f:Addr}{fd:FuncData}(F:V4 "is_replaced" "is_replaced" s_is_replaced)(T:Txt K mg):Jhb (JoM "why") (lB K):=by
 refine F.ok BQ (λvs H Q E h=>?_) (λcdv A outer s H vs Q E hr h=>?_)
 ·let⟨p,y,a,t,L,ks,n,ts,rfl,_⟩:=h;rfl
 let⟨p,y,a,t,L,ks,n,ts,rfl,hk,hl,ne,n5,sub,q⟩:=h;have Y:=c_ hr;let⟨kvs,k1,k2,k3,k4⟩:=id hk;let⟨O,l1,l2⟩:=id hl;refine JN (ae (be (Jg8 (fg (jP Y (pv 0) (pv 2))) (Jcj bZ 1 (JcB af))) (Qi cN)
   aU) (JcI (be (Jhy bZ (jO Y (pv 3) (pv 0) (λ_ _=>rfl))) (Qi cN)
   aU) (be (aA dQ (jO Y (pv 3) (pv 0) (λ_ _=>rfl)) (pv 4)) (Qi cN)
   aU) (VB (zM rfl) T.any PyProof.Rows.Boot.any (Qc (Ab (Jax (N':=["other","last","level_of","part"]) (ix:=[4,3,0]) rfl rfl rfl (λok=>JjO (sc:=ai s_is_replaced)) rfl rfl (ixC (QZ _ rfl rfl rfl) (ixC (QZ _ rfl rfl rfl) (JdN _))) (Aa (pv 2)) (λ_ _ _ _=>(Jcj dQ 0 (pv 3))) (λ_ _ _ _=>(cZ bZ (jO Y (pv 2) (pv 0) (λ_ _=>rfl)) (pv 1)))))))))
 rfl'
 refine⟨_,rfl,_,rfl,t,_,rfl,cn.k (k:=Sum.inl p) k1,_,rfl,?_⟩;rw[k2];have l:=q H (ap.refl _);unfold cv at l;by_cases e:p∈ks
 ·rw[dTq e]at l ⊢;refine bq (JnD _ _ rfl _ rfl (bo (λc=>?_) (λc=>?_)))
  ·have Z:y=-1:=by have:=oDq c;injection this
   rw[dFq (λz=>z Z)]at l;exact l
  ·have Z:y≠-1:=λz=>Jiz (by rw[z]);rw[dTq Z]at l;have hp:Xu O p=some (.int (QJ p)):=by rw[l2,if_pos (sub p e)]
   have g:=cn.k (k:=Sum.inl p) l1;rw[hp]at g;refine Jo0 _ rfl L _ g rfl _ (bo (λc0=>?_) (λc0=>?_))
   ·have e0:QJ p=0:=by have:=oDq c0;injection this
    rw[dTq e0]at l;exact l
   ·have e0:QJ p≠0:=λz=>c0 (dTq (by rw[z]));rw[dFq e0]at l;refine Jie _ _ rfl L _ g _ rfl rfl _ rfl (bo (λX=>?_) (λX=>?_))
    ·have e1:QJ p≠a:=λz=>by rw[z]at X;rw[dTq (rfl:JmG a a)]at X;cases X
     rw[dFq e1]at l;exact l
    ·have e1:QJ p=a:=by
      by_cases z:QJ p=a
      ·exact z
      ·refine absurd ?_ X;rw[dFq (λr=>z (by injection r))];rfl
     rw[dTq e1]at l;refine⟨_,rfl,t,kvs,rfl,k1,λo D S=>gZ zY (λi ys H'=>Xy t _∧(∀b u,b≠t→Jiv b u b u)∧ys=(((kvs.take i).filter λC=>decide (Joc C.1 p)).map λC=>decide (lvK ts C.1=a)).map V.bl) (λi ys H' ⟨G,_⟩=>G) ?_ ?_ ?_⟩
     ·have N:t≠D:=λz=>by rw[←z,ao]at S;cases S
      refine Jbz ?_ (λb u M B=>?_)
      ·rw[aq N];exact ao
      ·have I:b≠D:=λz=>by rw[z]at B;rw[aq (λr=>M (z.trans r)),B]at S;cases S
       rw[aq I,aq M];exact B
     ·rintro i ys H' x H'' hi R d ⟨G,U,rfl⟩ ⟨rfl,k,v,J,rfl⟩;let⟨m,em⟩:=k4 _ (mO J);have em':=em;subst em';have hm:m∈ks:=by
       have:(JfU m).isSome=true:=by rw[←jh];exact JbB _ (mO J) (dTq rfl)
       rw[k2]at this;exact oDq this
      have et:((kvs.take (i+1)).filter λC=>decide (Joc C.1 p))=if m≠p then((kvs.take i).filter λC=>decide (Joc C.1 p))++[(Sum.inl m,v)] else(kvs.take i).filter λC=>decide (Joc C.1 p):=by
       rw[bE J,List.filter_append];by_cases z:m=p
       ·rw[if_neg (λh=>h z),List.filter_cons,if_neg (by simp [z]),List.filter_nil,List.append_nil]
       ·rw[if_pos z,List.filter_cons,if_pos (by refine dTq λr=>z ?_;cases r;rfl),List.filter_nil]
      refine JnD _ _ rfl _ rfl ?_;by_cases z:m=p
      ·subst z;rw[show QM (!decide _) by have z:kV (Sum.inl m)=V.int m:=rfl;rw[z,dTq rfl];rfl]
       refine bq (gY hi R d (Qj G U));rw[et,if_neg (λh=>h rfl)]
      ·rw[show Vq (!decide _) by have z2:¬(JmF (kV (Sum.inl m)) p):=λr=>z (by injection (show JmG m p from r));rw[dFq z2];rfl]
       have hl2:=U L _ (Ne.symm ne) l1;have g2:=cn.k (k:=Sum.inl m) hl2;rw[l2,if_pos (sub m hm)]at g2;refine b_ (Jo0 _ rfl L _ g2 _ rfl (cJ (Nat.le_trans k3 (by rw[sizeLine_eq];lia)) hi R d (Qj ?_ (λb u M B=>?_))))
       ·have N:t≠D:=λz=>by rw[z,d]at G;cases G
        rw[aq N];exact G
       ·have I:b≠D:=λz=>by rw[z]at B;have:=S;rw[aq (λr=>M (z.trans r)),B]at this;cases this
        rw[aq I];exact U b u M B
       ·rw[et,if_pos z,mAq,mAq];have e5:decide (JmG (QJ m) a)=decide (QJ m=a):=decide_eq_decide.mpr ⟨λz=>by injection z,λz=>by rw[z]⟩;rw[e5];rfl
     ·rintro ys H' d ⟨G,U,rfl⟩;rw[Jc_ _]at d;refine⟨t,o,kvs,G,λo' u' z=>?_,?_⟩
      ·have r:=z;rw[k1]at r;cases r
      ·have N:D≠t:=λz=>by rw[z,G]at d;cases d
       have s1:Jna (Xo H' t kvs):=λb u B=>by
        by_cases z:b=t
        ·subst z;rw[ao,←k1];exact B
        ·rw[aq z];exact U b u z B
       refine VO D _ (SqL.of (by rw[aq N];exact d)) ?_;have q1:=q _ s1;unfold cv at q1;rw[dTq e,dTq Z,dFq e0,dTq e1,←any_ks (kvs:=kvs) k2 k4]at q1;exact q1
 ·rw[dFq e]at l ⊢;exact b_ (b_ l)
inductive sp_learnt (K):Sp|m{vs H Q E9} (rl tl) (f) (xs zs) (Rs) (ts):vs=Jdl rl tl f→Jcr rl→JkQ zcM→Jz H tl zs→JdK dP zs→Jla f→JdR 100→(∀r∈Rs,Je4 100)→(∀H' t tp th m,Jcg H t (JmR t (Jdl tp th m) tp ((JcH f).map V.int) (JmQ th ((cB Rs ts f).reverse.map V.int) (Jc0 (jq (((JcH f).drop 1).map (lvF ts)) m) t))))→sp_learnt K vs H Q E9
def iQ:Vj ["rows","trail","fails","level_of","last","kept","hints","step","parts","level"] ["rows","trail","fails"] s_learnt:=fsc
abbrev NLn:List Str:=["rows","trail","fails","level_of","last","kept","hints","step","parts","level"]
section
variable {P:Program} {w:World} {K:W.Frag} {mg:Str→Option Value} {base:Heap} {f fP fR:Addr} {dP' dR':FuncData}
def BR (T:Txt K mg)
  {cdv:Value}{A:Around}{outer:List Env}{s:Shared}{H0:Hp}{E:XK}(hr:Jb_ 2 (JgR "learnt" s_learnt f)) :
  ∃t,PSs (Jka CX0 P w K mg NLn "learnt" s_learnt f A s H0 E).nox ((zas s_learnt).drop 5) t ∧
   ∀D X H Y ld kd S zs Rs ts a n v0 v2 v4 v7,ap X H→Jz H Y zs→JdK dP zs→Jla a→JdR 100→Kst H kd (gp Rs ts a) n→Jn5 H ld→XD S ((cB Rs ts a).map V.int) →
    (∀H' t u b m,JM X (Qu (X t)→JmR t (Jdl u b m) u ((JcH a).map V.int) (JmQ b ((cB Rs ts a).reverse.map V.int) (jq (((JcH a).drop 1).map (lvF ts)) m→D.rt (.ref t) H')))) →
    t D [v0,Ja Y,v2,Ja ld,v4,Ja kd,Ja S,v7,none,none] H:=by
 have hu:=c_ hr;refine JN (JfB (i:=8) iQ.nd (JnK gk (Qc (Jax (N':=["step","kept"]) (ix:=[5]) rfl rfl rfl (λok=>JjO (sc:=ai s_learnt)) rfl rfl (JdN _) (pU rfl T.reversed (Vh 1)) (λ_ _ _ _=>(fg (jm hu (JcB (Jod (r:=gj K) aQ 0 af)) (pv 1)))) (λ_ _ _ _=>(JcB (Jod (r:=gj K) aQ 0 af)))))) (i:=9) iQ.nd (Am rfl rfl T.max (Qc (Vw (N':=["part","level_of"]) (ix:=[3]) rfl rfl rfl (λok=>JjO (sc:=ai s_learnt)) rfl rfl (JdN _) (ej (Jly Aq 8 (eT af) eS)) (λ_ _ _ _=>(jO hu (pv 1) (pv 0) (λ_ _=>rfl))))) (uC af uB)) (Qi (bQ (Qa 8 (Jhh (Ao rfl rfl T.tuple rfl T.reversed (Vh 6)) 9)))))
 rfl'
 rintro D X H Y ld kd S zs Rs ts a n v0 v2 v4 v7 M hS hL ok l100 hk hv hh q;have zl:Jg4 ts.length:=by rw[←hL.length,lM]
 let⟨kvs,k1,k2,k3,k4⟩:=id hk;let⟨lvs,l1,l2⟩:=id hv;have np:(negs ts).reverse.length=ts.length:=by rw[List.length_reverse,hF]
 refine⟨_,rfl,Y,zs,rfl,hS,λDl U=>gZ pT (λi ys H'=>Xg H∧ys=(((negs ts).reverse.take i).filter λp=>decide (p∈gp Rs ts a)).map V.int) (λi ys H' ⟨l,_⟩=>l.seq hS) (Jdh U) ?_ ?_⟩
 ·rintro i ys H' x H'' hi y o ⟨l,rfl⟩ ⟨rfl,hx⟩;let⟨t,p,C,rfl,L⟩:=ip hL (hx _ (l.seq hS));have e0:zs.length-1-i=VM 1-i:=by rw[zl]
  rw[e0]at C;have hr':(negs ts).reverse[i]?=some (-t.1):=by rw[vQ,List.getElem?_map,iO (by lia),C];rfl
  have et:(((negs ts).reverse.take (i+1)).filter λp=>decide (p∈gp Rs ts a))=if -t.1∈gp Rs ts a then(((negs ts).reverse.take i).filter λp=>decide (p∈gp Rs ts a))++[-t.1] else((negs ts).reverse.take i).filter λp=>decide (p∈gp Rs ts a):=by
   rw[bE hr',List.filter_append];by_cases e:-t.1∈gp Rs ts a
   ·rw[if_pos e,List.filter_cons,JeC e];rfl
   ·rw[if_neg e,List.filter_cons,if_neg (by simp [e]),List.filter_nil,List.append_nil]
  refine⟨_,rfl,p,_,_,_,rfl,rfl,l.tup L,rfl,_,rfl,_,rfl,kd,_,rfl,cn.k (k:=Sum.inl (-t.1)) (l _ _ k1),_,rfl,?_⟩;rw[k2];by_cases e:-t.1∈gp Rs ts a
  ·rw[dTq e];refine b_ (Jf5 _ p _ _ _ rfl rfl (l.tup L) rfl _ rfl (Jep (JdB _) hi y o (l.upd U)));rw[et,if_pos e,mAq];rfl
  ·rw[dFq e];refine bq (gY hi y o (VI l));rw[et,if_neg e]
 rintro ys H1 o ⟨l,rfl⟩;rw[zl,tO (by lia)]at o;refine Jv Dl _ (JeO o (λu Q=>?_));have s2:JdH H1 H1 u ((JcH a).map V.int):=Jdg Q;have N:=l.trans s2;have B:∀p∈(JcH a).drop 1,p∈negs ts:=λp L=>List.mem_reverse.mp (List.mem_filter.mp (List.mem_of_mem_drop L)).1;have O:((JcH a).drop 1).length≤100:=by have h1:(JcH a).length≤(negs ts).reverse.length:=JbY _;rw[List.length_drop];lia
 refine Jos (AA (ps:=JcH a) (SqT.of ao) λH3 tq Z hq=>?_);generalize hpt:(JcH a).drop 1=pt at hq B O q;refine Jbn tq (V8 hq) (λDe W=>Jm3 dU (λi ys H'=>Xg H3∧ys=((pt.take i).map (lvF ts)).map V.int) (λi ys H' ⟨v,_⟩=>v.tup hq) W ?_ ?_)
 ·rintro i ys H' x H'' hi y c ⟨v,rfl⟩ ⟨rfl,hx⟩;let⟨p,L,rfl⟩:=Jkc _ (v.tup hq);have g:=cn.k (k:=Sum.inl p) (((N.trans Z).trans v) _ _ l1);rw[l2,if_pos (B p (mO L))]at g;refine⟨_,rfl,_,rfl,ld,_,rfl,g,Jep (by rw[lM];exact JdB _) hi y c (v.upd W)⟩;rw[bE L,mAq,mAq];rfl
 rintro ys F c ⟨v,rfl⟩;rw[lM,Jc_ _]at c;have d:=(N.trans Z).trans v;refine JcX De (pt.map (lvF ts)) 0 rfl (Vd c) (λe=>?_) (λm hm R=>?_)
 ·refine⟨_,rfl,_,rfl,S,_,rfl,Jno _ _ hh,λb J=>?_⟩;have I:JdH F F b ((cB Rs ts a).map V.int).reverse:=Jdg J;refine Jmd lS3 (λt C=>?_);have G:JdH _ (Jt F b ((cB Rs ts a).map V.int).reverse) t (Jdl u b 0):=Jdg C;refine q _ t u b 0 (M.trans ((d.trans I).trans G)) ((M.trans (d.trans I)).free C) ao ?_ ?_ ⟨λ_=>rfl,λz=>absurd e z⟩
  ·exact G _ _ (I _ _ (v _ _ (Z _ _ ao)))
  ·rw[List.map_reverse];exact G _ _ ao
 ·refine⟨_,rfl,_,rfl,S,_,rfl,Jno _ _ hh,λb J=>?_⟩;have I:JdH F F b ((cB Rs ts a).map V.int).reverse:=Jdg J;refine Jmd lS3 (λt C=>?_);have G:JdH _ (Jt F b ((cB Rs ts a).map V.int).reverse) t (Jdl u b m):=Jdg C;refine q _ t u b m (M.trans ((d.trans I).trans G)) ((M.trans (d.trans I)).free C) ao ?_ ?_ ⟨λz=>(by rw[z]at hm;cases hm),λ_=>⟨hm,R⟩⟩
  ·exact G _ _ (I _ _ (v _ _ (Z _ _ ao)))
  ·rw[List.map_reverse];exact G _ _ ao
end
section
variable {P:Program} {w:World} {K:W.Frag} {mg:Str→Option Value} {base:Heap} {f fP fR:Addr} {dP' dR':FuncData}
def rO (h0:0≤h)(a:h<(Rs.length:Int)):Rs[h.toNat]?=some (JbZ h):=by unfold aY;rw[List.getD_eq_getElem?_getD,gG (by lia)];rfl
def atI_row (a:JkQ zcM)(h0:0≤h)(b:h<(Rs.length:Int)):∃q,atI xs h=Ja q∧SqT K H q ((JbZ h).map V.int):=by
 let⟨q,d,c⟩:=vy a (rO h0 b);have e:h=(h.toNat:Int):=by lia
 refine⟨q,?_,c⟩;rw[e];exact ay d
structure LnW (K:W.Frag)(Hb H)(rl tl ld kd hl:Addr)(xs zs:List V)(Rs)(ts)(fl)(i):Prop where
 sb:ap Hb H
 k:Kst H kd (VU fl i).1 (100+100 * i)
 v:Jn5 H ld
 h:XD hl ((VU fl i).2.map V.int)
 nk:Qu (Hb kd)
 nv:Qu (Hb ld)
 nh:Qu (Hb hl)
 kv:kd≠ld
def LnW.same (W:LnW K Hb H rl tl ld kd hl xs zs Rs ts fl i)(s:Xg H):LnW K Hb H' rl tl ld kd hl xs zs Rs ts fl i :=
 ⟨W.sb.trans s,W.k.same s,W.v.same s,s _ _ W.h,W.nk,W.nv,W.nh,W.kv⟩
def BU (T:Txt K mg)(a:Jiu "is_replaced" fR dR' (JoM "why") (lB K))
  {cdv:Value}{A:Around}{outer:List Env}{s:Shared}{H0:Hp}{E:XK}(hr:Jb_ 2 (JgR "learnt" s_learnt f)) :
  ∃t,PSs (Jka CX0 P w K mg NLn "learnt" s_learnt f A s H0 E).nox ((zas s_learnt).drop 4) t ∧
   ∀D y H X Q I c L xs zs Rs ts d,Jby y X→XH y (Rs.map zcM) xs→Jz y Q zs→XH y (ts.map dP) zs→Jla d→JdR 100→(∀r∈Rs,Je4 100)→LnW K y H X Q I c L xs zs Rs ts d 0 →
    (∀H' t tp th m,JM y (Qu (y t)→JmR t (Jdl tp th m) tp ((JcH d).map V.int) (JmQ th ((cB Rs ts d).reverse.map V.int) (jq (((JcH d).drop 1).map (lvF ts)) m→D.rt (.ref t) H')))) →
    t D [Ja X,Ja Q,Je d,Ja I,Je (cnt ts),Ja c,Ja L,none,none,none] H:=by
 have hr1:a_ 1 _:=hr.mono (by decide);let⟨t5,h5,q5⟩:=BR (base:=base) (outer:=outer) T hr;refine JN (ae (Jcb (pU rfl T.reversed (Vh 1)) (ah (i:=7) iQ.nd rfl (Or.inr rfl)) (aj (be (cD (JfA a.ok hr1 a.m a.kp a.b (JdX (JcB (JC 7)) (JC 7) (Qa 5 (V6 3 4))))) (Xc (bD (vw (pv 5) (JcB (JC 7)) (Jj5 rfl))) (bD (cz PySem.F.plainAttrs_dict PySem.F.slot_dict_update PySem.F.type_dict_update Ac (pv 5) (Qc (Jja (pK rfl) rfl T.dict (Qc (Jax (N':=["part","step"]) (ix:=[7]) rfl rfl rfl (λok=>JjO (sc:=ai s_learnt)) rfl rfl (JdN _) (ej (Jg cu 0 (JC 7))) (λ_ _ _ _=>(Jcj dQ 0 (Jod (r:=gj K) aQ 1 af))) (λ_ _ _ _=>(Jib 0 cN)))))))) (Jmk 6 (JiE 7)))
     aU))) h5)
 rfl'
 rintro D y H X Q I c L xs zs Rs ts d hS hL hZ hT ok l100 r100 W0 q;have zl:Jg4 ts.length:=by rw[←hT.length,lM]
 refine⟨_,rfl,Q,zs,rfl,W0.sb.seq hZ,Jim pT (λi σ H'=>∃v7,σ=[Ja X,Ja Q,Je d,Ja I,Je (cnt ts),Ja c,Ja L,v7,none,none]∧LnW K y H' X Q I c L xs zs Rs ts d i) (λi σ H' h=>by let⟨_,_,W⟩:=h;exact W.sb.seq hZ) (Qd none W0)⟩
 ·rintro i σ H' x H'' hi ⟨v7,rfl,W⟩ ⟨rfl,hx⟩;have hi':Jbo i:=by lia
  let⟨t,p,ht,rfl,hp⟩:=ip hT (hx _ (W.sb.seq hZ));rw[zl]at ht;have hr':ts.reverse[i]?=some t:=by rw[iO hi'];exact ht
  have es:=jo (Rs:=Rs) (f:=d) hr';have hp1:=W.sb.tup hp;have tm:t∈ts:=mO ht;refine⟨_,rfl,p,_,_,_,rfl,rfl,hp1,rfl,_,rfl,_,rfl,p,_,_,_,rfl,rfl,hp1,rfl,_,rfl,_,rfl,_,rfl,-t.1,t.2,cnt ts,c,I,_,_,ts,rfl,W.k,W.v,W.kv,by lia,kK ok i,λH3 s3=>QI ?_⟩;have O:=W.same s3;have hp3:=s3.tup hp1;cases eb:JcU ts (VU d i).1 ts (-t.1) t.2 with
  | false =>
   have e2:VU d (i+1)=lrn Rs ts d i:=by rw[es];unfold eJ;rw[eb];rfl
   let⟨kvs,k1,k2,k3,k4⟩:=O.k;exact bq (QI ⟨O.sb,Ji9 kvs k1 (by rw[e2];exact k2) k4,O.v,by rw[e2];exact O.h,W.nk,W.nv,W.nh,W.kv⟩)
  | true =>
   have e2:VU d (i+1)=(((VU d i).1.filter λm=>decide (m≠-t.1))++(JbZ t.2).filter (λm=>decide (m≠t.1)),(VU d i).2++[t.2]):=by rw[es];unfold eJ;rw[eb];rfl
   have N:=eb;unfold cv at N;rw[Bool.and_eq_true,Bool.and_eq_true]at N;have pin:-t.1∈(VU d i).1:=oDq N.1;have yn:t.2≠-1:=oDq N.2.1;let⟨y0,y1,_⟩:=ok.why t tm yn;let⟨kvs,k1,k2,k3,k4⟩:=O.k;obtain⟨v,hv⟩:∃v,JfU (-t.1)=some v:=by have:=k2 (-t.1);rw[dTq pin]at this;exact Option.isSome_iff_exists.mp this
   refine b_ ⟨_,rfl,c,rfl,Jjv kvs k1,_,rfl,p,_,_,_,rfl,rfl,hp3,rfl,_,rfl,kvs,Sum.inl (-t.1),v,k1,rfl,hv,?_⟩;have hK4:Kst (JjL H3 c kvs (-t.1)) c _ _:=Kst.pop (p:=-t.1) k2 k3 k4;have R:cH c H3 (JjL H3 c kvs (-t.1)):=cH.put _ _;have kt34:=R.kt k1;have B:ap y (JjL H3 c kvs (-t.1)):=O.sb.upd W.nk;have v4:Jn5 (JjL H3 c kvs (-t.1)) I:=by let⟨l,l1,l2⟩:=O.v;exact⟨l,R _ _ (Ne.symm W.kv) l1,l2⟩
   have Y:L≠c:=λe=>by rw[←e,O.h]at k1;cases k1
   have h4:(JjL H3 c kvs (-t.1)) L=_:=R _ _ Y O.h;have J:=kt34.sq hp3;generalize JjL H3 c kvs (-t.1)=H4 at hK4 B v4 h4 J;let⟨o,j1,j2,j3,j4⟩:=hK4;let⟨q',hq1,hq2⟩:=atI_row (ar.keep B.kt (dX _) hL) y0 y1;have U:(JbZ t.2).length≤100:=r100 _ (mO (rO y0 y1));refine⟨_,rfl,Jnb (Qr rfl (Qr o j1)),_,rfl,_,rfl,p,_,_,_,rfl,rfl,J,rfl,X,_,_,_,rfl,rfl,B.seq hS,hq1,q',rfl,V8 hq2,λDl hDl=>gZ dU (λj ys H'=>JmO H4 (XH H' ((((JbZ t.2).take j).filter λm=>decide (m≠t.1)).map dQT) ys)) (λj ys H' ⟨C,_⟩=>C.tup hq2) ⟨Jdg hDl,.nil⟩ ?_ ?_⟩
   ·rintro j ys H5 x H6 hj hly M ⟨C,hy⟩ ⟨rfl,hx'⟩;let⟨m,hm,rfl⟩:=cA (hx' _ (C.tup hq2));have et:(((JbZ t.2).take (j+1)).filter λm=>decide (m≠t.1))=if m≠t.1 then(((JbZ t.2).take j).filter λm=>decide (m≠t.1))++[m] else((JbZ t.2).take j).filter λm=>decide (m≠t.1):=by
     rw[bE hm,List.filter_append];by_cases z:m=t.1
     ·rw[if_neg (λh=>h z),List.filter_cons,if_neg (by simp [z]),List.filter_nil,List.append_nil]
     ·rw[if_pos z,List.filter_cons,JeC z,List.filter_nil]
    refine⟨_,rfl,_,rfl,p,_,_,_,rfl,rfl,C.tup J,rfl,rfl,_,rfl,?_⟩;by_cases z:m=t.1
    ·rw[show QM (!decide (JmG m t.1)) by rw[dTq (by rw[z])];rfl];refine bq (gY hj hly M (VI C));rw[et,if_neg (λh=>h z)];exact hy
    ·rw[show Vq (!decide (JmG m t.1)) by rw[dFq (λz'=>z (by injection z'))];rfl];refine b_ (Jmd lS2 (λu hu'=>?_));have S:JdH H6 H6 u (JgJ m):=Jdg hu';have hD6:=S _ _ M;refine JoU (by rw[lM];exact JdB _) hj hD6 ((C.trans S).upd hDl);rw[et,if_pos z,mAq];exact Joi (S.kt.trans (bj.lst hD6)) (pS _) hy (vF ((bj.lst hD6).sq (SqT.of ao)))
   rintro ys H5 M ⟨C,hy⟩;rw[lM,Jc_ _]at hy;let⟨pl,pp⟩:=vG hy;generalize hpt:((JbZ t.2).filter λm=>decide (m≠t.1))=g at pl pp hy e2;have lpt:g.length≤100:=by rw[←hpt];exact JlO _ U
   refine JcX Dl ys (tkv g) (SqL.of M) pl pp (λb hb=>?_);have S:ap H5 (JgH H5 b g):=Jdg hb;have Z:=C _ _ j1;have nkb:c≠b:=bV Z hb;have lm:(Jd4 g).length≤g.length:=(jS g).2;refine Jhr c b o (Jd4 g) rfl nkb (S _ _ Z) ao (by rw[sizeLine_eq];lia) ?_;have G:=C.trans S;have x7:cH c (JgH H5 b g) (Xo (JgH H5 b g) c (bJ o (Jd4 g))):=cH.put _ _;have hp7:=(x7.kt (S _ _ Z)).sq (G.tup J);have h7:=x7 _ _ Y (G _ _ h4);have v7':Jn5 (Xo (JgH H5 b g) c (bJ o (Jd4 g))) I:=by let⟨l,l1,l2⟩:=v4;exact⟨l,x7 _ _ (Ne.symm W.kv) (G _ _ l1),l2⟩
   have hl2:=Az Rs ts d i;refine⟨_,rfl,Jez h7,_,rfl,p,_,_,_,rfl,rfl,hp7,rfl,L,_,_,rfl,rfl,h7,cR (by rw[lM];lia),?_⟩;refine QI ⟨((B.trans G).upd W.nk).upd W.nh,⟨bJ o (Jd4 g),?_,λm=>?_,?_,vO (vP g) j4⟩,?_,?_,W.nk,W.nv,W.nh,W.kv⟩
   ·rw[Jix Y];exact ao
   ·rw[Aw,j2,e2];show(decide (m∈_)||decide (m∈g))=decide (m∈_++g);by_cases z1:m∈(VU d i).1.filter λm=>decide (m≠-t.1)
    ·rw[dTq z1,dTq (Xr z1)];rfl
    ·rw[dFq z1,Bool.false_or];exact decide_eq_decide.mpr ⟨λz=>Jj z,λz=>(mPq z).resolve_left z1⟩
   ·have:=Ax (Jd4 g) o;lia
   ·let⟨l,l1,l2⟩:=v7';refine⟨l,?_,l2⟩;rw[aq (Lev.ne ⟨l,l1,l2⟩ h7).symm];exact l1
   ·rw[e2];rw[mAq];exact ao
 ·rintro σ H' ⟨v7,rfl,W⟩;rw[zl]at W;exact q5 D y H' Q I c L zs Rs ts d _ _ _ _ v7 W.sb (W.sb.seq hZ) (ar.keep W.sb.kt (dr _) hT) ok l100 W.k W.v W.h q
def BX (T:Txt K mg)(a:Jiu "is_replaced" fR dR' (JoM "why") (lB K))
  {cdv:Value}{A:Around}{outer:List Env}{s:Shared}{H0:Hp}{E:XK}(hr:Jb_ 2 (JgR "learnt" s_learnt f)) :
  ∃t,PSs (Jka CX0 P w K mg NLn "learnt" s_learnt f A s H0 E).nox ((zas s_learnt).drop 2) t ∧
   ∀D c H B N z xs zs Rs ts b,Jby c B→XH c (Rs.map zcM) xs→Jz c N zs→XH c (ts.map dP) zs→Jla b→JdR 100→(∀r∈Rs,Je4 100)→ap c H→Qu (c z)→Jn5 H z →
    (∀H' t tp th m,JM c (Qu (c t)→JmR t (Jdl tp th m) tp ((JcH b).map V.int) (JmQ th ((cB Rs ts b).reverse.map V.int) (jq (((JcH b).drop 1).map (lvF ts)) m→D.rt (.ref t) H')))) →
    t D [Ja B,Ja N,Je b,Ja z,Je (cnt ts),none,none,none,none,none] H:=by
 let⟨t4,h4,q4⟩:=BU (outer:=outer) T a hr;refine JN (Xc (Jgq (i:=5) iQ.nd rfl rfl (Jja (pK rfl) rfl T.dict (Qc (Vw (N':=["part"]) (ix:=[]) rfl rfl rfl (λ_=>JmW []) rfl rfl (λj i h=>by simp at h) (ej (Jg cu 0 (pv 2))) (λ_ _ _ _=>(Jib 0 cN)))))) (Qn (i:=6) iQ.nd (bM (Vh 2))) h4)
 rfl'
 rintro D c H B N z xs zs Rs ts b hS hL hZ hT C F k O U hv q;let⟨q',Z,o⟩:=atI_row (ar.keep O.kt (dX _) hL) C.f0 C.f1;have S:(JbZ b).length≤100:=k _ (mO (rO C.f0 C.f1));refine⟨_,rfl,_,rfl,B,_,_,_,rfl,rfl,O.seq hS,Z,q',rfl,V8 o,λDl J=>fh dU (λj ys H'=>JmO H (XH H' (((JbZ b).take j).map dQT) ys)) (λj ys H' ⟨d,_⟩=>d.tup o) ⟨Jdg J,.nil⟩ ?_ ?_⟩
 ·rintro j ys M x L hj hly p ⟨d,Q⟩ ⟨rfl,X⟩;let⟨m,hm,rfl⟩:=cA (X _ (d.tup o));refine Jmd lS2 (λu Y=>?_);have y:JdH L L u (JgJ m):=Jdg Y;have v:=y _ _ p;refine JoU (by rw[lM];exact JdB _) hj v ((d.trans y).upd J);rw[bE hm,mAq];exact Joi (y.kt.trans (bj.lst v)) (pS _) Q (vF ((bj.lst v).sq (SqT.of ao)))
 rintro ys M p ⟨d,Q⟩;rw[lM,Jc_ _]at Q;let⟨pl,pp⟩:=vG Q;refine JcX Dl ys (tkv _) (SqL.of p) pl pp (λn g=>?_);have y:ap M (JgH M n (JbZ b)):=Jdg g;have hk:Kst (JgH M n (JbZ b)) n _ (JbZ b).length:=Kst.of;have G:=(hv.same d).same y;have l:=(O.trans d).trans y;have W:=(O.trans d).free g;have kv:n≠z:=λe=>by let⟨lvs,l1,_⟩:=hv.same d;rw[e,l1]at g;cases g
 generalize Jk8 M n=L at hk G l;refine Jmd lS1 (λhl I=>?_);have R:JeN L L hl (Ji6 b):=Jdg I;let⟨kvs,k1,k2,k3,k4⟩:=hk.same R;exact q4 D c _ B N z n hl xs zs Rs ts b hS hL hZ hT C F k ⟨l.trans R,Ji9 kvs k1 k2 k4,G.same R,ao,W,U,l.free I,kv⟩ q
def ok_learnt (F:V4 "learnt" "learnt" s_learnt)(T:Txt K mg)(a:JgD 2 "part_levels" fP dP' ["trail"] (rN K))(d:Jiu "is_replaced" fR dR' (JoM "why") (lB K)):JeF 3 ["rows","trail","fails"] (sp_learnt K):=by
 refine F.ok iQ (λvs H Q E h=>?_) (λcdv A outer s H vs Q E M h=>?_)
 ·let⟨S,o,Y,xs,zs,Rs,ts,rfl⟩:=h;rfl
 let⟨S,o,Y,xs,zs,Rs,ts,rfl,hS,hL,B,C,G,n,r,q⟩:=h;have hu:=c_ M;let⟨t2,h2,q2⟩:=BX (outer:=outer) T d M;have l:Jg4 ts.length:=by rw[←C.length,lM]
 refine JN (Xc (Jgq (i:=3) iQ.nd rfl rfl (Jgl a.ok M a.m a.kp a.b 1)) (Qn (i:=4) iQ.nd (iZ (JlV eu 1) (jO hu (pv 3) (JcB (aI aQ (Jg cu 1 (JcB af)) af)) (λ_ _=>rfl)) af)) h2)
 rfl'
 refine Jhr _ rfl o zs ts B C n G.nd (λH1 X y I v=>?_);have x:=λD'=>q2 D' H H1 S o X xs zs Rs ts Y hS hL B C G n r y I v;refine Jov _ o zs (.inl (y.seq B)) _ _ _ rfl (bo (λc=>?_) (λc=>?_))
 ·have Z:=oDq c;have W:ts≠[]:=λz=>by rw[z]at l;simp at l;rw[l]at Z;simp at Z
  obtain⟨j,t,rfl⟩:∃j t,ts=j++[t]:=⟨ts.dropLast,ts.getLast W,(List.dropLast_concat_getLast W).symm⟩;have O:=ar.keep y.kt (dr _) C;have L:(j++[t])[j.length]?=some t:=by rw[List.getElem?_append_right (nRq _),Nat.sub_self];rfl
  rw[lAq]at l;simp only[lS]at l;obtain⟨D,z,R⟩:∃D z,zs=D++[z]:=by
   have U:zs≠[]:=λe=>by rw[e]at l;simp at l
   exact⟨zs.dropLast,zs.getLast U,(List.dropLast_concat_getLast U).symm⟩
  have lz:D.length=j.length:=by rw[R,lAq]at l;simp only[lS]at l;lia
  have hz:zs[j.length]?=some z:=by rw[R,←lz,List.getElem?_append_right (nRq _),Nat.sub_self];rfl
  let⟨t',p,u,rfl,hp⟩:=ip O hz;rw[L]at u;cases u;have N:atI zs (-1)=some (.ref p):=by rw[R];exact mh _ _
  let⟨lvs,l1,l2⟩:=id v;have g:=cn.k (k:=Sum.inl (-t.1)) l1;have J:=mO (jT L);have lv:lvF (j++[t]) (-t.1)=cnt (j++[t]):=by rw[fk G.nd L,tO (by rw[lAq];exact nRq _)]
  rw[l2,if_pos J,lv]at g;exact⟨_,rfl,_,rfl,_,rfl,o,_,_,_,rfl,rfl,y.seq B,N,p,_,_,_,rfl,rfl,hp,rfl,_,rfl,X,_,rfl,g,x _ q⟩
 ·have e0:ts=[]:=by exact List.length_eq_zero_iff.mp (by lia)
  subst e0;exact x _ q
end
end Le98
namespace K98
open PySem L2
structure TxH (K)(C):Prop where
 cl:Cls K C
 n_problem:cF K C "problem"
 n_most:cF K C "most"
 n_known:cF K C "known"
 n_paper:cF K C "paper"
 n_trail:cF K C "trail"
 n_held:cF K C "held"
 n_looked:cF K C "looked"
 n_begins:cF K C "begins"
 n_watched:cF K C "watched"
 n_watching:cF K C "watching"
 n_order:cF K C "order"
 n_lately:cF K C "lately"
section
variable {A:HA} {pr:Addr} {most:Int} {lk:Nat}
def BY:(JjN A).lookup ("problem":Str)=some (.ref pr):=rfl
def BZ:(JjN A).lookup ("most":Str)=some (.int most):=rfl
def iS:(JjN A).lookup ("known":Str)=some (.ref A.kn):=rfl
def rP:(JjN A).lookup ("paper":Str)=some (.ref A.pp):=rfl
def hU:(JjN A).lookup ("trail":Str)=some (.ref A.tr):=rfl
def hV:(JjN A).lookup ("held":Str)=some (.ref A.hd):=rfl
def rQ:(JjN A).lookup ("looked":Str)=some (.int lk):=rfl
def rR:(JjN A).lookup ("begins":Str)=some (.ref A.bg):=rfl
def rS:(JjN A).lookup ("watched":Str)=some (.ref A.wd):=rfl
def lC:(JjN A).lookup ("watching":Str)=some (.ref A.wg):=rfl
def rT:(JjN A).lookup ("order":Str)=some (.ref A.od):=rfl
def xn:(JjN A).lookup ("lately":Str)=some (.ref A.lt):=rfl
end
abbrev xo:Stmt:=wM
abbrev xp:Stmt:=wN
abbrev xq:Stmt:=wQ
def cM (p:Int):Prop:=-100≤p∧JkA p
inductive jv (K)(C):Sp|m{vs H Q E9} (A) (F O) (pr) (most) (S) (R) (p y):vs=[.ref A.h,.int p,.int y]→JgF F O H A S R→JmY (cM p) S.ts.length ((∀H' O' R',V_ F O' H' A (S.hold p y) (S.hold p y).hs R'→ee R R'→Jen H')→jv K C vs H Q E9)
def B0:Vj (JbM "why") (JbM "why") xo:=fsc
section
variable {P:Program} {w:World} {K:W.Frag} {mg:Str→Option Value} {base:Heap} {C f:Addr} {fd:FuncData}
def B1 (S:HS)(p y):(S.hold p y).hs=S.hs++[p]:=by show(S.ts++[(p,y)]).map Prod.fst=_;rw[mAq];rfl
def Hu.zlen (U:Jdv F):JhL R.zs.length:=by rw[←U.u.tr.length,lM]
def B2 (F:V4 "hold" "Hunt.hold" xo)(T:JkF C):Jhb (JbM "why") (jv K C):=by
 refine F.ok B0 (λvs H Q E h=>?_) (λcdv A outer s H vs Q E j h=>?_)
 ·let⟨A,v,O,g,most,S,R,p,y,rfl⟩:=h;rfl
 let⟨A,v,O,g,most,S,R,p,y,rfl,U,n,x,q⟩:=h;have i:=c_ j;refine JN (Jjt (Jlf cQ (Js 0) (Qc (bQ (V6 1 2)))) (g_ i (Js 0) (pv 1) cN rfl))
 rfl'
 have c:=Jd6 3;refine⟨_,rfl,A.h,C,A.dx,_,_,rfl,U.ins,T.cl,T.n_trail,hU,Jez c,_,rfl,_,rfl,lS2,λl b=>?_⟩;have d:=Jlx b (Jc9 p y);have a:=Jl3 3 rfl;let⟨B,z,r,o⟩:=U.hold n b;have e:=d.setTr (ts:=S.ts++[(p,y)]) (by rw[mAq];exact JaO d.u.tr (of_dP (SqT.of ao)))
 refine JcX A.tr _ _ rfl a (hln (by rw[Hu.zlen U];lia)) ?_;refine⟨_,rfl,A.h,C,A.dx,_,_,rfl,e.ins,T.cl,T.n_held,hV,_,rfl,A.hd,_,rfl,JkG (k:=Sum.inl p) (e.at' 4 rfl rfl) U.u.hd.len,?_⟩;exact q _ _ _ (by rw[B1];exact r) o
inductive nV (K)(C):Sp|m{vs H Q E9} (A) (F O) (pr) (most) (S) (R) (r a b):vs=[.ref A.h,.int r,.int a,.int b]→JgF F O H A S R→cM r→cM a→cM b→(S.wg a).length≤199000→(S.wg b).length≤199000→(∀H' O' R',JgF F O' H' A (S.watch r a b) R'→R'.xs=R.xs→Jen H')→nV K C vs H Q E9
def B3:Vj ["self","number","one","other"] ["self","number","one","other"] xp:=fsc
def B4 (F:V4 "watch" "Hunt.watch" xp)(T:JkF C):Jhb ["self","number","one","other"] (nV K C):=by
 refine F.ok B3 (λvs H Q E h=>?_) (λcdv A outer s H vs Q E W h=>?_)
 ·let⟨A,o,O,J,most,S,R,r,a,b,rfl⟩:=h;rfl
 let⟨A,o,O,J,most,S,R,r,a,b,rfl,U,g,Z,Y,la,lb,q⟩:=h;have N:=c_ W;refine JN (Xc (g_ N (Js 0) (pv 1) (bQ (V6 2 3)) rfl) (Jlf cQ (qi (Js 0) (JX 2 (bM ac))) (Vh 1)) (Je9 cQ (qi (Js 0) (JX 3 (bM ac))) (Vh 1)))
 rfl'
 refine JdD _ _ lS2 (λl p=>?_);have I:JdH o o l (Jc9 a b):=Jdg (U.t.none p).2;have n:=Jlx p (Jc9 a b);have j:=(n.setWd g (SqT.of ao)).base I;refine⟨_,rfl,A.h,C,A.dx,_,_,rfl,n.ins,T.cl,T.n_watched,rS,_,rfl,A.wd,_,rfl,JkG (k:=Sum.inl r) (n.at' 6 rfl rfl) U.u.wd.len,?_⟩;refine⟨_,rfl,A.h,C,A.dx,_,_,rfl,j.ins,T.cl,T.n_watching,lC,Jv A.wg _ (j.at' 7 rfl rfl),_,rfl,lS0,λe X=>?_⟩;refine j.setd (r:=r) Z X λM H1 z h_=>?_;let⟨O3,R3,d,_,G⟩:=h_;refine⟨Jez z,_,rfl,M,_,_,rfl,rfl,z,hln (by rw[lM];show(S.wg a).length≤_;lia),?_⟩;rw[mAq]at d;refine⟨_,rfl,A.h,C,A.dx,_,_,rfl,d.ins,T.cl,T.n_watching,lC,Jv A.wg _ (Jl3 7 rfl),_,rfl,lS0,λe2 i=>?_⟩;refine d.setd (r:=r) Y i λL H2 v h_=>?_;let⟨O4,R4,B,_,D⟩:=h_;refine⟨Jez v,_,rfl,L,_,_,rfl,rfl,v,hln ?_,?_⟩
 ·rw[lM];show(if b=a then JmH b [r] else S.wg b).length≤_
  split
  ·rw[lAq];show _+1≤_;lia
  ·lia
 ·rw[mAq]at B;exact q _ _ _ B (D.trans G)
end
def B5 (h:Qu (fm (row.take i) o hs))(b:row[i]?=some k)(f:k≠o)(d:-k∉hs):fm row o hs=some k:=by
 have c:=(gEq b).1;have e:row=row.take i++k :: row.drop (i+1):=by have:=JdW row;rw[List.drop_eq_getElem_cons c]at this;have a:=gG c;rw[b]at a;injection a with a;rw[←a]at this;exact this.symm
 unfold fm at h ⊢;rw[e,List.find?_append,h,List.find?_cons_of_pos]
 ·rfl
 ·simp [f,d]
def xr {a hs:List Int}{o k:Int}{i:Nat}(h:Qu (fm (a.take i) o hs))(c:a[i]?=some k)(b:k=o∨-k∈hs):Qu (fm (a.take (i+1)) o hs):=by
 rw[bE c];unfold fm at h ⊢;rw[List.find?_append,h,List.find?_cons_of_neg]
 ·rfl
 ·rcases b with z | z <;> simp [z]
def FinQ (K:W.Frag)(C:Addr)(F:Hp)(A:HA)(c:Addr)(most:Int)(S:HS)(R:HC)(r o:Int)(Q:VK):Option Int→Prop
 | some q=>∀H' b a,Jh K C F b H' A c ((S.setW r o q).addG q r) S.hs a→ee R a→Jev H'
 | none=>∀H' b a,Jh K C F b H' A c S S.hs a→ee R a→JkO H'
inductive rV (K)(C):Sp|m{vs H Q E9} (A) (F O) (pr) (most) (S) (R) (r o):vs=[.ref A.h,.int r,.int o]→JgF F O H A S R→cM r→0≤r→r<(S.rs.length:Int)→(∀p∈JfN r,cM p)→(∀c,(S.wg c).length≤199000)→FinQ K C F A pr most S R r o Q (fm (JfN r) o S.hs)→rV K C vs H Q E9
def xt:Vj ["self","number","other","part"] (Jb3 "number") xq:=fsc
section
variable {P:Program} {w:World} {K:W.Frag} {mg:Str→Option Value} {base:Heap} {C f:Addr} {fd:FuncData}
def B6 (F:V4 "finds" "Hunt.finds" xq)(T:JkF C):Jhb (Jb3 "number") (rV K C):=by
 refine F.ok xt (λvs H Q E h=>?_) (λcdv A outer s H vs Q E hr h=>?_)
 ·let⟨A,J,O,pr,most,S,R,r,o,rfl⟩:=h;rfl
 let⟨A,J,O,pr,most,S,R,r,o,rfl,U,kr,r0,r1,W,hw,q⟩:=h;have L:=c_ hr;refine JN (Jdd (Jcc (ej (aI cu (Js 0) (pv 1))) (i:=3) xt.nd (aj (be (Jis (Jcj dQ 3 (pv 2)) (fg (jP L (Jgj 3) (Js 0)))) (JcI (g_ L (Js 0) (pv 1) (bQ (V6 2 3)) rfl) (Jlf cQ (qi (Js 0) (JX 3 (bM ac))) (Vh 1)) cN)
     aU))) cN)
 rfl'
 let⟨a,e1,n⟩:=Le98.atI_row U.u.kn r0 r1;generalize M:JfN r=v at n W q;refine⟨_,rfl,A.h,C,A.dx,_,_,rfl,U.ins,T.cl,T.n_known,iS,_,rfl,A.kn,_,_,_,rfl,rfl,JlQ 1,e1,a,rfl,V8 n,Jim dU (λi j H'=>∃p:Option V,j=[some _,some _,some _,p]∧H'=H∧Qu (fm (v.take i) o S.hs)) (λi j H' ⟨_,_,e,_⟩=>e ▸ n) (Jj5 none)⟩
 ·rintro i j H1 x H2 hi ⟨p,rfl,rfl,g⟩ ⟨rfl,hx⟩;let⟨k,b,rfl⟩:=Jkc _ n;have kk:=W k (mO b);have Y:=iP S.hs (-k);refine JnD _ _ rfl _ rfl (bo (λc=>?_) (λc=>?_))
  ·have D:k≠o:=λz=>by rw[z]at c;simp at c
   refine⟨_,rfl,_,rfl,_,rfl,A.h,C,A.dx,_,_,rfl,U.ins,T.cl,T.n_held,hV,A.hd,_,rfl,U.held _,_,rfl,bo (λd=>?_) (λd=>?_)⟩
   ·rw[Y]at d;have B:-k∉S.hs:=λz=>by rw[dTq z]at d;cases d
    have ef:=B5 g b D B;rw[ef]at q;refine JdD _ _ lS2 (λl N=>?_);have sF:JdH J J l (Jc9 o k):=Jdg (U.t.none N).2;have I:=Jlx N (Jc9 o k);have G:=(I.setWd kr (SqT.of ao)).base sF;refine⟨_,rfl,A.h,C,A.dx,_,_,rfl,I.ins,T.cl,T.n_watched,rS,_,rfl,A.wd,_,rfl,JkG (k:=Sum.inl r) (I.at' 6 rfl rfl) U.u.wd.len,?_⟩;refine⟨_,rfl,A.h,C,A.dx,_,_,rfl,G.ins,T.cl,T.n_watching,lC,Jv A.wg _ (G.at' 7 rfl rfl),_,rfl,lS0,λe he=>?_⟩;refine G.setd (r:=r) kk he λl1 H3 X h_=>?_;let⟨O3,R3,Z,g3⟩:=h_;refine⟨Jez X,_,rfl,l1,_,_,rfl,rfl,X,hln (by rw[lM];have:=hw k;show(S.wg k).length≤_;lia),?_⟩;rw[mAq]at Z;exact q _ _ _ Z g3
   ·rw[Y]at d;have B:=Decidable.byContradiction λz=>by rw[dFq z]at d;exact d rfl
    exact Jv _ rfl (xr g b (.inr B))
  ·have D:k=o:=Decidable.byContradiction λz=>c (by simp [z]);exact Jv _ rfl (xr g b (.inl D))
 ·rintro j H' ⟨p,rfl,rfl,g⟩;rw[lM,List.take_length]at g;rw[g]at q;exact q _ _ _ U (Vf (λ_ _ z=>z))
end
abbrev xu:Stmt:=wR
def ee.trans {e R2 d:HC}(a:ee e R2)(b:ee R2 d):ee e d:=⟨λc v h=>b.1 c v (a.1 c v h),b.2.trans a.2⟩
def lZ (H)(a)(o u):JoC (Jnz o)=upd H a u:=by funext b;unfold upd;split <;> rfl
noncomputable def oI:JmI Int V
 | none=>.non
 | some f=>.int f
def WOk.glen (W:WOk S g k)(x):(g x).length≤S.rs.length:=gq _ (W.nd x) λr c=>by let⟨a,b,h,_⟩:=(W.gw r x).mp c;exact(W.is r a b h).2.2.2
def LkI.glen (a:WOk S0 S0.wg k)(I:LkI n k c S0 (S0.wg c) i st)(x):(st.1.wg x).length≤S0.rs.length:=by
 by_cases e:x=c
 ·rw[e,I.wc];exact WOk.glen a c
 ·have:=WOk.glen I.w x;rw[if_neg e,I.rs]at this;exact this
structure SpL (n)(B)(S)(c):Prop where
 m:cV n B S
 n40:n≤40
 rl:Jns 199000
 t0:∃t0,S.ts[S.lk]?=some t0∧c=-t0.1
inductive rW (K)(C):Sp|m{vs H Q E9} (A) (F O) (pr) (most) (S) (R) (c) (n) (B):vs=JfK A.h c→JgF F O H A S R→SpL n B S c→(∀H' O' R',V_ F O' H' A (eC S c).1 (eC S c).1.hs R'→Q (oI (eC S c).2) H')→rW K C vs H Q E9
def jw:Jma ["self","part","fails","stay","number","pair","other"] "part" xu:=fsc
section
variable {P:Program} {w:World} {K:W.Frag} {mg:Str→Option Value} {base:Heap} {C f fF fH:Addr} {fd dF dH:FuncData}
def Hu.pair (U:Jdv F){r a b:Int}(h:Jeh r (a,b)):∃q,cn H A.wd (.int r) (Ja q)∧SqT K H q (Jc9 a b):=by
 have d:=cn.k (k:=Sum.inl r) (Jd6 6);rw[U.u.wd.val]at d;have w:=U.u.wr r;rw[h]at w;generalize e:R.gw r=g at w d;cases w with
 | is c=>exact JnP d c
def B7 (F:V4 "look_at" "Hunt.look_at" xu)(T:JkF C)(mF:Jnm "finds" fF)(BF:QR 1 fF dF (Jb3 "number") (rV K C))(bF:Jw dF (Jb3 "number"))
  (mH:Jnn fH)(BH:QR 1 fH dH (JbM "why") (jv K C))(bH:JoS dH):JeF 2 (VL "part") (rW K C):=by
 refine F.ok jw (λvs H Q E h=>?_) (λcdv A outer s H vs Q E hr h=>?_)
 ·let⟨A,F',O,Z,most,S,R,c,n,B,rfl,_⟩:=h;rfl
 let⟨A,F',O,Z,most,S,R,c,n,B,rfl,U,L,q⟩:=h;have hu:=c_ hr;refine JN (JfB (i:=2) jw.nd eP (i:=3) jw.nd (bM ac) (JcI (Jj6 (my hu (Js 0) (pv 1) (bM ac) (Jj5 rfl)) (i:=4) jw.nd (JfB (i:=5) jw.nd (jO hu (Js 0) (pv 4) (λ_ _=>rfl)) (i:=6) jw.nd (iZ (Jk1 5 (pv 1)) (JC 5) (JC 5)) (aj (be (fg (jm hu (pv 6) (Js 0))) (Jmk 3 (Vh 4)) (aj (be (Jcw (Jbw 0 mF BF hr bF aJ (V6 4 6))) (Jjt (Jlf cQ (pv 3) (Vh 4)) (be (fg (jm hu (Jgj 6) (Js 0))) (Jnu (i:=2) jw.nd (pv 4)) (Jc5 0 mH BH hr bH aJ (V6 6 4))))
       aU)))))) (g_ hu (Js 0) (pv 1) (pv 3) rfl) (pv 2)))
 rfl'
 let⟨t0,ht0,ec⟩:=L.t0;have hc:-c∈S.hs:=by rw[ec,Int.neg_neg];exact d_ ht0
 have I:=LkI.all L.m (by have:=L.n40;lia) hc;have hrng:∀r,0≤r→r<(S.rs.length:Int)→∀p∈JfN r,cM p:=λr h0 h1 p hp=>by have:=((L.m.b.row _ (kT h0 h1)).2 p hp).2;have:=L.n40;unfold cM;lia
 have hkc:cM c:=by have:=L.m.b.rng t0 (mO ht0);have:=L.n40;unfold cM;lia
 refine Jf6 (λl hl=>?_);have fl0:=(U.t.none hl).2;have U1:=U.newF hl (.lst []);have s1:JeN F' F' l []:=Jdg fl0;have hl1:=ao (H:=F') (a:=l) (o:=.lst []);generalize Jou []=H1 at U1;generalize Va F' l []=F1 at U1 s1 hl1;refine⟨_,rfl,A.h,C,A.dx,_,_,rfl,U1.ins,T.cl,T.n_watching,lC,A.wg,rfl,Jjv _ (U1.at' 7 rfl rfl),_,rfl,lS0,λe he=>?_⟩;have U2:=U1.newF he (.lst []);have fe1:=(U1.t.none he).2;have s2:JeN F1 F1 e []:=Jdg fe1;have he2:=ao (H:=F1) (a:=e) (o:=.lst []);have hl2:=s2 _ _ hl1;have nle:e≠l:=λz=>by rw[z,hl1]at fe1;cases fe1
 have s02:=s1.trans s2;generalize Va H1 e []=H2 at U2;generalize Va F1 e []=J at U2 s2 he2 hl2 s02;have dg:=cn.k (k:=Sum.inl c) (U2.at' 7 rfl rfl);rw[U2.u.wg.val]at dg;obtain⟨a,ea,ha⟩:∃a,(R.gg c).getD (.ref e)=.ref a∧(R.gg c=Ja a∨(a=e∧S.wg c=[])):=by
  cases h:R.gg c with
  | none=>exact Qd e (JaF rfl (U.gg0 h))
  | some v =>
   let⟨l1,rfl,_⟩:=U.gg1 h;exact Qd l1 (.inl rfl)
 have lst:∀ {i:Nat} {Fi Oi Hi:Hp} {st:LkS} {M:HC},Jh K C Fi Oi Hi A Z st.1 st.1.hs M→ee R M→st.1.wg c=S.wg c→(∀b,b≠l→Fi b=J b)→Hi a=some (.lst ((S.wg c).map V.int)):=λ{i Fi Oi Hi st M} d X wc fi=>by
  rcases ha with ha | ⟨ha,hw⟩
  ·let⟨l1,e1,h1⟩:=d.gg1 (X.1 _ _ ha);injection e1 with e1;rw[e1,h1,wc]
  ·rw[hw,ha];exact d.t.f _ _ (by rw[fi _ nle];exact he2)
 have fiN:∀(o:HO) b,b≠l→upd J l o b=J b:=λo b nb=>aq nb;refine JN dg;rw[ea];refine JoQ a _ (lst (i:=0) (st:=(S,[],none)) U2 (Vf (λ_ _ z=>z)) rfl λ_ _=>rfl) (Jim (cU (xs:=(S.wg c).map V.int)) (λi σ H'=>Ex5 λ(v4 v5 v6:Option V) (Oi:Hp) (M:HC)=>An4 (σ=[Ja A.h,Je c,some (oI (cW S c i).2.2),Ja l,v4,v5,v6]) (i≤(S.wg c).length) (Jh K C (Va J l ((cW S c i).2.1.map V.int)) Oi H' A Z (cW S c i).1 (cW S c i).1.hs M) (ee R M)) (λi σ H' h=>by let⟨_,_,_,_,_,_,hi,d,X⟩:=h;exact SqL.of (lst (i:=i) d X (I i hi).wc (fiN _))) (Jhs none none none O R (Nat.zero_le _) ?_ (Vf (λ_ _ z=>z))))
 ·have e0:Va J l ((cW S c 0).2.1.map V.int)=J:=by
   funext b;unfold upd;split
   ·rename_i z;rw[z];exact hl2.symm
   ·rfl
  rw[e0];exact U2
 ·rintro i σ H' x H'' hi ⟨v4,v5,v6,Oi,M,rfl,hi',d,X⟩ ⟨rfl,hx⟩;have Ii:=I i hi';let⟨r,hr1,rfl⟩:=cA (Joj (lst (i:=i) d X Ii.wc (fiN _)));have hi1:i+1≤(S.wg c).length:=(gEq hr1).1;have sE:=wj hr1;generalize hst:cW S c i=st at d Ii sE;let⟨g,Y,fl⟩:=st;dsimp only at d;have hrc:r∈(λx=>if x=c then Y++(S.wg c).drop i else g.wg x) c:=by
   show r∈if c=c then Y++(S.wg c).drop i else g.wg c
   rw[if_pos rfl];exact List.mem_append_right _ (by have:=List.getElem?_drop (xs:=S.wg c) (i:=i) (j:=0);rw[Nat.add_zero,hr1]at this;exact mO this)
  let⟨ow,oc,N,crow,r0,r1⟩:=wm Ii.w hrc;have Irs:g.rs=S.rs:=Ii.rs;dsimp only at ow oc N crow r1;rw[Irs]at N crow r1;have hko:cM (Jfr g):=hrng r r0 r1 _ N;have hkr:cM r:=by have:=L.rl;unfold cM;lia
  have syl:Y.length≤199000:=by have:=WOk.glen Ii.w c;rw[if_pos rfl,Ii.rs,lAq]at this;have this:Y.length+_≤_:=this;have:=L.rl;lia
  obtain⟨a',b',wab,oab⟩:∃a b,Xa (g.wt r) (a,b)∧Jfr g=if a=c then b else a:=by
   rcases ow with z | z
   ·exact⟨_,_,z,(if_pos rfl).symm⟩
   ·exact⟨_,_,z,(if_neg oc).symm⟩
  let⟨pq,dq,hq⟩:=Hu.pair d wab;have at0:atI [V.int a',V.int b'] 0=some (.int a'):=VW (j:=0);have at1:atI [V.int a',V.int b'] 1=some (.int b'):=VW (j:=1);have stay:∀ {Fx Ox Hx:Hp} {Sx:HS} {hx:List Int} {Rx:HC},Jh K C (Va J l (Y.map V.int)) Ox Hx A Z Sx hx Rx→Qb (Hx l) (Y.map V.int)∧Hu K C (Va J l ((Y++[r]).map V.int)) Ox (Va Hx l (Y.map V.int++Ji6 r)) A Z most Sx hx Rx:=λ{Fx Ox Hx Sx hx Rx} Ux=>by have h1:=Ux.frmL (u:=.lst (Y.map V.int++Ji6 r)) ao;rw[lZ]at h1;refine VI (Ux.t.f _ _ ao);rw[mAq];exact h1
  refine⟨_,rfl,A.h,C,A.dx,_,_,rfl,d.ins,T.cl,T.n_watched,rS,_,rfl,A.wd,_,rfl,dq,?_⟩;refine⟨_,rfl,pq,_,_,_,rfl,rfl,hq,at0,_,rfl,rfl,_,rfl,?_⟩;have o1:a'=c→b'=zat g c r:=λz=>by rw[oab,if_pos z]
  have o2:a'≠c→a'=zat g c r:=λz=>by rw[oab,if_neg z]
  refine(λk=>bo (λG=>⟨_,rfl,pq,_,_,_,rfl,rfl,hq,at1,by rw[o1 (by have:=oDq G;injection this)];exact k⟩) (λG=>⟨_,rfl,pq,_,_,_,rfl,rfl,hq,at0,by rw[o2 (λz=>G (dTq (by rw[z])))];exact k⟩)) ?_;have y:=sE;unfold L2.stepK at y;dsimp only at y;generalize Jfr g=o at *;have fin:∀(st:LkS),cW S c (i+1)=st→∀(v4 v5 v6:Option V) Ox Rx Hx,Jh K C (Va J l (st.2.1.map V.int)) Ox Hx A Z st.1 st.1.hs Rx→ee R Rx →
    Ex5 λ(w4 w5 w6:Option V) (Oi:Hp) (M:HC)=>An4 ([Ja A.h,Je c,some (oI st.2.2),Ja l,v4,v5,v6]=[Ja A.h,Je c,some (oI (cW S c (i+1)).2.2),Ja l,w4,w5,w6])
     (i+1≤(S.wg c).length) (Jh K C (Va J l ((cW S c (i+1)).2.1.map V.int)) Oi Hx A Z (cW S c (i+1)).1 (cW S c (i+1)).1.hs M) (ee R M):=λst e v4 v5 v6 Ox Rx Hx h1 h2=>by subst e;exact Jhs v4 v5 v6 Ox Rx hi1 h1 h2
  have g1:=iP g.hs o;have g2:=iP g.hs (-o);refine⟨_,rfl,_,rfl,A.h,C,A.dx,_,_,rfl,d.ins,T.cl,T.n_held,hV,A.hd,_,rfl,d.held o,_,rfl,bo (λG=>?_) (λG=>?_)⟩
  ·rw[g1]at G;have G:=oDq G;rw[if_pos G]at y;let⟨W,U3⟩:=stay (Fx:=J) d;refine Jov _ (Jez W) _ l _ _ W (hln (by rw[lM];lia)) ?_;exact fin _ y _ _ _ _ _ _ U3 X
  ·rw[g1]at G;have G:o∉g.hs:=λz=>G (dTq z);rw[if_neg G]at y;refine⟨_,rfl,A.h,A.dx,_,rfl,d.ins,rfl,_,rfl,_,rfl,A,_,Oi,Z,most,g,M,r,o,rfl,d,hkr,r0,(by rw[Irs];exact r1),(by rw[Irs];exact hrng r r0 r1),(λx=>Nat.le_trans (LkI.glen L.m.w Ii x) L.rl),?_⟩;cases hf:fm (aY g.rs r) o g.hs with
   | some qq =>
    rw[hf]at y;intro H3 O3 R3 U3 g3;refine QI (VY (λD=>Jak D));exact fin _ y _ _ _ _ _ _ U3 (ee.trans X g3)
   | none =>
    rw[hf]at y;dsimp only at y;intro H3 O3 R3 U3 g3;refine QI (J9 (λD=>absurd (show Vq (!false) from rfl) D));let⟨W,U4⟩:=stay (Fx:=J) U3;refine Jov _ (Jez W) _ l _ _ W (hln (by rw[lM];lia)) ?_;refine⟨_,rfl,_,rfl,_,rfl,A.h,C,A.dx,_,_,rfl,U4.ins,T.cl,T.n_held,hV,A.hd,_,rfl,U4.held (-o),_,rfl,bo (λD=>?_) (λD=>?_)⟩
    ·rw[g2]at D;have D:=oDq D;rw[if_pos D]at y;refine QI ?_;exact fin _ y _ _ _ _ _ _ U4 (ee.trans X g3)
    ·rw[g2]at D;have D:-o∉g.hs:=λz=>D (dTq z);rw[if_neg D]at y;refine⟨_,rfl,A.h,A.dx,_,rfl,U4.ins,rfl,_,rfl,_,rfl,A,_,O3,Z,most,g,R3,o,r,rfl,U4,hko,?_,λH5 O5 R5 U5 g5=>?_⟩
     ·have:=Ii.tok.len;show Q3 g.ts.length;have this:g.ts.length≤61:=this;lia
     ·exact fin _ y _ _ _ _ _ _ U5 (ee.trans (ee.trans X g3) g5)
 ·rintro σ H' ⟨v4,v5,v6,Oi,M,rfl,hi',d,X⟩;rw[lM]at d hi';have sF:JeN F' J l ((cW S c (S.wg c).length).2.1.map V.int):=λb o h=>by rw[aq (λz=>by rw[z,fl0]at h;cases h)];exact s02 b o h
  let⟨O3,R3,U3,_,_⟩:=d.give hkc ao fl0 sF;refine⟨_,rfl,_,rfl,A.h,C,A.dx,_,_,rfl,d.ins,T.cl,T.n_watching,lC,_,rfl,A.wg,_,rfl,JkG (k:=Sum.inl c) (Jl3 7 rfl) d.u.wg.len,?_⟩;refine QI ?_;rw[lM];exact q _ _ _ U3
end
abbrev rX:Stmt:=wV
def rY:JnA (λ_ _ _=>False):=λ_ _ _ _ _ _ h=>h.elim
def B8:PT X e (λ_ _ _=>False):=λ_ _ _ _ _ _ h=>h.elim
structure TxB (K)(mg:Jdr Str)(CL):Prop where
 len:QG "len"
 reversed:QG "reversed"
 abs:QG "abs"
 enumerate:QG "enumerate"
 sorted:QG "sorted"
 tuple:QG "tuple"
 list:QG "list"
 range:QG "range"
 blong:mg "TooLong"=Ja CL
 xlong:Jei K CL bmV "ValueError.__new__"
def jx (ts:V3 Int)(ps:List Int):List Int:=(negs ts).reverse.filter λp=>decide (p∈ps)
structure SpP (K)(H)(S:HS)(ln tp)(l)(ps:List Int):Prop where
 has:Jbk K H l ln
 nl:JiU l
 sq:∃x0 x2,Jfo ln (Jdj x0 tp x2)
 tp:Jom tp
 pl:S.pp.length≤199000
 rl:Jns 198000
 tl:Jnr 100
 tr:∀t∈S.ts,-60≤t.1∧t.1≤60
 nd:(negs S.ts).Nodup
 gl:∀c,(S.wg c).length≤198000
inductive rZ (K)(C CL):Sp|m{vs H Q E} (A) (F O) (pr) (most) (S) (R) (ln tp) (l) (ps):vs=Jaz A.h ln→JgF F O H A S R→SpP K H S ln tp l ps→(most≤(S.pp.length:Int)→Jfn CL H)→((S.pp.length:Int)<most→∀H' O' R',JgF F O' H' A (Jlb ps (jx S.ts ps)) R'→Q7 (S.rs.length:Int) H')→rZ K C CL vs H Q E
def xv:Jma (JbL "line" "latest") "line" rX:=fsc
section
variable {P:Program} {w:World} {K:W.Frag} {mg:Str→Option Value} {base:Heap} {C CL f fW:Addr} {fd dW:FuncData}
theorem iM (k):∀ps:List Int,Jne (.int k) V.int=decide (k∈ps)
 | []=>by simp [inV]
 | p :: ps=>by
  have a:=iM k ps;unfold inV at a ⊢;rw[List.map_cons,List.any_cons,a];by_cases h:k=p
  ·subst h;simp [eqV]
  ·have:¬p=k:=λz=>h z.symm;simp [eqV,h,this]
theorem xw:∀b bs,zaM (b++bs)=(zaM b&&zaM bs)
 | [],bs=>by simp only[List.nil_append,zaM,Bool.true_and]
 | a :: b,bs=>by simp only[List.cons_append,zaM,xw b bs,Bool.and_assoc]
def ok_put (F:V4 "put" "Hunt.put" rX)(T:JkF C)(W:Jfl K)(mW:Jnm "watch" fW)(BW:QR 1 fW dW ["self","number","one","other"] (nV K C))(bW:Jw dW ["self","number","one","other"]):Jmv P w K w 2 f fd "line" (rZ K C CL):=by
 refine Fun.okX F xv (λvs H Q E h=>?_) (λcdv A outer s H vs Q E hr h=>?_)
 ·let⟨A,F',O,pr,most,S,R,X,M,l,ps,rfl,_⟩:=h;rfl
 let⟨A,F',O,pr,most,S,R,X,M,l,ps,rfl,U,L,qE,qQ⟩:=h;refine JN (ae (be (aA jK (QS bO W.len (Ja1 0)) (Js 0)) (aj (Jiy xe1 rfl rfl W.blong W.xlong (Qc bz)))
   aU) (Xc (Jlf cQ (Js 0) (Vh 1)) (Jlf cQ (Js 0) (JiE 1)) (JcI (zr (i:=2) (N':=["step","line"]) (ix:=[1]) xv.nd rfl (Or.inl rfl) rfl rfl (by decide +kernel) (by decide +kernel) rfl (λok=>JjO (sc:=ai rX)) (by decide +kernel) rfl rfl (JdN _) (pU rfl W.reversed (Ja1 0)) (λ_ _ _ _=>(aA (r:=rIn K false) uQ (JcB (Jod (r:=gj K) aQ 0 af)) (Jod (r:=gj K) aQ 1 af) rfl)) (λ_ _ _ _=>(JcB (Jod (r:=gj K) aQ 0 af)))) (be (Jhy eu (QS bO W.len (Vh 2))) (Jc5 0 mW BW hr bW aJ (Jj2 (V2 gh (QS bO W.len (Ja1 0))) (Jy cu 2) (Jy cu 2)))
   aU) (V2 gh (QS bO W.len (Ja1 0))))))
 rfl'
 have yl:R.ys.length=S.pp.length:=by rw[←U.u.pp.length]
 have xl:R.xs.length=S.rs.length:=by rw[←U.u.kn.length,lM]
 let⟨x0,x2,sq⟩:=L.sq;refine⟨_,rfl,A.h,C,A.dx,_,_,rfl,U.ins,T.cl,T.n_paper,rP,A.pp,_,rfl,Vd (Jd6 2),_,rfl,A.h,C,A.dx,_,_,rfl,U.ins,T.cl,T.n_most,BZ,_,_,rfl,rfl,_,rfl,bo (λc=>?_) (λc=>?_)⟩
 ·have g:most≤((R.ys.length:Nat):Int):=oDq c;rw[yl]at g;exact⟨(by show Vi 1;decide),qE g⟩
 have g:¬most≤((R.ys.length:Nat):Int):=λz=>Jiz z;rw[yl]at g;have qQ:=qQ (by lia);have N:=U.setPp (pp:=S.pp++[l]) (ys:=R.ys++Vz X) (JaO U.u.pp L.has) (by rw[xw,U.u.pn];simp only[zaM,L.nl,Bool.and_self]);refine⟨_,rfl,A.h,C,A.dx,_,_,rfl,U.ins,T.cl,T.n_paper,rP,Jez (Jd6 2),_,rfl,A.pp,_,_,rfl,rfl,Jd6 2,hln (by rw[yl];have:=L.pl;lia),?_⟩;have k1:JoG (Jju A.pp (R.ys++Vz X)):=bj.oth (Jd6 2) cC.1 cC.2;have D:=k1.sq sq;have B:=k1.sq L.tp;generalize Jju A.pp (R.ys++Vz X)=H1 at N D B;clear k1;have at1:atI (Jgr x0 M x2) 1=some (.ref M):=VW (j:=1);refine⟨_,rfl,A.h,C,A.dx,_,_,rfl,N.ins,T.cl,T.n_known,iS,Jez (N.at' 1 rfl rfl),_,rfl,X,_,_,_,rfl,rfl,D,at1,A.kn,_,_,rfl,rfl,N.at' 1 rfl rfl,hln (by rw[xl];have:=L.rl;lia),?_⟩;have Z:=N.setKn (rs:=S.rs++[ps]) (xs:=R.xs++Vz M) (by rw[mAq];exact JaO N.u.kn (pN B));have k2:bj H1 (Va H1 A.kn (R.xs++Vz M)):=bj.oth (N.at' 1 rfl rfl) cC.1 cC.2;have sq2:=k2.sq D;have tp2:=k2.sq B;generalize Va H1 A.kn (R.xs++Vz M)=H2 at Z sq2 tp2;clear k2 D B N;have hS:Jz H2 A.tr R.zs:=SqL.of (Z.at' 3 rfl rfl);have hL:XH H2 (S.ts.map dP) R.zs:=Z.u.tr;have zl:JhL R.zs.length:=Hu.zlen U;have np:(negs S.ts).reverse.length=S.ts.length:=by rw[List.length_reverse,hF]
 have tl:=L.tl;refine⟨_,rfl,A.h,C,A.dx,_,_,rfl,Z.ins,T.cl,T.n_trail,hU,A.tr,R.zs,rfl,hS,λDl I=>gZ pT (λi ys H'=>Xg H2∧ys=(((negs S.ts).reverse.take i).filter λp=>decide (p∈ps)).map V.int) (λi ys H' ⟨q,_⟩=>q.seq hS) (Jdh I) ?_ ?_⟩
 ·rintro i ys H' x H'' hi hly k ⟨q,rfl⟩ ⟨rfl,hx⟩;let⟨t,p,ht,rfl,hp⟩:=ip hL (hx _ (q.seq hS));have e0:R.zs.length-1-i=S.ts.length-1-i:=by rw[zl]
  rw[e0]at ht;have hr':(negs S.ts).reverse[i]?=some (-t.1):=by rw[vQ,List.getElem?_map,iO (by lia),ht];rfl
  have et:(((negs S.ts).reverse.take (i+1)).filter λp=>decide (p∈ps))=if -t.1∈ps then(((negs S.ts).reverse.take i).filter λp=>decide (p∈ps))++[-t.1] else((negs S.ts).reverse.take i).filter λp=>decide (p∈ps):=by
   rw[bE hr',List.filter_append];by_cases e:-t.1∈ps
   ·rw[if_pos e,List.filter_cons,JeC e];rfl
   ·rw[if_neg e,List.filter_cons,if_neg (by simp [e]),List.filter_nil,List.append_nil]
  refine⟨_,rfl,p,_,_,_,rfl,rfl,q.tup hp,rfl,_,rfl,_,rfl,X,_,_,_,rfl,rfl,q.tup sq2,at1,M,_,rfl,.inr (q.tup tp2),rfl,kH _,_,rfl,?_⟩;rw[if_neg (by decide:¬Vq false),iM];by_cases e:-t.1∈ps
  ·rw[dTq e];refine b_ (Jf5 _ p _ _ _ rfl rfl (q.tup hp) rfl _ rfl (JoU (JdB _) hi k (q.upd I)));rw[et,if_pos e,mAq];rfl
  ·rw[dFq e];refine bq (gY hi hly k (VI q));rw[et,if_neg e]
 rintro ys H3 k ⟨q,rfl⟩;rw[zl,tO (by lia)]at k;have eLat:((negs S.ts).reverse.filter λp=>decide (p∈ps))=jx S.ts ps:=rfl;rw[eLat]at k;have J:=Z.more q I k;have sF:JeN F' F' Dl ((jx S.ts ps).map V.int):=Jdg (Z.t.none I).2;have y:∀a∈jx S.ts ps,cM a:=λa ha=>by have:=(List.mem_filter.mp ha).1;let⟨i,t,ht,e⟩:=kN (List.mem_reverse.mp this);have:=L.tr t (mO ht);unfold cM;lia
 have kr:cM ((S.rs.length:Nat):Int):=by have:=L.rl;unfold cM;lia
 have d:∀H' O' R',JgF F' O' H' A (Jlb ps (jx S.ts ps)) R'→Q (.int (((R'.xs.length:Nat):Int)-1)) H':=λH' O' R' U'=>by
  have e:R'.xs.length=S.rs.length+1:=by rw[←U'.u.kn.length,lM];show(S.rs++[ps]).length=_;rw[lAq];rfl
  rw[e,show((S.rs.length+1:Nat):Int)-1=(S.rs.length:Int) by lia];exact qQ H' O' R' U'
 have Y:=SqL.of (K:=K) (J.t.f _ _ ao);generalize jx S.ts ps=G at J sF y d Y k;refine Jov _ Dl _ (.inl Y) _ _ _ rfl (bo (λc=>?_) (λc=>?_))
 ·have g:(1:Int)<(((G.map V.int).length:Nat):Int):=oDq c;rw[lM]at g
  match G,J,sF,y,d,Y,g with
  | a :: b :: v,J,sF,y,d,Y,_ =>
   have a0:atI ((a :: b :: v).map V.int) 0=some (.int a):=VW (j:=0);have a1:atI ((a :: b :: v).map V.int) 1=some (.int b):=VW (j:=1);have xe:R.xs.length+1=S.rs.length+1:=by rw[xl]
   have gl:∀c,(S.wg c).length≤199000:=λc=>Vx (L.gl c);have nE:(((R.xs++[V.ref M]).length:Nat):Int)-1=((S.rs.length:Nat):Int):=by rw[lAq,xl];show((S.rs.length+1:Nat):Int)-1=_;lia
   refine⟨_,rfl,A.h,A.dx,_,rfl,J.ins,rfl,_,rfl,A.h,C,A.dx,_,_,rfl,J.ins,T.cl,T.n_known,iS,A.kn,_,rfl,Vd (J.at' 1 rfl rfl),_,_,rfl,rfl,_,rfl,Dl,_,_,_,rfl,rfl,Y,a0,_,rfl,Dl,_,_,_,rfl,rfl,Y,a1,A,_,_,pr,most,_,_,((S.rs.length:Nat):Int),a,b,?_,J,kr,y a (by simp),y b (by simp),gl a,gl b,λH4 O4 R4 U4 _=>?_⟩
   ·exact congrArg (λz=>[V.ref A.h,.int z,.int a,.int b]) nE
   ·have o:=U4.base sF;exact⟨_,rfl,A.h,C,A.dx,_,_,rfl,o.ins,T.cl,T.n_known,iS,A.kn,_,rfl,Vd (o.at' 1 rfl rfl),_,_,rfl,rfl,d _ _ _ o⟩
  | [a],_,_,_,_,_,g=>exact QN g
  | [],_,_,_,_,_,g=>exact absurd g (by decide)
 ·have g:¬(1:Int)<(((G.map V.int).length:Nat):Int):=λz=>Jiz z;rw[lM]at g;have o:=J.base sF
  match G,o,d,g with
  | a :: b :: v,_,_,g=>exact absurd (by simp only[List.length_cons];lia) g
  | [a],o,d,_=>exact⟨_,rfl,A.h,C,A.dx,_,_,rfl,o.ins,T.cl,T.n_known,iS,A.kn,_,rfl,Vd (o.at' 1 rfl rfl),_,_,rfl,rfl,d _ _ _ o⟩
  | [],o,d,_=>exact⟨_,rfl,A.h,C,A.dx,_,_,rfl,o.ins,T.cl,T.n_known,iS,A.kn,_,rfl,Vd (o.at' 1 rfl rfl),_,_,rfl,rfl,d _ _ _ o⟩
end
abbrev s_cut:Stmt:=wW
def sIx_nat (h:j≤n):Jng n d (j:Int)=j:=by
 unfold HT.sIx;simp only
 repeat' split
 all_goals lia
def xx {xs:List V}{j:Nat}(h:JmE j):Jmq xs (j:Int)=xs.take j:=by unfold dh;rw[sIx_nat h];rfl
def xy {xs:List V}{j:Nat}(h:JmE j):dh xs (some (j:Int)) none=xs.drop j:=by unfold dh;rw[sIx_nat h];exact tO (by rw[List.length_drop];exact nRq _)
def B9 (h:∀x,x∈hs↔x=p∨x∈hs')(n:p∉hs'):(λx=>if x=p then none else gA hs x)=gA hs':=by
 funext x;unfold gA;by_cases e:x=p
 ·rw[if_pos e,if_neg (e ▸ n)]
 ·rw[if_neg e];by_cases c:x∈hs'
  ·rw[if_pos c,if_pos ((h x).mpr (.inr c))]
  ·rw[if_neg c,if_neg (λz=>((h x).mp z).elim e c)]
theorem r_:∀ {a:List Dt} {vs:List V} (n:Nat),J7 a vs→J7 (a.take n) (vs.take n)
 | _,_,0,_=>ar.nil
 | [],vs,n+1,h=>by simp only[ar]at h;subst h;exact ar.nil
 | d :: a,vs,n+1,h=>by simp only[ar]at h;let⟨v,r,rfl,c,b⟩:=h;exact .cons c (r_ n b)
def jy (la:JjK Int):Prop:=∀a x,Xa (la a) x→x=a∨x=-a
def jy.put (h:jy la)(p):jy λz=>if z=(if p<0 then -p else p) then some p else la z:=λa x e=>by
 have e:(if a=(if p<0 then -p else p) then some p else la a)=some x:=e
 by_cases c:a=(if p<0 then -p else p)
 ·rw[if_pos c]at e;injection e with e;rw[←e,c];split <;> lia
 ·rw[if_neg c]at e;exact h a x e
structure LaX (S:HS)(j)(la):Prop where
 ok:jy la
 p:LaP S.ts (λx=>j≤x) S.la la
structure SpC (S:HS)(m:Int):Prop where
 tok:TOk S.rs S.ts
 bs:S.bs=bsF 0 S.ts
 m0:0≤m
 la:jy S.la
inductive nW (K)(C):Sp|m{vs H Q E9} (A) (F O) (pr) (most) (S) (R) (m):vs=JfK A.h m→JgF F O H A S R→SpC S m→(∀A' H' O' R' j la,fQ S.ts m j→LaX S j la→A'.h=A.h→V_ F O' H' A' (JhM j) (JhM j).hs R'→Jen H')→nW K C vs H Q E9
def sh:Jma ["self","level","begin","step"] "level" s_cut:=fsc
section
variable {P:Program} {w:World} {K:W.Frag} {mg:Str→Option Value} {base:Heap} {C CL f:Addr} {fd:FuncData}
def ok_cut (F:V4 "cut" "Hunt.cut" s_cut)(T:JkF C)(TB:Jfl K):Jhb (VL "level") (nW K C):=by
 refine F.ok sh (λvs H Q E h=>?_) (λcdv A outer s H vs Q E hr h=>?_)
 ·let⟨A,M,O,pr,most,S,R,m,rfl,_⟩:=h;rfl
 let⟨A,M,O,pr,most,S,R,m,rfl,U,L,q⟩:=h;have hu:=c_ hr;refine JN (Jjt (Jl4 (aA eu (Jh0 bO 0) (pv 1)) (JH (i:=2) sh.nd (uT PySem.F.plainAttrs_list PySem.F.slot_list_pop PySem.F.type_list_pop mt_pop (Js 0)) (Jj6 (eU gW (Js 0) (Jld 2) eS) (i:=3) sh.nd (Jjt (bD (vw (Js 0) (JC 3) (Jj5 rfl))) (g_ hu (Js 0) (Jal ja TB.abs (JiE 3)) (JC 3) rfl))) (aj (Jhj (eU gW (Js 0) eS (Jld 2)))))) (Jhj (Jh0 bO 0)))
 rfl'
 refine Qj (λk N H'=>Ex7 λ v2 W A' O' B j la=>An7 (N=[Ja A.h,Je m,v2,W]) (k=(Ja7 0 j).length) (A'.h=A.h) (Jnp j) ((Jjq j→m<JbE (j+1))) (LaX S j la) (V_ M O' H' A' { S with ts:=S.ts.take j,bs:=bsF 0 (S.ts.take j),la:=la } ((S.ts.take j).map Prod.fst) B)) ⟨_,none,none,A,O,R,S.ts.length,S.la,rfl,rfl,rfl,nRq _,λz=>VR (Nat.lt_irrefl _),⟨L.la,λz=>⟨λi t hi ht=>JfO (gEq ht).1,λ_=>rfl⟩⟩,?_⟩
 ·rw[List.take_length,←L.bs];exact U
 rintro k N H1 ⟨v2,W,A',O',B,j,la,rfl,ek,G,jl,hj,b,U1⟩;have Z:=U1.at' 5 rfl rfl;have i1:=U1.ins;rw[G]at i1;refine⟨_,rfl,A.h,C,A'.dx,_,_,rfl,i1,T.cl,T.n_begins,rR,A'.bg,_,rfl,Vd Z,_,rfl,_,_,rfl,rfl,_,rfl,bo (λc=>?_) (λc=>?_)⟩
 ·have c1:=oDq c;rw[lM,mX]at c1;have ne:Ja7 0 j≠[]:=λz=>by have h1:=mX (S.ts.take j);rw[z]at h1;have h1:(0:Int)=_:=h1;have:=L.m0;lia
  let⟨i,t,ht,t1,eb,ec⟩:=AU _ ne;have it:=jt ht;have tt:(S.ts.take j).take i=S.ts.take i:=by rw[List.take_take,Nat.min_eq_left (by lia)]
  rw[tt]at eb ec;refine JN (λ_ _ z=>z);have jl2:(S.ts.take j).length=j:=by rw[List.length_take];lia
  have U2:=U1.setBg (Ja7 0 i);generalize Jk8 O' A'.bg=O2 at U2;have dl:((Ja7 0 j).map V.int).dropLast=(Ja7 0 i).map V.int:=by rw[eb,mAq];exact List.dropLast_concat
  have X:((Ja7 0 j).map V.int)[((Ja7 0 j).map V.int).length - 1]?=some (.int (i:Int)):=by rw[eb,mAq];simp
  refine⟨_,rfl,A.h,C,A'.dx,_,_,rfl,i1,T.cl,T.n_begins,rR,Jez Z,A'.bg,_,_,rfl,rfl,Z,X,?_⟩;show(_:Prop);rw[dl];generalize Jk8 H1 A'.bg=H2 at U2;have i2:=U2.ins;rw[G]at i2;have zl:B.zs.length=j:=by rw[Hu.zlen U1];exact jl2
  have htr:=U2.at' 3 rfl rfl;refine⟨_,rfl,A.h,C,A'.dx,_,_,rfl,i2,T.cl,T.n_trail,hU,_,rfl,_,rfl,A'.tr,_,rfl,SqL.of htr,λn hn=>?_⟩;rw[xy (by rw[zl];lia)];have U3:=U2.newF hn (.lst (B.zs.drop i));have fn:=(U2.t.none hn).2;have sF:JeN M M n (B.zs.drop i):=Jdg fn;have I:=ao (H:=M) (a:=n) (o:=.lst (B.zs.drop i));generalize Va H2 n (B.zs.drop i)=H3 at U3;generalize Va M n (B.zs.drop i)=F3 at U3 sF I;have D:=L.tok.take j;have dz:B.zs.drop i=B.zs.drop i:=rfl;refine JoQ n _ (U3.t.f _ _ I) (Jim (cU (xs:=B.zs.drop i)) (λd N H'=>Ex4 λ(W:Option V) (Ox:Hp) (y:HC) (la:JjK Int)=>An5 (N=[Ja A.h,Je m,Je (i:Int),W]) ((jy la∧LaP S.ts (λx=>j≤x∨i≤x∧x<i+d) S.la la)) (y.zs=B.zs) (i+d≤j) (V_ F3 Ox H' A' { S with ts:=S.ts.take j,bs:=bsF 0 (S.ts.take i),la:=la } ((S.ts.take i++(S.ts.take j).drop (i+d)).map Prod.fst) y)) (λd N H' h=>by let⟨_,_,_,_,_,_,_,_,r⟩:=h;exact SqL.of (r.t.f _ _ I)) ⟨W,O2,B,la,rfl,⟨b.ok,b.p.imp λx _=>by lia⟩,rfl,by lia,?_⟩)
  ·have e0:S.ts.take i++(S.ts.take j).drop (i+0)=S.ts.take j:=by rw[←tt,Nat.add_zero,List.take_append_drop]
   rw[e0];exact U3
  ·rintro d N H' x H'' hd ⟨W,Ox,y,la,rfl,b,ez,hd2,r⟩ ⟨rfl,hx⟩;have hx:=Joj (r.t.f _ _ I);rw[List.getElem?_drop,←ez]at hx;let⟨u,p,g,rfl,hp⟩:=ip r.u.tr hx;have g:(S.ts.take j)[i+d]?=some u:=g;have hd3:i+d<j:=by have:=(gEq g).1;lia
   have dE:(S.ts.take j).drop (i+d)=u :: (S.ts.take j).drop (i+(d+1)):=by rw[List.drop_eq_getElem_cons (by lia)];have e2:=gG (l:=S.ts.take j) (i:=i+d) (by lia);rw[g]at e2;injection e2 with e2;rw[←e2];rfl
   have hin:∀x,x∈(S.ts.take i++(S.ts.take j).drop (i+d)).map Prod.fst↔x=u.1∨x∈(S.ts.take i++(S.ts.take j).drop (i+(d+1))).map Prod.fst:=λx=>by
    rw[dE];simp only[mAq,List.map_cons,List.mem_append,List.mem_cons];constructor
    ·rintro (z | z | z)
     ·exact .inr (.inl z)
     ·exact .inl z
     ·exact .inr (.inr z)
    ·rintro (z | z | z)
     ·exact .inr (.inl z)
     ·exact .inl z
     ·exact .inr (.inr z)
   have hnot:u.1∉(S.ts.take i++(S.ts.take j).drop (i+(d+1))).map Prod.fst:=λz=>by
    rw[mAq]at z;rcases mPq z with z | z
    ·rw[←tt]at z;let⟨a,v,ha,hv⟩:=js z;have h1:=jt ha;have:=D.same_ix g h1.2 hv.symm;lia
    ·let⟨a,v,ha,hv⟩:=js z;rw[List.getElem?_drop]at ha;have:=D.same_ix g ha hv.symm;lia
   have uE:-60≤u.1∧u.1≤60:=(D _ _ g).2.1;have ix:=r.ins;rw[G]at ix;have J:=r.setHd (kh:=JaI y.kh u.1) (hs':=(S.ts.take i++(S.ts.take j).drop (i+(d+1))).map Prod.fst) (by rw[←B9 hin hnot];exact r.u.hd.drop u.1);have val:Xu y.kh u.1=some (.bl true):=by rw[r.u.hd.val];exact if_pos ((hin _).mpr (.inl rfl))
   refine⟨_,rfl,A.h,C,A'.dx,_,_,rfl,ix,T.cl,T.n_held,hV,A'.hd,rfl,Jjv _ (r.at' 4 rfl rfl),_,rfl,p,_,_,_,rfl,rfl,hp,rfl,y.kh,Sum.inl u.1,_,r.at' 4 rfl rfl,rfl,val,?_⟩;have k1:bj H'' (JjL H'' A'.hd y.kh u.1):=bj.oth (r.at' 4 rfl rfl) du.1 du.2;have Y:=k1.sq hp;generalize JjL H'' A'.hd y.kh u.1=H4 at J Y;have iy:=J.ins;rw[G]at iy;have kp:-100≤(if u.1<0 then -u.1 else u.1)∧JkA (if u.1<0 then -u.1 else u.1):=by split <;> lia
   have Uz:=J.setLt (c:=if u.1<0 then -u.1 else u.1) kp u.1
   refine⟨_,rfl,p,_,_,_,rfl,rfl,Y,rfl,_,rfl,A.h,C,A'.dx,_,_,rfl,iy,T.cl,T.n_lately,xn,_,rfl,p,_,_,_,rfl,rfl,Y,rfl,_,rfl,A'.lt,_,rfl,JkG (k:=Sum.inl (if u.1<0 then -u.1 else u.1)) (J.at' 9 rfl rfl) J.u.lt.len,?_⟩
   refine⟨_,_,_,_,rfl,⟨b.1.put u.1,b.2.put L.tok (jt g).2 λx=>by lia⟩,?_,?_,Uz⟩
   ·exact ez
   ·lia
  ·rintro N H' ⟨W,Ox,y,la,rfl,b,ez,hd2,r⟩;have dn:(B.zs.drop i).length=j-i:=by rw[List.length_drop,zl]
   rw[dn,show i+(j-i)=j by lia,List.drop_of_length_le (by lia),List.append_nil]at r;have ix:=r.ins;rw[G]at ix;refine⟨_,rfl,A.h,C,A'.dx,_,_,rfl,ix,T.cl,T.n_trail,hU,_,rfl,_,rfl,A'.tr,_,rfl,SqL.of (r.at' 3 rfl rfl),λn2 hn2=>?_⟩;have zl2:y.zs.length=j:=by rw[ez,zl]
   rw[xx (by rw[zl2];lia)];have J:=r.newF hn2 (.lst (y.zs.take i));have fn2:=(r.t.none hn2).2;have sF2:JeN F3 F3 n2 (y.zs.take i):=Jdg fn2;have f02:Qu (M n2):=by
    cases e:M n2 with
    | none=>rfl
    | some o=>have:=sF _ _ e;rw[fn2]at this;cases this
   have hz:XH (Va H' n2 (y.zs.take i)) ((S.ts.take i).map dP) (y.zs.take i):=by rw[←tt,List.map_take];exact r_ i J.u.tr
   let⟨O5,U5⟩:=J.moveTr (ts:=S.ts.take i) ao hz f02 (sF.trans sF2);have iy:=J.ins;rw[G]at iy;refine Jmm A.h C A'.dx _ iy T.cl T.n_trail (by show JhI 12;decide);refine⟨_,?_,_,_,{ A' with tr:=n2 },O5,{ y with zs:=y.zs.take i },i,la,rfl,rfl,G,by lia,λ_=>?_,⟨b.1,b.2.imp λx _=>by lia⟩,?_⟩
   ·rw[ek,eb,lAq];show _<_+1;lia
   ·rw[kJ it.2];unfold zaS;rw[if_pos t1];lia
   ·rw[←G];exact U5
 ·have c1:¬m<((((Ja7 0 j).map V.int).length:Nat):Int):=λz=>Jiz z;rw[lM,mX]at c1;have zl:B.zs.length=j:=by rw[Hu.zlen U1];show(S.ts.take j).length=j;rw[List.length_take];lia
  refine⟨_,rfl,A.h,C,A'.dx,_,_,rfl,i1,T.cl,T.n_trail,hU,A'.tr,_,rfl,Vd (U1.at' 3 rfl rfl),_,rfl,A.h,C,A'.dx,_,rfl,i1,T.cl,T.n_looked,(by show JhI 12;decide),?_⟩;rw[zl,←G];refine q A' _ _ _ j la ⟨jl,λi hi=>?_,hj⟩ b G (U1.setLk j);have:=jr (ts:=S.ts) (i:=i+1) (j:=j) (by lia);lia
end
abbrev xA:Stmt:=wY
abbrev si:Stmt:=wZ
def B_ {b:Type}{p:b→Bool}{xs:List b}{i:Nat}{k:b}(h:(xs.take i).find? p=none)(c:xs[i]?=some k)(f:Vq (p k)):xs.find? p=some k:=by
 have d:=(gEq c).1;have e:xs=xs.take i++k :: xs.drop (i+1):=by have:=JdW xs;rw[List.drop_eq_getElem_cons d]at this;have a:=gG d;rw[c]at a;injection a with a;rw[←a]at this;exact this.symm
 rw[e,List.find?_append,h,List.find?_cons_of_pos f];rfl
def xB {a:Type}{p:a→Bool}{xs:List a}{i:Nat}{k:a}(h:(xs.take i).find? p=none)(c:xs[i]?=some k)(b:QM (p k)):(xs.take (i+1)).find? p=none:=by rw[bE c,List.find?_append,h,List.find?_cons_of_neg (by rw[b];decide)];rfl
def ChQ (K:W.Frag)(C:Addr)(F O H:Hp)(A:HA)(b:Addr)(most:Int)(S:HS)(R:HC)(Q:VK):Option Int→Prop
 | some a=>∀H' d c,Jh K C F d H' A b (S.pick a) (S.pick a).hs c→Jev H'
 | none=>JkO H
structure SpCh (S:HS):Prop where
 tl:Jnr 100
 bl:Q3 S.bs.length
 od:∀a∈S.od,1≤a∧a≤60
 la:jy S.la
inductive sj (K)(C):Sp|m{vs H Q E9} (A) (F O) (pr) (most) (S) (R):vs=Vz A.h→JgF F O H A S R→SpCh S→ChQ K C F O H A pr most S R Q (jX S)→sj K C vs H Q E9
def xC:Vj (VL "atom") ["self"] xA:=fsc
section
variable {P:Program} {w:World} {K:W.Frag} {mg:Str→Option Value} {base:Heap} {C CL f fH:Addr} {fd dH:FuncData}
def Ca (F:V4 "choose" "Hunt.choose" xA)(T:JkF C)(TB:Jfl K)(N:Jnn fH)(BH:QR 1 fH dH (JbM "why") (jv K C))(Z:JoS dH):JeF 2 ["self"] (sj K C):=by
 refine F.ok xC (λvs H Q E h=>?_) (λcdv A outer s H vs Q E B h=>?_)
 ·let⟨A,J,O,y,most,S,R,rfl,_⟩:=h;rfl
 let⟨A,J,O,y,most,S,R,rfl,U,L,q⟩:=h;have r:=c_ B;refine JN (Jdd (Jj6 (Js 0) (i:=1) xC.nd (aj (be (Jis (fg (jP r (pv 1) (Js 0))) (fg (jP r (Jgj 1) (Js 0)))) (JcI (Jlf cQ (Js 0) (Qc (Jh0 bO 0))) (bD (Jbw 0 N BH B Z aJ (XB (my r (Js 0) (pv 1) (Jgj 1) (Jj5 rfl)) (JcB af)))) cN)
     aU))) cN)
 rfl'
 have d:=Jd6 8;refine⟨_,rfl,A.h,C,A.dx,_,_,rfl,U.ins,T.cl,T.n_order,rT,A.od,rfl,QE _ d,Jim cU (λi n H'=>∃p:Option V,An3 (n=[Ja A.h,p]) (H'=H) ((S.od.take i).find? (λa=>decide (a∉S.hs)&&decide (-a∉S.hs))=none)) (λi n H' h=>by let⟨_,_,e,_⟩:=h;exact e ▸ SqL.of d) (Jj5 none)⟩
 ·rintro i n H1 x H2 hi ⟨p,rfl,rfl,b⟩ ⟨rfl,W⟩;let⟨a,o,rfl⟩:=cA (W _ (SqL.of d));have G:=iP S.hs a;have D:=iP S.hs (-a);have aR:=L.od a (mO o);refine⟨_,rfl,_,rfl,A.h,C,A.dx,_,_,rfl,U.ins,T.cl,T.n_held,hV,A.hd,_,rfl,U.held a,_,rfl,bo (λc=>?_) (λc=>?_)⟩
  ·rw[G]at c;have v:a∉S.hs:=λz=>by rw[dTq z]at c;cases c
   refine⟨_,rfl,_,rfl,_,rfl,A.h,C,A.dx,_,_,rfl,U.ins,T.cl,T.n_held,hV,A.hd,_,rfl,U.held (-a),_,rfl,bo (λg=>?_) (λg=>?_)⟩
   ·rw[D]at g;have t:-a∉S.hs:=λz=>by rw[dTq z]at g;cases g
    have Y:jX S=some a:=B_ b o (by simp [v,t]);rw[Y]at q;have l:=Jd6 5;have j:=U.setBg (S.bs++[(S.ts.length:Int)]);rw[mAq]at j;refine⟨_,rfl,A.h,C,A.dx,_,_,rfl,U.ins,T.cl,T.n_begins,rR,Jez l,_,rfl,A.h,C,A.dx,_,_,rfl,U.ins,T.cl,T.n_trail,hU,A.tr,_,rfl,Vd (Jd6 3),A.bg,_,_,rfl,rfl,l,hln (by rw[lM];have:=L.bl;lia),?_⟩;rw[Hu.zlen U];have I:=cn.k (k:=Sum.inl a) (j.at' 9 rfl rfl);rw[j.u.lt.val]at I;have M:((S.la a).map V.int).getD (.int (-a))=.int ((S.la a).getD (-a)):=by cases S.la a <;> rfl
    have X:(S.la a).getD (-a)=a∨(S.la a).getD (-a)=-a:=by
     cases e:S.la a with
     | none=>exact .inr rfl
     | some x=>exact L.la a x e
    refine⟨_,rfl,A.h,A.dx,_,rfl,j.ins,rfl,_,rfl,A.h,C,A.dx,_,_,rfl,j.ins,T.cl,T.n_lately,xn,A.lt,rfl,Jjv _ (j.at' 9 rfl rfl),_,rfl,_,rfl,_,rfl,_,I,?_⟩;refine⟨_,rfl,A,J,_,y,most,_,_,(S.la a).getD (-a),-1,?_,j,?_,?_,λH' O' R' U' _=>?_⟩
    ·exact congrArg (λz=>[V.ref A.h,z,.int (-1)]) M
    ·unfold cM;rcases X with z | z <;> rw[z] <;> lia
    ·have:=L.tl;lia
    ·exact q H' O' R' U'
   ·rw[D]at g;have t:=Decidable.byContradiction λz=>by rw[dFq z]at g;exact g rfl
    exact Jv _ rfl (xB b o (by simp [t]))
  ·rw[G]at c;have v:=Decidable.byContradiction λz=>by rw[dFq z]at c;exact c rfl
   exact Jv _ rfl (xB b o (by simp [v]))
 ·rintro n H' ⟨p,rfl,rfl,b⟩;rw[lM,List.take_length]at b;have b:Qu (jX S):=b;rw[b]at q;exact q
theorem xD:∀ {c bs:List Int},c.Pairwise (· < ·)→bs.Pairwise (· < ·)→(∀x,x∈c↔x∈bs)→c=bs
 | [],[],_,_,_=>rfl
 | [],b :: bs,_,_,h=>absurd ((h b).mpr List.mem_cons_self) (λz=>nomatch z)
 | a :: c,[],_,_,h=>absurd ((h a).mp List.mem_cons_self) (λz=>nomatch z)
 | a :: c,b :: bs,k,j,h=>by
  let⟨d,i⟩:=List.pairwise_cons.mp k;let⟨q1,g⟩:=List.pairwise_cons.mp j;have e:a=b:=by
   rcases List.mem_cons.mp ((h a).mp List.mem_cons_self) with z | z
   ·exact z
   ·rcases List.mem_cons.mp ((h b).mpr List.mem_cons_self) with y | y
    ·exact y.symm
    ·have:=d b y;have:=q1 a z;lia
  subst e;rw[xD i g λx=>?_];constructor
  ·intro z;rcases List.mem_cons.mp ((h x).mp (Xe z)) with y | y
   ·have:=d x z;lia
   ·exact y
  ·intro z;rcases List.mem_cons.mp ((h x).mpr (Xe z)) with y | y
   ·have:=q1 x z;lia
   ·exact y
noncomputable def upN (n:Nat):List Int:=(List.range n).map λi:Nat=>(i:Int)+1
def ka:a∈upN n↔1≤a∧a≤n:=by
 unfold upN;rw[List.mem_map];constructor
 ·rintro ⟨i,b,rfl⟩;have:=List.mem_range.mp b;lia
 ·intro h;exact Jhu ((a-1).toNat) (List.mem_range.mpr (by lia))
def xE (n):(upN n).Pairwise (· < ·):=by refine List.pairwise_map.mpr (List.pairwise_lt_range.imp λ{a b} h=>?_);lia
def cS (n:Nat)(hs:List Int):List Int:=(upN n).map λa=>if a∈hs then a else -a
inductive sr (K)(C):Sp|m{vs H Q E9} (A) (F O) (pr) (most) (S) (R) (n:Nat):vs=Vz A.h→JgF F O H A S R→n≤40→(∀a:Int,a∈S.od↔1≤a∧a≤n)→S.od.Nodup→(∀H' l,Jga H l (JT l ((cS n S.hs).map V.int)) l)→sr K C vs H Q E9
def Cb:Vj ["self"] ["self"] si:=fsc
def Cc (F:V4 "held_parts" "Hunt.held_parts" si)(T:JkF C)(TB:Jfl K):Jhb ["self"] (sr K C):=by
 refine F.ok Cb (λvs H Q E h=>?_) (λcdv A outer s H vs Q E hr h=>?_)
 ·let⟨A,F',O,pr,most,S,R,n,rfl⟩:=h;rfl
 let⟨A,F',O,pr,most,S,R,n,rfl,U,n40,od,u,q⟩:=h;have hu:=c_ hr;refine JN (Qi (JA gk rfl TB.tuple (Qc (Vw (N':=["atom","self"]) (ix:=[0]) rfl rfl rfl (λok=>JjO (sc:=ai si)) rfl rfl (JdN _) (cT (VB wB TB.sorted PyProof.Rows.Boot.sorted (Ja1 0))) (λ_ _ _ _=>(iZ (fg (jm hu (pv 0) (wA K rfl (pv 1) rfl))) (pv 0) (Jgj 0)))))))
 rfl'
 have odl:S.od.length≤n:=by
  have:=gq n (xs:=S.od.map λa=>a-1) (List.pairwise_map.mpr (u.imp λ{a b} h z=>h (by lia))) λx I=>by let⟨a,J,rfl⟩:=List.mem_map.mp I;have:=(od a).mp J;lia
  rwa [lM]at this
 refine⟨_,rfl,A.h,C,A.dx,_,_,rfl,U.ins,T.cl,T.n_order,rT,A.od,S.od,rfl,JlQ 8,by lia,λl N hl X so=>?_⟩;have k:N=upN n:=by
  refine xD ?_ (xE n) λx=>by rw[X.mem_iff,od,ka]
  have nd:=X.nodup_iff.mpr u;exact(so.and nd).imp λ{a b} h=>by have:=h.1;have:=h.2;lia
 subst k;have G:JeN H H l ((upN n).map V.int):=Jdg hl;have y:=ao (H:=H) (a:=l) (o:=.lst ((upN n).map V.int));generalize XE l _=H1 at G y;have p:(upN n).length=n:=by unfold upN;rw[lM,List.length_range]
 refine JoQ l _ y (λD L=>Jm3 cU (λi us H'=>Xg H1∧us=((cS n S.hs).take i).map V.int) (λi us H' ⟨g,_⟩=>SqL.of (g _ _ y)) L ?_ ?_)
 ·rintro i us H2 x H3 hi v d ⟨g,rfl⟩ ⟨rfl,I⟩;let⟨a,J,rfl⟩:=cA (I _ (SqL.of (g _ _ y)));have Z:=U.same (G.trans g);have Y:=iP S.hs a;have hH:(cS n S.hs)[i]?=some (if a∈S.hs then a else -a):=by unfold cS;rw[List.getElem?_map,J];rfl
  have B:((cS n S.hs).take (i+1)).map V.int=((cS n S.hs).take i).map V.int++Ji6 (if a∈S.hs then a else -a):=by rw[bE hH,mAq];rfl
  rw[lM,p]at hi;refine⟨_,rfl,_,rfl,A.h,C,A.dx,_,_,rfl,Z.ins,T.cl,T.n_held,hV,A.hd,_,rfl,Z.held a,_,rfl,bo (λc=>?_) (λc=>?_)⟩
  ·rw[Y]at c;have M:=oDq c;rw[if_pos M]at B;exact QI (cJ (bsz _ (by rw[lM,p];lia)) (by rw[lM,p];lia) v d ⟨g.upd L,B.symm⟩)
  ·rw[Y]at c;have M:a∉S.hs:=λz=>Jiz z;rw[if_neg M]at B;exact Jos (cJ (bsz _ (by rw[lM,p];lia)) (by rw[lM,p];lia) v d ⟨g.upd L,B.symm⟩)
 ·rintro us H2 d ⟨g,rfl⟩;have e:(cS n S.hs).take ((upN n).map V.int).length=cS n S.hs:=by refine tO ?_;unfold cS;rw[lM,lM];exact nRq _
  rw[e]at d;refine Jv D _ (JeO d (λt W=>?_));have r:=G.trans g;exact q _ t (r.trans (Jdg W)) (r.free W) ao
end
abbrev kc:Stmt:=wX
def lD:Jma ["self","fails","told","parts","forcing","fresh"] "fails" kc:=fsc
def Cd {ps od:List Int}{n:Nat}(e:∀p∈ps,Jha n)(b:∀a:Int,a∈od↔1≤a∧a≤n)(a):a∈gu ps od↔1≤a∧a≤n:=by
 unfold gu;rw[List.mem_append,List.mem_filter,decide_eq_true_eq];constructor
 ·rintro (z | ⟨z,_⟩)
  ·let⟨p,d,rfl⟩:=List.mem_map.mp z;have:=e p d;unfold zaW;split <;> lia
  ·exact(b a).mp z
 ·intro h;by_cases c:a∈ps.map zaW
  ·exact .inl c
  ·exact JaF ((b a).mpr h) c
def Ce (g:(ps.map zaW).Nodup)(f:od.Nodup):(gu ps od).Nodup:=by refine List.nodup_append.mpr ⟨g,f.filter _,λa d b c e=>?_⟩;have:=(List.mem_filter.mp c).2;rw[decide_eq_true_eq]at this;exact this (e ▸ d)
structure TlF (K)(H)(S)(t tp th)(ps:List Int)(m y:Int)(n):Prop where
 t:Jfo t (Jdl tp th m)
 tp:Jom tp
 c:SpC S m
 n40:n≤40
 pr:∀p∈ps,Jha n
 pl:QV 100
 od:∀a:Int,a∈S.od↔1≤a∧a≤n
 odn:S.od.Nodup
section
variable {P:Program} {w:World} {K:W.Frag} {mg:Str→Option Value} {base:Heap} {C CL f fH fC:Addr} {fd dH dC:FuncData}
def odlen {od:List Int}{n:Nat}(h:∀a:Int,a∈od↔1≤a∧a≤n)(c:od.Nodup):od.length≤n:=by
 have:=gq n (xs:=od.map λa=>a-1) (List.pairwise_map.mpr (c.imp λ{a b} h z=>h (by lia))) λx d=>by let⟨a,e,rfl⟩:=List.mem_map.mp d;have:=(h a).mp e;lia
 rwa [lM]at this
def learn3 (T:JkF C)(TB:Jfl K)(mH:Jnn fH)(BH:QR 1 fH dH (JbM "why") (jv K C))(bH:JoS dH)
  (mC:Jnm "cut" fC)(BC:QR 1 fC dC (VL "level") (nW K C))(bC:Ja9 dC "level")
  {cdv:Value}{Ar:Around}{outer:List Env}{s:Shared}{H0:Hp}{E:XK}(hr:JbC 1 (JgR "Hunt.learn" kc f)) :
  ∃z,PSs (Jka (Jda w) P w K mg ["self","fails","told","parts","forcing","fresh"] "Hunt.learn" kc f Ar s H0 E) ((zas kc).drop 3) z ∧
   ∀D A F O H pr most S R t v th ps fl m y n,JgF F O H A S R→TlF K H S t v th ps m y n→(ps=[]→JeM false H) →
    (∀a rest,ps=V9 a→∀A' H' O' R' j la,fQ S.ts m j→LaX S j la→A'.h=A.h→V_ F O' H' A' { (JhM j).hold a y with od:=gu ps S.od } ((JhM j).hold a y).hs R'→Jjh H') →
    z D [Ja A.h,Je fl,Ja t,Ja v,Je y,none] H:=by
 refine JN (Xc (be (Jhy bZ (JcV bO (Vh 3))) (Qi cN)
   aU) (bD (Jbw 0 mC BC hr bC aJ (JiE 2))) (Xc (bD (Jbw 0 mH BH hr bH aJ (Jhh (JC 3) 4))) (Jgq (i:=5) lD.nd rfl rfl (Vw (N':=["part"]) (ix:=[]) rfl rfl rfl (λ_=>JmW []) rfl rfl (λj i h=>by simp at h) (Jlc 3) (λ_ _ _ _=>(Jal ja TB.abs (Vh 0))))) (Jdd (Jhj (Jh5 iK 5 (Jax (N':=["atom","fresh"]) (ix:=[5]) rfl rfl rfl (λok=>JjO (sc:=ai kc)) rfl rfl (JdN _) (cT (Js 0)) (λ_ _ _ _=>(aA (r:=rIn K true) mi (pv 0) (pv 1) rfl)) (λ_ _ _ _=>(pv 0))))) cN)))
 rfl'
 rintro D A F O H pr most S R t v th ps fl m y n U L q0 q1;have pl:=L.pl;refine Jjb _ rfl v _ (.inr L.tp) rfl _ rfl (bo (λc=>?_) (λc=>?_))
 ·have c1:=oDq c;injection c1 with c1;rw[lM]at c1;exact q0 (List.length_eq_zero_iff.mp (by lia))
 match ps,L,q1,pl with
 | [],L,q1,pl=>exact QU c
 | a :: rest,L,q1,pl =>
  clear c q0;have q1:=q1 a rest rfl;have aP:=L.pr a List.mem_cons_self;have n40:=L.n40;have at2:atI (Jgs v th (V.int m)) 2=some (.int m):=ay rfl;have at0:atI ((V9 a).map V.int) 0=some (.int a):=ay rfl;let⟨J,Z,U1,Y⟩:=U.sqF L.tp;refine⟨_,rfl,A.h,A.dx,_,rfl,U.ins,rfl,_,rfl,t,_,_,_,rfl,rfl,L.t,at2,A,J,O,pr,most,S,R,m,rfl,U1,L.c,λX H2 O2 R2 j la hcut hla W U2=>?_⟩;have i2:=U2.ins;rw[W]at i2;have tl:((JhM j).ts).length≤1000:=by
   have h1:=(L.c.tok.take j).len;have h2:(S.ts.take j).length≤1000:=by lia
   exact h2
  refine⟨_,rfl,A.h,X.dx,_,rfl,i2,rfl,_,rfl,v,_,_,_,rfl,rfl,U2.t.f.tup Y,at0,_,rfl,X,J,O2,pr,most,JhM j,R2,a,y,by rw[W];rfl,U2,by unfold cM;lia,tl,λH3 O3 R3 U3 _=>?_⟩;have u:=U3.t.f.tup Y;have fl1:((V9 a).map zaW).length=rest.length+1:=by rw[lM];rfl
  refine Jhk _ v u (λM l=>Jm3 dU (λi us H'=>Xg H3∧us=(((V9 a).map zaW).take i).map V.int) (λi us H' ⟨N,_⟩=>N.tup u) l ?_ ?_)
  ·rintro i us H4 x H5 Q g k ⟨N,rfl⟩ ⟨rfl,hx⟩;let⟨p,hp,rfl⟩:=Jkc _ (N.tup u);have hA:((V9 a).map zaW)[i]?=some (zaW p):=by rw[List.getElem?_map,hp];rfl
   refine Jos (Jep (bsz _ (by rw[lM];lia)) Q g k (N.upd l));rw[bE hA,mAq];rfl
  rintro us H4 k ⟨N,rfl⟩;have e4:((V9 a).map zaW).take ((V9 a).map V.int).length=(V9 a).map zaW:=tO (by rw[lM,lM];exact nRq _);rw[e4]at k;have U4:=U3.more N l k;have f4:Qu (J M):=(U3.t.none l).2;have B:JeN J J M (((V9 a).map zaW).map V.int):=Jdg f4;have I:=ao (H:=J) (a:=M) (o:=.lst (((V9 a).map zaW).map V.int));generalize Jk8 J M=F4 at U4 B I;generalize hfr:(V9 a).map zaW=d at *;have i4:=U4.ins;rw[W]at i4;have G:=U4.at' 8 rfl rfl;have odl:=odlen L.od L.odn;refine⟨_,rfl,_,rfl,A.h,C,X.dx,_,_,rfl,i4,T.cl,T.n_order,rT,X.od,rfl,QE _ G,λD2 hD2=>gZ cU (λi us H'=>Xg H4∧us=((S.od.take i).filter λz=>decide (z∉d)).map V.int) (λi us H' ⟨q,_⟩=>SqL.of (q _ _ G)) (Jdh hD2) ?_ ?_⟩
  ·rintro i us H5 x H6 Q g b ⟨q,rfl⟩ ⟨rfl,hx⟩;let⟨z,hz,rfl⟩:=cA (Joj (q _ _ G));have et:((S.od.take (i+1)).filter λz=>decide (z∉d))=if z∈d then(S.od.take i).filter λz=>decide (z∉d) else((S.od.take i).filter λz=>decide (z∉d))++[z]:=by
    have hz:S.od[i]?=some z:=hz;rw[bE hz,List.filter_append];by_cases e:z∈d
    ·rw[if_pos e,List.filter_cons,if_neg (by simp [e]),List.filter_nil,List.append_nil]
    ·rw[if_neg e,List.filter_cons,JeC e];rfl
   have hil:i<S.od.length:=by rw[lM]at Q;exact Q
   refine Jgm _ _ rfl M _ rfl (Vd (q _ _ (U4.t.f _ _ I))) (kH _) _ rfl ?_;rw[if_pos rfl,iM];by_cases e:z∈d
   ·rw[dTq e];refine bq (gY Q g b (VI q));rw[et,if_pos e]
   ·rw[dFq e];refine b_ (QI (Jep (bsz _ (by rw[lM];show S.od.length≤_;lia)) Q g b (q.upd hD2)));rw[et,if_neg e,mAq];rfl
  rintro us H5 b ⟨q,rfl⟩;have e5:S.od.take (S.od.map V.int).length=S.od:=tO (by rw[lM];exact nRq _);have b:H5 D2=some (.lst (((S.od.take (S.od.map V.int).length).filter λz=>decide (z∉d)).map V.int)):=b;rw[e5]at b;have U5:=U4.same q;have frl:d.length≤100:=by rw[←hfr,lM];exact pl
  have h1:H5 M=some (.lst (d.map V.int)):=U5.t.f _ _ I;refine Jjb M D2 _ _ rfl h1 b ?_ (λn1 hn1=>?_)
  ·have:=List.length_filter_le (λz=>decide (z∉d)) S.od;rw[lM,lM];exact Nat.le_of_lt (hln (by lia))
  rw[←mAq];have eN:d++S.od.filter (λz=>decide (z∉d))=gu (V9 a) S.od:=by unfold gu;rw[hfr]
  rw[eN];have U6:=U5.newF hn1 (.lst ((gu (V9 a) S.od).map V.int));have f6:=(U5.t.none hn1).2;have sF6:JeN F4 F4 n1 ((gu (V9 a) S.od).map V.int):=Jdg f6;have sF:ap F _:=(Z.trans B).trans sF6;have f0:Qu (F n1):=by
   cases e:F n1 with
   | none=>rfl
   | some o=>have:=(Z.trans B) _ _ e;rw[f6]at this;cases this
  let⟨O7,U7⟩:=U6.moveOd ao f0 sF;have i6:=U6.ins;rw[W]at i6;refine Jmm A.h C X.dx _ i6 T.cl T.n_order (by show JhI 12;decide);have:=q1 { X with od:=n1 } _ O7 R3 j la hcut hla W U7;rw[←W];exact this
end
structure LrnTo (n)(B)(most)(S:HS)(f)(S'):Prop where
 mid:cV n B S'
 wgt:Jit S.ts<Jit S'.ts
 st:LStp most S f S'
 to:(S'.pp=S.pp∧S'.rs=S.rs)∨((S.pp.length:Int)<most∧S'.pp=S.pp++[lnD (JbG f) (Jhw f).reverse]∧S'.rs=S.rs++[JbG f])
structure SpLn (n)(B)(S)(f):Prop where
 c:eB n B S f
 n40:n≤40
 rl:Jns 197000
 pl:S.pp.length≤197000
 gl:∀c,(S.wg c).length≤197000
inductive su (K)(C CL):Sp|m{vs H Q E} (A) (F O) (pr) (most) (S) (R) (f) (n) (B):vs=JfK A.h f→JgF F O H A S R→SpLn n B S f→(¬((Jhw f).length=1∧JbG f≠[])→most≤(S.pp.length:Int)→∀H',JM F (Jfn CL H'))→(JbG f=[]→(S.pp.length:Int)<most→∀H' O' R',JgF F O' H' A (S.put (lnD [] (Jhw f).reverse) [] []) R'→JkO H')→(∀A' H' O' R' S',A'.h=A.h→LrnTo n B most S f S'→V_ F O' H' A' S' S'.hs R'→Jev H')→su K C CL vs H Q E
section
variable {P:Program} {w:World} {K:W.Frag} {mg:Str→Option Value} {base:Heap} {C CL f fH fC fP fL:Addr} {fd dH dC dP' dL:FuncData}
def nX (ps hs):JiU (lnD ps hs):=by simp only[lnD,nol,zaM,pL,Bool.and_self]
def Cg (h:Jfo l (Jk0 tp th))(b:Jom tp)(a:JnI th V.int):Jbk K H (lnD ps hs) l :=
 Has.tup' h (.cons (by simp only[Has]) (JeU (pN b) (pN a)))
def Ci (F:V4 "learn" "Hunt.learn" kc)(T:JkF C)(TB:Jfl K)(mH:Jnn fH)(BH:QR 1 fH dH (JbM "why") (jv K C))(bH:JoS dH)
  (mC:Jnm "cut" fC)(BC:QR 1 fC dC (VL "level") (nW K C))(bC:Ja9 dC "level")
  (mP:Jnm "put" fP)(BP:Jmv P w K w 2 fP dP' "line" (rZ K C CL))(bP:Ja9 dP' "line")
  (BL:JgD 3 "learnt" fL dL ["rows","trail","fails"] (Le98.sp_learnt K)):Jmv P w K w 4 f fd "fails" (su K C CL):=by
 refine Fun.okX F lD (λvs H Q E h=>?_) (λcdv Ar outer s H vs Q E hr h=>?_)
 ·let⟨A,F',O,pr,most,S,R,f,n,B,rfl,_⟩:=h;rfl
 let⟨A,F',O,pr,most,S,R,I,n,B,rfl,U,L,qE,qN,qY⟩:=h;have hr1:=VT (j:=1);have hr2:=VT (j:=2);let⟨z3,h3,q3⟩:=learn3 (base:=base) T TB mH BH bH mC BC bC (cdv:=cdv) (outer:=outer) hr1;refine JN (JfB (i:=2) lD.nd (JfA BL.ok hr BL.m BL.kp BL.b (JdX (Js 0) (Js 0) (Vh 1))) (i:=3) lD.nd (JC 2) (ae (Qn (i:=4) lD.nd (iZ (Jis (Jhy bZ (JcV bO (JiE 2))) (Jhy eu (JcV bO (Vh 3)))) (pv 1) (Jbw 0 mP BP hr2 bP (hJ xe1) (Qc (bQ (aa bz (JX 3 (JC 2))))))))
  h3))
 rfl'
 have g:=L.c.b.tok;have n40:=L.n40;have tl:Jnr 100:=by have:=g.len;lia
 refine⟨_,rfl,A.h,C,A.dx,_,_,rfl,U.ins,T.cl,T.n_known,iS,_,rfl,A.h,C,A.dx,_,_,rfl,U.ins,T.cl,T.n_trail,hU,_,rfl,A.kn,A.tr,I,R.xs,R.zs,S.rs,S.ts,rfl,JlQ 1,U.u.kn,JlQ 3,U.u.tr,L.c.ln,tl,L.c.b.rlen n40,λH1 t J N m s1 _ h1 h2 h3' mx=>?_⟩;have U1:=U.same s1;have at0:atI (Jgs J N (V.int m)) 0=some (.ref J):=VW (j:=0);have at1:atI (Jgs J N (V.int m)) 1=some (.ref N):=VW (j:=1);generalize d:JbG I=ps at *;generalize Z:(Jhw I).reverse=hh at *;have hpl:(ps.map V.int).length=ps.length:=lM _;have hhl:(hh.map V.int).length=(Jhw I).length:=by rw[lM,←Z,List.length_reverse]
 have inP:∀q∈ps,q≠0∧q.natAbs≤n:=λq hq=>by rw[←d]at hq;let⟨i,u,hi,e,_⟩:=hI g hq;have h1:=(g i u hi).1;have h2:=L.c.b.rng u (mO hi);lia
 have psl:QV 100:=by rw[←d];unfold aZ;have:=List.length_filter_le (λp=>decide (p∈gp S.rs S.ts I)) (negs S.ts).reverse;rw[List.length_reverse,hF]at this;lia
 have m0:0≤m:=by
  by_cases e:(ps.drop 1).map (lvF S.ts)=[]
  ·rw[mx.1 e];decide
  ·let⟨x,_,e2⟩:=List.mem_map.mp (mx.2 e).1;rw[←e2];exact mK x
 have absn:(ps.map zaW).Nodup:=by
  refine List.pairwise_map.mpr ((show ps.Nodup from d ▸ mY g).imp_of_mem λ{x y} hx Y ne z=>?_);rw[←d]at hx Y;let⟨i,u,hi,e,_⟩:=hI g hx;let⟨j,v,hj,e',_⟩:=hI g Y;unfold zaW at z;have:x=y∨x=-y:=by split at z <;> split at z <;> lia
  rcases this with z | z
  ·exact ne z
  ·exact g.cons (q:=u.1) (d_ hi) (by rw[show -u.1=v.1 by lia];exact d_ hj)
 refine⟨_,rfl,t,_,_,_,rfl,rfl,SqT.of h1,at0,?_⟩;have rest:∀(M:HS) (O2 W:Hp) (R2:HC) (y:Int),M.ts=S.ts→M.bs=S.bs→M.la=S.la→M.od=S.od→TOk M.rs M.ts→V_ F' O2 W A M M.hs R2→QC W t (Jdl J N m)→JbX W J→(ps=[]→JkO W) →
   (∀a rs j la,ps=a :: rs→fQ S.ts m j→LaX S j la→LrnTo n B most S I { (M.cut j la).hold a y with od:=gu ps S.od }) →
   z3 { nx:=λ_ H'=>Q .non H',rt:=Q } [Ja A.h,Je I,Ja t,Ja J,Je y,none] W:=by intro M O2 W R2 y e1 e2 e3 e4 tok1 U2 g1 g2 n0 n1;refine q3 _ A F' O2 W pr most M R2 t J N ps I m y n U2 ⟨g1,g2,⟨tok1,by rw[e2,e1];exact L.c.b.bs,m0,by rw[e3];exact L.c.b.la⟩,n40,inP,psl,by rw[e4];exact L.c.b.od,by rw[e4];exact L.c.b.odn⟩ n0 λa rs ea A' H' O' R' j la r D eh U'=>?_;rw[e4]at U';exact qY A' H' O' R' _ eh (n1 a rs j la ea (e1 ▸ r) ⟨D.ok,e1 ▸ e3 ▸ D.p⟩) U'
 have od1:=Cd inP L.c.b.od;have od2:=Ce absn L.c.b.odn;refine(λ(k:¬((Jhw I).length=1∧ps≠[])→_) (k2:((Jhw I).length=1∧ps≠[])→_)=>⟨_,rfl,t,_,_,_,rfl,rfl,SqT.of h1,at1,N,_,rfl,JbT h3',rfl,_,rfl,bo (λc1=>Jov _ J _ (JbT h2) _ _ _ rfl (bo (λc2=>k2 ?_) (λc2=>k ?_))) (λc1=>k ?_)⟩) (λhn=>?_) (λY=>?_)
 ·refine⟨_,rfl,A.h,A.dx,_,rfl,U1.ins,rfl,_,rfl,_,rfl,t,_,_,_,rfl,rfl,SqT.of h1,at1,lS3,λl hl=>?_⟩;have s2:JdH H1 H1 l (Jk0 J N):=Jdg hl;have l2:=ao (H:=H1) (a:=l) (o:=.tup (Jk0 J N));generalize Jk8 H1 l=W at s2 l2;have U2:=U1.same s2;have t2:=SqT.of (K:=K) (s2 _ _ h1);have X:=SqT.of (K:=K) (s2 _ _ h2);have th2:=SqT.of (K:=K) (s2 _ _ h3');let⟨F3,sF3,U3,t3⟩:=U2.sqF t2;let⟨F4,sF4,U4,tp4⟩:=U3.sqF X;have t4:=sF4.tup t3;have lat:jx S.ts ps=ps:=by rw[←d];exact AZ _ _ _
  have tr60:∀u∈S.ts,-60≤u.1∧u.1≤60:=λu hu=>by let⟨i,hi⟩:=List.getElem?_of_mem hu;exact(g i u hi).2.1
  refine⟨A,F4,O,pr,most,S,R,l,J,lnD ps hh,ps,rfl,U4,⟨Cg (SqT.of l2) X th2,nX _ _,JnP _ (SqT.of l2),X,Vx L.pl,Vx L.rl,tl,tr60,g.negs,λc=>Vx (L.gl c)⟩,λhm=>qE hn hm _ U2.t.f,λhm H5 O5 R5 U5=>?_⟩;rw[lat]at U5;have U6:=U5.base (sF3.trans sF4);refine rest (S.put (lnD ps hh) ps ps) O5 H5 R5 _ rfl rfl rfl rfl (g.more:TOk (S.rs++[ps]) S.ts) U6 (U5.t.f.tup t4) (U5.t.f.tup tp4) (λe=>?_) λa rs j la ea r D=>?_
  ·subst e;exact qN rfl hm _ _ _ U6
  ·have ne:JbG I≠[]:=by rw[d,ea];exact λz=>nomatch z
   let⟨a',rs',G,c1,c2,c3⟩:=L.c.next (by lia) ne (by rw[d];exact mx) r D.ok od1 od2;rw[d]at G c1;have e2:a'=a:=by rw[ea]at G;injection G with h;exact h.symm
   subst e2;subst ea;exact⟨c1 (lnD _ hh),c3 _ (by lia),⟨_,rs,m,j,la,d,by rw[d];exact mx,r,D.p,.inr ⟨λz=>hn ⟨z,λw=>nomatch w⟩,hm,by rw[Z]⟩⟩,.inr ⟨hm,by rw[d,Z];rfl,by rw[d];rfl⟩⟩
 ·refine QI (rest S O H1 R I rfl rfl rfl rfl g U1 (SqT.of h1) (SqT.of h2) (λe=>absurd e Y.2) λa rs j la ea r D=>?_);have ne:JbG I≠[]:=by rw[d];exact Y.2
  let⟨a',rs',G,c1,c2,c3⟩:=L.c.next (by lia) ne (by rw[d];exact mx) r D.ok od1 od2;rw[d]at G;have e2:a'=a:=by rw[ea]at G;injection G with h;exact h.symm
  subst e2;subst ea;exact⟨c2 Y.1,c3 _ (by have:=L.c.ln.f0;lia),⟨_,rs,m,j,la,d,by rw[d];exact mx,r,D.p,JiC Y.1⟩,JiC rfl⟩
 ·have d1:=oDq c1;injection d1 with d1;have d2:(0:Int)<(((ps.map V.int).length:Nat):Int):=oDq c2;rw[hhl]at d1;rw[hpl]at d2;exact JgO (λz=>by rw[z]at d2;exact Jak d2)
 ·have d2:¬(0:Int)<(((ps.map V.int).length:Nat):Int):=λz=>c2 (dTq z);rw[hpl]at d2;exact λz=>z.2 (List.length_eq_zero_iff.mp (by lia))
 ·exact λz=>c1 (dTq (by rw[hhl,z.1];rfl))
end
end K98
namespace L2
open PySem
def Kd (H:Hp)(d:Addr)(F:List Int):Prop:=∃kvs:List _,Jc2 d∧kvs.map (·.1)=F.map Sum.inl
def Kd.same (h:Kd H d F)(s:Xg H):Kd H' d F:=by let⟨kvs,b,a⟩:=h;exact⟨kvs,s _ _ b,a⟩
structure RS (ls)(N:Nat)(s)(F:List Int):Prop where
 nd:F.Nodup
 st:s∈F
 inn:∀u∈F,(0≤u∧u<(N:Int))∧hdL ls u=hdL ls s
def RS.len (h:RS ls N s F):F.length≤N:=gq N h.nd λx a=>(h.inn x a).1
abbrev Tm:=Str × List Int
def AlikeT (ts:List Tm)(c:Int→Int)(a b:Int):Prop:=∃t u,ts[a.toNat]?=some t∧ts[b.toNat]?=some u∧t.1=u.1∧t.2.map c=u.2.map c
structure LkOk (ts:List Tm)(gs:V3 Int)(pre)(l:Lk):Prop where
 a:0≤l.1∧l.1<(ts.length:Int)
 b:0≤l.2.1∧l.2.1<(ts.length:Int)
 new:hdL pre l.1≠hdL pre l.2.1
 how:(0≤l.2.2∧gs[l.2.2.toNat]?=some (l.1,l.2.1))∨(l.2.2=-1∧AlikeT ts (hdL pre) l.1 l.2.1)
def gK (ts:List Tm)(b:V3 Int)(a:List Lk):Prop:=∀i l,a[i]?=some l→LkOk ts b (a.take i) l
def gK.nil (ts)(a):gK ts a []:=λi l h=>by simp at h
def gK.inn (h:gK ts gs ls):InN ts.length ls:=λl d=>by let⟨i,c⟩:=List.mem_iff_getElem?.mp d;exact⟨(h i l c).a,(h i l c).b⟩
def gK.take (h:gK ts gs ls)(n):gK ts gs (ls.take n):=λi l a=>by
 have b:i<n:=by
  by_cases c:i<n
  ·exact c
  ·rw[List.getElem?_take,if_neg c]at a;cases a
 rw[List.getElem?_take,if_pos b]at a;rw[List.take_take,Nat.min_eq_left (by lia)];exact h i l a
def gK.his (h:gK ts gs ls):∀n,n≤ls.length→∃xs:List Int,Ja0 n∧xs.Nodup∧∀x∈xs,(0≤x∧x<(ts.length:Int))∧hdL (ls.take n) x≠x:=by
 intro n
 induction n with
 | zero=>exact λ_=>Jbn [] List.nodup_nil (λx c=>nomatch c)
 | succ n o =>
  intro s;let⟨xs,j,i,e⟩:=o (by lia);obtain⟨l,f⟩:∃l,ls[n]?=some l:=Jlj (by lia);have k:=h n l f;have d:=hdL_ok h.inn n (by lia);have q:=lohi (hdL (ls.take n) l.1) (hdL (ls.take n) l.2.1);have la:=d.in' k.a;have r:=d.in' k.b;have g:=d.hi_id l.1 l.2.1;have p:=k.new;refine⟨hiF _ _ :: xs,by rw[List.length_cons,j],JhN (λz=>(e _ z).2 g) i,λx c=>?_⟩;rw[bE f,wa];rcases List.mem_cons.mp c with rfl | c
  ·refine VI (by lia);unfold mrg;rw[if_pos g];lia
  ·refine VI ((e x c).1);have:=(e x c).2;have:=d.le x;unfold mrg;split <;> lia
def gK.len (h:gK ts gs ls):Jci ls.length:=by let⟨xs,c,b,a⟩:=h.his ls.length (nRq _);rw[←c];exact gq _ b λx d=>(a x d).1
def bj.sd (h:JjF P w H d):JoG (XE d o):=λb xs q=>by
 have a:b≠d:=λe=>by
  subst e;rcases h with ⟨h,_⟩ | h
  ·rcases q with q | ⟨u,q⟩
   ·rw[h]at q;cases q
   ·rw[h]at q;cases q
  ·rcases q with q | ⟨u,q⟩
   ·rw[h]at q;cases q
   ·rw[h]at q;cases q
 rcases q with q | ⟨u,q⟩
 ·exact .inl (by rw[aq a];exact q)
 ·exact JaF u (by rw[aq a];exact q)
def SD.nol (h:JjF P w H d)(xs):H d≠some (.lst xs):=λe=>by
 rcases h with ⟨h,_⟩ | h
 ·rw[h]at e;cases e
 ·rw[h]at e;cases e
def SD.to (h:JjF P w H d)(k:∀o,Jiv d o d o):JjF P w H' d:=h.imp (λz=>⟨k _ z.1,z.2⟩) λz=>k _ z
def e_.keep (h:e_ K H k p)(a:JoG H'):e_ K H' k p:=by let⟨q,c,b⟩:=h;exact⟨q,a.sq c,a.sq b⟩
def NtR (kvs:List SE)(a:V3 Sgn):Prop:=kvs.map (λe=>(e.1,e.2.2))=a.map λx=>(x.1,V.int x.2)
theorem NtR.at:∀ {kvs:List SE} {a:List (Sgn × Int)},NtR kvs a→(∃e x,Xa (Je3 k) e∧a.find? (λe=>decide (e.1=k))=some x∧Jjl e.2.2 x.2)∨(Qu (Je3 k)∧a.find? (λe=>decide (e.1=k))=none)
 | [],[],_=>Jnt rfl
 | [],x :: a,h=>by cases h
 | e :: kvs,[],h=>by cases h
 | e :: kvs,x :: a,h=>by
  unfold NtR at h;rw[List.map_cons,List.map_cons]at h;injection h with g f;injection g with b d;by_cases c:e.1=k
  ·refine .inl ⟨e,x,?_,?_,d⟩
   ·unfold atS;rw[List.find?_cons_of_pos (by exact dTq c)]
   ·rw[List.find?_cons_of_pos (by exact dTq (b ▸ c))]
  ·have i:atS (e :: kvs) k=atS kvs k:=by unfold atS;rw[List.find?_cons_of_neg (by simpa using c)]
   rw[i,List.find?_cons_of_neg (by simpa using (λz=>c (b.trans z)))];exact NtR.at f
end L2
namespace L2
open PySem PySem.Spec PyProof.Rows
section
variable {X:Cx} {pins:List (Jbp Obj)} {σ:St} {H:Hp} {s:Shared} {d:Addr} {kvs:List SE}
def gL (K:W.Frag)(H:Hp)(kvs:List SE):Prop:=∀e∈kvs,e_ K H e.1 e.2.1
def sv (I:QD s)(y:JjF X.prog X.w H d)(h:gL X.K H kvs) :
  (d == sysModules)=false∧Jm9 d∧∃xs:Jf Sgn (Jbp Value),JlS xs∧s.heap.DictOfH (JfP X.w) d xs:=by
 have u:QM (d == sysModules)∧Jm9 d∧∃xs:List _,JlS xs ∧
   ∃o es i,s.heap.get? d=some o∧o.ExactDict∧JnT i∧es.toList=Jfs (JfP X.w)∧(xs.map (·.1)).Nodup:=by
  rcases y with ⟨e,rfl⟩ | e
  ·let⟨z,f,D,c,o,es,i,q,p,n,k,j,E⟩:=Jkv e;cases c;refine⟨f,by rw[e];exact True.intro,[],.nil,o,es,i,q,p,n,?_,List.nodup_nil⟩;cases es with
   | mk l =>
    cases l with
    | nil=>rfl
    | cons a r=>exact absurd j (by intro z;cases z)
  ·let⟨⟨f,xs,r⟩⟩:=JbR d e;exact⟨f,by rw[e];exact True.intro,xs,r⟩
 let⟨f,A,xs,c,o,es,i,q,p,n,k,j⟩:=u;have v:∀x∈xs,(JfP X.w).is s.heap x.1 x.2.1:=by
  clear k j y
  induction c with
  | nil=>intro x g;exact nomatch g
  | @cons a b F bs r t B =>
   intro x g;rcases List.mem_cons.mp g with rfl | g
   ·have:=Jam a;rw[r.1,r.2.1]at this;exact jY I this
   ·exact B (λe C=>h e (Xe C)) x g
 exact⟨f,A,xs,c,o,es,i,q,p,n,k,v,j⟩
def sd_new (o:QM (d == sysModules))(c:JlS xs)(dd:h'.DictOfH (gv P w) d xs):(∃q,h'.get? d=some q)∧bU P w H' h' d (gx P w d kvs):=by let⟨r,g,i,e,y,x,v,A,u⟩:=dd;refine⟨V8 e,⟨o,_,c,r,g,i,e,y,x,v,u⟩,V8 e,λa b z t=>?_⟩;let⟨n,ys,l,p,f,h,k,j⟩:=z;exact⟨n,ys,l,p,f,h,t _ k,j⟩
inductive rInS (P)(w)(K)(neg):R2|m{x y H Q} p d k kvs:JfV x p (Jow y d (JjF P w H d) (gL K H kvs) (e_ K H k p) (Jx (if Vq neg then !(Je3 k).isSome else(Je3 k).isSome) H→rInS P w K neg x y H Q))
def xF (r:JlS xs)(k):(Je1 xs).isSome=(Je3 k).isSome:=by
 rcases mZ r k with ⟨e,q,b,a,_⟩ | ⟨b,a⟩
 ·rw[b,a];rfl
 ·rw[b,a];rfl
def op_inS (l:Jbj 64):Qx X .In (rInS X.prog X.w X.K false):=by intro pins s σ H x y v u Q I f e h;let⟨p,d,k,kvs,rfl,rfl,i,b,g,q⟩:=h;cases f;cases e;let⟨c,j,xs,a,dd⟩:=sv I i b;refine wpAny_in_heap (knd:=JfP X.w) (by show VC (JaG 1+10);lia) (jY I g) c dd (Jmp _ _ ?_);rw[xF a];exact q
def getS (kvs:List SE)(k:Sgn)(a:V):V:=((Je3 k).map λe=>e.2.2).getD a
inductive sx (P)(w)(K):V→List V→Hp→VK→Prop|m{x vs H Q} d p k dv kvs:Jow x d (vs=JfJ p dv) (JjF P w H d) (gL K H kvs) (e_ K H k p→Q (getS kvs k dv) H→sx P w K x vs H Q)
def Cj (D:Jbj 64):MtR X "dict.get" (sx X.prog X.w X.K):=by
 intro pins s σ H x vs v us Q I l n h;let⟨d,p,k,y,kvs,rfl,rfl,z,b,u,q⟩:=h;cases l;cases n with
 | cons o t =>
 cases t with
 | @cons _ g _ _ j t =>
 cases t;cases o;let⟨i,C,xs,a,dd⟩:=sv I z b;refine Jji dd.typeIs (Jht _ _) (meetsH_dict_get_default (JfP X.w) d p i g) ⟨(by show VC (JaG 1+10);lia),k,xs,jY I u,dd,?_⟩;unfold getS at q;rcases mZ a k with ⟨e,B,f,c,r⟩ | ⟨f,c⟩
 ·rw[f]at q;rw[c];exact Q5 _ H _ r q
 ·rw[f]at q;rw[c];exact Q5 _ H _ j q
def tGetS (P:Program)(w:World)(K:W.Frag)(b:TE)(t:TA):TE:=λσ H Q=>b σ H λx a=>(∃d kvs,Jny d∧JjF P w a d)∧t σ a λxs c=>sx P w K x xs c Q
def Ck (r:Jbj 64)(u:VE o to)(y:JgK X e t)
  (c:Jjg o "get" o=eval o X.env:=by rfl)
  (f:Vq ((JfW (Jft e)).all (λx=>!x.1)&&(JnH []).all (λx=>x.1.isSome)
   && decide ((Jft e).length+([]:List Keyword).length+(if([]:List Keyword).isEmpty then 0 else 1)<30)):=by rfl)
  (b:Vq (apos.endLine == cpos.line):=by rfl)(hs:Jfu e=(false,Vg e) :: starEach es X.env:=by rfl)(a:(JfW es).any (·.1)=false:=by rfl) :
  PE X (JlK o "get" (Jft e) [] cpos) (tGetS X.prog X.w X.K to t):=by intro pins s σ H Q I h;refine JdV c f b (thn (u pins s σ H _ I h) λv l ⟨x,G,i,p,⟨d,kvs,C,j⟩,q1⟩=>?_);subst C;cases p;let⟨B,z⟩:=sd_is i j;refine Joa "dict" "dict.get" PySem.F.slot_dict_get PySem.F.type_dict_get B z ?_;have g:=y cpos pins l σ G _ i q1;rw[hs]at g ⊢;refine VD (by show QM (false||(JjW _).any _);rw[a] <;> rfl) ?_;exact thn g λus k ⟨vs,E,D,n,q⟩=>Cj r pins k σ E (.ref d) vs _ us Q D rfl n q
def hW (kvs:List SE)(k:Sgn)(p:Addr)(v:V):List SE:=if(Je3 k).isSome=true then kvs.map λe=>if e.1=k then(e.1,e.2.1,v) else e else kvs++[(k,p,v)]
def Cm (r:JlS xs)(k)(p){v:V}{u:Value}(g:Jf2 v):Jff (hW kvs k p v) (storedH xs k p u):=by
 unfold hW storedH;have e:=xF r k;rw[←e];by_cases hs:(Je1 xs).isSome=true
 ·rw[if_pos hs,if_pos hs];clear e hs
  induction r with
  | nil=>exact .nil
  | @cons a b h bs r t f =>
   refine .cons ?_ f;unfold putAt;show fU (if a.1=k then(a.1,a.2.1,v) else a) _
   by_cases c:a.1=k
   ·rw[if_pos c,if_pos (r.1.symm.trans c)];exact⟨r.1,r.2.1,g⟩
   ·rw[if_neg c,if_neg (λz=>c (r.1.trans z))];exact r
 ·rw[if_neg hs,if_neg hs];clear e hs
  induction r with
  | nil=>exact Jdx (JkM g)
  | cons r t f=>exact JhE f
inductive rPutS (P)(w)(K):TSet|m{o i v H Q} d p k kvs:JfV o d (Jow i p (JjF P w H d) (JaM kvs.length) (gL K H kvs) (e_ K H k p→Q (XE d (gx P w d (hW kvs k p v)))→rPutS P w K o i v H Q))
def pset_S (C:Jbj 64):PSet X (rPutS X.prog X.w X.K):=by intro pins s σ H o i v y B u Q I g j f h;let⟨d,p,k,kvs,rfl,rfl,x,hz,b,t,q⟩:=h;cases g;cases j;let⟨e,r,xs,a,dd⟩:=sv I x b;have z:=Paired.length a;refine wpAny_setItem_heap (knd:=JfP X.w) (hsz:=by lia) (by show VC (JaG 1+10);lia) (jY I t) dd λh' c hs=>?_;let⟨n,l⟩:=sd_new (H':=XE d (gx X.prog X.w d (hW kvs k p v))) e (Cm a k p f) c;exact JnP (jk I r hs n l) q
end
end L2
namespace K98
open PySem L2
section
variable {K:W.Frag}
def lE {H:Hp}{c:List At}{xs:List V}{i:Nat}{x:V}(h:JhZ (c.map dA))(e:xs[i]?=some x):∃a,c[i]?=some a∧Has K H (dA a) x:=by
 let⟨d,b,f⟩:=h.get e;rw[List.getElem?_map]at b;cases q:c[i]? with
 | none=>rw[q]at b;cases b
 | some t =>
  rw[q]at b;cases b;exact Qd t f
end
def iU (b:List At):Prop:=∀a∈b,∃z,a=.plain z
structure iV (T:List Tm):Prop where
 nd:T.Nodup
 len:T.length≤60
 ps:∀t∈T,t.2.length≤3∧∀p∈t.2,0≤p∧p<(T.length:Int)
structure PrP (K)(C)(H)(p)(As):Prop where
 ex:∃tl al rl T Rs,Jkn C∧iV T
 pl:iU As
def PrP.same (h:PrP K C H p As)(s:Xg H):PrP K C H' p As:=by let⟨a,e,b,T,Rs,d,c⟩:=h.ex;exact⟨⟨a,e,b,T,Rs,d.same s,c⟩,h.pl⟩
theorem nY:∀ {ns:List Int} {xs:List V},JhZ (ns.map Dt.int)→xs=ns.map V.int
 | [],xs,h=>by simpa only [List.map_nil,ar] using h
 | n :: ns,xs,h=>by simp only[List.map_cons,ar,Has]at h;let⟨v,r,rfl,rfl,h⟩:=h;rw[nY h];rfl
def tmAt {K:W.Frag}{H:Hp}{ts:List Tm}{xs:List V}{i:Nat}{x:V}(h:JdK dT xs)(e:xs[i]?=some x):∃t p q,ts[i]?=some t∧Jny p∧Ji1 p t.1 q∧SqT K H q (t.2.map V.int):=by let⟨d,b,a⟩:=h.get e;rw[List.getElem?_map]at b;let⟨t,l,k⟩:=Option.map_eq_some_iff.mp b;rw[←k]at a;simp only[dT,Has,ar]at a;let⟨p,zs,j,g,r,u,rfl,rfl,o,s,rfl,⟨q,n,rfl,f,c⟩,rfl⟩:=a;have:=nY c;subst this;exact⟨t,p,q,l,j,g,f⟩
structure TxG (K)(CG):Prop where
 cl:Cls K CG
 nL:cF K CG "least"
 nG:cF K CG "gathered"
structure GE (C)(H:Hp)(g):Prop where
 ex:∃dx ld gd,Jig g [("least",.ref ld),("gathered",.ref gd)]∧JaJ ld []
def GE.same (h:GE C H g)(s:Xg H):GE C H' g:=by let⟨e,a,d,c,b⟩:=h.ex;exact⟨e,a,d,s _ _ c,s _ _ b⟩
abbrev xG:Stmt:=wH
inductive nZ (C):Sp|m{vs H Q E9} (g dx):vs=Vz g→Jig g []→(∀H':Hp,(∀b o,b≠g→Jiv b o b o)→GE C H' g→Jen H')→nZ C vs H Q E9
def Cn:Vj ["self"] ["self"] xG:=fsc
section
variable {P:Program} {w:World} {K:W.Frag} {mg:Str→Option Value} {base:Heap} {aK C CP CM CG CL f fI fS fH fL fG fA fO fD fK fT:Addr} {fd dI dS dH dL dG dA' dO dD dK' dT':FuncData}
def Co (F:Jmb "Groups.__init__" xG)(T:TxG K CG):Jhb ["self"] (nZ CG):=by
 refine F.ok Cn (λvs H Q E h=>?_) (λcdv A outer s H vs Q E B h=>?_)
 ·let⟨g,d,rfl⟩:=h;rfl
 let⟨g,d,rfl,r,q⟩:=h;refine JN (Jjt (Jhj fj) (Jhj fj))
 rfl'
 refine λa c=>?_;have x:=bV r c;have p:(Xo H a []) g=some (.ins CG d []):=by rw[aq x];exact r
 have k1:∀b o,Xh b o→(Xo H a []) b=some o:=Jdg c;refine Jmm g CG d _ p T.cl T.nL (by decide);have j:(upd (Xo H a []) g (.ins CG d (JkC "least" a []))) g=some _:=ao;have k2:∀b o,b≠g→Xh b o→(upd _ g (.ins CG d (JkC "least" a []))) b=some o:=λb o e h=>by rw[aq e];exact k1 b o h
 have k:∀b o,b≠g→(Xo H a []) b=some o→(upd _ g (.ins CG d (JkC "least" a []))) b=some o:=λb o e h=>by rw[aq e];exact h
 generalize Jk8 _ g=y at j k2 k;refine λt i=>?_;have v:=bV j i;refine Jmm g CG d _ (by rw[aq v];exact j) T.cl T.nG (by show JhI 1;decide);have u:a≠g:=λz=>by rw[z,r]at c;cases c
 have l:=k _ _ u ao;refine q _ (λb o e h=>?_) ⟨d,a,t,ao,by rw[aq u,Jch l i];exact l⟩;have n:b≠t:=λz=>by have:=k2 b o e h;rw[z,i]at this;cases this
 rw[aq e,aq n];exact k2 b o e h
def sy (g:Vu x)(a:Vu dx)(k:∀b o,b≠x→(upd (XE dx u) x v) b=some o→Xa (H1 b) o):Jna H1:=λb o e=>by
 have c:b≠x:=λz=>by rw[z,g]at e;cases e
 have d:b≠dx:=λz=>by rw[z,a]at e;cases e
 exact k b o c (by rw[aq c,aq d];exact e)
abbrev xH:Stmt:=wI
abbrev xI:Stmt:=wJ
inductive lF (C):Sp|m{vs H Q E9} (g) (t):vs=JfK g t→GE C H g→Q7 t H→lF C vs H Q E9
def Cp:Jma (VL "term") "term" xH:=fsc
def Cq (F:V4 "head" "Groups.head" xH)(T:TxG K CG):Jhb (VL "term") (lF CG):=by
 refine F.ok Cp (λvs H Q E h=>?_) (λcdv A outer s H vs Q E d h=>?_)
 ·let⟨g,t,rfl⟩:=h;rfl
 let⟨g,t,rfl,G,q⟩:=h;have c:=c_ d;let⟨i,b,j,e,a⟩:=G.ex;refine JN (Qi (my c (Js 0) (pv 1) (pv 1) (Jj5 rfl)))
 rfl'
 exact⟨_,rfl,g,CG,i,_,_,rfl,e,T.cl,T.nL,rfl,b,rfl,Jjv _ a,_,rfl,_,rfl,_,cn.k (k:=Sum.inl t) a,q⟩
inductive sC (C):Sp|m{vs H Q E9} (g) (t):vs=[.ref g,.int t,.int t]→GE C H g→Jev H→sC C vs H Q E9
def Cr:Vj (Jb3 "one") (Jb3 "one") xI:=fsc
def Cs (F:V4 "together" "Groups.together" xI)(T:TxG K CG)(M:Jnl CG "head" fH)(e:QR 1 fH dH (VL "term") (lF CG))(d:Ja9 dH "term"):JeF 2 (Jb3 "one") (sC CG):=by
 refine F.ok Cr (λvs H Q E h=>?_) (λcdv A outer s H vs Q E a h=>?_)
 ·let⟨g,t,rfl⟩:=h;rfl
 let⟨g,t,rfl,G,q⟩:=h;let⟨c,i,k,b,j⟩:=G.ex;refine JN (Qi (cZ bZ (Jbw 0 M e a d aJ (Vh 1)) (Jbw 0 M e a d aJ (Vh 2))))
 rfl'
 refine⟨_,rfl,g,c,_,rfl,b,rfl,_,rfl,g,t,rfl,G,_,rfl,g,c,_,rfl,b,rfl,_,rfl,g,t,rfl,G,rfl,?_⟩;rw[dTq rfl];exact q
inductive sD (K):Sp|m{vs H Q E9} (a) (g):vs=JfJ a g→Jz H a []→(∀H' l,Jga H l (JQ l []) l)→sD K vs H Q E9
def n_:Vj ["given","groups","found","number","pair"] (JjZ "given") qt:=fsc
def Ct (F:V4 "given_links" "given_links" qt)(n:Jfl K):Jhb (JjZ "given") (sD K):=by
 refine F.ok n_ (λvs H Q E h=>?_) (λcdv A outer s H vs Q E o h=>?_)
 ·let⟨a,g,rfl⟩:=h;rfl
 let⟨a,g,rfl,j,q⟩:=h;refine JN (JH (i:=2) n_.nd (bM ac) (cc PassesOwn.never rfl (mD rfl n.enumerate (Vh 0)) (JkX rfl (i:=3) n_.nd (i:=4) n_.nd gf)
   cb) (JjJ 2))
 rfl'
 refine Jf6 (λl d=>?_);have c:JeN H H l []:=Jdg d;refine Jhk _ a (c.seq j) (cy (tb:=λ_ _ _=>False) (mz) (λi b H'=>b=[some _,some g,some _,none,none]∧H'=XE l _) (λi b H' h=>by let⟨_,e⟩:=h;exact e ▸ c.seq j) (Vf rfl) ?_ ?_)
 ·rintro i b r x p k;exact J2 k _
 rintro b H' ⟨rfl,rfl⟩;exact QI (q _ l c d ao)
def jz:Vj ["terms","groups","noted","found","number","term","sign","first"] (JjZ "terms") nj:=fsc
noncomputable def sgT (t:Tm):Sgn:=(t.1,t.2.map Sum.inl)
def Cu (h:sgT t=sgT u):t=u:=by have c:=Jhe h;have b:t.2.map _=u.2.map Sum.inl:=Jlv h;have a:=congrArg (List.map (Sum.elim id λ_=>(0:Int))) b;rw[List.map_map,List.map_map]at a;exact Prod.ext c (by simpa using a)
def atS_no (e:kvs.map (·.1)=ks)(h:k∉ks):Qu (Je3 k):=by refine List.find?_eq_none.mpr λx a z=>h ?_;rw[←oDq z,←e];exact Xz x a rfl
def jA {c β:Type}{T:List c}{f:c→β}{i:Nat}{t:c}(l:T.Nodup)(h:T[i]?=some t)(d:∀ {a b},f a=f b→a=b):f t∉(T.take i).map f:=λz=>by
 let⟨u,n,e⟩:=List.mem_map.mp z;cases d e;let⟨j,k⟩:=List.getElem?_of_mem n;have g:j<i:=by have:=(gEq k).1;rw[List.length_take]at this;lia
 rw[List.getElem?_take,if_pos g]at k;have:=(gEq h).1;have:=(List.getElem?_inj (by lia) l).mp (k.trans h.symm);lia
inductive sG (K)(C):Sp|m{vs H Q E9} (a g) (T) (xs):vs=Jaz a g→Je7 a→JjQ dT→iV T→GE C H g→(∀H' l,Jga H l (JQ l []) l)→sG K C vs H Q E9
def Cv (F:V4 "alike_links" "alike_links" nj)(TB:Jfl K)(T:TxG K CG)(TT:QG "tuple")(MH:Jnl CG "head" fH)(Bh:QR 1 fH dH (VL "term") (lF CG))(bh:Ja9 dH "term")
  (MT:Jnl CG "together" fT)(Bt:QR 2 fT dT' (Jb3 "one") (sC CG))(bt:Jw dT' (Jb3 "one")):JeF 3 (JjZ "terms") (sG K CG):=by
 refine F.ok jz (λvs H Q E h=>?_) (λcdv A outer s H vs Q E hr h=>?_)
 ·let⟨a,g,Ts,xs,rfl,_⟩:=h;rfl
 let⟨a,g,Ts,xs,rfl,hS,hL,ok,G,q⟩:=h;have hu:=gH hr;have hr1:a_ 1 _:=hr.mono (by decide);have xl:Ja0 Ts.length:=by rw[←hL.length,lM]
 refine JN (JfB (i:=2) jz.nd fj (i:=3) jz.nd (bM ac) (Jdd (Jcb (mD rfl TB.enumerate (Vh 0)) (JkX rfl (i:=4) jz.nd (i:=5) jz.nd gf) (JfB (i:=6) jz.nd (Jh9 (JC 5) (JA gk rfl TT (Qc (Vw (N':=JjZ "part") (ix:=[1]) rfl rfl rfl (λok=>JjO (sc:=ai nj)) rfl rfl (JdN _) (ej (JC 5)) (λ_ _ _ _=>(Jbw 1 MH Bh hr1 bh aJ (Vh 0))))))) (i:=7) jz.nd (A9 hu (pv 2) (V6 6 4)) (aj (Jnk (Jcw (Jbw 1 MT Bt hr bt aJ (V6 7 4))))))) (pv 3)))
 rfl'
 rfl'
 refine λc hnd=>?_;let⟨H0,v,s0,n0⟩:=nwH hnd (.dK []);rw[v];refine Jf6 (λX U=>?_);have hfl0:=s0.free U;let⟨H1,v,R,n1⟩:=Xj U [];rw[v];have ndf:c≠X:=λe=>by rw[e]at n0;rw[U]at n0;cases n0
 refine JdD _ a (QE _ ((s0.trans R) _ _ hS)) (Jim mz (λi σ H'=>Ex5 λ v4 v5 v6 v7 (kvs:List SE)=>An6 (σ=[Ja a,Ja g,Ja c,Ja X,v4,v5,v6,v7]) (Xg H) (JQ X []) (JjF P w H' c) (kvs.map (·.1)=(Ts.take i).map sgT) (gL K H' kvs)) (λi σ H' h=>by let⟨_,_,_,_,_,_,O,_⟩:=h;exact SqL.of (O _ _ hS)) (Jhr none none none none [] (s0.trans R) n1 (JiC (R _ _ n0)) rfl (λe l=>nomatch l)))
 ·rintro i σ H2 x H3 hi ⟨v4,v5,v6,v7,kvs,rfl,O,W,D2,ek,sg2⟩ ⟨t,y,rfl,ht,rfl,hy⟩;let⟨b,p,pq,S,rfl,hp,hpq⟩:=tmAt hL (hy _ (SqL.of (O _ _ hS)));let⟨H3,v,s23,n3⟩:=Xv ht (Jej i p);rw[v];have M:=O.trans s23;have hp3:=M.tup hp;have d:=M.tup hpq;have a0:Q8 b.1 pq 0=some (.str b.1):=VW (j:=0);have a1:Q8 b.1 pq 1=some (.ref pq):=VW (j:=1);have lt:=(ok.ps b (mO S)).1;refine⟨t,_,rfl,SqT.of n3,rfl,_,_,rfl,_,_,rfl,rfl,?_⟩;refine⟨_,rfl,p,_,_,_,rfl,rfl,hp3,a0,_,rfl,p,_,_,_,rfl,rfl,hp3,a1,pq,rfl,V8 d,λD hD=>Jm3 dU (λj ys H'=>Xg H3∧ys=(b.2.take j).map V.int) (λj ys H' ⟨N,_⟩=>N.tup d) hD ?_ ?_⟩
  ·rintro j ys H4 x H5 hj hly r ⟨N,rfl⟩ ⟨rfl,hx⟩;let⟨n,hn,rfl⟩:=Jkc _ (N.tup d);have G4:=(G.same M).same N;let⟨dx,ld,gd,e1,_⟩:=id G4.ex;rw[lM]at hj;refine⟨_,rfl,g,dx,_,rfl,e1,rfl,_,rfl,g,n,rfl,G4,JoU (bsz _ (by rw[lM];lia)) (by rw[lM];exact hj) r (N.upd hD)⟩;rw[bE hn,mAq];rfl
  rintro ys H4 r ⟨N,rfl⟩;rw[lM,Jc_ _]at r;refine Jv D _ (JeO r (λu hu'=>?_));let⟨H5,v,s45,n5⟩:=Xv hu' (b.2.map V.int);rw[v];refine⟨lS2,λJ hsg=>?_⟩;let⟨B,v,Z,n6⟩:=Xv hsg (VV b.1 u);rw[v];have k:ap H2 B:=((s23.trans N).trans s45).trans Z;have sH6:=O.trans k;have D6:JjF P w B c:=D2.to λo z=>k _ _ z;have Y:gL K B kvs:=λe l=>(sg2 e l).keep k.kt;have I:e_ K B (sgT b) J:=⟨u,SqT.of n6,by show QC B u ((b.2.map Sum.inl).map kV);rw[List.map_map];exact SqT.of (Z _ _ n5)⟩
  have kl:JbA i:=by have:=congrArg List.length ek;rw[lM,lM,List.length_take]at this;lia
  have iN:i<Ts.length:=by rw[←xl];exact hi
  have:=ok.len;have nok:Qu (Je3 (sgT b)):=atS_no ek (jA ok.nd S Cu);refine⟨_,rfl,Jv c kvs D6,_,rfl,_,rfl,c,J,sgT b,.int i,kvs,rfl,rfl,D6,cR (by lia),Y,I,.inr (VI nok)⟩;have kt:=bj.sd (o:=gx P w c (kvs++[(sgT b,J,.int i)])) D6;have L:Jna (upd B c (gx P w c (kvs++[(sgT b,J,.int i)]))):=sH6.upd hnd;have hf7:(upd B c (gx P w c (kvs++[(sgT b,J,.int i)]))) X=some (.lst []):=by rw[Jix ndf];exact k _ _ W
  have n7:=ao (H:=B) (a:=c) (o:=gx P w c (kvs++[(sgT b,J,.int i)]));generalize Jk8 B c=H7 at kt L hf7 n7;have G7:=G.same L;let⟨dx,ld,gd,e1,_⟩:=id G7.ex;refine⟨_,rfl,g,dx,_,rfl,e1,rfl,_,rfl,_,rfl,g,i,rfl,G7,_,rfl,bq (Jhr _ _ _ _ _ L hf7 (.inr n7) ?_ (λe l=>?_))⟩
  ·rw[mAq,ek,bE S,mAq];rfl
  ·rcases mPq l with l | l
   ·exact(Y e l).keep kt
   ·rw[mS l];exact I.keep kt
 ·rintro σ H' ⟨v4,v5,v6,v7,kvs,rfl,O,W,_⟩;exact QI (q _ X O hfl0 W)
inductive sI (K):Sp|m{vs H Q E9} (a b) (T) (xs):vs=Jaz a b→Je7 a→JjQ dT→iV T→Jz H b []→(∀H' l,Jga H l (JQ l []) l)→sI K vs H Q E9
def oa:Vj ["terms","given","groups","found","more"] ["terms","given"] qu:=fsc
def Cw (F:V4 "links" "links" qu)(S:Jfl K)(T:Mk K CG fI)(X:QR 1 fI dI ["self"] (nZ CG))(R:Jnx dI)(N:mg "Groups"=Ja CG)
  (e:Jiu "given_links" fG dG (JjZ "given") (sD K))(l:JgD 3 "alike_links" fA dA' (JjZ "terms") (sG K CG)):JeF 4 ["terms","given"] (sI K):=by
 refine F.ok oa (λvs H Q E h=>?_) (λcdv A outer s H vs Q E p h=>?_)
 ·let⟨a,b,Ts,xs,rfl⟩:=h;rfl
 let⟨a,b,Ts,xs,rfl,J,G,z,I,q⟩:=h;have o:=p.mono (j:=1) (by decide);refine JN (JfB (i:=2) oa.nd (ky T X (p.mono (by decide)) rfl N R .nil aJ) (i:=3) oa.nd (Jki e.ok o e.m e.kp e.b 1 2) (JH (i:=4) oa.nd (Jki l.ok p l.m l.kp l.b 0 2) (Jl4 (Jhy eu (QS bO S.len (Vh 4))) cb) (JjJ 3)))
 rfl'
 refine λg O D r _=>VO g O ao (λH1 k1 W=>VI rfl);have n:=sy D r k1;refine⟨_,rfl,_,rfl,b,.ref g,rfl,n.seq I,λZ y v B M=>?_⟩;have d:=n.trans v;refine JeT _ _ rfl a g Ts xs rfl (d _ _ J) (G.keep d.kt (eE Ts)) z (W.same v) (λU x u Y L=>?_);refine Qj (λk t H'=>t=[some _,some _,some _,some _,some _]∧H'=U) (Qd 0 rfl);rintro k t H' ⟨rfl,rfl⟩;refine Jov _ x _ (Vd L) _ _ _ rfl (VY (λc=>Jak c));exact QI (q _ y (d.trans u) (n.free B) (u _ _ M))
inductive sJ (K)(C):Sp|m{vs H Q E9} (a):vs=Vz a→Jz H a []→(∀H' g,Jln (GE C H' g) g)→sJ K C vs H Q E9
def sL:Vj ["links","groups","link"] ["links"] qv:=fsc
def ok_gof (F:V4 "groups_of" "groups_of" qv)(t:Mk K CG fI)(y:QR 1 fI dI ["self"] (nZ CG))(r:Jnx dI)(o:mg "Groups"=Ja CG):JeF 3 ["links"] (sJ K CG):=by
 refine F.ok sL (λvs H Q E h=>?_) (λcdv A outer s H vs Q E k h=>?_)
 ·let⟨a,rfl⟩:=h;rfl
 let⟨a,rfl,j,q⟩:=h;refine JN (JH (i:=1) sL.nd (ky t y k rfl o r .nil aJ) (Jj6 (pv 0) (i:=2) sL.nd cb) (JjJ 1))
 rfl'
 refine λg p n d _=>VO g p ao (λu k1 v=>VI rfl);have c:=sy n d k1;refine Jhk _ a (c.seq j) (cy (tb:=λ_ _ _=>False) (cU) (λi b H'=>b=[some _,some _,none]∧H'=u) (λi b H' h=>by let⟨_,e⟩:=h;exact e ▸ c.seq j) (Vf rfl) ?_ ?_)
 ·rintro i b B x z l;exact J2 l _
 rintro b H' ⟨rfl,rfl⟩;exact QI (q _ g c v)
noncomputable def ups (n:Nat):List Int:=(List.range n).map λi:Nat=>(i:Int)
inductive og (K):Sp|m{vs H Q E9} (a) (n):vs=Jej (n:Int) a→n≤60→Jz H a []→(∀H' l,Jga H l (JQ l ((ups n).map V.int)) l)→og K vs H Q E9
def xJ:Vj ["many","links","groups"] ["many","links"] nq:=fsc
def Cy (F:V4 "heads" "heads" nq)(L:Jfl K)(T:TxG K CG)(e:JgD 3 "groups_of" fO dO ["links"] (sJ K CG))(M:Jnl CG "head" fH)(R:QR 1 fH dH (VL "term") (lF CG))(J:Ja9 dH "term"):JeF 4 ["many","links"] (og K):=by
 refine F.ok xJ (λvs H Q E h=>?_) (λcdv A outer s H vs Q E r h=>?_)
 ·let⟨a,n,rfl⟩:=h;rfl
 let⟨a,n,rfl,y,B,q⟩:=h;have k:a_ 1 _:=r.mono (by decide);refine JN (Jdd (Jgq (i:=2) xJ.nd rfl rfl (Jgl e.ok r e.m e.kp e.b 1)) (Vw (N':=JjZ "term") (ix:=[2]) rfl rfl rfl (λv=>JfS (sc:=ai nq) v) rfl rfl (JdN _) (ig rfl L.range (Vh 0)) (λ_ _ _ _=>(Jbw 1 M R k J aJ (Vh 0)))))
 rfl'
 rfl'
 refine JdD _ a B (λN g p O=>?_);refine Jk9 _ rfl n rfl (by lia) (λD o=>Jm3 zx (λi us H'=>Xg N∧us=(ups i).map V.int) (λ_ _ _ _=>trivial) o ?_ ?_)
 ·rintro i us t x W z l c ⟨d,rfl⟩ ⟨rfl,rfl⟩;have u:=O.same d;let⟨I,S,U,G,_⟩:=id u.ex;refine⟨_,rfl,g,I,_,rfl,G,rfl,_,rfl,g,_,rfl,u,Jep (JdB _) z l c (d.upd o)⟩;unfold ups;rw[List.range_succ,mAq,mAq,Int.zero_add];rfl
 ·rintro us t c ⟨d,rfl⟩;exact q t D (p.trans d) (p.free o) c
inductive oh (K)(C):Sp|m{vs H Q E9} (p) (As) (k):vs=JfK p k→PrP K C H p As→Jen H→oh K C vs H Q E9
def xK:Jje (Jbr "number" "atom") "number" qI:=fsc
def Cz (F:V4 "sameness" "sameness" qI)(T:JcR C):Jhb (Xt "number") (oh K C):=by
 refine F.ok xK (λvs H Q E h=>?_) (λcdv A outer s H vs Q E X h=>?_)
 ·let⟨p,v,k,rfl⟩:=h;rfl
 let⟨p,v,k,rfl,S,q⟩:=h;let⟨N,u,O,Ts,Rs,I,W⟩:=S.ex;let⟨⟨t,l⟩,_,⟨ys,n,o⟩⟩:=id I;have J:JdA v.length:=by rw[←o.length,lM]
 refine JN (JcI (be (Jg8 (Jcj jJ 1 af) (Jcj eu 1 (JoP bO 0))) (Qi eP)
   aU) (Qn (i:=2) xK.nd (aI cu (Js 0) (JdJ gh 1))) (iZ (Jmt 2) rY eP))
 rfl'
 refine Jhs _ rfl _ _ rfl _ rfl (bo (λ_=>q) (λc=>?_));refine⟨_,rfl,_,rfl,p,C,t,_,_,rfl,l,T.cl,T.nA,iC _ _ _,u,_,rfl,Vd n,_,_,rfl,rfl,_,rfl,bo (λ_=>q) (λc=>?_)⟩;obtain⟨j,G,y⟩:∃j:Nat,k-1=(j:Int)∧j<ys.length:=Jhu ((k-1).toNat) (by lia);have g:=gG y;let⟨a,B,r⟩:=lE o g;let⟨z,rfl⟩:=S.pl a (mO B);simp only[dA,Has,ar]at r;let⟨e,zs,D,x,M,U,rfl,rfl,L,R,rfl,rfl,rfl⟩:=r;have b:atI ys (k-1)=some (.ref e):=by rw[G,←D];exact ay g
 have d:JcW z 0=some _:=ay rfl;refine⟨_,rfl,p,C,t,_,_,rfl,l,T.cl,T.nA,iC _ _ _,_,rfl,_,_,rfl,rfl,u,_,_,_,rfl,rfl,SqL.of n,b,?_⟩;exact Jjy _ e _ _ _ x d rfl _ rfl (bo (λc=>Jgg c) (λ_=>q))
inductive ke (K)(C):Sp|m{vs H Q E9} (p q) (As) (ps):vs=Jaz p q→PrP K C H p As→JnL H q→(∀H' l,Jga H l (JQ l []) l)→ke K C vs H Q E9
def CA:Jje (Xt "held") "held" ny:=fsc
def CD (F:V4 "held_same" "held_same" ny)(d:Jiu "sameness" fS dS (Xt "number") (oh K C)):JkY 2 "held" (ke K C):=by
 refine F.ok CA (λvs H Q E h=>?_) (λcdv A outer s H vs Q E y h=>?_)
 ·let⟨p,q,t,ps,rfl⟩:=h;rfl
 let⟨p,q,t,ps,rfl,S,z,G⟩:=h;refine JN (Qi (Jax (N':=["part","problem"]) (ix:=[0]) rfl rfl rfl (λg=>JfS (sc:=ai ny) g) rfl rfl (JdN _) (lu (pv 1)) (λ_ _ _ _=>(aA me (Jki d.ok y d.m d.kp d.b 1 0) eP)) (λ_ _ _ _=>(pv 0))))
 rfl'
 refine Jhs _ rfl q ps H z (ap.refl _) (λJ ⟨L,W,g,e⟩ D o=>gZ W (λi us H'=>JmO H (us=[])) (λi us H' ⟨v,_⟩=>g _ v) (Jdh o) ?_ ?_)
 ·rintro i us M x r B l a ⟨c,rfl⟩ u;let⟨rfl,k,I,rfl⟩:=e _ _ _ _ c u;exact Jf5 _ _ rfl p t k rfl (S.same c) rfl _ rfl (bq (gY B l a (Vf c)))
 ·rintro us r a ⟨c,rfl⟩;exact G r D c o a
def CF:Jje (Xt "held") "held" nC:=fsc
def CH (F:V4 "same_links" "same_links" nC)(T:JcR C)(c:JgD 4 "links" fL dL ["terms","given"] (sI K))(d:Jm4 2 "held_same" fH dH "held" (ke K C)):JkY 5 "held" (ke K C):=by
 refine F.ok CF (λvs H Q E h=>?_) (λcdv A outer s H vs Q E o h=>?_)
 ·let⟨p,q,u,ps,rfl⟩:=h;rfl
 let⟨p,q,u,ps,rfl,S,L,Y⟩:=h;have k:=o.mono (j:=2) (by decide);let⟨v,al,rl,Ts,Rs,X,g⟩:=S.ex;let⟨⟨W,M⟩,⟨ts,J,O⟩⟩:=id X;refine JN (Qi (JfA c.ok o c.m c.kp c.b (XB (Js 0) (Vw (N':=["part","problem"]) (ix:=[0]) rfl rfl rfl (λg=>JfS (sc:=ai nC) g) rfl rfl (JdN _) (cT (Jki d.ok k d.m d.kp d.b 0 1)) (λ_ _ _ _=>rY)))))
 rfl'
 refine⟨_,rfl,p,C,W,_,_,rfl,M,T.cl,T.nT,iA _ _ _,_,rfl,_,rfl,p,q,u,ps,rfl,S,L,λH1 I z n1 r=>?_⟩;refine JoQ I _ r (λD R=>fh (fv:=[]) (te:=λ_ _ _=>False) (cU) (λi us H'=>JmO H1 (us=[])) (λi us H' ⟨e,_⟩=>e.seq (SqL.of r)) (Jdh R) ?_ ?_)
 ·rintro i us Z x t N;exact absurd N (Nat.not_lt_zero _)
 ·rintro us Z l ⟨e,rfl⟩;have a:=z.trans e;exact Jjb v D Ts ts (a _ _ J) (O.keep a.kt (eE Ts)) g (SqL.of l) (λt G y B U=>Y t G (a.trans y) (a.free B) U)
inductive sM (K)(C):Sp|m{vs H Q E9} (p q fo) (As) (ps):vs=JgX p q fo→PrP K C H p As→JnL H q→Jz H fo []→ps.length<64→(∀H',JiF (Jen H'))→sM K C vs H Q E9
def oj:Vj ["problem","held","found","least","atom","pair"] (Jol "held") qJ:=fsc
def CI (F:V4 "clashing_atom" "clashing_atom" qJ)(T:JcR C)(TB:Jfl K)(B:JgD 4 "heads" fD dD ["many","links"] (og K))(z:Jiu "sameness" fS dS (Xt "number") (oh K C)):JeF 5 (Jol "held") (sM K C):=by
 refine F.ok oj (λvs H Q E h=>?_) (λcdv A outer s H vs Q E hr h=>?_)
 ·let⟨p,q,X,As,ps,rfl⟩:=h;rfl
 let⟨p,q,X,As,ps,rfl,S,hq,hf,p64,Q0⟩:=h;have O:=VT (j:=1);let⟨tl,al,rl,Ts,Rs,S',M⟩:=S.ex;let⟨⟨dx,ho⟩,⟨ts,ht,hT⟩⟩:=id S';have n:JdR 60:=by rw[←hT.length,lM];exact M.len
 refine JN (JH (i:=3) oj.nd (JfA B.ok hr B.m B.kp B.b (Jhh (Jh0 bO 0) 2)) (Jj6 (VB wB TB.sorted PyProof.Rows.Boot.sorted (Qc (Jax (N':=["part"]) (ix:=[]) rfl rfl rfl (λ_=>JmW []) rfl rfl (λj i h=>by simp at h) (lu (pv 1)) (λ_ _ _ _=>(Jcj jJ 0 af)) (λ_ _ _ _=>(Jgj 0))))) (i:=4) oj.nd (Jjt (Qn (i:=5) oj.nd (Jki z.ok O z.m z.kp z.b 0 4)) (Jnk (Jis (Jcj me 5 eP) B8)))) (Qi eP))
 rfl'
 refine⟨_,rfl,p,C,dx,_,_,rfl,ho,T.cl,T.nT,iA _ _ _,tl,_,rfl,Vd ht,_,rfl,X,ts.length,rfl,n,hf,λH1 l1 Z _ h1=>?_⟩;have R:=hq.same Z;refine Jhs _ rfl q ps H1 R (ap.refl _) (λJ ⟨Ok,W,M,G⟩ D hD=>gZ W (λi us H'=>Xg H1∧∃ns:List Int,us=ns.map V.int∧JdP i) (λi us H' ⟨s2,_⟩=>M _ s2) (Jv (Jdg hD) [] (nRq _)) ?_ ?_)
 ·rintro i us H9 x u U t d ⟨r,ns,rfl,nl⟩ yy;let⟨rfl,k,hk,rfl⟩:=G _ _ _ _ r yy;refine Jhs _ rfl _ _ rfl _ rfl (bo (λc=>?_) (λc=>?_))
  ·refine Jos (cJ (JdB _) U t d ⟨r.upd hD,ns++[-k],?_,by rw[lAq];show _+1≤_;lia⟩);rw[mAq];rfl
  ·exact gY U t d (Jv r ns (by lia))
 ·rintro us u d ⟨r,ns,rfl,nl⟩;refine⟨D,ns,rfl,SqL.of d,by lia,λl N hl _ _=>?_⟩;have Y:JeN u u l (N.map V.int):=Jdg hl;have g:=(Z.trans r).trans Y;have y:=ao (H:=u) (a:=l) (o:=.lst (N.map V.int));generalize Jk8 u l=H4 at Y g y;refine JoQ l _ y (Jim cU (λi v H'=>Ex2 λ L I=>v=[some _,some _,some _,some _,L,I]∧H'=H4) (λi v H' h=>by let⟨_,_,_,e⟩:=h;exact e ▸ SqL.of y) (JbU none none))
  ·rintro i v H5 x H6 U ⟨L,I,rfl,rfl⟩ ⟨rfl,hx⟩;let⟨k,hk,rfl⟩:=cA (Joj y);exact⟨_,rfl,_,rfl,p,As,k,rfl,S.same g,_,rfl,rfl,_,rfl,bo (λc=>Jak c) (λ_=>JiY _)⟩
  ·rintro v H' ⟨L,I,rfl,rfl⟩;exact Q0 _ g
inductive sN (K)(C):Sp|m{vs H Q E9} (p q) (As) (ps):vs=Jaz p q→PrP K C H p As→JnL H q→ps.length<64→(∀H',JiF (Jen H'))→sN K C vs H Q E9
def sO:Jje ["problem","held","found","atom"] "held" qK:=fsc
def CJ (F:V4 "clash" "clash" qK)(a:Jm4 5 "same_links" fL dL "held" (ke K C))(d:JgD 5 "clashing_atom" fK dK' (Jol "held") (sM K C)):JkY 6 "held" (sN K C):=by
 refine F.ok sO (λvs H Q E h=>?_) (λcdv A outer s H vs Q E n h=>?_)
 ·let⟨p,q,l,ps,rfl⟩:=h;rfl
 let⟨p,q,l,ps,rfl,S,o,g,v⟩:=h;have k:=JkI (j:=5);refine JN (JfB (i:=2) sO.nd (Jki a.ok k a.m a.kp a.b 0 1) (i:=3) sO.nd (Q6 d.ok n d.m d.kp d.b 0 (V6 1 2)) (ae (Jnj (Jcj oR 3 eP) (Qi eP))
  cb))
 rfl'
 refine Jb0 _ _ rfl p q l ps rfl S o (λy t e _ u=>?_);refine⟨_,rfl,_,rfl,_,rfl,p,q,t,l,ps,rfl,S.same e,o.same e,SqL.of u,g,λx r=>?_⟩;exact Jlm (bo (λ_=>v _ (e.trans r)) (λc=>absurd (by decide) c))
end
abbrev xN:Stmt:=wU
structure SpG (n)(B)(S):Prop where
 m:cV n B S
 n40:n≤40
 rl:Jns 199000
structure CfG (n)(B)(most)(S S')(f):Prop where
 r:Jbf (S,.grow) (S',.odds f)
 e:eK S S'
 c:eB n B S' f
 g:∀c,(S'.wg c).length≤S'.rs.length
structure RsG (n)(B)(most)(S S'):Prop where
 r:Jbf (S,.grow) (S',.rest)
 e:eK S S'
 m:cV n B S'
 l:S'.lk=S'.ts.length
inductive lG (K)(C CP):Sp|m{vs H Q E9} (A) (F O) (pr) (most) (S) (R) (n) (B) (As):vs=Vz A.h→JgF F O H A S R→SpG n B S→PrP K CP F pr As→(∀H' O' R' S',RsG n B most S S'→V_ F O' H' A S' S'.hs R'→Jen H')→(∀H' O' R' S' f,CfG n B most S S' f→V_ F O' H' A S' S'.hs R'→Q7 f H')→lG K C CP vs H Q E9
def sP:Vj (JbL "fails" "line") ["self"] xN:=fsc
section
variable {P:Program} {w:World} {K:W.Frag} {mg:Str→Option Value} {base:Heap} {C CP CL f fL fK:Addr} {fd dL dK':FuncData}
def CK (F:V4 "grow" "Hunt.grow" xN)(T:JkF C)(TB:Jfl K)(mL:Jnm "look_at" fL)(BL:QR 2 fL dL (VL "part") (rW K C))(bL:JlM dL)
  (BK:Jm4 6 "clash" fK dK' "held" (sN K CP)):JeF 7 ["self"] (lG K C CP):=by
 refine F.ok sP (λvs H Q E h=>?_) (λcdv Ar outer s H vs Q E hr h=>?_)
 ·let⟨A,F',O,I,most,S,R,n,B,As,rfl,_⟩:=h;rfl
 let⟨A,F',O,I,most,S,R,n,B,As,rfl,U,L,PP,qN,qF⟩:=h;have hr2:=VT (j:=2);refine JN (JcI (Jl4 (aA jJ (Js 0) (Jh0 bO 0)) (JH (i:=1) sP.nd (Jbw 0 mL BL hr2 bL aJ (Qc (JcB (aI aQ (aI cu (Js 0) (Js 0)) af)))) (yT (pv 0) af in_add) (aj (be (Jcj me 1 eP) (JjJ 1)
     aU)))) (Qn (i:=2) sP.nd (JfA BK.ok hr BK.m BK.kp BK.b (XB (Js 0) (Vw (N':=["step"]) (ix:=[]) rfl rfl rfl (λ_=>JmW []) rfl rfl (λj i h=>by simp at h) (cT (Js 0)) (λ_ _ _ _=>(Jod (r:=gj K) aQ 0 af)))))) (iZ (Jcj oR 2 eP) eP rY))
 rfl'
 have n40:=L.n40;refine Qj (λk σ H'=>Ex4 λ v1 S' O' R'=>An6 (σ=[Ja A.h,v1,none]) (k=n-S'.lk) (eK S S') (Jbf (S,.grow) (S',.grow)) (cV n B S') (Jh K C F' O' H' A I S' S'.hs R')) (Jhr _ none S O R rfl (eK.refl S) .refl L.m U);rintro k σ H1 ⟨v1,a,O1,X,rfl,ek,E1,r1,M1,d⟩;have zl:=Hu.zlen d;have tln:=M1.b.tlen;refine⟨_,rfl,A.h,C,A.dx,_,_,rfl,d.ins,T.cl,T.n_looked,rQ,_,rfl,A.h,C,A.dx,_,_,rfl,d.ins,T.cl,T.n_trail,hU,A.tr,_,rfl,Vd (Jl3 3 rfl),_,_,rfl,rfl,_,rfl,bo (λc=>?_) (λc=>?_)⟩
 ·have c1:=oDq c;have M:a.lk<a.ts.length:=by lia
  have y:=gG M;generalize a.ts[a.lk]=o at y;have hx:=gG (l:=X.zs) (i:=a.lk) (by lia);let⟨t1,p,q,ex,hp⟩:=ip d.u.tr hx;rw[y]at q;injection q with q;subst q;have at1:atI X.zs (a.lk:Int)=some (.ref p):=by rw[←ex];exact ay hx
  have Z:=M1.look (by lia) y;have Y:=LkI.all M1 (by lia) (by rw[Int.neg_neg];exact d_ y) _ (nRq _);have gl:∀c,((eC a (-o.1)).1.wg c).length≤a.rs.length:=λc=>by have:=WOk.glen Y.w c;rw[Y.rs,List.drop_length,List.append_nil]at this;exact this
  refine JN (λ_ _ z=>z);refine⟨_,rfl,A.h,A.dx,_,rfl,d.ins,rfl,_,rfl,A.h,C,A.dx,_,_,rfl,d.ins,T.cl,T.n_trail,hU,_,rfl,A.h,C,A.dx,_,_,rfl,d.ins,T.cl,T.n_looked,rQ,A.tr,_,_,_,rfl,rfl,SqL.of (Jl3 3 rfl),at1,p,_,_,_,rfl,rfl,hp,rfl,_,rfl,A,F',O1,I,most,a,X,-o.1,n,B,rfl,d,⟨M1,n40,by rw[E1.rs];exact L.rl,o,y,rfl⟩,λH2 O2 R2 N=>?_⟩;have lkE:(eC a (-o.1)).1.lk=a.lk:=Y.eq.2.1;have U3:=N.setLk (a.lk+1);have rsE:=Z.1.rs;generalize hlr:eC a (-o.1)=lr at *;let⟨W,fl⟩:=lr;refine⟨_,rfl,A.h,C,A.dx,_,_,rfl,N.ins,T.cl,T.n_looked,rQ,_,_,rfl,rfl,_,_,N.ins,(by show JhI 12;decide),?_⟩;have eI:(Jc1 H2 A.h A.dx (zbu "looked" (.int ((W.lk:Int)+1)) (JaZ A I W.lk)))=upd H2 A.h (JlI (JaZ A I (a.lk+1))):=by rw[lkE];rfl
  rw[eI];generalize Jk8 H2 A.h=H3 at U3;have EX:eK S { W with lk:=a.lk+1 }:=E1.trans ⟨Z.1.rs,Z.1.pp,Z.1.ts⟩;have gF:∀ph,phO fl=ph→Rch most (S,.grow) ({ W with lk:=a.lk+1 },ph):=λph e=>r1.step (by show _=kW a;unfold kW;rw[y];show _=(({ (eC a (-o.1)).1 with lk:=a.lk+1 }:HS),phO (eC a (-o.1)).2);rw[hlr,←e])
  cases fl with
  | none =>
   refine Jlm (VY (λc=>JkH (show ¬Vq (!decide (V.non=V.non)) by decide)));refine⟨_,?_,_,_,_,_,rfl,rfl,EX,gF _ rfl,Z.2.1 rfl,U3⟩;show n-(a.lk+1)<k;lia
  | some g =>
   refine Jlm (J9 (λc=>JiT c));refine QI (qF _ _ _ { W with lk:=a.lk+1 } g ⟨gF _ rfl,EX,Z.2.2 g rfl,λc=>?_⟩ U3);show(W.wg c).length≤W.rs.length;rw[rsE];exact gl c
 ·have c1:¬((a.lk:Nat):Int)<((X.zs.length:Nat):Int):=λz=>Jiz z;have M:a.lk=a.ts.length:=by have:=M1.lk;lia
  have J:=Jl3 3 rfl;refine⟨_,rfl,A.h,C,A.dx,_,_,rfl,d.ins,T.cl,T.n_problem,BY,_,rfl,A.h,C,A.dx,_,_,rfl,d.ins,T.cl,T.n_trail,hU,A.tr,rfl,QE _ J,λD hD=>Jm3 cU (λi us H'=>Xg H1∧us=(a.hs.take i).map V.int) (λi us H' ⟨G,_⟩=>SqL.of (G _ _ J)) hD ?_ ?_⟩
  ·rintro i us H2 x H3 hi hly v ⟨G,rfl⟩ ⟨rfl,hx⟩;let⟨t,p,y,rfl,hp⟩:=ip d.u.tr (Joj (G _ _ J));have hH:a.hs[i]?=some t.1:=by show(a.ts.map Prod.fst)[i]?=_;rw[List.getElem?_map,y];rfl
   refine⟨_,rfl,p,_,_,_,rfl,rfl,G.tup hp,rfl,JoU (bsz _ (by rw[zl];lia)) hi v (G.upd hD)⟩;rw[bE hH,mAq];rfl
  ·rintro us H2 v ⟨G,rfl⟩;have e:a.hs.take X.zs.length=a.hs:=tO (by rw[lM,zl];exact nRq _);rw[e]at v;have N:=d.same G;have h64:a.hs.length<64:=by rw[lM];lia
   refine⟨I,D,As,a.hs,rfl,PP.same N.t.f,Vd v,h64,λH3 s3=>?_⟩;exact Jlm (bo (λ_=>qN _ _ _ a ⟨r1.step (by show _=kW a;unfold kW;rw[List.getElem?_eq_none (by lia)]),E1,M1,M⟩ (N.same s3)) (λc=>absurd (by decide) c))
end
abbrev xO:Stmt:=wO
structure SpB (n)(B)(S):Prop where
 b:cK n B 0 S
 hB:∀r∈B,r.Nodup∧∀p∈r,Jha n
 n40:n≤40
 bl:Q3 B.length
structure RsB (n)(B)(most)(S S'):Prop where
 r:Jbf (S,.beg 0) (S',.rest)
 b:S'.rs=B
 m:cV n B S'
 l:S'.lk=S'.ts.length
 p:S'.pp=[]
structure CfB (n)(B)(most)(S S')(f):Prop where
 r:Jbf (S,.beg 0) (S',.odds f)
 b:S'.rs=B
 c:eB n B S' f
 g:∀c,(S'.wg c).length≤S'.rs.length
 p:S'.pp=[]
inductive sQ (K)(C CP):Sp|m{vs H Q E9} (A) (F O) (pr) (most) (S) (R) (n) (B) (As):vs=Vz A.h→JgF F O H A S R→SpB n B S→PrP K CP F pr As→(∀H' O' R' S',RsB n B most S S'→V_ F O' H' A S' S'.hs R'→Jen H')→(∀H' O' R' S' f,CfB n B most S S' f→V_ F O' H' A S' S'.hs R'→Q7 f H')→sQ K C CP vs H Q E9
def sR:Vj (JbL "number" "row") ["self"] xO:=fsc
section
variable {P:Program} {w:World} {K:W.Frag} {mg:Str→Option Value} {base:Heap} {C CP CL f fW fH fG:Addr} {fd dW dH dG:FuncData}
def cK.glen (h:cK n B i S)(c):(S.wg c).length≤B.length:=by have:=WOk.glen h.w c;have this:=this;rw[List.length_take]at this;lia
def CN (F:V4 "begin" "Hunt.begin" xO)(T:JkF C)(TB:Jfl K)(mW:Jnm "watch" fW)(BW:QR 1 fW dW ["self","number","one","other"] (nV K C))(bW:Jw dW ["self","number","one","other"])
  (mH:Jnn fH)(BH:QR 1 fH dH (JbM "why") (jv K C))(bH:JoS dH)
  (mG:Jnm "grow" fG)(BG:QR 7 fG dG ["self"] (lG K C CP))(bG:Jnx dG):JeF 8 ["self"] (sQ K C CP):=by
 refine F.ok sR (λvs H Q E h=>?_) (λcdv Ar outer s H vs Q E hr h=>?_)
 ·let⟨A,F',O,pr,most,S,R,n,B,As,rfl,_⟩:=h;rfl
 let⟨A,F',O,pr,most,S,R,n,B,As,rfl,U,L,PP,qN,qF⟩:=h;have hu:=c_ hr;have hr1:=VT (j:=1);refine JN (Jdd (Jcb (mD rfl TB.enumerate (Ja1 0)) (JkX rfl (i:=1) sR.nd (i:=2) sR.nd gf) (aj (be (Jhy eu (JcV bO (Vh 2))) (Jc5 0 mW BW hr1 bW aJ (Qa 1 (XB (JC 2) (JC 2)))) (aj (be (Jg8 (Jhy bZ (JcV bO (Vh 2))) (fg (jm hu (JcB (JC 2)) (Js 0)))) (JjJ 1) (aj (be (fg (jP hu (JC 2) (Js 0))) (Jc5 0 mH BH hr1 bH aJ (Jhh (JC 2) 1))
         aU))))))) (kx (pv 0) T.cl mG BG hr bG .nil aJ))
 rfl'
 have n40:=L.n40;have bl:=L.bl;have kn0:∀ {Fx Ox Hx:Hp} {Sx:HS} {hx:List Int} {Rx:HC},V_ Fx Ox Hx A Sx hx Rx→Rx.xs=R.xs→Hx A.kn=some (.lst R.xs):=λUx e=>e ▸ Ux.at' 1 rfl rfl;refine⟨_,rfl,A.h,C,A.dx,_,_,rfl,U.ins,T.cl,T.n_known,iS,A.kn,rfl,QE _ (Jd6 1),Jim (mz) (λi σ H'=>Ex5 λ v1 v2 S' O' R'=>An4 (σ=[Ja A.h,v1,v2]) (R'.xs=R.xs) ((cK n B i S'∧Jbf (S,.beg 0) (S',.beg i))) (V_ F' O' H' A S' S'.hs R')) (λi σ H' h=>by let⟨_,_,_,_,_,_,e,_,Ux⟩:=h;exact SqL.of (kn0 Ux e)) (Jhs none none S O R rfl ⟨L.b,.refl⟩ U)⟩
 ·rintro i σ H2 x H3 hi ⟨v1,v2,D,O1,R1,rfl,Y,⟨G,r1⟩,U1⟩ ⟨t,y,rfl,ht,rfl,hy⟩;let⟨k,q,d,rfl,hq⟩:=zO U1.u.kn (Y ▸ hy _ (SqL.of (kn0 U1 Y)));have st:=r1.step (by show _=begF D i;unfold begF;rw[d])
  rw[G.rs]at d;have I:=L.hB k (mO d);have s3:JdH H2 H2 t (Jej i q):=Jdg ht;have n3:=ao (H:=H2) (a:=t) (o:=.tup (Jej i q));generalize Jt H2 t (Jej i q)=H3 at s3 n3;have N:=U1.same s3;have v:=s3.tup hq;have iB:i<B.length:=(gEq d).1;have kI:cM (i:Int):=by unfold cM;lia
  have X:∀p∈k,cM p:=λp hp=>by have:=(I.2 p hp).2;unfold cM;lia
  have gl:∀c,(D.wg c).length≤199000:=λc=>by have:=cK.glen G c;lia
  refine⟨t,_,rfl,SqT.of n3,rfl,_,_,rfl,_,_,rfl,rfl,?_⟩;refine Jov _ q _ (.inr v) _ _ _ rfl (bo (λc=>?_) (λc=>?_))
  ·have M:=oDq c;rw[lM]at M
   match k,M,v,I,X,d,st with
   | a :: b :: J,_,v,I,X,d,st =>
    have a0:atI ((a :: b :: J).map V.int) 0=some (.int a):=VW (j:=0);have a1:atI ((a :: b :: J).map V.int) 1=some (.int b):=VW (j:=1);refine⟨_,rfl,A.h,A.dx,_,rfl,N.ins,rfl,_,rfl,_,rfl,q,_,_,_,rfl,rfl,v,a0,_,rfl,q,_,_,_,rfl,rfl,v,a1,A,F',O1,pr,most,D,R1,i,a,b,rfl,N,kI,X a (by simp),X b (by simp),gl a,gl b,λH4 O4 R4 U4 e4=>?_⟩;exact Jhs _ _ _ _ _ (e4.trans Y) ⟨G.add d I.1 (by simp) (λx e=>by injection e with _ e;cases e) rfl,st⟩ U4
   | [a],M,_,_,_,_,_=>exact QN M
   | [],M,_,_,_,_,_=>exact absurd M (by simp)
  ·have M:¬(1:Int)<(((k.map V.int).length:Nat):Int):=λz=>Jiz z;rw[lM]at M;have rl:((k.map V.int).length:Nat)=k.length:=lM _;have W:(∀p∈k,-p∈D.hs)→Jbf (S,.beg 0) (D,.odds (i:Int))→Q (.int (i:Int)) H3:=λhf rr=>qF _ _ _ D _ ⟨rr,G.rs,G.fail L.hB d hf,λc=>by rw[G.rs];exact cK.glen G c,G.pp⟩ N;refine Jjb _ rfl q _ (.inr v) rfl _ rfl (bo (λc2=>?_) (λc2=>?_))
   ·have c3:=oDq c2;injection c3 with c3;rw[rl]at c3;have e0:k=[]:=List.length_eq_zero_iff.mp (by lia);subst e0;exact QI (W (λp hp=>nomatch hp) st)
   ·match k,M,c2,v,I,X,d,W,st with
    | [],_,c2,_,_,_,_,_,_=>exact QU c2
    | a :: b :: J,M,_,_,_,_,_,_,_=>exact absurd (by simp only[List.length_cons];lia) M
    | [a],_,_,v,I,X,d,W,st =>
     have a0:atI ([a].map V.int) 0=some (.int a):=VW (j:=0);have g1:=iP D.hs a;have g2:=iP D.hs (-a);refine⟨_,rfl,q,_,_,_,rfl,rfl,v,a0,_,rfl,_,rfl,A.h,C,A.dx,_,_,rfl,N.ins,T.cl,T.n_held,hV,A.hd,_,rfl,N.held (-a),_,rfl,bo (λc4=>?_) (λc4=>?_)⟩
     ·rw[g2]at c4;have c5:=oDq c4;exact QI (W (λp hp=>by rw[mS hp];exact c5) ((show begR D i [a]=_ from if_pos c5) ▸ st))
     ·rw[g2]at c4;have c5:-a∉D.hs:=λz=>c4 (dTq z);refine⟨_,rfl,q,_,_,_,rfl,rfl,v,a0,_,rfl,A.h,C,A.dx,_,_,rfl,N.ins,T.cl,T.n_held,hV,A.hd,_,rfl,N.held a,_,rfl,bo (λZ=>?_) (λZ=>?_)⟩
      ·rw[g1]at Z;have c7:a∉D.hs:=λz=>by rw[dTq z]at Z;cases Z
       have tl:Q3 D.ts.length:=by have:=G.tok.len;lia
       refine⟨_,rfl,A.h,A.dx,_,rfl,N.ins,rfl,_,rfl,q,_,_,_,rfl,rfl,v,a0,_,rfl,A,F',O1,pr,most,D,R1,a,i,rfl,N,X a (by simp),tl,λH4 O4 R4 U4 e4=>?_⟩;exact Jhs _ _ _ _ _ (e4.2.trans Y) ⟨G.hold (by lia) d (I.2 a (by simp)) c7 c5,(show begR D i [a]=_ from(if_neg c5).trans (if_neg c7)) ▸ st⟩ U4
      ·rw[g1]at Z;have c7:a∈D.hs:=Decidable.byContradiction λz=>by rw[dFq z]at Z;exact Z rfl
       exact Jhs _ _ _ _ _ Y ⟨G.add d I.1 (by simp) (λx e=>by injection e with e;exact e ▸ c7) rfl,(show begR D i [a]=_ from(if_neg c5).trans (if_pos c7)) ▸ st⟩ N
 ·rintro σ H' ⟨v1,v2,D,O1,R1,rfl,Y,⟨G,r1⟩,U1⟩;have xl:R.xs.length=B.length:=by rw[←Y,←U1.u.kn.length,lM,G.rs]
  rw[xl]at G r1;have r2:Jbf (S,.beg 0) (D,.grow):=r1.step (by show _=begF D B.length;unfold begF;rw[G.rs,List.getElem?_eq_none (nRq _)]);have M1:=G.mid L.hB;refine⟨_,rfl,A.h,A.dx,_,rfl,U1.ins,rfl,A,F',O1,pr,most,D,R1,n,B,As,rfl,U1,⟨M1,n40,by rw[G.rs];lia⟩,PP,λH2 O2 R2 S2 r U2=>?_,λH2 O2 R2 S2 f r U2=>?_⟩
  ·exact qN _ _ _ S2 ⟨r2.trans r.r,r.e.rs.trans G.rs,r.m,r.l,r.e.pp.trans G.pp⟩ U2
  ·exact qF _ _ _ S2 f ⟨r2.trans r.r,r.e.rs.trans G.rs,r.c,r.g,r.e.pp.trans G.pp⟩ U2
end
end K98
namespace L2
open PySem PySem.Spec PyProof.Rows
set_option maxRecDepth 100000
section
variable {X:Cx}
def CO:JgN X "range" (λxs H Q=>∃i j:Int,xs=Jc9 i j∧∀r,JiX r r (XE r (.rng i j))):=by intro a s f H xs us Q I r h;let⟨i,j,rfl,q⟩:=h;let⟨u,v,rfl,d,c⟩:=r.two;let⟨t,rfl⟩:=d;let⟨t',rfl⟩:=c;refine call_range_2 ?_;refine JaY _ (I.laid (λb g e=>JgM e) (nRq _) ?_) (q _ (Q2 _));exact⟨_,_,_,Heap.get?_push_size _ rfl⟩
def CQ (D:Vq X.calm):JgN X "list" (λxs H Q=>∃r lo j,xs=Vz r∧Xh r (.rng lo (lo+j))∧0≤j∧j≤100000∧0≤lo∧lo≤100000∧∀l,JiX l l (Jou (((List.range j.toNat).map λi:Nat=>lo+(i:Int)).map V.int))):=by
 intro k s J H xs us Q I r h;let⟨z,lo,j,rfl,C,S,R,P,O,q⟩:=h;let⟨u,rfl,y⟩:=eR r;cases y;let⟨N,M,K,e⟩:=JbR z C;have E:Builtin.Range.rangeSize lo (lo+j) 1=(j.toNat:Int):=by rw[rangeSize_one];split <;> lia
 refine call_list_range (I.ok.hd D) e (small_one (by lia) (by lia) (by lia) (by lia)) E (by lia) λh' tk acc c A F a=>?_;have G:acc.toList.length=j.toNat:=by rw[Array.length_toList];exact a.1
 have d:bc (((List.range j.toNat).map λi:Nat=>lo+(i:Int)).map V.int) acc.toList:=by
  have f:∀n L o,L.length=n→(∀i v,L[i]?=some v→∃t,v=Jaj (lo+(((o+i:Nat):Nat):Int) * 1))→bc (((List.range' o n).map λi:Nat=>lo+(i:Int)).map V.int) L:=by
   intro n
   induction n with
   | zero =>
    intro L o b _;cases L with
    | nil=>exact .nil
    | cons _ _=>cases b
   | succ n B =>
    intro L o b p
    match L,b with
    | x :: L,b =>
     refine .cons ?_ (B L _ (by simpa using b) λi v e=>?_)
     ·let⟨t,e⟩:=p 0 x rfl;exact⟨t,by rw[e];congr 1;lia⟩
     ·let⟨t,g⟩:=p (i+1) v e;exact⟨t,by rw[g];congr 1;lia⟩
  have:=f j.toNat acc.toList 0 G λi v e=>by let⟨t,g⟩:=a.2 i v (by rw[←Array.getElem?_toList];exact e);exact⟨t,by rw[g,Nat.zero_add]⟩
  rw[List.range_eq_range'];exact this
 refine JnJ _ (t':=tk) A _ (show JcJ _ h' _ (.lst (((List.range j.toNat).map λi:Nat=>lo+(i:Int)).map V.int)) from⟨?_,acc.toList,c,d,by rw[Array.toArray_toList];exact F⟩) (q _ (Q2 _));rw[lM,lM,List.length_range,sizeLine_eq];lia
end
end L2
namespace K98
open PySem L2
abbrev xQ:Stmt:=wL
def hS0 (Rs:Vp Int)(n:Nat):HS:=⟨Rs,[],[],0,[],λ_=>none,λ_=>[],upN n,λ_=>none⟩
noncomputable def zeF (H:Hp)(x:Addr):Hp:=λb=>if b=x then none else H b
structure Bld (C x dx)(F O H)(as)(os:List HO)(fs):Prop where
 t:JoI F H
 n:NoT O
 nd:(x :: as).Nodup
 ins:Xa (O x) (QF dx fs)
 at_:∀(i:Nat) (a) (o),as[i]?=some a→os[i]?=some o→Xa (O a) o
 len:as.length=os.length
def Bld.all {C x j:Addr}{F O H:Hp}{d:List Addr}{b:List HO}{g:List (Str × V)}(h:Bld C x j F O H d b g){a:Addr}(f:a∈x :: d):O a≠none:=by
 rcases List.mem_cons.mp f with z | z
 ·rw[z,h.ins];exact λz=>nomatch z
 ·let⟨i,c⟩:=List.getElem?_of_mem z;have e:i<b.length:=by rw[←h.len];exact(gEq c).1
  rw[h.at_ i a _ c (gG e)];exact λz=>nomatch z
def Bld.hi {C x b:Addr}{F O H:Hp}{d:List Addr}{c:List HO}{a:List (Str × V)}(h:Bld C x b F O H d c a):H x=some (QF b a):=h.t.o _ _ h.ins
def Bld.put {C x c:Addr}{F O H:Hp}{f:List Addr}{d:List HO}{k:List (Str × V)}(h:Bld C x c F O H f d k)(b):Bld C x c F (Jc1 O x c b) (XE x (QF c b)) f d b:=by refine⟨h.t.own (by rw[h.ins];exact λz=>nomatch z) _,h.n.upd gB,h.nd,ao,λi a o e j=>?_,h.len⟩;have g:a≠x:=λz=>(List.nodup_cons.mp h.nd).1 (z ▸ mO e);rw[aq g];exact h.at_ i a o e j
def Bld.new {C x p:Addr}{F O H:Hp}{g:List Addr}{j:List HO}{l:List (Str × V)}(h:Bld C x p F O H g j l){n:Addr}(k:Vu n){o:HO}(no:NTup o):Bld C x p F (upd O n o) (XE n o) (g++[n]) (j++[o]) l:=by
 have q:=(h.t.none k).1;have nm:n∉x :: g:=λz=>h.all z q;have r:x≠n:=λz=>nm (z ▸ List.mem_cons_self);refine⟨h.t.newO k o,h.n.upd no,?_,by rw[aq r];exact h.ins,λi a u d f=>?_,by rw[lAq,lAq,h.len];rfl⟩
 ·rw[←List.cons_append];exact List.nodup_append.mpr (Jan h.nd (λa w b v e=>nm (by rw[mS v]at e;exact e ▸ w)))
 ·rcases Nat.lt_or_ge i g.length with c | c
  ·rw[List.getElem?_append_left c]at d;rw[List.getElem?_append_left (by rw[←h.len];exact c)]at f;have s:a≠n:=λz=>nm (Xe (z ▸ mO d));rw[aq s];exact h.at_ i a u d f
  ·rw[List.getElem?_append_right c]at d;rw[List.getElem?_append_right (by rw[←h.len];exact c),←h.len]at f;have A:=mS (mO d);have y:=mS (mO f);rw[A,y];exact ao
def Bld.putE {C x b:Addr}{F O H:Hp}{d:List Addr}{c:List HO}{a:List (Str × V)}(h:Bld C x b F O H d c a)(n)(v):∃e H',XE x (QF b (zbu n v a))=H'∧Bld C x b F e H' d c (zbu n v a):=Jv _ _ (h.put _)
def Bld.newE {C x c:Addr}{F O H:Hp}{d:List Addr}{a:List HO}{b:List (Str × V)}(h:Bld C x c F O H d a b){n:Addr}(e:Vu n)(o)(no:NTup o):∃f H',XE n o=H'∧Bld C x c F f H' (d++[n]) (a++[o]) b:=Jv _ _ (h.new e no)
inductive sS (K)(C CP):Sp|m{vs H Q E9} (x dx p tl al rl) (most) (T) (As) (Rs):vs=Jdl x p most→Jmu (Jig x []) CP (JmX As.length ((∀A O R H',A.h=x→Jh K C (zeF H x) O H' A p (hS0 Rs As.length) [] R→Jen H')→sS K C CP vs H Q E9))
def CS:Vj (Jfq "most") (Jfq "most") xQ:=fsc
section
variable {P:Program} {w:World} {K:W.Frag} {mg:Str→Option Value} {base:Heap} {aK C CP CB CM CL f:Addr} {fd:FuncData}
def bld0 (h:Jig x []):Bld C x dx (zeF H x) (λb=>if b=x then some (QF dx []) else none) H [] [] []:=by
 refine⟨⟨λb o e=>?_,λb o e=>?_,λb e=>?_⟩,λb o e=>?_,by simp,if_pos rfl,λi a o h=>(by cases h),rfl⟩
 ·unfold zeF at e;split at e
  ·cases e
  ·exact e
 ·split at e
  ·rename_i z;rw[z,h];exact e
  ·cases e
 ·unfold zeF;rw[if_pos (Decidable.byContradiction λz=>e (if_neg z))]
 ·split at e
  ·injection e with e;exact e ▸ gB
  ·cases e
def CT (F:Jmb "Hunt.__init__" xQ)(c:JkF C)(TB:Jfl K)(T:Jco K CP CB):Jhb (Jfq "most") (sS K C CP):=by
 refine F.ok CS (λvs H Q E h=>?_) (λcdv Ar outer s H vs Q E hr h=>?_)
 ·let⟨x,j,p,X,O,B,most,T',u,Rs,rfl,_⟩:=h;rfl
 let⟨x,j,p,X,O,B,most,T',u,Rs,rfl,hx,S,a1000,q⟩:=h;refine JN (Xc (Jhj (pv 1)) (Jhj (pv 2)) (ae (Jhj (Jac kC rfl TB.list (Ja1 1))) (Xc (Jm5 ac) (Jm5 ac) (Xc (Jhj fj) (Jhj af) (ae (Jm5 ac) (Xc (Jhj fj) (Jhj fj) (Jjt (Jhj (Jac (CQ rfl) rfl TB.list (Qc (cL CO rfl TB.range PyProof.Rows.Boot.range (XB af (V2 eo (Jh0 bO 1))))))) (Jhj fj))))))))
 rfl'
 have Z:JoG (zeF H x):=λb xs h=>by
  have nb:b≠x:=λz=>by rw[z]at h;rcases h with h | ⟨o,h⟩ <;> rw[hx]at h <;> cases h
  unfold Rd zeF at *;rw[if_neg nb];exact h
 have D:∀b o,Xh b o→(∀d,o≠QF d [])→zeF H x b=some o:=λb o h n=>by unfold zeF;rw[if_neg (λz=>n j (by rw[z,hx]at h;injection h with h;exact h.symm))];exact h
 have S0:JhQ CP (zeF H x) X O B T' u:=by let⟨⟨d,h1⟩,⟨xs,h2,h3⟩,⟨ys,h4,h5⟩,⟨W,h6,h7⟩,h8,h9,h10⟩:=S;refine⟨⟨d,D _ _ h1 λd' e=>?_⟩,⟨xs,D _ _ h2 λ_ e=>(nomatch e),h3.keep Z (eE _)⟩,⟨ys,D _ _ h4 λ_ e=>(nomatch e),h5.keep Z (JkD u)⟩,⟨W,D _ _ h6 λ_ e=>(nomatch e),h7.keep Z (cq fq Rs)⟩,h8,h9,h10⟩;injection e with _ _ e;have:=iA X O B;rw[e]at this;cases this
 have b0:=bld0 hx;clear Z D S;generalize zeF H x=F0 at *;have pr:∀ {O' H' as os fs},Bld C x j F0 O' H' as os fs→bu K CP H' p X O B T' u Rs:=λb=>S0.same b.t.f;refine JeT _ _ rfl x C j _ rfl b0.hi c.cl c.n_problem (by decide) ?_;let⟨O1,H1,e,b1⟩:=b0.putE "problem" (.ref p);rw[e];refine JeT _ _ rfl x C j _ rfl b1.hi c.cl c.n_most (by show JhI 1;decide) ?_;let⟨O2,H2,e,b2⟩:=b1.putE "most" (.int most);rw[e];let⟨⟨d2,g1⟩,_,_,⟨W,g2,g3⟩,_⟩:=pr b2;refine⟨_,rfl,p,CP,d2,_,_,rfl,g1,T.cl,T.nR,gD _ _ _,B,_,rfl,Vd g2,λkn hkn=>?_⟩;let⟨O3,H3,e,b3⟩:=b2.newE hkn (.lst W) cC;rw[e];refine Jmy x C j _ b3.hi c.n_known (by show JhI 2;decide);let⟨O4,H4,e,b4⟩:=b3.putE "known" (.ref kn);rw[e];refine Jf6 (λpp hpp=>?_);let⟨O5,H5,e,b5⟩:=b4.newE hpp (.lst []) cC;rw[e];refine Jmy x C j _ b5.hi c.n_paper (by show JhI 3;decide);let⟨O6,H6,e,b6⟩:=b5.putE "paper" (.ref pp);rw[e];refine Jf6 (λtr htr=>?_);let⟨O7,H7,e,b7⟩:=b6.newE htr (.lst []) cC;rw[e];refine Jmy x C j _ b7.hi c.n_trail (by show JhI 4;decide);let⟨O8,H8,e,b8⟩:=b7.putE "trail" (.ref tr);rw[e];refine λhd hhd=>?_;let⟨O9,H9,e,b9⟩:=b8.newE hhd (.dK []) du;rw[e];refine Jmy x C j _ b9.hi c.n_held (by show JhI 5;decide);let⟨O10,H10,e,N⟩:=b9.putE "held" (.ref hd);rw[e];refine Jmy x C j _ N.hi c.n_looked (by show JhI 6;decide);let⟨O11,H11,e,b11⟩:=N.putE "looked" (.int 0);rw[e];refine Jf6 (λbg hbg=>?_);let⟨O12,H12,e,M⟩:=b11.newE hbg (.lst []) cC;rw[e];refine Jmy x C j _ M.hi c.n_begins (by show JhI 7;decide);let⟨O13,H13,e,b13⟩:=M.putE "begins" (.ref bg);rw[e];refine λwd hwd=>?_;let⟨O14,H14,e,L⟩:=b13.newE hwd (.dK []) du;rw[e];refine Jmy x C j _ L.hi c.n_watched (by show JhI 8;decide);let⟨O15,H15,e,b15⟩:=L.putE "watched" (.ref wd);rw[e];refine λwg hwg=>?_;let⟨O16,H16,e,J⟩:=b15.newE hwg (.dK []) du;rw[e];refine Jmy x C j _ J.hi c.n_watching (by show JhI 9;decide);let⟨R,r,e,g⟩:=J.putE "watching" (.ref wg);rw[e];let⟨⟨d3,g4⟩,_,⟨ys,g5,g6⟩,_⟩:=pr g;have yl:JdA u.length:=by rw[←g6.length,lM]
 refine⟨_,rfl,p,CP,d3,_,_,rfl,g4,T.cl,T.nA,iC _ _ _,O,_,rfl,Vd g5,_,_,rfl,rfl,1,_,rfl,λY hrg=>?_⟩;have s1:ap r (upd r Y (.rng 1 (((ys.length:Nat):Int)+1))):=Jdg hrg;refine⟨Y,1,(ys.length:Int),rfl,by rw[ao,Int.add_comm],by lia,by lia,by decide,by decide,λod G=>?_⟩;have v:Bld C x j F0 R _ _ _ _:=⟨⟨g.t.f.trans s1,g.t.o.trans s1,g.t.d⟩,g.n,g.nd,g.ins,g.at_,g.len⟩;generalize Jk8 r Y=U at v G;have eO:(List.range (ys.length:Int).toNat).map (λi:Nat=>(1:Int)+(i:Int))=upN u.length:=by rw[Int.toNat_natCast,yl];exact List.map_congr_left λi _=>Int.add_comm _ _
 rw[eO];have l:=v.new (o:=.lst ((upN u.length).map V.int)) G cC;generalize Jk8 U od=H18 at l;generalize Jk8 R od=O18 at l;refine Jmy x C j _ l.hi c.n_order (by show JhI 10;decide);let⟨O19,H19,e,b19⟩:=l.putE "order" (.ref od);rw[e];refine λlt hlt=>?_;let⟨O20,H20,e,I⟩:=b19.newE hlt (.dK []) du;rw[e];refine Jmy x C j _ I.hi c.n_lately (by show JhI 11;decide);let⟨O21,H21,e,k⟩:=I.putE "lately" (.ref lt);rw[e];refine q ⟨x,j,kn,pp,tr,hd,bg,wd,wg,od,lt⟩ _ ⟨W,[],[],[],[],λ_=>none,[],λ_=>none,[]⟩ _ rfl ⟨k.n,k.t,?_,?_,?_,ar.nil,rfl,ar.nil,DI.nil,DI.nil,λ_=>.no,DI.nil,λ_=>.no rfl,DI.nil⟩
 ·exact k.nd
 ·intro i a o h1 h2;cases i with
  | zero =>
   cases h1;cases h2;exact k.ins
  | succ i=>exact k.at_ i a o h1 h2
 ·let⟨_,_,_,⟨w0,k0,_⟩,_⟩:=S0;let⟨_,_,_,⟨w1,k1,k2⟩,_⟩:=pr k;have A:=b2.t.f _ _ k0;have y:=k.t.f _ _ k0;rw[g2]at A;rw[k1]at y;injection A with A;injection A with A;injection y with y;injection y with y;rw[y,←A]at k2;exact k2
end
def CU (h:p∈hs)(h0:p≠0)(a:VA n)(no:p<0→-p∉hs):p∈cS n hs:=by
 rcases Int.lt_or_gt_of_ne h0 with c | c
 ·exact List.mem_map.mpr ⟨-p,ka.mpr (by lia),by rw[if_neg (no c),Int.neg_neg]⟩
 ·exact Xz p (ka.mpr (by lia)) (by rw[if_pos h])
structure FD (K)(x)(st)(f td)(fd)(tk):Prop where
 a:JnF x f
 ex:∃(oc:Value) (od:Option Addr) (kV doc pm:Value) (an:Option Addr) (cdv ct:Value) (osl:JoF Value),
  fd=JlR x x st st (ai st) (.ref td) kV doc pm an cdv ct∧JiK f oc od fd osl∧Jl9 K cdv x
 k:Joo f
 t:∃(od:Option Addr) (n:Nat) (sl:JoF Value),Jg7 td (.type "tuple") od (.seq #[JdY tk] n) sl
def fd_in {K:W.Frag}{x:Str}{st:Stmt}{f g:Addr}{p kV b h cdv i:Value}{od j e:Option Addr}{d o:Array (Option Value)}{tk:Tok}{n:Nat}(a:JnF x f)(l:JiK f p od (JlR x x st st (ai st) (.ref g) kV b h j cdv i) d)(c:Jl9 K cdv x)(k:Joo f)
  (t:Jg7 g (.type "tuple") e (.seq #[JdY tk] n) o):FD K x st f g (JlR x x st st (ai st) (.ref g) kV b h j cdv i) tk:=⟨a,⟨p,od,kV,b,h,j,cdv,i,d,rfl,l,c⟩,k,e,n,o,t⟩
def FD.okX {P:Program}{w:World}{K:W.Frag}{mg:Str→Option Value}{base:Heap}{x:Str}{st:Stmt}{f g:Addr}{e:FuncData}{tk:Tok}{N ps:List Str}{k:Nat}{sp:Sp}(F:FD K x st f g e tk)(S:Vj N ps st)(b:∀vs H Q E,sp vs H Q E→JgZ vs.length)
  (a:∀cdv A outer s H vs Q E,Jb_ k (JgR x st f)→sp vs H Q E →
   ∃t,PSs (Jka (Jda w) P w K mg N x st f A s H E) (zas st) t∧t { nx:=λ_ H'=>Q .non H',rt:=Q } (zc4 N vs) H):Jmf P w K w (k+1) f e ps sp:=by let⟨o,od,kV,l,n,q,cdv,p,h,rfl,i,d⟩:=F.ex;exact oX i d S b λA outer s H vs Q E j c=>a cdv A outer s H vs Q E j c
def bindD (F:FD K x st f td fd tk)
  (h:∀kV d i l cdv j a b,∃k:JmI (Array Value) (Sem (Jgx Value)),JfH (JlR x x st st (ai st) (.ref td) kV d i l cdv j) [a,b]=seqItems? (.ref td) >>= k∧Jgc (k (some #[JdY tk])) [(p,a),(q,b)]):Jw fd [p,q]:=by
 let⟨A,od,kV,d,i,l,cdv,j,o,e,B,v⟩:=F.ex;let⟨r,n,z,u⟩:=F.t;intro s us X g;rw[List.append_nil]at g ⊢;rcases us with _ | ⟨a,_ | ⟨b,_ | ⟨c,us⟩⟩⟩
 ·cases g
 ·cases g
 ·let⟨k,y,w⟩:=h kV d i l cdv j a b;subst e;exact BindsTo.of_defaults rfl (X _ _ u) rfl y w
 ·cases g
structure hX (n)(B:Vp Int):Prop where
 row:∀r∈B,r.Nodup∧∀p∈r,Jha n
 n40:n≤40
 bl:Q3 B.length
structure SrQ (K)(CL)(H)(n)(Rs)(most)(Q:VK)(E:XK):Prop where
 long:most≤2 ^ (n+1)→Jkb Rs n .long→∀H',Jlo CL H'
 yes:∀H' t th hs,Jkb Rs n .yes→Jcg H t (JmR t (VV "yes" th) th ((cS n hs).map V.int) (Jc0 (∀r∈Rs,∃p∈r,p∈cS n hs) t))
 no:∀H' t pl ys pp rs,Jkb Rs n .no→Jcg H t (J5 pl (JmQ t (VV "no" pl) (JkP pl→XH H' pp ys→Jlz (pp.length:Int)→Pap n Rs pp (rs++[[]])→pp≠[]→(∀v,¬dZ v Rs)→Jc0 ((∀r∈Rs,2≤r.length)→2≤pp.length) t)))
inductive sT (K)(CP CL):Sp|m{vs H Q E} (p tl al rl) (T) (As) (Rs) (most):Jmu (vs=JfK p most) CP (iV T→iU As→hX As.length Rs→Jlz 1→most≤100000→SrQ K CL H As.length Rs most Q E→sT K CP CL vs H Q E)
def om:Jje ["problem","most","hunt","fails"] "most" jZ:=fsc
section
variable {P:Program} {w:World} {K:W.Frag} {mg:Str→Option Value} {base:Heap} {C CP CL f fI fB fN fC fG fP:Addr} {fd dI dB dN dC dG dP':FuncData}
structure HG (P)(w)(K)(mg)(base)(C CP CL fI fB fN fC fG fP)(dI dB dN dC dG dP'):Prop where
 mI:Mk K C fI
 I:QR 1 fI dI (Jfq "most") (sS K C CP)
 bI:Jw dI (Jfq "most")
 gI:mg "Hunt"=Ja C
 mB:Jnm "begin" fB
 B:QR 8 fB dB ["self"] (sQ K C CP)
 bB:Jnx dB
 mN:Jnm "learn" fN
 N:Jmv P w K w 4 fN dN "fails" (su K C CL)
 bN:Ja9 dN "fails"
 mC:Jnm "choose" fC
 C':QR 2 fC dC ["self"] (sj K C)
 bC:Jnx dC
 mG:Jnm "grow" fG
 G:QR 7 fG dG ["self"] (lG K C CP)
 bG:Jnx dG
 mP:Jnm "held_parts" fP
 P':QR 1 fP dP' ["self"] (sr K C)
 bP:Jnx dP'
theorem xR:∀ts:V3 Int,cnt ts≤(ts.length:Int)
 | []=>Int.le_refl _
 | t :: ts=>by have:=xR ts;show zaS t+cnt ts≤(ts.length+1:Int);unfold zaS;split <;> lia
structure RP (n)(B)(most)(x):Prop where
 r:Jbf (hS0 B n,.beg 0) x
 p:Pap n B x.1.pp x.1.rs
inductive HSt (n)(B)(most)(S):V→Prop
 | rest:cV n B S→JhL S.lk→RP n B most (S,.rest)→JmJ n B S .non
 | odds {f:Int}:eB n B S f→(∀c,(S.wg c).length≤S.rs.length)→RP n B most (S,.odds f)→JmJ n B S (.int f)
def HSt.b (h:JmJ n B S v):HB n B S:=by
 cases h with
 | rest h _ _=>exact h.b
 | odds h _ _=>exact h.b
def CV (T:JkF C)(G:HG P w K mg base C CP CL fI fB fN fC fG fP dI dB dN dC dG dP'){cdv:Value}{Ar:Around}{outer:List Env}{s:Shared}{H0:Hp}{E:XK}(Y:JbC 8 (JgR "search" jZ f)) :
  ∃z,PSs (Jka (Jda w) P w K mg ["problem","most","hunt","fails"] "search" jZ f Ar s H0 E) ((zas jZ).drop 2) z ∧
   ∀H Q p x As Rs most n A H2 v,As.length=n→PrP K CP H p As→hX n Rs→Jlz 1→most≤100000→SrQ K CL H n Rs most Q E→A.h=x→(∃S2 O2 R2,JmJ n Rs S2 v∧S2.pp=[]∧Jh K C H O2 H2 A p S2 S2.hs R2) →
    z { nx:=λ_ H'=>Q .non H',rt:=Q } [Ja p,Je most,Ja x,some v] H2:=by
 have hr1:=Jck (j:=1);have hr2:=Jck (j:=2);have hr4:=Jck (j:=4);have hr7:=Jck (j:=7);refine JN (aj (l_ PassesOwn.leaving (cD cN) (Jjt (be (Jcj me 3 eP) (aj (be (Jcw (Jbw 2 G.mN G.N hr4 G.bN (hJ xe1) (Vh 3))) (Qi (Jh9 bz (Js 2)))
       aU)) (aj (be (Jcw (kx (pv 2) T.cl G.mC G.C' hr2 G.bC .nil aJ)) (Qi (Jh9 bz (kx (pv 2) T.cl G.mP G.P' hr1 G.bP .nil aJ)))
       aU))) (Qn (i:=3) om.nd (kx (pv 2) T.cl G.mG G.G hr7 G.bG .nil aJ)))))
 rfl'
 rintro H Q p x As Rs most n A H2 v hn PP ro m1 m2 q U ⟨S2,O2,R2,h2,p2,U2⟩;have O:=ro.n40;refine Qj (λm σ H'=>Ex5 λ v A' o O' R'=>An7 (σ=[Ja p,Je most,Ja x,some v]) (m=2 ^ (n+1) - Jit o.ts) (A'.h=x) (JmJ n Rs o v) (o.pp.length≤Jit o.ts) (Jlz (o.pp.length:Int)) (Jh K C H O' H' A' p o o.hs R')) ⟨_,v,A,S2,O2,R2,rfl,rfl,U,h2,by rw[p2];exact Nat.zero_le _,by rw[p2];show Jlz (0:Int);lia,U2⟩
 clear h2 p2 U2 S2 O2 R2 v H2 U A;rintro m σ H1 ⟨v,A,k,O1,R1,rfl,em,U,st,pw,pm,U1⟩;have wl:Jit k.ts+2≤2 ^ (n+1):=by have:=qd n k.ts 0 (by have:=st.b.tlen;lia);rw[Nat.sub_zero]at this;exact this
 have wl2:(wgt n 0 k.ts:Int)+2≤(2:Int) ^ (n+1):=by exact_mod_cast wl
 have rl:k.rs.length≤101000:=by have:=st.b.len;have:=ro.bl;lia
 have i1:=U1.ins;rw[U]at i1;refine QI (J9 (λc=>JcL c));refine JN (λ_ _ z=>z);have gr:∀ {R O3:Hp} {R3:HC} {X:HA} {B:HS} {v3:V},X.h=x→cV n Rs B→RP n Rs most (B,.grow)→Jit k.ts<Jit B.ts→B.pp.length≤Jit B.ts→Jlz (B.pp.length:Int)→Jh K C H O3 R X p B B.hs R3 →
   (Jlr (oV C "grow" (lG K C CP) [] E0 (ia 2) de) 3) { nx:=λσ' H'=>∃m',m'<m∧Ex5 λ(v:V) (A':HA) (o:HS) (O':Hp) (R':HC)=>An7 (σ'=[Ja p,Je most,Ja x,some v]) (m'=2 ^ (n+1) - Jit o.ts) (A'.h=x) (JmJ n Rs o v) (o.pp.length≤Jit o.ts) (Jlz (o.pp.length:Int)) (Jh K C H O' H' A' p o o.hs R'),rt:=Q,bk:=λ_ _=>False,ct:=λ_ _=>False } [Ja p,Je most,Ja x,some v3] R:=by
  intro R O3 R3 X B v3 Z M3 F w3 pw3 pm3 D;have i3:=D.ins;rw[Z]at i3;have rl3:B.rs.length≤199000:=by have:=M3.b.len;have:=ro.bl;lia
  have fin:∀H4 O4 R4 I v4,eK B I→JmJ n Rs I v4→Jh K C H O4 H4 X p I I.hs R4→∃m',m'<m∧Ex5 λ(v:V) (A':HA) (o:HS) (O':Hp) (R':HC)=>An7 ([some (V.ref p),Je most,Ja x,some v4]=[Ja p,Je most,Ja x,some v]) (m'=2 ^ (n+1) - Jit o.ts) (A'.h=x) (JmJ n Rs o v) (o.pp.length≤Jit o.ts) (Jlz (o.pp.length:Int)) (Jh K C H O' H4 A' p o o.hs R'):=λH4 O4 R4 I v4 e4 st4 U4=>by have w4:=e4.wgt n;exact⟨_,by lia,v4,X,I,O4,R4,rfl,rfl,Z,st4,by rw[e4.pp];lia,by rw[e4.pp];exact pm3,U4⟩
  exact⟨_,rfl,x,X.dx,_,rfl,i3,rfl,X,H,O3,p,most,B,R3,n,Rs,As,by rw[Z];rfl,D,⟨M3,O,rl3⟩,PP,λH4 O4 R4 I r U4=>fin _ _ _ _ _ r.e (.rest r.m r.l ⟨F.r.trans r.r,by show Pap n Rs I.pp I.rs;rw[r.e.pp,r.e.rs];exact F.p⟩) U4,λH4 O4 R4 I g r U4=>fin _ _ _ _ _ r.e (.odds r.c r.g ⟨F.r.trans r.r,by show Pap n Rs I.pp I.rs;rw[r.e.pp,r.e.rs];exact F.p⟩) U4⟩
 cases st with
 | odds Cf gl J =>
  rename_i fl;have sp:SpLn n Rs k fl:=Ji9 Cf O (by lia) (λc=>by have:=gl c;lia);refine Jlm (J9 (λc=>JiT c));refine⟨_,rfl,x,A.dx,_,rfl,i1,rfl,_,rfl,A,H,O1,p,most,k,R1,fl,n,Rs,by rw[U];rfl,U1,sp,λhn hm H' s'=>q.long (by lia) (JnP J.r (.inl (Jbz hn hm))) H' s',λS hm R O3 R3 D=>?_,λX R O3 R3 B e3 r3 D=>?_⟩
  ·refine QI (J9 (λc=>JiT c));have i3:=D.ins;rw[U]at i3;refine JeT _ x C A.dx _ _ rfl i3 T.cl T.n_paper rP lS2 (λt ht=>?_);have s3:JdH R R t (VV "no" A.pp):=Jdg ht;have lg:=Cf.lnG O;rw[S]at lg;refine q.no _ t A.pp _ (k.pp++[lnD [] (cB k.rs k.ts fl).reverse]) k.rs (JnP J.r (.inr (Jbz S hm))) (D.t.f.trans s3) (D.t.f.free ht) (D.t.d _ (by rw[D.u.at_ 2 _ _ rfl rfl];exact λz=>nomatch z)) ao (s3 _ _ (D.at' 2 rfl rfl)) (D.u.pp.keep s3.kt D.u.pn) ?_ (J.p.more lg) (λz=>by simp at z) (Cf.no S) λh2=>?_
   ·rw[lAq];show((_+1:Nat):Int)≤_;lia
   ·rw[lAq];show 2≤_+1;rcases Nat.eq_zero_or_pos k.pp.length with z | z
    ·refine absurd S (Cf.two λr Y=>h2 r ?_);let⟨L,W,e2,_⟩:=J.p.ex;have W:k.pp=_:=W;have e2:k.rs=_:=e2;have l0:L=[]:=List.length_eq_zero_iff.mp (by rw[W,lM]at z;exact z);rw[e2,l0,List.map_nil,List.append_nil]at Y;exact Y
    ·lia
  ·refine QI (VY (λc=>Jak c));have w3:=r3.wgt;have pp3:B.pp.length≤k.pp.length+1∧Jlz (B.pp.length:Int):=by
    rcases r3.to with ⟨e,_⟩ | ⟨W,e,_⟩
    ·rw[e];exact JgO pm
    ·rw[e,lAq];show _+1≤_∧((_+1:Nat):Int)≤_;lia
   have F:RP n Rs most (B,.grow):=⟨J.r.step (Vf r3.st),by
    show Pap n Rs B.pp B.rs;rcases r3.to with ⟨W,e2⟩ | ⟨_,W,e2⟩
    ·rw[W,e2];exact J.p
    ·rw[W,e2];exact J.p.more (Cf.lnG O)⟩
   exact gr (e3.trans U) r3.mid F w3 (by lia) pp3.2 D
 | rest M hl J =>
  refine Jlm (VY (λc=>JkH (show ¬Vq (!decide (V.non=V.non)) by decide)));have tln:=M.b.tlen;have bsl:Q3 k.bs.length:=by have h1:=mX k.ts;have h2:=xR k.ts;rw[←M.b.bs]at h1;lia
  refine⟨_,rfl,x,A.dx,_,rfl,i1,rfl,A,H,O1,p,most,k,R1,by rw[U];rfl,U1,⟨by lia,bsl,λa ha=>by have:=(M.b.od a).mp ha;lia,M.b.la⟩,?_⟩;cases S:jX k with
  | none =>
   refine QI (J9 (λc=>JiT c));refine⟨_,rfl,x,A.dx,_,rfl,i1,rfl,A,H,O1,p,most,k,R1,n,by rw[U];rfl,U1,O,M.b.od,M.b.odn,λR th s3 n3 h3=>⟨lS2,λt ht=>?_⟩⟩;have s4:JdH R R t (VV "yes" th):=Jdg ht;have sH:=U1.t.f.trans s3;have all:∀a∈k.od,a∈k.hs∨-a∈k.hs:=λa ha=>by
    have:=List.find?_eq_none.mp S a ha;simp only[Bool.and_eq_true,decide_eq_true_eq,not_and,Decidable.not_not]at this;by_cases c:a∈k.hs
    ·exact .inl c
    ·exact .inr (this c)
   refine q.yes _ t th k.hs ⟨_,J.r,S,rfl⟩ (sH.trans s4) (sH.free ht) ao (s4 _ _ h3) λr hr'=>?_;let⟨z,z1,z2⟩:=M.yes hl all r hr';have z3:=(ro.row r hr').2 z z1;exact⟨z,z1,CU z2 z3.1 z3.2 λ_ y=>M.b.tok.cons z2 y⟩
  | some a =>
   intro R O3 R3 D;refine QI (VY (λc=>Jak c));have ha:=List.mem_of_find?_eq_some S;have hb:=List.find?_some S;simp only[Bool.and_eq_true,decide_eq_true_eq]at hb;have w3:=AR n k.ts ((k.la a).getD (-a),-1);exact gr U (M.pick (by lia) hl ha hb.1 hb.2) ⟨J.r.step (Jbz a S),J.p⟩ w3 (Nat.le_of_lt (Nat.lt_of_le_of_lt pw w3)) pm D
def CW {td:Addr}{tk:Tok}(F:FD K "search" jZ f td fd tk)(T:JkF C)(G:HG P w K mg base C CP CL fI fB fN fC fG fP dI dB dN dC dG dP'):Jmf P w K w 9 f fd (Xt "most") (sT K CP CL):=by
 refine FD.okX F om (λvs H Q E h=>?_) (λcdv Ar outer s H vs Q E Z h=>?_)
 ·let⟨p,L,al,N,T',t,Rs,most,rfl⟩:=h;rfl
 let⟨p,L,al,N,T',t,Rs,most,rfl,S,M,pl,u,m1,m2,q⟩:=h;have Y:=Jcl (j:=2);let⟨z2,h2,q2⟩:=CV (base:=base) T G (cdv:=cdv) (outer:=outer) Z;refine JN (JmP (i:=2) om.nd (uA G.mI G.I Y rfl G.gI G.bI .nil aJ (V6 0 1)) (ae (Qn (i:=3) om.nd (kx (pv 2) T.cl G.mB G.B Z G.bB .nil aJ))
  h2))
 rfl'
 generalize hn:t.length=n at *;have W:=u.n40;refine Jos (λx d hx y nd=>?_);have v:(JgW d x x d []) x=some _:=ao;have s1:Jna (zeF (JgW d x x d []) x):=λb o e=>by
  have D:b≠x:=λz=>by rw[z,hx]at e;cases e
  have X:b≠d:=λz=>by rw[z,y]at e;cases e
  unfold zeF;rw[if_neg D,aq D,aq X];exact e
 have s2:Jna (JgW d x x d []):=λb o e=>by
  have D:b≠x:=λz=>by rw[z,hx]at e;cases e
  have X:b≠d:=λz=>by rw[z,y]at e;cases e
  rw[aq D,aq X];exact e
 refine⟨x,d,p,L,al,N,most,T',t,Rs,rfl,v,S.same s2,by lia,λA O R H1 J U=>VI rfl⟩;rw[hn]at U;have U:=U.base s1;have PP:PrP K CP H p t:=⟨⟨L,al,N,T',Rs,S,M⟩,pl⟩;have sb:cK n Rs 0 (hS0 Rs n):=cK.zero rfl rfl rfl rfl (λa=>ka) ((xE n).imp λ{a b} h e=>by lia) (λ_=>rfl) rfl (λ_=>rfl) λ_=>rfl;have i1:=U.ins;rw[J]at i1;refine⟨_,rfl,x,A.dx,_,rfl,i1,rfl,A,H,O,p,most,hS0 Rs n,R,n,Rs,t,by rw[J];rfl,U,⟨sb,u.row,W,u.bl⟩,PP,λH2 O2 R2 k r U2=>?_,λH2 O2 R2 k fl r U2=>?_⟩
 ·exact q2 H Q p x t Rs most n A H2 .non hn PP u m1 m2 q J ⟨k,O2,R2,.rest r.m r.l ⟨r.r,by rw[r.p,r.b];exact Pap.nil n Rs⟩,r.p,U2⟩
 ·exact q2 H Q p x t Rs most n A H2 _ hn PP u m1 m2 q J ⟨k,O2,R2,.odds r.c r.g ⟨r.r,by rw[r.p,r.b];exact Pap.nil n Rs⟩,r.p,U2⟩
end
section
variable {P:Program} {w:World} {K:W.Frag} {mg:Str→Option Value} {base:Heap} {aK C CP CM:Addr} {f fI:Addr} {fd dI:FuncData}
noncomputable def ze4 (Rs:Vp Int)(ks:List Int):Vp Int:=ks.map λk=>Rs.getD k.toNat []
inductive sU (K)(C):Sp|m{vs H Q E9} (p q tl al rl) (T) (As) (Rs) (ks):Jmu (vs=Jaz p q) C (Jz H q (ks.map V.int)→JmY (∀k∈ks,0≤k∧k<(Rs.length:Int)) T.length (JmX As.length (JmX ks.length ((∀H' p' tl' al' rl',Jcg H p' (J5 tl' (J5 al' (J5 rl' (Jc0 (bu K C H' p' tl' al' rl' T As (ze4 Rs ks)) p')))))→sU K C vs H Q E9))))
def xS:Jje (Jbr "numbers" "part") "numbers" nF:=fsc
def CY (F:V4 "part_of" "part_of" nF)(T:JcR C)(MK:Mk K C fI)(mC:mg "Problem"=Ja C)(Bi:QR 1 fI dI ["self"] (nO C))(bi:Jnx dI):JkY 3 "numbers" (sU K C):=by
 refine F.ok xS (λvs H Q E h=>?_) (λcdv A outer s H vs Q E hr h=>?_)
 ·let⟨p,q,tl,al,rl,T',As,Rs,ks,rfl,_⟩:=h;rfl
 let⟨p,q,tl,al,rl,T',As,Rs,ks,rfl,S,hq,hk,lT,lA,lk,out⟩:=h;refine JN (JH (i:=2) xS.nd (ky MK Bi hr rfl mC bi .nil aJ) (bD (Jh7 oY (Js 2) (Ja1 0))) (JcI (bD (Jh7 oY (Js 2) (Ja1 0))) (bD (Jh7 oY (Js 2) (Qc (Vw (N':=["number","problem"]) (ix:=[0]) rfl rfl rfl (λok=>JjO (sc:=ai nF)) rfl rfl (JdN _) (cT (pv 1)) (λ_ _ _ _=>(aI (r:=jc K) cu (wA K rfl (pv 1) rfl) (pv 0))))))) (pv 2)))
 rfl'
 intro u c np ndx nex;have O:Jna (JgW c u u c []):=λb o h=>by rw[aq (λe=>by rw[e,np]at h;cases h),aq (λe=>by rw[e,ndx]at h;cases h)];exact h
 have hp0:=ao (H:=JcP c u) (a:=u) (o:=QF c []);generalize JgW c u u c []=H0 at O hp0;refine VO u c hp0 (λg l z H1 n1 n2 n3 e1 e2 e3 Z B ha1 hr1 k1=>VI rfl);have s1:Jna H1:=λb o h=>k1 b o (O b o h) (λe=>by rw[e,np]at h;cases h);have fT:=O.free n1;have fA:=O.free n2;have fR:=O.free n3;have P1:bu K C H1 u g l z [] [] []:=⟨⟨c,Z⟩,Joq B,Joq ha1,Joq hr1,e1,e2,e3⟩;have S1:=S.same s1;let⟨⟨dx,ho⟩,⟨xs,ht,Y⟩,⟨ys,ha,has⟩,⟨zs,hz,hzs⟩,_⟩:=id S1;have xl:Ja0 T'.length:=by rw[←Y.length,lM]
 refine⟨_,rfl,u,C,c,_,_,rfl,Z,T.cl,T.nT,iA _ _ _,Jez B,_,rfl,p,C,dx,_,_,rfl,ho,T.cl,T.nT,iA _ _ _,g,tl,_,_,rfl,rfl,B,ht,sz _ (by show Q3 (0+xs.length);lia),?_⟩;have U:=bj.lst (ys:=[]++xs) B;have s2:JeN H H1 g ([]++xs):=s1.upd fT;have P2:=P1.setT (T':=T') (Y.keep U (eE _));generalize Va H1 g ([]++xs)=H2 at U s2 P2;have S2:=S.same s2;let⟨⟨dx2,ho2⟩,_,⟨t,ha2,J⟩,_⟩:=id S2;let⟨⟨dq2,hp2⟩,_,⟨us2,L,X⟩,_⟩:=id P2;have eu2:=List.length_eq_zero_iff.mp X.length.symm;subst eu2;have yl2:t.length=As.length:=by rw[←J.length,lM]
 refine⟨_,rfl,u,C,dq2,_,_,rfl,hp2,T.cl,T.nA,iC _ _ _,Jez L,_,rfl,p,C,dx2,_,_,rfl,ho2,T.cl,T.nA,iC _ _ _,l,al,_,_,rfl,rfl,L,ha2,sz _ (by show Q3 (0+t.length);lia),?_⟩;have R:=bj.lst (ys:=[]++t) L;have M:JeN H H2 l ([]++t):=s2.upd fA;have P3:=P2.setA (As':=As) (J.keep R (JkD _));generalize Va H2 l ([]++t)=H3 at R M P3;have S3:=S.same M;let⟨⟨dq3,hp3⟩,_,_,⟨us3,hb3,W⟩,_⟩:=id P3;have eu3:=List.length_eq_zero_iff.mp W.length.symm;subst eu3;let⟨⟨dx3,ho3⟩,_,_,⟨v,hw3,I⟩,_⟩:=id S3;have wl:v.length=Rs.length:=by rw[←I.length,lM]
 refine⟨_,rfl,u,C,dq3,_,_,rfl,hp3,T.cl,T.nR,gD _ _ _,Jez hb3,_,rfl,q,rfl,V8 (M.seq hq),λD hD=>fh cU (λi us H'=>JmO H3 (XH H' ((ze4 Rs (ks.take i)).map dR) us)) (λi us H' ⟨y,_⟩=>(M.trans y).seq hq) ⟨Jdg hD,ar.nil⟩ ?_ ?_⟩
 ·rintro i us H8 x H4 hi hly G ⟨y,N⟩ ⟨rfl,hx⟩;let⟨k,hkk,rfl⟩:=Jkc _ ((M.trans y).seq hq);have kb:=hk k (mO hkk);have lt:k.toNat<v.length:=by lia
  have ek:k=(k.toNat:Int):=by lia
  have h2:=ay (gG lt);rw[←ek]at h2;let⟨d,hd,hdv⟩:=I.get (gG lt);have er:Rs[k.toNat]?=some (Rs.getD k.toNat []):=by rw[List.getD_eq_getElem?_getD,gG (by lia)];rfl
  rw[List.getElem?_map,er]at hd;cases hd;have kt:=bj.lst (ys:=us++[v[k.toNat]]) G;refine⟨_,rfl,p,C,dx3,_,_,rfl,y _ _ ho3,T.cl,T.nR,gD _ _ _,_,rfl,rl,_,_,_,rfl,rfl,SqL.of (y _ _ hw3),h2,JoU (sz _ (by rw[lM];lia)) hi G (y.upd hD)⟩;unfold ze4 at N ⊢;rw[bE hkk,mAq,mAq];exact Joi kt (cq fq _) N ((hdv.keep y.kt (fq _)).keep kt (fq _))
 rintro us H4 G ⟨y,N⟩;rw[lM,Jc_ _]at N;have ul:us.length=ks.length:=by rw[←N.length,lM];unfold ze4;rw[lM]
 have hb4:=y _ _ hb3;refine Jjb z D _ _ rfl hb4 G (sz _ (by show Q3 (0+us.length);lia)) ?_;have kt5:=bj.lst (ys:=[]++us) hb4;exact QI (out _ u g l z ((M.trans y).upd fR) np fT fA fR ((P3.same y).setR (Rs':=ze4 Rs ks) (us:=[]++us) (N.keep kt5 (cq fq _))))
end
end K98
namespace L2
open PySem PySem.Spec PyProof.Rows
open PySem.AutoSeq1 (wpAny_loadPart')
section
variable {prog:Program} {w:World} {A:Around} {E:Value→Shared→Prop} {s:Shared}
def typeK (f:TypeCalled T newId initId)
  (C:Jgc (checkTypeCall T ⟨args,kw⟩) ())(v:Jgc (checkBuiltinCall newId ⟨.type T :: args,kw⟩) ())
  (i:Xa (entryFor table newId) Bn)(j:Xa (entryFor table initId) Bi)(g:Meets (Bn ⟨.type T :: args,kw⟩) S)
  (h:S A.in1 (wants Q₁ E) s)
  (l:∀b a,Q₁ b a→a.TypeIs b T∧argsOk initId ⟨b :: args,kw⟩∧∃x,Meets (Bi ⟨b :: args,kw⟩) x∧x A.in1 (wants (λr k=>r=.none∧Q b k) E) a) :
  wpAny (Xq w) A (call (.type T) args kw) Q E s:=by
 let⟨c,J,z⟩:=f.mro;have u:=f.made;have y:=f.sub;refine wpAny_call (codeAny_of_tree ?_);refine JaU (Code.quiet_builtin _ (by decide +kernel)) (QX F.entry_type_call);rw[Around.under_plain (weight_type_call_type T args kw) (units_type_call_type T args kw)];have M:=f.notType;have L:=f.canCreate
 repeat (any_goals (first | assumption | wp_step))
 refine codeAny_mono (codeAny_call_builtin f.plain i (wpAny_of_eq v (g prog w A.in1 _ s h))) λr a q=>?_;cases r with
 | error e=>exact q
 | ok I =>
  cases I with
  | ret b =>
   let⟨G,t,x,H,p⟩:=l _ _ q;have B:=f.init.lookup;have D:=f.init.bind b
   repeat (any_goals (first | assumption | wp_step))
   refine codeAny_mono (codeAny_call_builtin f.init.plain j (f.init.check _ _ _ _ _ _ _ _ G t (H prog w A.in1 _ a p))) λo k d=>?_;cases o with
   | error e=>exact d
   | ok n =>
    cases n with
    | ret r =>
     let⟨rfl,K⟩:=d
     repeat (any_goals (first | assumption | wp_step))
    | _=>exact d.elim
  | _=>exact q.elim
def initK {T b:String}{c:Value}{rest:List Value}{e:List (Jhc Str)}(h:Jgc (Jbq T "__init__") (Qm "object.__init__"))
  (g:Jgc (Bind.madeBy (.type T)) (some b))(f:Vq (some b != some "object.__new__")) :
  Meets (Builtin.«object.__init__» ⟨V9 c,e⟩) (λ_ R s=>s.TypeIs c T∧Jm1 .none s):=by
 refine Meets.of_wp λprog w A R s hs=>?_;let⟨i,d⟩:=hs;cases rest with
 | nil =>
  cases e with
  | nil=>exact wpAny_pure (QI d)
  | cons =>
   repeat (any_goals (first | assumption | wp_step))
   exact QI d
 | cons a rest =>
  repeat (any_goals (first | assumption | wp_step))
  exact QI d
def newS (l)(items)(n)(f)(k)(m:Nat)(t)(q:Q3 m) :
  Meets (Builtin.«enumerate.__new__» ⟨JU (.type "enumerate") l,[(Str.ofString "start",Jdw m)]⟩) (λ_ R s=>s.heap.get? l=some { cls:=.type "list",dict:=f,data:=.seq items n,slots:=k } ∧
   R (Jca (.ref (s.heap.push { cls:=.type "list_iterator",data:=.fields #[.ref l,Jn1 0] }).objs.size))
    { s with heap:=(s.heap.push { cls:=.type "list_iterator",data:=.fields #[.ref l,Jn1 0] }).push { cls:=.type "enumerate",data:=.fields #[.none,.bool false,.ref s.heap.objs.size,rawInt m,.none,.none] } }) :=
 .of_wp λprog w A R s h=>by
  let⟨p,g,d,tk,o⟩:=s;let⟨j,h⟩:=h;have i:=sub_enumerate;have e:Heap.IsList _ l items:=VO _ j n rfl;have b:Vq (Builtin.SmallTypes.fitsIndex (m:Int)):=by unfold Builtin.SmallTypes.fitsIndex;simp;lia
  wp_walk using wpAny_loadPart' j
  refine wpAny_stack_any λst=>wpAny_pure ?_;split
  ·rename_i c _ _ _ _ _;cases (c == Value.type "enumerate")
   ·dsimp only;rw[if_neg Bool.false_ne_true];refine wpAny_bind ?_;refine JbH (a:=(Value.ref l,some (Jaj m))) ?e1
    case e1=>rfl
    dsimp only;refine wpAny_bind ?_;refine JbH (a:=Jaj m) ?e2
    case e2=>rfl
    refine wpAny_bind ?_;refine JbH (a:=some (m:Int)) ?e3
    case e3=>rfl
    dsimp only;rw[b,if_neg (by decide)];refine wpAny_bind ?_;refine JO e
    wp_walk
    exact QI h
   ·dsimp only;rw[if_pos rfl];refine wpAny_bind ?_;refine JbH (a:=(Value.ref l,some (Jaj m))) ?e1
    case e1=>rfl
    dsimp only;refine wpAny_bind ?_;refine JbH (a:=Jaj m) ?e2
    case e2=>rfl
    refine wpAny_bind ?_;refine JbH (a:=some (m:Int)) ?e3
    case e3=>rfl
    dsimp only;rw[b,if_neg (by decide)];refine wpAny_bind ?_;refine JO e
    wp_walk
    exact QI h
  ·dsimp only;rw[if_neg Bool.false_ne_true];refine wpAny_bind ?_;refine JbH (a:=(Value.ref l,some (Jaj m))) ?e1
   case e1=>rfl
   dsimp only;refine wpAny_bind ?_;refine JbH (a:=Jaj m) ?e2
   case e2=>rfl
   refine wpAny_bind ?_;refine JbH (a:=some (m:Int)) ?e3
   case e3=>rfl
   dsimp only;rw[b,if_neg (by decide)];refine wpAny_bind ?_;refine JO e
   wp_walk
   exact QI h
def CZ {l:Addr}{items:Array Value}{m:Nat}{t:Tok}{Q:Value→Shared→Prop}(p:Q3 m)(r:s.heap.IsList l items)
  (h:∀h',IsEnum h' (Vv 1) s.heap.objs.size m .none→h'.IsListIter s.heap.objs.size l 0→h'.objs.size=Vv 2→JcZ (∀b o,s.heap.get? b=some o→h'.get? b=some o) (Vv 1) { s with heap:=h' }) :
  wpAny (Xq w) A (call (.type "enumerate") (Vz l) [(Str.ofString "start",Jdw m)]) Q E s:=by
 let⟨⟨c,i,u,k⟩,q,g,n,f⟩:=r;replace g:c=.type "list":=g;replace f:u=.seq items n:=f;subst g f;refine typeK F.called_enumerate (by kernel_rfl) (by kernel_rfl) F.entry_enumerate_new F.entry_object_init (newS l items n i k m t p) (Q₁:=λd a=>a.TypeIs d "enumerate"∧Q d a) (VI q) λd _ e=>⟨e.1,?_,_,initK F.called_enumerate.init.lookup F.called_enumerate.made (by decide),e.1,rfl,e.2⟩
 ·have hz:(s.heap.push { cls:=.type "list_iterator",data:=.fields #[.ref l,Jn1 0] }).objs.size=Vv 1:=Heap.size_push ..;show _∧_;rw[hz];have j:IsEnum ((s.heap.push { cls:=.type "list_iterator",data:=.fields #[.ref l,Jn1 0] }).push
    { cls:=.type "enumerate",data:=.fields #[.none,.bool false,.ref s.heap.objs.size,rawInt m,.none,.none] }) (Vv 1) s.heap.objs.size m .none:=by
   have:=Heap.get?_push_size (s.heap.push { cls:=.type "list_iterator",data:=.fields #[.ref l,Jn1 0] })
    (o:={ cls:=.type "enumerate",data:=.fields #[.none,.bool false,.ref s.heap.objs.size,rawInt m,.none,.none] }) rfl
   rw[hz]at this;exact this
  exact⟨JkS j,h _ j (JiY (JgM (Heap.get?_push_size _ rfl))) (by rw[Heap.size_push,hz]) λb o x=>JgM (JgM x)⟩
 ·unfold argsOk;rw[signature?_of (n:=['_','_','t','i','n','i','_','_']) (by kernel_rfl) F.owner_object]
  kernel_rfl
end
def C0 {prog:Program}{w:World}{A:Around}{it:Addr}{a:List Addr}{n:Nat}{P:Nat→Value→Prop}{St:Nat→Heap→Prop}(D:Draws prog w A it a n P St)(m):Draws prog w A it a (m+n) (λj v=>∃i,j=m+i∧P i v) (λj h=>∃i,j=m+i∧St i h) where
 live:=λj h ⟨i,_,st⟩=>D.live i h st
 frame:=λj h h' ⟨i,e,st⟩ c=>⟨i,e,D.frame i h h' st c⟩
 item:=λj s Q E k ⟨i,e,st⟩ d=>D.item i s Q E (by lia) st λx h' tk f hs b=>d x h' tk ⟨i,e,f⟩ ⟨i+1,by lia,hs⟩ b
 done:=λs Q E ⟨i,e,st⟩ g=>D.done s Q E ((show i=n by lia) ▸ st) g
def IteS (K:W.Frag)(m:Nat)(a:Addr):It :=
 ⟨λi H=>∃xs x,Jcr a∧xs[i]?=some x,λi H x H'=>∃p y,Jny p∧Vu p∧H'=Jt H p (Jc8 ((m+i:Nat):Int) y)∧∀xs,Jcr a→xs[i]?=some y,λi H=>∃xs,Jcr a∧JhH i⟩
def C2 {P:Program}{w:World}{K:W.Frag}{R:List Expr}{x1:Nat}{pos:Pos}(m)(a e it)(y:e≠it):gS P w K (JjT R x1) (IteS K m a) [e,it] e (λi h=>(∃c,IsEnum h e it ((m+i:Nat):Int) c)∧JeY it a) where
 mem:=by simp
 obj:=λi h st b d=>by
  let⟨⟨c,g⟩,o,F,Y,hd⟩:=st;rcases List.mem_cons.mp d with rfl | d
  ·exact JnP g (λv z=>by have z':=z;cases z')
  ·have e':=mS d;subst e';exact⟨o,F,λv z=>by rw[hd]at z;cases z⟩
 keep:=λi h h' st k=>⟨by let⟨c,g⟩:=st.1;exact⟨c,JaL e _ g⟩,st.2.at λo q=>JaL it o q⟩
 item:=by
  intro X n hw hK Y i B s σ H E I U st hg;subst n hw hK;let⟨xs,x,S,hx⟩:=hg;let⟨j,rv,p,hz⟩:=I.list S;let⟨u,hu,ru⟩:=rv.get hx;let⟨⟨c,g⟩,l⟩:=st;let⟨oi,t,N,hdi⟩:=id l;have hL:=p.isList;let⟨ol,C,M,_⟩:=id hL;have hea:e≠a:=λz=>by have L:s.heap.get? a=some _:=z ▸ g;rw[C]at L;cases L;injection M with h;exact absurd h (by decide)
  have hia:a≠it:=λz=>by rw[←z,C]at t;cases t;rw[M]at N;injection N with h;exact absurd h (by decide)
  have D:=C0 (Draws.list (prog:=X.prog) (w:=X.w) (A:=X.A.in1) (I.ok.hd Y) it a hia j.toArray) m;have hi:i<j.toArray.size:=by have:=(gEq hu).1;simpa using this
  refine wpAny_pyNext_enum_itemD D g (Jbn i l hL) (by lia) y (by simp [y,hea]) λx' h' tk n F r hT hsz T=>?_;let⟨i1,e1,n⟩:=n;obtain rfl:i=i1:=by lia
  let⟨i2,e2,r⟩:=r;obtain rfl:i+1=i2:=by lia
  obtain rfl:u=x':=by rw[List.getElem?_toArray,hu]at n;exact Option.some.inj n
  refine QI (wpAny_letOwnedTupleGo_enum F λZ he2 f=>?_);replace f:Heap.SameBut e h' Z:=f;have J:=hLq g;have hiH:=hLq t;have hT2:=(f.2 _ (Nat.ne_of_gt J)).trans hT;have kk:∀b o,b∉[e,it]→s.heap.get? b=some o→Z.get? b=some o:=λb o d q=>by have O:b≠e:=λz=>d (by simp [z]);have hbi:b≠it:=λz=>d (by simp [z]);exact(f.2 b O).trans (T b o O hbi q)
  have new:JlP (Jlh H (Jc8 (m+i:Int) x)) Z (.tup (Jc8 (m+i:Int) x)):=by
   refine⟨?_,[.int _ tk,u],JeU (Vf _) ru,_,hT2,?_⟩
   ·exact Nat.le_of_lt (cR (show Q3 2 by decide))
   ·first | exact Jbn rfl _ rfl | exact Jbz rfl _ | exact Vf rfl
  refine⟨.ref s.heap.objs.size,_,I.turnedLaid (t':=tk+1) U kk (nRq _) new,rfl,⟨_,x,rfl,I.fresh,rfl,λys hy=>by rw[I.list_inj hy S];exact hx⟩,VI ⟨u,by rw[show((m+(i+1):Nat):Int)=(m+i:Int)+1 by lia];exact he2⟩,?_⟩
  ·exact r.1.at λo q=>(f.2 it (Ne.symm y)).trans q
  ·intro b d;have G:Qt b:=by
    rcases List.mem_cons.mp d with rfl | d
    ·exact J
    ·rw[mS d];exact hiH
   rw[Jk5 G];exact(U b d).1
 done:=by
  intro X n hw hK Y i B s σ H E I U st hg;subst n hw hK;let⟨xs,S,hx⟩:=hg;let⟨j,rv,p,hz⟩:=I.list S;let⟨⟨c,g⟩,l⟩:=st;let⟨f0,f1,f2,f3,f4,f5⟩:=U it (by simp);have hl:=rv.length;have D:Draws X.prog X.w X.A.in1 it [it,a] 0 (λ_ _=>False) (λ_ h=>JeY it a∧h.IsList a j.toArray) :=
   { live:=λ_ _ st=>(by let⟨o,F,_⟩:=st.1;exact⟨o,F⟩),frame:=λ_ _ _ st T=>⟨st.1.at λo e=>T it (by simp) o e,st.2.at λo e=>T a (by simp) o e⟩,item:=λ_ _ _ _ z=>absurd z (Nat.not_lt_zero _),done:=λs Q E st hE=>wpAny_nextOf_list_end (I.ok.hd Y) st.1 st.2 (by simp;lia) hE }
  exact wpAny_pyNext_enum_endD D g ⟨l,p.isList⟩ λh' eb=>Jcd (t':=s.toks) (λb o d q=>eb b o d q) f0 f1 f3 f4 f5
 self:=λ_ _ _ _ _ st h=>by let⟨⟨c,g⟩⟩:=st;exact wpAny_pyIter_enum g h
section
variable {X:Cx}
def iEnumS (K:W.Frag)(d tk:TA):TI:=λb H R=>d b H λvs e=>tk b e λzs c=>∃(a:Addr) (m:Nat),vs=Vz a∧zs=Ji6 m∧Q3 m∧(∃xs,Jby c a)∧R (IteS K m a) c
theorem C5
  (hplain:QM (args.any (·.1)))(hkw:QM (keywords.any (·.1.isNone)))
  (h:wpAny M A (evalArgs (.type T) true args keywords) (λa s₁=>wpAny M A (call (.type T) (first++a.pos) a.kw) Q E s₁) E s) :
  wpAny M A (callWith pos (.type T) first args keywords) Q E s:=by refine JI (wpAny_mono h (λa s₁ h₁=>Jaq ?_) λ_ _ x=>x);simp only[hplain,hkw,Bool.or_false];refine Qo ?_;exact wpAny_bind (wpAny_mono h₁ (λr s₂ hr=>JI (wpAny_point (wpAny_pure hr))) λ_ _ x=>x)
def C6 {i:List Expr}{C:Nat}{J y:Pos}{a d:Expr}{x tk:TA}{p e:Pos}(S:Gl X "enumerate")(P:Jcy "enumerate")(T:PA X [a] x)(Q:PK X [Jl1 "start" d y] tk)(hs:Vc [a]=(false,Vg a) :: []):PI X (.Tuple i C J) (JJ "enumerate" p [a] [Jl1 "start" d y] e) (iEnumS X.K x tk):=by
 intro c s k H R I h;have l:(VF e [a]).any (·.1)=false:=by rw[hs];rfl
 refine wpAny_Call_Name_kw (fw I S P boot_enumerate (C5 l rfl ?_));have A:=T e c s k H _ I h;rw[hs]at A ⊢;refine evalArgs_kw rfl (thn A λus D ⟨vs,H1,Z,G,q1⟩=>thn (Q e c D k H1 _ Z q1) λws f ⟨zs,B,j,F,w,m,W,U,n,⟨xs,O⟩,q⟩=>?_);subst W U;let⟨u,rfl,E⟩:=G.one;cases E;let⟨v,rfl,t,rfl⟩:=F.one;let⟨M,rv,pl,hz⟩:=j.list O;refine CZ n pl.isList λh' z o N L=>?_;refine wpAny_pyIter_enum z ?_;have Y:=j.kept (t':=f.toks) L;refine Jhr _ [f.heap.objs.size+1,f.heap.objs.size] _ (IteS X.K m w) B Y (C2 m w _ f.heap.objs.size (Nat.succ_ne_self _)) ⟨V8 z,o⟩ (λb r=>?_) q;have g:f.heap.objs.size≤b:=by
  rcases List.mem_cons.mp r with rfl | r
  ·lia
  ·rw[mS r];exact nRq _
 exact j.fpOk g (j.hok.fresh g)
end
end L2
namespace K98
open PySem L2
def C7:Jhf (IteS K m a) (λH=>Jcr a):=⟨λ_ _ h b=>⟨xs,h,b⟩,λi _ h b=>⟨xs,xs[i],h,by simp [b]⟩⟩
abbrev xT:Stmt:=wK
structure TxC (K)(mg:Jdr Str)(CC):Prop where
 cl:Cls K CC
 nP:cF K CC "plain"
 nT:cF K CC "tables"
 zip:QG "zip"
noncomputable def cFld (b a:Addr):Jgx V:=[("plain",.ref b),("tables",.ref a)]
def C8 (a b):(cFld a b).lookup ("plain":Str)=some (.ref a):=rfl
inductive sV (CC):Sp|m{vs H Q E9} (x dx pd td):vs=JgX x pd td→Jin x (.ins CC dx []) ((∀H',(∀b o,b≠x→Jiv b o b o)→Xy x (.ins CC dx (cFld pd td))→Jen H')→sV CC vs H Q E9)
def C9:Vj (JgG "plain") (JgG "plain") xT:=fsc
section
variable {P:Program} {w:World} {K:W.Frag} {mg:Str→Option Value} {base:Heap} {aK C CP CM CL CC f fI fD fL fS:Addr} {fd dI dD dL dS:FuncData}
def C_ (F:Jmb "Choice.__init__" xT)(T:TxC K mg CC):Jhb (JgG "plain") (sV CC):=by
 refine F.ok C9 (λvs H Q E h=>?_) (λcdv A outer s H vs Q E i h=>?_)
 ·let⟨x,a,e,d,rfl⟩:=h;rfl
 let⟨x,a,e,d,rfl,g,q⟩:=h;refine JN (Jjt (Jhj (pv 1)) (Jhj (pv 2)))
 rfl'
 refine JeT _ _ rfl x CC a _ rfl g T.cl T.nP (by decide) ?_;refine JeT _ _ rfl x CC a _ rfl ao T.cl T.nT (by show JhI 1;decide) ?_;exact q _ (λb o c h=>by rw[aq c,aq c];exact h) ao
def PlD (a:List At)(ps:List Int)(kvs:Jhg V)(n:Nat):Prop:=∀i z,i<n→a[i]?=some (.plain z)→Xa (JfM (Sum.inr z)) (.bl (decide ((i:Int)+1∈ps)))
structure jB (P)(w)(K)(H)(td):Prop where
 ex:∃kvs:List SE,JjF P w H td∧gL K H kvs∧Q3 kvs.length∧∀e∈kvs,∃n,Jjl e.2.2 n
def jB.same (h:jB P w K H td)(s:Xg H):jB P w K H' td:=by let⟨kvs,d,c,b⟩:=h.ex;exact⟨kvs,d.to λo z=>s _ _ z,λe a=>(c e a).keep s.kt,b⟩
structure ChAt (P)(w)(K)(CC)(H)(As)(ps)(c):Prop where
 ex:∃dx pd td kvs,Xh c (.ins CC dx (cFld pd td))∧Jc2 pd∧PlD As ps kvs As.length∧jB P w K H td
def ChAt.same (h:ChAt P w K CC H As ps c)(s:Xg H):ChAt P w K CC H' As ps c:=by let⟨j,b,a,kvs,i,g,e,d⟩:=h.ex;exact⟨j,b,a,kvs,s _ _ i,s _ _ g,e,d.same s⟩
inductive sW (K):Sp|m{vs H Q E9} (p q l) (t) (n):vs=Jaz p l→Ji1 p t.1 q→Jfo q (t.2.map V.int)→Jz H l ((ups n).map V.int)→t.2.length≤3→(∀i∈t.2,0≤i∧i<(n:Int))→(∀H' sg,Jln (e_ K H' (sgT t) sg) sg)→sW K vs H Q E9
def Dc:Vj ["term","values"] ["term","values"] nD:=fsc
def ups_at {n:Nat}{i:Int}(h:0≤i∧i<(n:Int)):atI ((ups n).map V.int) i=some (.int i):=by
 have e:i=(i.toNat:Int):=by lia
 rw[e];refine ay ?_;unfold ups;rw[List.map_map,List.getElem?_map,List.getElem?_range (by lia)];rfl
def Dd (F:V4 "sign_of" "sign_of" nD)(TT:QG "tuple"):Jhb ["term","values"] (sW K):=by
 refine F.ok Dc (λvs H Q E h=>?_) (λcdv Ar outer s H vs Q E hr h=>?_)
 ·let⟨p,q,l,t,n,rfl⟩:=h;rfl
 let⟨p,q,l,b,n,rfl,z,d,S,Z,L,W⟩:=h;refine JN (Qi (Jh9 (JC 0) (JA gk rfl TT (Qc (Vw (N':=["part","values"]) (ix:=[1]) rfl rfl rfl (λM=>JfS (sc:=ai nD) M) rfl rfl (JdN _) (ej (JC 0)) (λ_ _ _ _=>(Jod (r:=jc K) cu 1 (pv 0))))))))
 rfl'
 rfl'
 have U:Q8 b.1 q 0=some _:=ay rfl;have T:Q8 b.1 q 1=some _:=ay rfl;refine⟨_,rfl,p,_,_,_,rfl,rfl,z,U,_,rfl,p,_,_,_,rfl,rfl,z,T,q,rfl,V8 d,λD G=>Jm3 dU (λj ys H'=>Xg H∧ys=(b.2.take j).map V.int) (λj ys H' ⟨c,_⟩=>c.tup d) G ?_ ?_⟩
 ·rintro j ys Y x X B v a ⟨c,rfl⟩ ⟨rfl,R⟩;let⟨n,A,rfl⟩:=cA (R _ (c.tup d));rw[lM]at B;refine JjP _ _ rfl l _ _ _ (c.seq S) (ups_at (L n (mO A))) (Jep (bsz _ (by rw[lM];lia)) (by rw[lM];exact B) v a (c.upd G));rw[bE A,mAq];rfl
 rintro ys Y a ⟨c,rfl⟩;rw[lM,Jc_ _]at a;refine Jv D _ (JeO a (λu k=>?_));let⟨X,y,g,O⟩:=Xv k (b.2.map V.int);rw[y];refine⟨lS2,λJ o=>?_⟩;let⟨I,y,e,N⟩:=Xv o (VV b.1 u);rw[y];refine W I J ((c.trans g).trans e) (Qj u (SqT.of N));show QC I u ((b.2.map Sum.inl).map kV);rw[List.map_map];exact SqT.of (e _ _ O)
def Df (h:∀e∈kvs,∃n,JmF e.2.2 n):∀e∈hW kvs k p (.int i),∃n,e.2.2=V.int n:=λe a=>by
 unfold hW at a;split at a
 ·let⟨x,b,rfl⟩:=List.mem_map.mp a;split
  ·exact Vf _
  ·exact h x b
 ·rcases mPq a with z | z
  ·exact h e z
  ·rw[mS z];exact Vf _
def Dg (h:gL K H kvs)(d:e_ K H k p)(b:JoG H'):gL K H' (hW kvs k p v):=λe a=>by
 unfold hW at a;split at a
 ·let⟨x,c,rfl⟩:=List.mem_map.mp a;have:=(h x c).keep b;split
  ·exact this
  ·exact this
 ·rcases mPq a with z | z
  ·exact(h e z).keep b
  ·rw[mS z];exact d.keep b
def Dh (kvs)(k)(p)(v):(hW kvs k p v).length≤JhW 1:=by
 unfold hW;split
 ·rw[lM];lia
 ·rw[lAq];exact nRq _
inductive sX (P)(w)(K)(C CC):Sp|m{vs H Q E9} (p tl al rl q) (T) (As) (Rs) (ps):Jmu (vs=Jaz p q) C (iV T→iU As→As.Nodup→JjH 40→Jom q→(∀H' c,Jga H c (ChAt P w K CC H' As ps c) c)→sX P w K C CC vs H Q E9)
def iW:Jje ["problem","held","plain","number","atom","values","tables","term","value"] "held" qL:=fsc
def Di (F:V4 "chosen" "chosen" qL)(T:JcR C)(TB:Jfl K)(TC:TxC K mg CC)(MC:Mk K CC fI)(BI:QR 1 fI dI (JgG "plain") (sV CC))(bI:Jw dI (JgG "plain"))(gI:mg "Choice"=Ja CC)
  (BD:JgD 4 "heads" fD dD ["many","links"] (og K))(BL:Jm4 5 "same_links" fL dL "held" (ke K C))(BS:Jiu "sign_of" fS dS ["term","values"] (sW K)):JkY 6 "held" (sX P w K C CC):=by
 refine F.ok iW (λvs H Q E h=>?_) (λcdv Ar outer s H vs Q E Z h=>?_)
 ·let⟨p,tl,al,rl,q,Ts,As,Rs,ps,rfl,_⟩:=h;rfl
 let⟨p,tl,al,rl,q,Ts,As,Rs,ps,rfl,S,O,pl,nd,a40,hq,Q0⟩:=h;have hu:=c_ Z;have hr1:=Jcl (j:=1);have hr2:=Jcl (j:=2);have hr4:=Jcl (j:=4);refine JN (JH (i:=2) iW.nd fj (Jcb (C6 rfl TB.enumerate (Ja1 0) (uC af uB) rfl) (JkX rfl (i:=3) iW.nd (i:=4) iW.nd gf) (aj (be (Jmt 4) (aj (g_ hu (pv 2) (JC 4) (cZ uQ (pv 3) (pv 1) rfl) rfl))
     aU))) (JmP (i:=5) iW.nd (JfA BD.ok hr4 BD.m BD.kp BD.b (XB (Jh0 bO 0) (Jki BL.ok Z BL.m BL.kp BL.b 0 1))) (JH (i:=6) iW.nd fj (Jcb (vJ rfl TC.zip (Jhh (Js 0) 5)) (JkX rfl (i:=7) iW.nd (i:=8) iW.nd gf) (aj (ps_asg (pv 8) (pg_sub (pv 6) (Jki BS.ok hr1 BS.m BS.kp BS.b 7 5) (pset_S (gH Z)))))) (Qi (uA MC BI hr2 rfl gI bI .nil aJ (V6 2 6))))))
 rfl'
 rfl'
 refine λd hd=>?_;have s0:Jna (Xo H d []):=Jdg hd;have G:=ao (H:=H) (a:=d) (o:=.dK []);generalize Xo H d []=H0 at s0 G;have S0:=S.same s0;let⟨⟨dx,ho⟩,_,⟨ys,ha,hA⟩,_⟩:=id S0;have yl:JdA As.length:=by rw[←hA.length,lM]
 refine⟨_,rfl,p,C,dx,_,_,rfl,ho,T.cl,T.nA,iC _ _ _,al,1,rfl,rfl,by decide,QE _ ha,Jim (C7 (xs:=ys)) (λi L H'=>Ex3 λ(v3 v4:Option V) (kvs:Jhg V)=>An5 (L=[Ja p,Ja q,Ja d,v3,v4,none,none,none,none]) (cH d H0 H') (Xy d (.dK kvs)) (JbA i) (PlD As ps kvs i)) (λi L H' h=>by let⟨_,_,_,_,R,_⟩:=h;exact SqL.of (R _ _ (eM ha G (λz=>by cases z)) ha)) (JcX none none [] (cH.refl _ _) G (nRq _) (λi z h=>J2 h _))⟩
 ·rintro i L H2 x H3 hi ⟨v3,v4,kvs,rfl,R,hd2,lk,hv⟩ ⟨t,y,rfl,ht,rfl,hy⟩;have nad:al≠d:=eM ha G (λz=>by cases z);have hx:=hy _ (SqL.of (R _ _ nad ha));have u:=R.kt G;let⟨a,h1,h2⟩:=lE (hA.keep u (JkD As)) hx;let⟨z,rfl⟩:=pl a (mO h1);simp only[dA,Has,ar]at h2;let⟨M,zs,rfl,hp,v1,r1,rfl,rfl,v2,r2,rfl,rfl,rfl⟩:=h2;have J:JdH H2 H2 t (Jej ((1+i:Nat):Int) M):=Jdg ht;have n3:=ao (H:=H2) (a:=t) (o:=.tup (Jej ((1+i:Nat):Int) M));have hq3:JbX (Jt H2 t (Jej ((1+i:Nat):Int) M)) q:=J.tup (u.sq (s0.tup hq));generalize Jt H2 t (Jej ((1+i:Nat):Int) M)=H3 at J n3 hq3;have at0:JcW z 0=some (.str "plain"):=VW (j:=0);have at1:JcW z 1=some (.str z):=VW (j:=1);refine⟨t,_,rfl,SqT.of n3,rfl,_,_,rfl,_,_,rfl,rfl,?_⟩;refine Jjy _ M _ _ _ (J.tup hp) at0 rfl _ rfl (J9 (λc=>QU c));refine⟨_,rfl,_,rfl,q,_,rfl,.inr hq3,rfl,kH _,_,rfl,_,rfl,M,_,_,_,rfl,rfl,J.tup hp,at1,d,_,rfl,JkG (k:=Sum.inr z) (J _ _ hd2) (by rw[yl]at hi;lia),?_⟩;refine JcX _ _ _ ((R.trans λb o _ e=>J b o e).trans (cH.put _ _)) ao ?_ (λj z' hj r=>?_)
  ·have:=jR kvs (Sum.inr z) (.bl (if Vq false then !Jne (.int ((1+i:Nat):Int)) V.int else Jne (.int ((1+i:Nat):Int)) V.int))
   show(Jba (Sum.inr z) _).length≤_;lia
  ·rw[jM];by_cases e:j=i
   ·subst e;rw[h1]at r;injection r with r;injection r with r;rw[if_pos (by rw[r]),if_neg (by decide:¬Vq false),iM];congr 3;rw[show((1+j:Nat):Int)=(j:Int)+1 by lia]
   ·rw[if_neg (λy=>e ?_)]
    ·exact hv j z' (by lia) r
    ·injection y with y;rw[←y]at h1;exact ni nd r h1
 ·rintro L H1 ⟨v3,v4,kvs,rfl,R,hd1,lk,hv⟩;rw[yl]at hv;have s1:Jna H1:=λb o e=>R b o (λz=>by rw[z,hd]at e;cases e) (s0 b o e);have PP:PrP K C H1 p As:=⟨⟨tl,al,rl,Ts,Rs,S.same s1,O⟩,pl⟩;let⟨⟨dx1,ho1⟩,⟨ts,ht1,hT1⟩,_⟩:=S.same s1;have tln:ts.length=Ts.length:=by rw[←hT1.length,lM]
  have t60:=O.len;refine⟨_,rfl,p,C,dx1,_,_,rfl,ho1,T.cl,T.nT,iA _ _ _,tl,_,rfl,Vd ht1,_,rfl,_,rfl,p,q,As,ps,rfl,PP,.inr (s1.tup hq),λH2 l2 s2 n2 h2=>⟨l2,ts.length,rfl,by lia,SqL.of h2,λH3 l3 J n3 h3=>?_⟩⟩;refine λB W=>?_;let⟨H4,eN,s34,v⟩:=nwH W (.dK []);rw[eN];have D:=(s2.trans J).trans s34;have Y:=s34 _ _ h3;have s04:=s1.trans D;have dtd:d≠B:=λz=>by have:=(s2.trans J) _ _ hd1;rw[z,W]at this;cases this
  have ul:((ups ts.length).map V.int).length=ts.length:=by unfold ups;rw[lM,lM,List.length_range]
  have X:=D _ _ ht1;have sHt:=(s04:Jna H4);have htdH:Vu B:=((s1.trans s2).trans J).free W;have I:∀ {H'},cH B H4 H'→H' l3=some (.lst ((ups ts.length).map V.int)):=λ{H'} A=>A _ _ (eM Y v (λz=>by cases z)) Y;have N:∀ {H'},cH B H4 H'→H' tl=some (.lst ts):=λ{H'} A=>A _ _ (eM X v (λz=>by cases z)) X;refine⟨_,rfl,p,C,dx1,_,_,rfl,D _ _ ho1,T.cl,T.nT,iA _ _ _,_,rfl,tl,l3,rfl,QE _ X,QE _ Y,Jim (vI (xs:=ts) (ys:=(ups ts.length).map V.int) ul.symm) (λi L H'=>Ex3 λ(v7 v8:Option V) (u:List SE)=>An6 (L=[Ja p,Ja q,Ja d,v3,v4,Ja l3,Ja B,v7,v8]) (cH B H4 H') (SD P w H' B u) (gL K H' u) (u.length≤i) (∀e∈u,∃n,JmF e.2.2 n)) (λi L H' h=>by let⟨_,_,_,_,A,_⟩:=h;exact QE (SqL.of (N A)) (I A)) ⟨none,none,[],rfl,cH.refl _ _,JiC v,λe he=>(nomatch he),nRq _,λe he=>(nomatch he)⟩⟩
  ·rintro i L H5 x H6 hi ⟨v7,v8,u,rfl,g,D5,k5,l5,i5⟩ ⟨pr,y,z,rfl,hpr,rfl,hy,hz⟩;have ktT:bj H4 H5:=g.kt v;have hy:=hy _ (SqL.of (N g));let⟨tm,pa,M,htm,rfl,hpa,hpq⟩:=tmAt ((hT1.keep D.kt (eE Ts)).keep ktT (eE Ts)) hy;let⟨n,hn,rfl⟩:=cA (hz _ (SqL.of (I g)));let⟨H6,eN,l,n6⟩:=Xv hpr (JfK pa n);rw[eN];have tmo:=O.ps tm (mO htm);refine⟨pr,_,rfl,SqT.of n6,rfl,_,_,rfl,_,_,rfl,rfl,?_⟩;refine⟨_,rfl,_,rfl,_,rfl,_,rfl,pa,M,l3,tm,ts.length,rfl,l.tup hpa,l.tup hpq,l.seq (SqL.of (I g)),tmo.1,by rw[tln];exact tmo.2,λH7 sg s67 hsg=>?_⟩;have U:=l.trans s67;have D7:SD P w H7 B u:=D5.to λo z=>U _ _ z;have k7:gL K H7 u:=λe he=>(k5 e he).keep U.kt;refine Jhr B sg (sgT tm) u rfl D7 (cR (by lia)) k7 hsg ?_;refine⟨_,_,_,rfl,(g.trans λb o _ e=>U b o e).trans (cH.put _ _),.inr ao,Dg k7 hsg (bj.sd D7),?_,Df i5⟩;have:=Dh u (sgT tm) sg (.int n);lia
  ·rintro L H5 ⟨v7,v8,u,rfl,g,D5,k5,l5,i5⟩;have s45:Jna H5:=λb o e=>g b o (λz=>by rw[z,htdH]at e;cases e) (s04 b o e);have hd5:=g _ _ dtd (D _ _ hd1);refine Jos (λx dx hx hdx nx=>⟨x,dx,d,B,rfl,ao,λH6 k6 h6=>VI rfl⟩);have l:=sy hx hdx k6;exact Q0 H6 x (s45.trans l) (s45.free hx) ⟨dx,d,B,kvs,h6,l _ _ hd5,hv,jB.same (Ji9 u D5 k5 i5) l⟩
end
structure TxL (K:W.Frag)(mg:Jdr Str):Prop where
 len:QG "len"
 min:QG "min"
 max:QG "max"
 dict:QG "dict"
inductive sY (K):Sp|m{vs H Q E9} (q d) (row held):vs=Jaz q d→Jfo q (row.map V.int)→JmY (dY H d held) row.length ((∀H' l,Jln (JT l ((nf row held).map V.int)) l)→sY K vs H Q E9)
def Dj:Vj ["row","held"] ["row","held"] nu:=fsc
def Dk {a:List Int}{i:Nat}{k:Int}(p)(h:a[i]?=some k):(a.take (i+1)).filter p=if Vq (p k) then(a.take i).filter p++[k] else(a.take i).filter p:=by
 rw[bE h,List.filter_append];by_cases e:Vq (p k)
 ·rw[if_pos e,List.filter_cons,if_pos e];rfl
 ·rw[if_neg e,List.filter_cons,if_neg e,List.filter_nil,List.append_nil]
def Dm {P:Program}{w:World}{K:W.Frag}{mg:Str→Option Value}{base:Heap}{f Y:Addr}{J Z:FuncData}(F:Fun K "not_failing" "not_failing" nu f J)(u:Jiu "once_each" Y Z ["parts"] (lq K)):QR 2 f J ["row","held"] (sY K):=by
 refine F.ok Dj (λvs H Q E h=>?_) (λcdv A outer s H vs Q E G h=>?_)
 ·let⟨q,d,g,a,rfl⟩:=h;rfl
 let⟨q,d,g,a,rfl,v,X,r,h⟩:=h;have S:=c_ G;let⟨kvs,T,R,_⟩:=id X.ex;refine JN (Qi (JfA u.ok G u.m u.kp u.b (Qc (Jax (N':=["part","held"]) (ix:=[1]) rfl rfl rfl (λN=>JfS (sc:=ai nu) N) rfl rfl (JdN _) (Jlc 0) (λ_ _ _ _=>(fg (jP S (Jgj 0) (pv 1)))) (λ_ _ _ _=>(pv 0))))))
 rfl'
 refine Jhk _ q v (λD I=>gZ dU (λi ys H'=>Xg H∧ys=((g.take i).filter λp=>decide (-p∉a)).map V.int) (λi ys H' ⟨o,_⟩=>o.tup v) (Jdh I) ?_ ?_)
 ·rintro i ys H' x H'' C t c ⟨o,rfl⟩ ⟨rfl,O⟩;let⟨k,B,rfl⟩:=cA (O _ (o.tup v));have L:=Dk (λp=>decide (-p∉a)) B;have z:=o _ _ T;have U:i<g.length:=by simpa using C
  refine Jgm _ _ rfl _ rfl d _ (cn.k (k:=Sum.inl _) z) _ rfl ?_;rw[R];by_cases e:-k∈a
  ·rw[dTq e];refine bq (gY C t c (VI o));rw[L,if_neg (by simp [e])]
  ·rw[dFq e];refine b_ (QI (Jep (by rw[lM];exact bsz _ r) C t c (o.upd I)));rw[L,JeC e,mAq];rfl
 ·rintro ys H' c ⟨o,rfl⟩;rw[lM,Jc_ _]at c;refine⟨D,g.filter λp=>decide _,rfl,Vd c,JlO _ r,λH2 l M y=>h H2 l (o.trans M) y⟩
def Dq {ps:List Int}{i:Nat}{k:Int}(h:ps[i]?=some k):(ps.take (i+1)).map (λp=>-p)=(ps.take i).map (λp=>-p)++[-k]:=by rw[bE h,mAq];rfl
def sZ (h0:0≤h)(a:h<(Rs.length:Int)):Rs[h.toNat]?=some (JbZ h):=by unfold aY;rw[List.getD_eq_getElem?_getD,gG (by lia)];rfl
def xU (a:JkQ zcM)(h0:0≤h)(b:h<(Rs.length:Int)):∃q,atI xs h=Ja q∧SqT K H q ((JbZ h).map V.int):=by
 let⟨q,d,c⟩:=vy a (sZ h0 b);have e:h=(h.toNat:Int):=by lia
 refine⟨q,?_,c⟩;rw[e];exact ay d
def Ds {K:W.Frag}{H:Hp}{ys:List V}{ps:List Int}(e:JdA ps.length)(h:∀(i:Nat) y p,ys[i]?=some y→ps[i]?=some p→∃a,QB y a∧Jfo a (JgJ p)) :
  ∀(i:Nat) y c,ys[i]?=some y→(tkv ps)[i]?=some c→∃a,QB y a∧SqT K H a [kV c.1,c.2]:=λi y c d b=>by
 unfold tkv at b;rw[List.getElem?_map]at b;cases q:ps[i]? with
 | none=>rw[q]at b;cases b
 | some p =>
  rw[q]at b;cases b;exact h i y p d q
noncomputable def dPT (p:Int):Dt:=.tup (JgJ p)
theorem xV:∀ps:List Int,JdT (ps.map dPT)
 | []=>by simp [zaM]
 | t :: ts=>by simp only[List.map_cons,zaM,dPT,nol,Bool.true_and];exact xV ts
def Du (h:Jif (dPT p) v):∃a,QB v a∧SqT K H a (JgJ p):=by unfold dPT at h;simp only[Has,ar]at h;let⟨a,xs,rfl,hs,c,r,rfl,rfl,b,d,rfl,rfl,rfl⟩:=h;exact Qd a hs
def of_dPT (h:Jfo a (JgJ p)):Jbk K H (dPT p) a:=Has.tup' h (JeU .int (by simp only[Has]))
def Dv {K:W.Frag}{H:Hp}{ps:List Int}{ys:List V}(h:J7 (ps.map dPT) ys):ys.length=(tkv ps).length∧∀(i:Nat) y kv,ys[i]?=some y→(tkv ps)[i]?=some kv→∃a,QB y a∧SqT K H a [kV kv.1,kv.2]:=by
 have b:JdA ps.length:=by rw[←h.length,lM]
 refine⟨by rw[b];simp [tkv],Ds b λi y p g f=>?_⟩;let⟨d,c,e⟩:=h.get g;rw[List.getElem?_map,f]at c;cases c;exact Du e
def Dw (a)(z):Jmq (a++[z]) (-1)=a:=by
 unfold dh;have e:Jng (a++[z]).length (a++[z]).length (-1)=a.length:=by
  show(if(-1:Int)<0 then((-1:Int)+((a++[z]).length:Int)).toNat else min (-1:Int).toNat (a++[z]).length)=a.length
  rw[if_pos (by decide),lAq];simp only[lS];lia
 rw[e,HT.sIx_none,List.drop_zero,Nat.sub_zero,List.take_left]
inductive s_ (K):Sp|m{vs H Q E9} (rl pt ht) (xs) (Rs) (ps hs):vs=JgX rl pt ht→Jcr rl→JkQ zcM→Jom pt→JnI ht V.int→(∀r∈Rs,Je4 100)→QV 100→hs.length≤100→LnR Rs ps hs→(∀H',Jko H')→s_ K vs H Q E9
def oo:Vj ["rows","parts","hints","held","hint","left"] ["rows","parts","hints"] qH:=fsc
def Dx {P:Program}{w:World}{K:W.Frag}{mg:Str→Option Value}{base:Heap}{f fN:Addr}{fd dN:FuncData}(F:V4 "is_learnt" "is_learnt" qH)(T:TxL K mg)(v:JgD 2 "not_failing" fN dN ["row","held"] (sY K)):JeF 3 ["rows","parts","hints"] (s_ K):=by
 refine F.ok oo (λvs H Q E h=>?_) (λcdv A outer s H vs Q E hr h=>?_)
 ·let⟨X,pt,G,xs,Rs,ps,hs,rfl,_⟩:=h;rfl
 let⟨X,pt,G,xs,Rs,ps,hs,rfl,hS,hL,hP,hH,lr,lp,lh,R,h⟩:=h;have hu:=c_ hr;have hlen:Ja0 Rs.length:=by rw[←hL.length,lM]
 refine JN (Xc (be (JmZ (JlV bZ 2) (Jhy jJ (VB (zP rfl) T.min PyProof.Rows.Boot.min (Vh 2))) (dJ (aA jK (VB (zQ rfl) T.max PyProof.Rows.Boot.max (Vh 2)) (Jf0 0))))
   cb
   aU) (Qn (i:=3) oo.nd (Jja (pK rfl) rfl T.dict (Qc (Vw (N':=["part"]) (ix:=[]) rfl rfl rfl (λ_=>JmW []) rfl rfl (λj i h=>by simp at h) (Jlc 1) (λ_ _ _ _=>(Jh9 (Jgj 0) cN)))))) (Jdd (Jcc (ej (Jly uO 2 eS (eT (JcB af)))) (i:=4) oo.nd (JH (i:=5) oo.nd (JfA v.ok hr v.m v.kp v.b (Jhh (Jg cu 0 (pv 4)) 3)) (be (Jg8 (JlV dQ 5) (fg (jm hu (JC 5) (pv 3))))
     cb
     aU) (aj (g_ hu (pv 3) (JC 5) cN rfl)))) (cZ bZ (VZ bO (Qc (JfA v.ok hr v.m v.kp v.b (Jhh (Jg cu 0 (Jg aQ 2 (JcB af))) 3)))) af)))
 rfl'
 rfl'
 let⟨fs,el,hst,hend⟩:=R.ex;have o:hs≠[]:=λz=>by rw[z]at el;cases el
 refine Jjb _ rfl G _ (.inr hH) rfl _ rfl (bo (λc1=>b_ ?_) (λc1=>?_))
 ·have e:=oDq c1;injection e with e;rw[lM]at e;exact o (List.length_eq_zero_iff.mp (by lia))
 refine⟨_,rfl,G,hs,rfl,.inr hH,o,λm hm hmin=>⟨_,_,rfl,rfl,_,rfl,bo (λc2=>b_ ?_) (λc2=>?_)⟩⟩
 ·have:=oDq c2;have:=(R.rng m hm).1;lia
 refine⟨_,rfl,G,hs,rfl,.inr hH,o,λmx hm2 hmax=>Jov _ X xs (.inl hS) _ _ _ rfl (bo (λc3=>?_) (λc3=>?_))⟩
 ·have:=oDq c3;have:=(R.rng mx hm2).2;lia
 have rng:=R.rng;obtain⟨c,z,rfl⟩:∃c z,hs=c++[z]:=⟨hs.dropLast,hs.getLast o,(List.dropLast_concat_getLast o).symm⟩;have el2:c.length=fs.length:=by rw[lAq]at el;simpa using el
 refine Jhk _ pt hP (λD hD=>fh dU (λi ys H'=>JmO H (XH H' (((ps.take i).map λp=>-p).map dPT) ys)) (λi ys H' ⟨C,_⟩=>C.tup hP) ⟨Jdg hD,.nil⟩ ?_ ?_)
 ·rintro i ys H' x S hi hly M ⟨C,hy⟩ ⟨rfl,hx⟩;let⟨k,hk',rfl⟩:=Jkc _ (C.tup hP);refine JdD _ _ lS2 (λa ha=>?_);have B:JdH S S a (JgJ (-k)):=Jdg ha;have N:=B _ _ M;refine JoU (by rw[lM];exact JdB _) hi N ((C.trans B).upd hD);rw[Dq hk',mAq];exact Joi (B.kt.trans (bj.lst N)) (xV _) hy (of_dPT ((bj.lst N).sq (SqT.of ao)))
 rintro ys H1 M ⟨C,hy⟩;rw[lM,Jc_ _]at hy;let⟨pl,pp⟩:=Dv hy;refine JcX D ys (tkv (ps.map λp=>-p)) (SqL.of M) pl pp (λd hd=>?_);have hd0:Vu d:=C.free hd;have B:Jna (JgH H1 d (ps.map λp=>-p)):=C.upd hd0;have O:dY (JgH H1 d (ps.map λp=>-p)) d (ps.map λp=>-p):=dY.of;generalize JgH H1 d (ps.map λp=>-p)=H2 at B O;have y:¬(HT.sIx ((c++[z]).map V.int).length 0 none=0∧Jng ((c++[z]).map V.int).length ((c++[z]).map V.int).length (-1)=((c++[z]).map V.int).length):=λq=>by
  have q2:=q.2;have q3:(if(-1:Int)<0 then((-1:Int)+(((c++[z]).map V.int).length:Int)).toNat else min (-1:Int).toNat ((c++[z]).map V.int).length)=((c++[z]).map V.int).length:=q2
  rw[if_pos (by decide),lM,lAq]at q3;simp only[lS]at q3;lia
 have ecut:Jmq ((c++[z]).map V.int) (-1)=c.map V.int:=by rw[mAq];exact Dw (c.map V.int) (.int z)
 refine Jb0 _ _ rfl _ rfl G _ rfl (B.tup hH) y (λq hq=>?_);rw[ecut];have s3:JdH H2 H2 q (c.map V.int):=Jdg hq;have ndq:d≠q:=by let⟨kvs,hk,_⟩:=O.ex;exact bV hk hq
 have lh':=lh;rw[lAq]at lh';refine Jbn q (V8 (SqT.of ao)) (Jim (dU (xs:=c.map V.int)) (λi σ H'=>Ex2 λ(v4 v5:Option V)=>An4 (σ=[Ja X,Ja pt,Ja G,Ja d,v4,v5]) (Xg H) (JT q (c.map V.int)) (dY H' d ((ps.map λp=>-p)++fs.take i))) (λi σ H' h=>by let⟨_,_,_,_,hq',_⟩:=h;exact SqT.of hq') ⟨none,none,rfl,B.trans s3,ao,by rw[List.take_zero,List.append_nil];exact O.same s3⟩)
 ·rintro i σ H' x S hi ⟨v4,v5,rfl,u,L,t⟩ ⟨rfl,hx⟩;let⟨k,hk,rfl⟩:=Jkc _ (SqT.of L);have hi:i<c.length:=(gEq hk).1;let⟨k0,k1⟩:=rng k (Xr (mO hk));let⟨r,J,I⟩:=xU hL k0 k1;have g:(JbZ k).length≤1000:=Vx (lr _ (mO (sZ k0 k1)));have hf:=gG (l:=fs) (i:=i) (by lia);let⟨e1,e2⟩:=hst i k _ (by rw[List.getElem?_append_left hi];exact hk) hf;generalize fs[i]'(by lia)=a at hf e1 e2;refine⟨_,rfl,_,rfl,X,_,_,_,rfl,rfl,u.seq hS,J,_,rfl,r,d,JbZ k,_,rfl,u.tup I,t,g,λH5 l U n=>?_⟩;rw[e1]at n;have ds5:=t.same U;let⟨kvs,hk5,Y,Z⟩:=id ds5.ex;have s45:=u.trans U;refine Jjb _ rfl l _ (JbT n) rfl _ rfl (iteNS rfl ?_);refine⟨_,rfl,l,_,_,_,rfl,rfl,SqT.of n,rfl,_,rfl,d,_,rfl,cn.k (k:=Sum.inl a) hk5,_,rfl,?_⟩;rw[Y,dFq e2];refine bq ⟨_,rfl,_,rfl,l,_,_,_,rfl,rfl,SqT.of n,rfl,d,_,rfl,eA.k (k:=Sum.inl a) hk5 (cR ?_),?_⟩
  ·rw[lAq,lM,List.length_take]at Z;lia
  refine⟨_,_,rfl,s45.upd hd0,by rw[Jix ndq];exact U _ _ L,?_⟩;rw[bE hf,←List.append_assoc];exact dY.put Y Z
 ·rintro σ H' ⟨v4,v5,rfl,u,L,t⟩;rw[lM,el2,Jc_ _]at t;have hz:(c++[z])[fs.length]?=some z:=by rw[←el2,List.getElem?_append_right (nRq _),Nat.sub_self];rfl
  let⟨k0,k1⟩:=rng z (mO hz);let⟨r,J,I⟩:=xU hL k0 k1;have g:(JbZ z).length≤1000:=Vx (lr _ (mO (sZ k0 k1)));have az:atI ((c++[z]).map V.int) (-1)=some (.int z):=by rw[mAq];exact mh _ _
  refine⟨_,rfl,_,rfl,_,rfl,G,_,_,_,rfl,rfl,u.tup hH,az,X,_,_,_,rfl,rfl,u.seq hS,J,_,rfl,r,d,JbZ z,_,rfl,u.tup I,t,g,λH5 l U n=>?_⟩;rw[hend z hz]at n;exact⟨l,_,rfl,JbT n,rfl,h H5 (u.trans U)⟩
structure TxP (K)(mg:Jdr Str):Prop where
 int:QG "int"
 str:QG "str"
 list:QG "list"
 enum:QG "enumerate"
 ib:Jop K "int" "bool"
def dw (rs:Vp Int):JdT (rs.map dR):=cq fq rs
section
variable {P:Program} {w:World} {K:W.Frag} {mg:Str→Option Value} {base:Heap} {aK C CP CM:Addr} {f fN fA fL fE:Addr} {fd dN dA' dL' dE:FuncData}
inductive oq:Sp|m{vs H Q E9} (n):vs=Ji6 n→Jev H→oq vs H Q E9
def Dy:Vj ["thing"] ["thing"] qO:=fsc
def ok_num (F:V4 "is_number" "is_number" qO)(T:JcR C)(TP:TxP K mg):Jhb ["thing"] oq:=by
 refine F.ok Dy (λvs H Q E h=>?_) (λcdv A outer s H vs Q E a h=>?_)
 ·let⟨n,rfl⟩:=h;rfl
 let⟨n,rfl,q⟩:=h;refine JN (Qi (JkE (JfE mj 0 (gb (v:=.ty "int") rfl TP.int PyProof.Rows.Boot.int rfl)) (pe_not (JfE mj 0 (gb (v:=.ty "bool") rfl T.bool PyProof.Rows.Boot.bool rfl)))))
 rfl'
 exact Jo0 _ (.type "int") "int" true (ew.int _) (il K "int") _ (b_ (Jo0 _ (.type "int") "bool" false (ew.int _) TP.ib _ q))
inductive tj (K)(C):Sp|m{vs H Q E9} (p tl al rl q) (T) (As) (Rs) (ps:List Int):vs=Jaz p q→Jkn C→Jom q→QV 1000→(∀p∈ps,Jd7 (p≠0))→(ps.map zaW).Nodup→(∀H',Jko H')→tj K C vs H Q E9
def tw:Jje ["problem","parts","atoms","part"] "parts" qP:=fsc
def Dz (F:V4 "are_parts" "are_parts" qP)(T:JcR C)(t:Jiu "is_number" fN dN ["thing"] oq):JkY 2 "parts" (tj K C):=by
 refine F.ok tw (λvs H Q E h=>?_) (λcdv A outer s H vs Q E L h=>?_)
 ·let⟨p,W,O,X,q,T',U,Rs,ps,rfl,_⟩:=h;rfl
 let⟨p,W,O,X,q,T',U,Rs,ps,rfl,S,o,D,B,y,Q0⟩:=h;have J:=c_ L;refine JN (Xc (be (Jcw (JfE mE 1 (JdZ (v:=.ty "tuple") rfl T.tuple rfl)))
   cb
   aU) (Qn (i:=2) tw.nd fj) (Jdd (Jcc (Jlc 1) (i:=3) tw.nd (Jjt (be (JmZ (Jcw (Jgl t.ok L t.m t.kp t.b 3)) (Jcj bZ 3 af) (cG (aA eu (Jal ja T.abs (Vh 3)) (JoP bO 0)) (dJ (fg (jm J (Jal ja T.abs (Vh 3)) (pv 2))))))
     cb
     aU) (g_ J (pv 2) (Jal ja T.abs (Vh 3)) cN rfl))) cN))
 rfl'
 rfl'
 let⟨⟨dx,ho⟩,_,⟨ys,ha,hA⟩,_⟩:=id S;have yl:JdA U.length:=by rw[←hA.length,lM]
 refine Jo0 q _ "tuple" true o (JlA K) _ (bq ?_);refine λd M=>?_;let⟨H1,eN,I,Y⟩:=nwH M (.dK []);rw[eN];refine Jhk _ q (I.tup o) (Jim (dU) (λi l H'=>∃u,An3 (l=[Ja p,Ja q,Ja d,u]) (Xg H) (dY H' d ((ps.take i).map zaW))) (λi l H' h=>by let⟨_,_,a,_⟩:=h;exact a.tup o) (Jbn none I ⟨[],Y,λn=>rfl,nRq _⟩))
 ·rintro i l R x H3 hi ⟨u,rfl,a,d2⟩ ⟨rfl,hx⟩;let⟨k,r,rfl⟩:=Jkc _ (a.tup o);have Z:=B k (mO r);let⟨kvs,j,e,g⟩:=id d2.ex;have no:zaW k∉(ps.take i).map zaW:=λz=>by
   have G:(ps.map zaW)[i]?=some (zaW k):=by rw[List.getElem?_map,r];rfl
   rw[List.map_take]at z;exact jA (f:=id) y G (λh=>h) (by rw[List.map_id];exact z)
  refine⟨_,rfl,k,rfl,_,rfl,bq (Jlm (bo (λc=>?_) (λc=>?_)))⟩
  ·have:=oDq c;injection this with this;exact absurd this Z.1
  refine⟨_,rfl,k,rfl,_,rfl,p,C,dx,_,_,rfl,a _ _ ho,T.cl,T.nA,iC _ _ _,O,_,rfl,Vd (a _ _ ha),_,_,rfl,rfl,_,rfl,bo (λN=>?_) (λN=>?_)⟩
  ·have c3:=oDq N
   split at c3 <;> lia
  refine Jgm _ k rfl _ rfl d _ (cn.k (k:=Sum.inl (zaW k)) j) _ rfl ?_;rw[e,dFq no];rw[lM,List.length_take]at g;refine bq (Jhr _ rfl _ rfl k d _ rfl (eA.k (k:=Sum.inl (zaW k)) j (cR (by lia))) ?_);refine Jmd (a.upd M) ?_;rw[bE r,mAq];exact dY.put e (by rw[lM,List.length_take];exact g)
 ·rintro l R ⟨u,rfl,a,_⟩;exact Q0 R a
inductive tD (K):Sp|m{vs H Q E9} (q) (hs:List Int):vs=Vz q→JmY (JnI q V.int) hs.length ((∀h∈hs,0≤h)→(∀H',Jko H')→tD K vs H Q E9)
def DA:Vj ["things"] ["things"] qR:=fsc
def DB (F:V4 "are_numbers" "are_numbers" qR)(T:JcR C)(g:Jiu "is_number" fN dN ["thing"] oq):JeF 2 ["things"] (tD K):=by
 refine F.ok DA (λvs H Q E h=>?_) (λcdv A outer s H vs Q E r h=>?_)
 ·let⟨q,hs,rfl⟩:=h;rfl
 let⟨q,hs,rfl,e,c,h0,y⟩:=h;refine JN (Qi (JkE (JfE mE 0 (JdZ (v:=.ty "tuple") rfl T.tuple rfl)) (VB (vg rfl) T.all PyProof.Rows.Boot.all (Qc (Vw (N':=["thing"]) (ix:=[]) rfl rfl rfl (λ_=>JmW []) rfl rfl (λj i h=>by simp at h) (Jlc 0) (λ_ _ _ _=>(JkE (Jgl g.ok r g.m g.kp g.b 0) (cZ jK (pv 0) af))))))))
 rfl'
 rfl'
 refine Jo0 q _ "tuple" true e (JlA K) _ (b_ (Jhk _ q e (λD n=>Jm3 dU (λi us H'=>Xg H∧us=(List.replicate i true).map V.bl) (λi us H' ⟨d,_⟩=>d.tup e) n ?_ ?_)))
 ·rintro i us B z o u l a ⟨d,rfl⟩ ⟨rfl,p⟩;let⟨k,t,rfl⟩:=cA (p _ (d.tup e));refine⟨_,rfl,k,rfl,_,rfl,b_ ⟨_,rfl,_,_,rfl,rfl,Jep (sz _ (by rw[lM];exact c)) u l a (d.upd n)⟩⟩;rw[List.replicate_succ',mAq,dTq (h0 k (mO t))];rfl
 rintro us o a ⟨d,rfl⟩;refine VO D _ (SqL.of a) ?_;rw[show(List.replicate (hs.map V.int).length true).all id=true from List.all_eq_true.mpr λb x=>(List.eq_of_mem_replicate x)];exact y o d
def has_ln (h:Jif (lnD ps hs) x):∃q d c,Jny q∧Jfo q (Jk0 d c)∧Jom d∧SqT K H c (hs.map V.int):=by simp only[lnD,Has,ar]at h;let⟨q,ys,rfl,c,n,r,rfl,rfl,l,p,rfl,⟨a,s,rfl,g,j⟩,k,o,rfl,⟨b,bs,rfl,e,i⟩,rfl⟩:=h;rw[nY j]at g;rw[nY i]at e;exact⟨q,a,b,rfl,c,g,e⟩
abbrev LL:=Jf (List Int) (List Int)
def ln_at {H:Hp}{L:LL}{xs:List V}{i:Nat}{x:V}(h:JhZ (L.map λx=>lnD x.1 x.2))(e:xs[i]?=some x):∃l q b c,L[i]?=some l∧Jny q∧Jfo q (Jk0 b c)∧Jfo b (l.1.map V.int)∧SqT K H c (l.2.map V.int):=by let⟨d,g,k⟩:=h.get e;rw[List.getElem?_map]at g;let⟨l,j,rfl⟩:=Option.map_eq_some_iff.mp g;let⟨q,b,c,a⟩:=has_ln k;exact⟨l,q,b,c,j,a⟩
def xW (h:LnG n Rs ps hs)(b:n≤40):QV 100:=by
 have e:=gq 81 h.a λx c=>by let⟨p,d,rfl⟩:=List.mem_map.mp c;have:=(h.p p d).2;unfold zaW;split <;> lia
 rw[lM]at e;lia
inductive tE (K)(C):Sp|m{vs H Q E9} (p tl al rl r q pq hq) (T) (As) (Rs Rs') (xs) (ps hs):Jmu (vs=JgX p r q) C (JjH 40→Jcr r→JhZ (Rs'.map dR)→(∀x∈Rs',x.length≤100)→Jfo q (Jk0 pq hq)→Jom pq→JnI hq V.int→LnG As.length Rs' ps hs→(∀H',Jko H')→tE K C vs H Q E9)
def DC:Vj (JlN "line") (JlN "line") qS:=fsc
def DD (F:V4 "is_right" "is_right" qS)(T:JcR C)(TP:TxP K mg)(x:Jm4 2 "are_parts" fA dA' "parts" (tj K C))(y:JgD 2 "are_numbers" fN dN ["things"] (tD K))(z:JgD 3 "is_learnt" fL dL' ["rows","parts","hints"] (s_ K)):JeF 4 (JlN "line") (tE K C):=by
 refine F.ok DC (λvs H Q E h=>?_) (λcdv A outer s H vs Q E I h=>?_)
 ·let⟨p,D,M,G,r,q,g,i,T',U,Rs,Rs',xs,ps,hs,rfl,_⟩:=h;rfl
 let⟨p,D,M,G,r,q,g,i,T',U,Rs,Rs',xs,ps,hs,rfl,S,B,Z,hL,l,d,J,L,k,Q0⟩:=h;have o:a_ 2 _:=I.mono (by decide);refine JN (Xc (be (Jg8 (Jcw (JfE mE 2 (JdZ (v:=.ty "tuple") rfl T.tuple rfl))) (JlV dQ 2))
   cb
   aU) (be (Jg8 (Jcw (JfD mj (XB (JC 2) (gb (v:=.ty "str") rfl TP.str PyProof.Rows.Boot.str rfl)))) (Jcw (Jc4 x.ok o x.m x.kp x.b 0 (JC 2))))
   cb
   aU) (ae (be (Jmt 2) (Qi (JkE (JfA y.ok o y.m y.kp y.b (JiE 2)) (Q6 z.ok I z.m z.kp z.b 1 (XB (JC 2) (JC 2)))))
   aU)
  cb))
 rfl'
 rfl'
 have R:atI (Jfk (V.str "learnt") g i) 0=some _:=ay rfl;have O:atI (Jfk (V.str "learnt") g i) 1=some (.ref g):=ay rfl;have N:atI (Jfk (V.str "learnt") g i) 2=some (.ref i):=ay rfl;have n:=xW k B;have t:=k.h;refine Jo0 q _ "tuple" true d (JlA K) _ (bq (Jjb _ rfl q _ (.inr d) rfl _ rfl (bq ?_)));refine⟨_,rfl,q,_,_,_,rfl,rfl,d,R,_,.type "str","str",true,rfl,ew.str _,il K "str",_,rfl,bq ⟨_,rfl,_,rfl,q,_,_,_,rfl,rfl,d,O,p,D,M,G,g,T',U,Rs,ps,rfl,S,J,by lia,k.p,k.a,λH1 u=>JhB ?_⟩⟩;refine Jjy _ q _ _ _ (u.tup d) R rfl _ rfl (bo (λc=>?_) (λc=>absurd (dTq rfl) c));refine⟨_,rfl,q,_,_,_,rfl,rfl,u.tup d,N,i,hs,rfl,u.tup L,by lia,λh Y=>(k.r.rng h Y).1,λH2 X=>QI (b_ ?_)⟩;have e:=u.trans X;exact⟨_,rfl,_,rfl,q,_,_,_,rfl,rfl,e.tup d,O,_,rfl,q,_,_,_,rfl,rfl,e.tup d,N,r,g,i,xs,Rs',ps,hs,rfl,e.seq Z,hL.keep e.kt (dw _),e.tup J,e.tup L,l,n,t,k.r,λH3 W=>Q0 H3 (e.trans W)⟩
structure PapG (n)(Rs)(L:LL):Prop where
 ok:∀(i) (x),L[i]?=some x→LnG n (Rs++(L.take i).map Prod.fst) x.1 x.2
 last:∃L0 hs,L=L0++[([],hs)]
 len:L.length≤3000
 r:∀r∈Rs,Je4 100
inductive tF (K)(C):Sp|m{vs H Q E9} (p tl al rl q) (T) (As) (Rs) (xs) (L:LL):Jmu (vs=Jaz p q) C (JmY (JjH 40) Rs.length (Jcr q→JhZ (L.map λx=>lnD x.1 x.2)→JkJ Rs L→(∀H',JiF (Jen H'))→tF K C vs H Q E9))
def ou:Jje ["problem","paper","rows","place","line"] "paper" qT:=fsc
def DE (F:V4 "fault" "fault" qT)(T:JcR C)(TP:TxP K mg)(U:JgD 4 "is_right_papers" fE dE (JlN "line") (tE K C)):JkY 5 "paper" (tF K C):=by
 refine F.ok ou (λvs H Q E h=>?_) (λcdv A outer s H vs Q E hr h=>?_)
 ·let⟨p,tl,al,rl,q,T',As,Rs,xs,L,rfl,_⟩:=h;rfl
 let⟨p,tl,al,rl,q,T',As,Rs,xs,L,rfl,S,J,r1000,D,hL,G,Q0⟩:=h;refine JN (Xc (be (Jcw (JfE vE 1 (Jjc (v:=.ty "list") rfl TP.list rfl)))
   cb
   aU) (Qn (i:=2) ou.nd (Jac kC rfl TP.list (Ja1 0))) (JcI (Jcb (mD rfl TP.enum (Vh 1)) (JkX rfl (i:=3) ou.nd (i:=4) ou.nd gf) (ae (be (Jcw (Q6 U.ok hr U.m U.kp U.b 0 (V6 2 4)))
     cb
     aU) (Jmk 2 (JiE 4)))) (be (Jg8 (JlV bZ 1) (Jhy eu (VZ bO (Qc (aI aQ (Jg cu 1 (JcB af)) af)))))
   cb
   aU) eP))
 rfl'
 rfl'
 have xl:Ja0 L.length:=by rw[←hL.length,lM]
 have l3:=G.len;let⟨⟨dx,ho⟩,_,_,⟨zs,hz,hZ⟩,_⟩:=id S;have zl:Jg4 Rs.length:=by rw[←hZ.length,lM]
 refine Jo0 q _ "list" true D (il K "list") _ (bq ?_);refine⟨_,rfl,p,C,dx,_,_,rfl,ho,T.cl,T.nR,gD _ _ _,rl,zs,rfl,Vd hz,λr B=>?_⟩;let⟨H1,eN,Z,n1⟩:=Xj B zs;rw[eN];refine Jhk _ q (Z.seq D) (Jim mz (λi M H'=>Ex3 λ X W us=>An4 (M=[Ja p,Ja q,Ja r,X,W]) (Xg H) (JQ r us) (XH H' ((Rs++(L.take i).map Prod.fst).map dR) us)) (λi M H' h=>by let⟨_,_,_,_,d,_⟩:=h;exact d.seq D) ⟨none,none,zs,rfl,Z,n1,by rw[List.take_zero,List.map_nil,List.append_nil];exact hZ.keep Z.kt (dw _)⟩)
 ·rintro i M H2 x H3 hi ⟨X,W,us,rfl,d,n2,k⟩ ⟨pp,y,rfl,hpp,rfl,hy⟩;let⟨l,o,u,g,I,rfl,R,O,h3⟩:=ln_at hL (hy _ (d.seq D));have ul:us.length=Rs.length+i:=by rw[←k.length,lM,lAq,lM,List.length_take];lia
  let⟨H3,eN,t,n3⟩:=Xv hpp (Jej i o);rw[eN];refine⟨pp,_,rfl,SqT.of n3,rfl,_,_,rfl,_,_,rfl,rfl,?_⟩;have a:=d.trans t;refine⟨_,rfl,_,rfl,_,rfl,p,tl,al,rl,r,o,u,g,T',As,Rs,_,us,l.1,l.2,rfl,S.same a,J,SqL.of (t _ _ n2),k.keep t.kt (dw _),λx N=>?_,a.tup R,a.tup O,a.tup h3,G.ok i l I,λH4 Y=>JhB ?_⟩
  ·rcases mPq N with h | h
   ·exact G.r x h
   ·let⟨y,hy,rfl⟩:=List.mem_map.mp h;let⟨j,hj⟩:=List.getElem?_of_mem (List.mem_of_mem_take hy);exact xW (G.ok j y hj) J
  have n:=a.trans Y;have n4:=Y _ _ (t _ _ n2);refine⟨_,rfl,Jez n4,_,rfl,o,_,_,_,rfl,rfl,n.tup R,ay rfl,r,_,_,rfl,rfl,n4,hln (by lia),?_⟩;have kt:=bj.lst (ys:=us++Vz u) n4;refine⟨_,_,us++Vz u,rfl,n.upd B,ao,?_⟩;have e:Rs++(L.take (i+1)).map Prod.fst=(Rs++(L.take i).map Prod.fst)++[l.1]:=by rw[bE I,mAq,List.append_assoc];rfl
  rw[e,mAq];exact ar.append ((k.keep (t.trans Y).kt (dw _)).keep kt (dw _)) (JoO (kt.sq (n.tup O)) l.1)
 ·rintro M H2 ⟨X,W,us,rfl,d,n2,k⟩;let⟨L0,hs,e⟩:=G.last;have g:=d.seq D;have e0:Ja0 (L0.length+1):=by rw[xl,e,lAq];rfl
  refine Jjb _ rfl q _ (.inl g) rfl _ rfl ?_;rw[dFq (by intro z;injection z with z;lia)];refine bq ?_;obtain⟨x,N⟩:∃x,xs[L0.length]?=some x:=Jlj (by lia);let⟨l',o,u,hq3,I,rfl,R,O,h3⟩:=ln_at hL N;have el:l'=([],hs):=by rw[e,List.getElem?_append_right (nRq _),Nat.sub_self]at I;cases I;rfl
  subst el;have ax:atI xs (-1)=some (.ref o):=by
   have ed:xs=xs.take L0.length++Vz o:=by rw[←bE N,tO (by lia)]
   rw[ed];exact mh _ _
  refine⟨_,rfl,_,rfl,q,_,_,_,rfl,rfl,g,ax,o,_,_,_,rfl,rfl,d.tup R,VW (j:=1),u,_,rfl,.inr (d.tup O),_,_,rfl,rfl,_,rfl,bo (λc=>?_) (λc=>Q0 H2 d)⟩;exact JkH (show ¬decide ((0:Int)<((([]:List Int).map V.int).length:Nat))=true by decide)
inductive tG (K)(C):Sp|m{vs H Q E9} (p tl al rl q) (T) (As) (Rs) (xs) (L:LL):Jmu (vs=Jaz p q) C (JmY (JjH 40) Rs.length (Jcr q→JhZ (L.map λx=>lnD x.1 x.2)→JkJ Rs L→(∀H',Jko H')→tG K C vs H Q E9))
def DF:Jje (Xt "paper") "paper" qU:=fsc
def DG (F:V4 "lets_by" "lets_by" qU)(c:Jm4 5 "fault" fE dE "paper" (tF K C)):JkY 6 "paper" (tG K C):=by
 refine F.ok DF (λvs H Q E h=>?_) (λcdv A outer s H vs Q E k h=>?_)
 ·let⟨p,e,i,g,q,T',j,Rs,xs,L,rfl⟩:=h;rfl
 let⟨p,e,i,g,q,T',j,Rs,xs,L,rfl,S,d,a,l,n,G,o⟩:=h;refine JN (Qi (cZ oR (Jki c.ok k c.m c.kp c.b 0 1) eP))
 rfl'
 exact⟨_,rfl,_,rfl,p,e,i,g,q,T',j,Rs,xs,L,rfl,S,d,a,l,n,G,λH' s'=>Jbm (o H' s')⟩
end
def bindD3 (F:FD K x st f td fd tk)
  (h:∀kV g j o cdv l a b c,∃k:JmI (Array Value) (Sem (Jgx Value)),JfH (JlR x x st st (ai st) (.ref td) kV g j o cdv l) [a,b,c]=seqItems? (.ref td) >>= k∧Jgc (k (some #[JdY tk])) [(p,a),(q,b),(r,c)]):Jw fd [p,q,r]:=by
 let⟨C,od,kV,g,j,o,cdv,l,u,e,D,y⟩:=F.ex;let⟨v,n,B,w⟩:=F.t;intro s us X i;rw[List.append_nil]at i ⊢;rcases us with _ | ⟨a,_ | ⟨b,_ | ⟨c,_ | ⟨d,us⟩⟩⟩⟩
 ·cases i
 ·cases i
 ·cases i
 ·let⟨k,A,z⟩:=h kV g j o cdv l a b c;subst e;exact BindsTo.of_defaults rfl (X _ _ w) rfl A z
 ·cases i
def bindD2 (F:FD K x st f td fd tk)
  (h:∀kV d g l cdv j a b,∃k:JmI (Array Value) (Sem (Jgx Value)),JfH (JlR x x st st (ai st) (.ref td) kV d g l cdv j) [a,b]=seqItems? (.ref td) >>= k∧Jgc (k (some #[JdY tk])) [(p,a),(q,b),(r,JdY tk)]):aw K fd [p,q,r] [JdY tk]:=by
 let⟨B,od,kV,d,g,l,cdv,j,o,e,C,w⟩:=F.ex;let⟨u,n,A,v⟩:=F.t;intro s us X i;rcases us with _ | ⟨a,_ | ⟨b,_ | ⟨c,us⟩⟩⟩
 ·simp at i
 ·simp at i
 ·let⟨k,z,y⟩:=h kV d g l cdv j a b;subst e;exact BindsTo.of_defaults rfl (X _ _ v) rfl z y
 ·simp at i
structure AnQ (P)(w)(K)(CL CC)(wy wn)(H)(As:List At)(Rs)(most)(Q:VK)(E:XK):Prop where
 long:most≤2 ^ (As.length+1)→Jkb Rs As.length .long→∀H',Jlo CL H'
 yes:∀H' t c hs,Jkb Rs As.length .yes→Jcg H t (JmQ t (VV wy c) (ChAt P w K CC H' As (Jl5 hs) c→Jc0 (∀r∈Rs,∃p∈r,p∈Jl5 hs) t))
 no:∀H' t pl ys L,Jkb Rs As.length .no→Jcg H t (J5 pl (JmQ t (VV wn pl) (JkP pl→XH H' (L.map λx:List Int × List Int=>lnD x.1 x.2) ys→JkJ Rs L→Jlz (L.length:Int)→(∀v,¬dZ v Rs)→Jc0 ((∀r∈Rs,2≤r.length)→2≤L.length) t)))
def xX (h:hX n Rs):∀r∈Rs,Je4 100:=λr a=>by
 have b:=h.n40;have f:=gq 81 (xs:=r.map λp=>p+40) (List.pairwise_map.mpr ((h.row r a).1.imp λ{x y} e z=>e (by lia))) λx c=>by let⟨p,d,rfl⟩:=List.mem_map.mp c;have:=((h.row r a).2 p d).2;lia
 rw[lM]at f;lia
def papG (d:hX n Rs)(h:Pap n Rs pp (rs++[[]]))(a:pp≠[])(m:Jlz (pp.length:Int))(i:most≤2000):∃L:LL,pp=L.map (λx=>lnD x.1 x.2)∧PapG n Rs L:=by
 let⟨L,b,c,f⟩:=h.ex;refine⟨L,b,f,?_,by rw[b,lM]at m;lia,xX d⟩;rcases List.eq_nil_or_concat L with e | ⟨g,l,e⟩
 ·exact absurd (by rw[b,e];rfl) a
 ·rw[List.concat_eq_append]at e;refine Qj g l.2;rw[e,mAq,←List.append_assoc]at c;have:=(List.append_inj' c rfl).2;injection this with this;rw[e];congr 2;exact Prod.ext this.symm rfl
structure AnP (K)(CP)(H)(p tl al rl)(T)(As)(Rs)(most:Int):Prop where
 pr:Jkn CP
 tm:iV T
 pl:iU As
 nd:As.Nodup
 ro:hX As.length Rs
 m1:Jlz 1
 m2:most≤2000
inductive ov (P)(w)(K)(CP CL CC):Sp|m{vs H Q E} (p tl al rl) (T) (As) (Rs) (most):vs=JfK p most→AnP K CP H p tl al rl T As Rs most→AnQ P w K CL CC "yes" "no" H As Rs most Q E→ov P w K CP CL CC vs H Q E
def xY:Jje (Jbr "most" "told") "most" qM:=fsc
section
variable {P:Program} {w:World} {K:W.Frag} {mg:Str→Option Value} {base:Heap} {aK C CP CB CM CL CC f fS fH fA fO fR fK:Addr} {fd dS dH dA' dO dR' dK':FuncData}
def DH (F:FD K "answer" qM f td fd tk)(n:Jo P w K mg (Jda w) 9 "search" fS dS (Xt "most") (sT K CP CL))(o:Jm4 6 "chosen" fH dH "held" (sX P w K CP CC)):Jmf P w K w 10 f fd (Xt "most") (ov P w K CP CL CC):=by
 refine FD.okX F xY (λvs H Q E h=>?_) (λcdv Ar outer s H vs Q E R h=>?_)
 ·let⟨p,r,I,u,T',M,Rs,most,rfl⟩:=h;rfl
 let⟨p,r,I,u,T',M,Rs,most,rfl,A,q⟩:=h;have z:=JkK (j:=6);refine JN (JH (i:=2) xY.nd (Jr n.ok R n.m n.kp n.b (hJ xe1) 0 (Vh 1)) (be (Jmt 2) (Qi (Jh9 bz (Jc4 o.ok z o.m o.kp o.b 0 (JC 2))))
   aU) (JjJ 2))
 rfl'
 rfl'
 have x:=A.ro.n40;refine⟨_,rfl,_,rfl,p,r,I,u,T',M,Rs,most,rfl,A.pr,A.tm,A.pl,A.ro,A.m1,by have:=A.m2;lia,q.long,λS t k hs D l O g B Z=>?_,λS t pl ys pp rs D l O Y g B h3 y W v us a=>?_⟩
 ·have J:Jf7 k 0=some _:=ay rfl;have a1:Jf7 k 1=some _:=ay rfl;refine Jjy _ t _ _ _ (SqT.of g) J rfl _ rfl (J9 (λc=>QU c));refine⟨_,rfl,_,rfl,t,_,_,_,rfl,rfl,SqT.of g,a1,p,r,I,u,k,T',M,Rs,_,rfl,A.pr.same l,A.tm,A.pl,A.nd,x,SqT.of B,λH2 c U n3 hc=>⟨lS2,λT e=>?_⟩⟩;let⟨H3,eN,N,X⟩:=Xv e (VV "yes" c);rw[eN];have d:=l.trans U;exact q.yes H3 T c hs D (d.trans N) (d.free e) X (hc.same N) Z
 ·have J:Jli pl 0=some _:=ay rfl;refine Jjy _ t _ _ _ (SqT.of g) J rfl _ rfl (VY (λc=>Jgg c));let⟨L,rfl,G⟩:=papG A.ro W v y A.m2;rw[lM]at y a;exact QI (q.no S t pl ys L D l O Y g B h3 G y us a)
end
def DJ (Rs):ze4 Rs ((List.range Rs.length).map λi:Nat=>(i:Int))=Rs:=by
 unfold ze4;rw[List.map_map];refine List.ext_getElem? λi=>?_;rw[List.getElem?_map];rcases Nat.lt_or_ge i Rs.length with c | c
 ·rw[List.getElem?_range c,gG c];show some (Rs.getD ((i:Int)).toNat [])=_;rw[Int.toNat_natCast,List.getD_eq_getElem?_getD,gG c];rfl
 ·rw[List.getElem?_eq_none (by rw[List.length_range];exact c),List.getElem?_eq_none c];rfl
noncomputable def za9 (ps:List Int):Vp Int:=ps.map λp=>[-p]
structure FoQ (P)(w)(K)(CB CM CL CC)(H)(As:List At)(Rs:Vp Int)(ps:List Int)(most)(Q)(E:XK):Prop where
 bad:Vq (Jbi As.length)→∀H',Jlo CB H'
 many:Jkj As.length→200<Rs.length+(JbJ ps).length→∀H',Jlo CM H'
 ok:Jkj As.length→Rs.length+(JbJ ps).length≤200→AnQ P w K CL CC "no" "yes" H As (Rs++Jb8 ps) most Q E
structure FoP (K)(C)(H)(p tl al rl q)(T)(As)(Rs)(ps)(most):Prop where
 a:AnP K C H p tl al rl T As Rs most
 r:JhV 200
 q:JnL H q
 l:QV 100
 n:∀p∈ps,hR p
inductive kf (P)(w)(K)(C CB CM CL CC):Sp|m{vs H Q E} (p tl al rl q) (T) (As) (Rs) (ps) (most):vs=Jdl p q most→FoP K C H p tl al rl q T As Rs ps most→FoQ P w K CB CM CL CC H As Rs ps most Q E→kf P w K C CB CM CL CC vs H Q E
def lH:Vj ["problem","parts","most","part","longer","found"] (Jex "most") qV:=fsc
def DK (h:QM (zaO n p)):p≠0∧-(n:Int)≤p∧p≤(n:Int):=by unfold zaO at h;simp only[Bool.or_eq_false_iff,decide_eq_false_iff_not]at h;lia
def rowsF (h:hX n Rs)(l:Rs.length+qs.length≤200)(c:∀p∈qs,Jha n):hX n (Rs++za9 qs):=by
 refine Qj (λr b=>?_) h.n40
 ·rcases mPq b with z | z
  ·exact h.row r z
  ·let⟨p,d,rfl⟩:=List.mem_map.mp z;refine⟨by simp,λx a=>?_⟩;have:=c p d;rw[mS a];lia
 ·unfold za9;rw[lAq,lM];lia
section
variable {P:Program} {w:World} {K:W.Frag} {mg:Str→Option Value} {base:Heap} {aK C CB CM CL CC f fP fA fO fR fK:Addr} {fd dP' dA' dO dR' dK':FuncData}
def DL (F:FD K "follows" qV f td fd tk)(T:Jco K C CB)(TB:Jfl K)(mP:Jnm "ask_part" fP)(GP:Jmv P w K w 1 fP dP' "part" (nQ K C CB))(bP:JlM dP')
  (BK:Jm4 3 "part_of" fK dK' "numbers" (sU K C))(BO:Jiu "once_each" fO dO ["parts"] (lq K))
  (mR:Jnm "add_row" fR)(GR:Jmv P w K w 2 fR dR' "parts" (lj K C CM))(bR:Jok dR')
  (BA:Jo P w K mg (Jda w) 10 "answer" fA dA' (Xt "most") (ov P w K C CL CC)):Jmf P w K w 11 f fd (Jex "most") (kf P w K C CB CM CL CC):=by
 refine FD.okX F lH (λvs H Q E h=>?_) (λcdv Ar outer s H vs Q E hr h=>?_)
 ·let⟨p,tl,al,Z,q,T',B,Rs,ps,most,rfl,_⟩:=h;rfl
 let⟨p,tl,al,Z,q,T',B,Rs,ps,most,rfl,A,FQ⟩:=h;have hr1:=VT (j:=1);have hr2:=VT (j:=2);have hr3:=VT (j:=3);refine JN (Xc (Jbb rfl (lu (pv 1)) (VH (i:=3) lH.nd) (Jc5 0 mP GP hr1 bP (hJ xe1) (Vh 3))) (Qn (i:=4) lH.nd (Jc4 BK.ok hr3 BK.m BK.kp BK.b 0 (Jac (AO rfl) rfl TB.list (Qc (AN rfl TB.range (Qc (Jh0 bO 0))))))) (JcI (Jbb rfl (ej (Jgl BO.ok hr1 BO.m BO.kp BO.b 1)) (VH (i:=3) lH.nd) (Jc5 4 mR GR hr2 bR (hJ xe1) (Qc (Jle (Jgj 3))))) (Qn (i:=5) lH.nd (Jr BA.ok hr BA.m BA.kp BA.b (hJ xe1) 4 (Vh 2))) (Jh9 (iZ (Jmt 5) bz bz) (JC 5))))
 rfl'
 rfl'
 have S:=A.a.pr;have n40:=A.a.ro.n40;have r200:=A.r;have t60:=A.a.tm.len;let⟨⟨dx,ho⟩,_⟩:=id S;have noA:=fZ tl al Z (m:="ask_part") (by decide +kernel) (by decide +kernel) (by decide +kernel);refine Jhs _ rfl q ps H A.q (ap.refl H) (λJ ⟨Ok,wk,ok,yl⟩=>Jim wk (λi D H2=>H2=H∧(∃z,D=[Ja p,Ja q,Je most,z,none,none])∧(ps.take i).any (zaO B.length)=false) (λi D H2 h=>ok _ (h.1 ▸ ap.refl _)) ⟨rfl,Vf _,by simp⟩)
 ·rintro i D H8 x H2 hi ⟨rfl,⟨z,rfl⟩,no⟩ hy;let⟨rfl,k',ek,rfl⟩:=yl i _ x H2 (ap.refl _) hy;refine⟨_,rfl,p,dx,_,rfl,ho,noA,_,rfl,p,tl,al,Z,T',B,Rs,k',rfl,S,A.n k' (mO ek),?_⟩;by_cases y:Vq (zaO B.length k')
  ·rw[if_pos y];exact FQ.bad (JbB k' (mO ek) y)
  ·rw[if_neg y];refine Qj rfl (Vf _);rw[List.take_add_one,ek,List.any_append,no];simpa using y
 rintro D H1 ⟨rfl,⟨z,rfl⟩,no⟩;rw[List.take_length]at no;let⟨⟨dx1,ho1⟩,_,_,⟨xs,hrl,hxs⟩,_⟩:=id S;have xl:Ja0 Rs.length:=by rw[←hxs.length,lM]
 refine⟨_,rfl,_,rfl,p,C,dx1,_,_,rfl,ho1,T.cl,T.nR,gD _ _ _,Z,_,rfl,Vd hrl,_,rfl,λrg hrg=>?_⟩;let⟨H2,N,s2,hr2'⟩:=nwH hrg (.rng 0 ((xs.length:Nat):Int));rw[N];refine Jk9 rg _ rfl hr2' (by lia) (λl hl=>?_);let⟨H3,N,s3,hl3⟩:=Xj hl (((List.range ((xs.length:Nat):Int).toNat).map λi:Nat=>(i:Int)).map V.int);rw[N];rw[Int.toNat_natCast,xl]at hl3;have R:=s2.trans s3;refine⟨p,l,tl,al,Z,T',B,Rs,_,rfl,S.same R,SqL.of hl3,λk y=>?_,by lia,by lia,by rw[lM,List.length_range];lia,λH4 p2 O U I s4 e1 e2 e3 e4 P4=>?_⟩
 ·let⟨i,hi,rfl⟩:=List.mem_map.mp y;have:=List.mem_range.mp hi;lia
 rw[DJ]at P4;have Y:=R.trans s4;have n4:Qu (H1 I):=R.free e4;refine⟨_,rfl,q,ps,rfl,A.q.same Y,by have:=A.l;lia,λH5 ot s5 hot=>?_⟩;have inq:∀p∈JbJ ps,p≠0∧-(B.length:Int)≤p∧p≤(B.length:Int):=λp hp=>by have hp':=((iu _ _).mp hp).resolve_left λw=>nomatch w;exact DK (Bool.eq_false_iff.mpr (Ji_ no hp'))
 have q0':=FQ.ok no;have qm:=FQ.many no;generalize hqs:JbJ ps=M at *;have ql:M.length≤100:=by have:=jn ps [];rw[hqs,List.length_nil]at this;have:=A.l;lia
 refine Jbn ot (V8 (SqT.of hot)) (Jim (dU (xs:=M.map V.int)) (λi D H'=>(∃z,D=[Ja p,Ja q,Je most,z,Ja p2,none])∧JmO H1 (JT ot (M.map V.int)∧bu K C H' p2 O U I T' B (Rs++JlB i)∧Rs.length+i≤200)) (λi D H' h=>SqT.of h.2.2.1) ⟨Vf _,Y.trans s5,hot,by unfold za9;rw[List.take_zero,List.map_nil,List.append_nil];exact P4.same s5,r200⟩)
 ·rintro i D H6 x H7 hi ⟨⟨z,rfl⟩,W,u,P6,r6⟩ ⟨rfl,hx⟩;let⟨k,y,rfl⟩:=Jkc _ (SqT.of u);have kin:=inq k (mO y);have hi:i<M.length:=(gEq y).1;let⟨⟨dx6,hp6⟩,_⟩:=id P6;refine JeT _ p2 dx6 _ rfl hp6 (QK _ _ _) _ rfl _ rfl lS1 (λrw hrw=>?_);let⟨H8,N,v,n8⟩:=Xj hrw (Ji6 (-k));rw[N];have tkl:(M.take i).length=i:=by rw[List.length_take];lia
  have rlen:(Rs++JlB i).length=Rs.length+i:=by unfold za9;rw[lAq,lM,tkl]
  have X:=W.trans v;refine⟨p2,O,U,I,rw,T',B,_,[-k],rfl,P6.same v,Vd n8,(by show 1≤20;decide),by lia,λn hn=>?_,by lia,λe H' s'=>?_,λe H' P' f'=>?_⟩
  ·rw[mS hn];lia
  ·exact qm (by lia) H' (X.trans s')
  ·refine⟨Vf _,λb o e=>f' b o (X b o e) (λz=>by rw[z,n4]at e;cases e),f' _ _ (v _ _ u) λz=>?_,?_,by lia⟩
   ·let⟨_,_,_,⟨us,hu,_⟩,_⟩:=id P6;rw[z,hu]at u;cases u
   ·have e3:Rs++JlB (i+1)=Rs++JlB i++[JbJ [-k]]:=by unfold za9;rw[bE y,mAq,List.append_assoc];rfl
    rw[e3];exact P'
 ·rintro D H6 ⟨⟨z,rfl⟩,W,u,P6,r6⟩;rw[lM]at P6 r6;rw[List.take_length]at P6;have q0:=q0' r6;refine⟨_,rfl,_,rfl,p2,O,U,I,T',B,_,most,rfl,⟨P6,A.a.tm,A.a.pl,A.a.nd,rowsF A.a.ro r6 λp hp=>by have:=inq p hp;lia,A.a.m1,A.a.m2⟩,λa b H' s'=>q0.long a b H' (W.trans s'),λH7 t c hs an s7 n7 h7 hc hh=>?_,λH7 t pl ys L an s7 n7 m7 h7 h8 h9 G lm us two=>?_⟩
  ·have a0:Jf7 c 0=some (.str "yes"):=VW (j:=0);have a1:Jf7 c 1=some (.ref c):=VW (j:=1);refine Jjy _ t _ _ _ (SqT.of h7) a0 rfl _ rfl (VY (λc=>Jgg c));refine JiZ t _ _ _ rfl (SqT.of h7) a1 lS2 (λt2 g=>?_);let⟨H8,N,v,n8⟩:=Xv g (VV "no" c);rw[N];have d:=W.trans s7;exact q0.yes H8 t2 c hs an (d.trans v) (d.free g) n8 (hc.same v) hh
  ·have a0:Jli pl 0=some (.str "no"):=VW (j:=0);have a1:Jli pl 1=some (.ref pl):=VW (j:=1);refine Jjy _ t _ _ _ (SqT.of h7) a0 rfl _ rfl (J9 (λc=>QU c));refine JiZ t _ _ _ rfl (SqT.of h7) a1 lS2 (λt2 g=>?_);let⟨H8,N,v,n8⟩:=Xv g (VV "yes" pl);rw[N];have d:=W.trans s7;exact q0.no H8 t2 pl ys L an (d.trans v) (d.free g) (W.free m7) n8 (v _ _ h8) (h9.keep v.kt (cq (code:=λx:List Int × List Int=>lnD x.1 x.2) (λx=>nX _ _) L)) G lm us two
end
noncomputable def zhT:List Nat:=[98,120,102,122,113,106]
structure GdZ (z:Str):Prop where
 l1:1≤z.length
 l8:z.length≤8
 ab:∀c∈z.cps.toList,Jef c
 mr:∃c∈z.cps.toList,c∈zhT
def lI (a b:Str):(a++b).cps.toList=a.cps.toList++b.cps.toList:=by show(a.cps++b.cps).toList=_;exact Array.toList_append
def lJ (a:Str):a.cps.toList.length=a.length:=by simp [Str.length]
def DM (h0:0≤j):(Jj3 x j).cps.toList=x.cps.toList.take j.toNat:=by
 by_cases h:j≤x.cps.toList.length
 ·have e:=eq_of_beq (PyProof.Rows.slice_closes_to ⟨h0,h⟩);rw[e];simp
 ·have e:Jj3 x j=x:=by
   have d:(x.length:Int)≤j:=by rw[lJ]at h;lia
   have hz:(Builtin.Str.strSliceIndices none (some j) 1 x.length).length=x.length:=by
    unfold Builtin.Str.strSliceIndices;simp only[show(1:Int) > 0 by decide,if_true];have c:¬j<0:=by lia
    simp only[c,if_false];have b:max 0 (min j (x.length:Int))=(x.length:Int):=by lia
    rw[b];have a:sliceRange 0 _ 1=(List.range _).map _:=sliceRange_one 0 x.length;rw[a];simp
   unfold Txt.slice;rw[if_pos (by rw[hz];simp)]
  rw[e,tO (by lia)]
def DN (h0:0≤j):(Jme x j).cps.toList=x.cps.toList.drop j.toNat:=by
 by_cases h:j≤x.length
 ·rw[PyProof.Rows.slice_from_eq h0 h rfl];show(x.cps.toList.drop j.toNat).take ((x.length:Int)-j).toNat=_;rw[tO];rw[List.length_drop,lJ];lia
 ·rw[PyProof.Rows.slice_beyond (by lia),List.drop_eq_nil_of_le (by rw[lJ];lia)];rfl
def DO (h:JmN xs i c):c∈xs:=by let⟨j,_,a,_⟩:=mf h;exact mO a
def gd_of (h0:0≤at_)(h:y.length≤7)(f:∀c∈y.cps.toList,Jef c)(g:c∈zhT)(b:Jef c):GdZ (Jj3 y at_++⟨#[c]⟩++Jme y at_):=by
 have e:(Jj3 y at_++⟨#[c]⟩++Jme y at_).cps.toList=y.cps.toList.take at_.toNat++[c]++y.cps.toList.drop at_.toNat:=by rw[lI,lI,DM h0,DN h0]
 have i:(Jj3 y at_++⟨#[c]⟩++Jme y at_).length=y.length+1:=by rw[←lJ,e,lAq,lAq,List.length_take,List.length_drop,lJ];simp only[lS];lia
 refine⟨by lia,by lia,λd a=>?_,c,by rw[e];simp,g⟩;rw[e]at a;rcases mPq a with a | a
 ·rcases mPq a with a | a
  ·exact f d (List.mem_of_mem_take a)
  ·rw[mS a];exact b
 ·exact f d (List.mem_of_mem_drop a)
def DP:∀c∈abc.cps.toList,Vq (isL ⟨#[c]⟩):=by decide +kernel
def DQ (h:Vq (inV (.str z) zfA)):∀c∈z.cps.toList,c∉zhT:=by
 let⟨y,b,e⟩:=List.any_eq_true.mp h;have a:∀w:Str,(∀c∈w.cps.toList,c∉zhT)→Vq (eqV (.str w) (.str z))→∀c∈z.cps.toList,c∉zhT:=λw d e=>by have f:=eq_of_beq e;rw[←f];exact d
 simp only[zfA,List.mem_cons,List.not_mem_nil,or_false]at b;rcases b with rfl | rfl | rfl | rfl | rfl | rfl | rfl | rfl
 all_goals exact a _ (by decide +kernel) e
def hY (h:GdZ z):Jnv z∧Q3 z.length:=by
 have k:=h.l1;have j:=h.l8;have i:(gC z).all id=true:=by rw[List.all_eq_true];intro b d;let⟨c,a,rfl⟩:=List.mem_map.mp d;exact DP c (h.ab c a)
 have g:QM (inV (.str z) zfA):=by
  cases e:inV _ zfA with
  | false=>rfl
  | true =>
   let⟨c,a,f⟩:=h.mr;exact absurd f (DQ e c a)
 refine⟨?_,by lia⟩;unfold fY kY;rw[i,g,dTq (by lia:0<(z.length:Int)),dTq (by lia:(z.length:Int)≤8)];rfl
section
variable {P:Program} {w:World} {K:W.Frag} {mg:Str→Option Value} {base:Heap} {aK C CP CM:Addr} {f fF fM fW:Addr} {fd dF dM dW:FuncData}
def eF (a){b:Int}(h:0<b):0≤a % b∧a % b<b:=⟨Int.emod_nonneg _ (by lia),Int.emod_lt_of_pos _ h⟩
inductive kj:Sp|m{vs H Q E9} (c k):vs=Jc9 c k→(∀i:Int,Q7 i H)→kj vs H Q E9
def xZ:Vj (JlC "_law_k" "_law_mix") (Jdb "_law_k") qX:=fsc
def DR (F:V4 "_law_mixed" "_law_mixed" qX):Jhb (Jdb "_law_k") kj:=by
 refine F.ok xZ (λvs H Q E h=>?_) (λcdv A outer s H vs Q E a h=>?_)
 ·let⟨c,k,rfl⟩:=h;rfl
 let⟨c,k,rfl,q⟩:=h;refine JN (Jdd (Qn (i:=2) xZ.nd (JiW (V2 gU (V2 eo (Jh5 eo 0 (Jke gU (pv 1))))))) (JiW (aX eo (Jh5 gU 2 (pv 2)) (Jke gU (pv 2)))))
 rfl'
 exact⟨_,rfl,_,rfl,_,_,rfl,rfl,JeE (by decide),_,_,rfl,rfl,_,_,rfl,rfl,_,_,rfl,rfl,.inr (JL (by decide)),_,_,rfl,rfl,(by show(0:Int)<2147483647;decide),_,rfl,_,rfl,_,_,rfl,rfl,Qr (by lia) (by lia),_,rfl,_,_,rfl,rfl,JeE (by decide),_,_,rfl,rfl,_,_,rfl,rfl,(by show(0:Int)<2147483399;decide),q _⟩
inductive tH:Sp|m{vs H Q E9} (c n):vs=Jc9 c n→0≤n→n≤8→(∀z,(z.length:Int)=n→(∀c∈z.cps.toList,Jef c)→Jct z H)→tH vs H Q E9
def lK:Vj ["_law_cell","_law_size","_law_letters","_law_word_here","_law_k"] (Jdb "_law_size") qZ:=fsc
def DS (F:V4 "_law_word" "_law_word" qZ)(T:JcR C)(j:Jk2 fM dM (Jdb "_law_k") kj):JeF 2 (Jdb "_law_size") tH:=by
 refine F.ok lK (λvs H Q E h=>?_) (λcdv A outer s H vs Q E r h=>?_)
 ·let⟨c,n,rfl⟩:=h;rfl
 let⟨c,n,rfl,h0,u,q⟩:=h;refine JN (JfB (i:=2) lK.nd bz (i:=3) lK.nd bz (Jdd (JlX (Vh 1) (i:=4) lK.nd (Jnu (i:=3) lK.nd (Jh5 oS 3 (Jg ix_str 2 (JiW (V2 fx (Jki j.ok r j.m j.kp j.b 0 4))))))) (pv 3)))
 rfl'
 refine Jk9 _ rfl n rfl (by lia) (iI (λi l H'=>H'=H∧∃y k,l=[some _,some _,some _,Jcs y,k]∧y.length=i∧∀c∈y.cps.toList,Jef c)
  ⟨rfl,"",none,rfl,by decide +kernel,by decide +kernel⟩ ?_ ?_)
 ·rintro i l H' t ⟨rfl,y,k,rfl,o,a⟩;refine Jb0 _ _ rfl _ rfl _ rfl c _ rfl (λp=>?_);have m:=eF (p / 31) (show(0:Int)<26 by decide);let⟨ch,g⟩:=at_in m.1 (by rw[Bf];exact m.2);refine⟨_,_,rfl,rfl,JL (by decide),_,_,rfl,rfl,(by show(0:Int)<26;decide),abc,_,ch,rfl,rfl,sz _ (by decide +kernel),g,y,_,rfl,rfl,sz _ (by rw[nJ];lia),rfl,_,_,rfl,?_,λd e=>?_⟩
  ·rw[ju,nJ,o]
  ·rw[lI]at e;rcases mPq e with e | e
   ·exact a d e
   ·rw[mS e];exact DO g
 ·rintro l H' ⟨rfl,y,k,rfl,o,a⟩;exact QI (q y (by lia) a)
noncomputable def nmF (a b:Str)(c:Nat):Str:=a++⟨#[c]⟩++b
def DT (a b)(c):(nmF a b c).cps.toList=a.cps.toList++c :: b.cps.toList:=by unfold nmF;rw[lI,lI,List.append_assoc];rfl
def nmF_ne (h:c≠d):nmF a b c≠nmF a b d:=λe=>by have g:=congrArg (λz:Str=>z.cps.toList) e;simp only[DT]at g;have:=List.append_cancel_left g;injection this with i _;exact h i
noncomputable def bx:List Nat:=[98,120,102,122,113,106]
def bx_eq:("bxfzqj":Str).cps.toList=bx:=by decide +kernel
structure Nms (zs:List Str):Prop where
 len:Jg4 6
 gd:∀z∈zs,GdZ z
 nd:zs.Nodup
inductive oy:Sp|m{vs H Q E9} (c):vs=Ji6 c→(∀H' l zs,Jcg H l (JQ l (zs.map V.str)→Jc0 (Nms zs) l))→oy vs H Q E9
def tI:Vj (JlC "_law_base" "_law_at") ["_law_cell"] nH:=fsc
def DU (F:V4 "_law_names" "_law_names" nH)(p:JgD 2 "_law_word" fW dW (Jdb "_law_size") tH):JeF 3 ["_law_cell"] oy:=by
 refine F.ok tI (λvs H Q E h=>?_) (λcdv A outer s H vs Q E N h=>?_)
 ·let⟨c,rfl⟩:=h;rfl
 let⟨c,rfl,q⟩:=h;refine JN (JcI (Jgq (i:=1) tI.nd rfl rfl (Jc4 p.ok N p.m p.kp p.b 0 (JdJ cw 0))) (Jgq (i:=2) tI.nd rfl rfl (Jjj fx 0)) (Vw (N':=["_law_letter","_law_base","_law_at"]) (ix:=[1,2]) rfl rfl rfl (λJ=>JfS (sc:=ai nH) J) rfl rfl (ixC (QZ _ rfl rfl rfl) (JdN _)) (vf bz) (λ_ _ _ _=>(aX oS (aX oS (Jly vc 1 eS (Jld 2)) (pv 0)) (Jly vc 1 (Jld 2) eS)))))
 rfl'
 rfl'
 have R:=eF (c / 8) (show(0:Int)<8 by decide);refine⟨_,rfl,_,rfl,_,_,rfl,rfl,(by show(0:Int)<7;decide),c,c % 7,rfl,by lia,by lia,λy M r=>?_⟩;have u:y.length≤8:=by lia
 refine Jf5 _ _ _ rfl rfl (JL (by decide)) _ _ rfl rfl (by show(0:Int)<8;decide) ?_;have k1:(Jj3 y (c / 8 % 8)).length≤8:=xa u;have k2:(Jme y (c / 8 % 8)).length≤8:=xa u;have B:(("bxfzqj":Str)).length=6:=by decide +kernel
 refine QI (λD v=>Qj (λi m ys H'=>m=6-i∧i≤6∧(∃zs:List Str,Jg4 i∧(∀z∈zs,GdZ z)∧ys=zs.map V.str∧zs=(bx.take i).map (nmF (Jj3 y (c / 8 % 8)) (Jme y (c / 8 % 8))))∧H'=Jju D ys) ⟨6,rfl,Nat.zero_le _,JdC [] (λz hz=>nomatch hz) rfl,rfl⟩);rintro i m ys H' ⟨rfl,T,⟨zs,d,l,rfl,k⟩,rfl⟩;refine VI ao;by_cases e:i<6
 ·refine JaF (show i<(("bxfzqj":Str)).length by rw[B];exact e) (λx S I=>?_);let⟨rfl,ch,o,rfl⟩:=I;refine⟨_,rfl,_,rfl,_,rfl,y,rfl,Joe _,_,rfl,_,_,rfl,rfl,sz _ (by rw[nJ];lia),?_⟩;refine⟨_,rfl,_,rfl,_,rfl,y,rfl,Joe _,_,_,rfl,rfl,sz _ (by rw[ju,nJ];lia),ao,?_,6-(i+1),by lia,rfl,e,⟨zs++[Jj3 y (c / 8 % 8)++⟨#[ch]⟩++Jme y (c / 8 % 8)],?_,?_,?_,?_⟩,lZ _ _ _ _⟩
  ·rw[lM,d];exact Nat.lt_of_lt_of_le e (by decide)
  ·rw[lAq,d];rfl
  ·intro z hz;rcases mPq hz with hz | hz
   ·exact l z hz
   ·rw[mS hz];have G:=mO (by rw[Array.getElem?_toList];exact o);have g:∀c∈("bxfzqj":Str).cps.toList,c∈zhT∧Jef c:=by decide +kernel
    exact gd_of R.1 (by lia) r (g ch G).1 (g ch G).2
  ·rw[mAq];rfl
  ·have O:bx[i]?=some ch:=by rw[←bx_eq,Array.getElem?_toList];exact o
   rw[bE O,mAq,←k];rfl
 ·have t:i=6:=by lia
  subst t;refine Qr (show(("bxfzqj":Str)).length≤6 by rw[B];exact nRq _) ?_;refine q _ D zs (Jdg v) v ao (Qj d l);rw[k,show bx.take 6=bx from rfl];exact List.pairwise_map.mpr ((show bx.Nodup by decide).imp λ{a b} L=>nmF_ne L)
end
end K98
namespace L2
open PySem PySem.Spec PyProof.Rows
def tPar3 (i j k:Nat)(b:TA):TS:=λD a H=>b a H λvs c=>∃v w x,vs=[v,w,x]∧D.nx (((a.set k (some x)).set j (some w)).set i (some v)) c
section
variable {X:Cx}
def DV (W:Vq X.calm)(u:X.N.Nodup)(U:X.N[i]?=some x)(T:X.N[j]?=some y)(S:X.N[k]?=some z)
  (E:JlL x)(C:JlL y)(hz:JlL z)(Y:PA X [a,b,c] ta)
  (R:Jgc (swappedStores [.Tuple [JbI px,JhK y,.Name z pz] kt pt] (.Tuple [a,b,c] k2 pt2) X.env) (some [x,y,z]))
  (hs:swapsWithSole [.Tuple [JbI px,JhK y,.Name z pz] kt pt] (.Tuple [a,b,c] k2 pt2) pos.line X.env=pure false:=by rfl) :
  PS X (JhG (.Tuple [JbI px,JhK y,.Name z pz] kt pt) (.Tuple [a,b,c] k2 pt2) pos) (tPar3 i j k ta):=by
 intro d s B H D I h;rw[exec_Assign_arm];refine Jaq ?_;rw[hs];refine Qo ?_;rw[if_neg (by decide)];refine wpAny_bind (Tuple_ (thn (Y _ d s B H _ I h) λus n h_=>?_));let⟨vs,F,I1,L,q1⟩:=h_;let⟨v,w,G,Z,q1⟩:=q1;subst Z;obtain⟨l,g,f,rfl,K,r,J⟩:∃l g f,us=[l,g,f]∧bn v l∧bn w g∧bn G f:=by
  cases L with
  | cons p q =>
   cases q with
   | cons Q O =>
    cases O with
    | cons P M =>
     cases M;exact⟨_,_,_,rfl,p,Q,P⟩
 refine wpAny_newObj_type ?_ (by show Vi 3;decide);have I2:JW d B F { n with heap:=n.heap.push { cls:=.type "tuple",data:=.seq [l,g,f].toArray } }:=I1.kept (t':=n.toks) λb o e=>JgM e;rw[R];refine Qo ?_;show V0 X.A _ _ _ _
 refine Jai (wpAny_bind (unpackItems_tuple (items:=#[l,g,f]) (I.ok.hd W) (fu.new n.heap _).up λh' t=>?_));have I3:=I2.kept (h':=h') (t':=n.toks) λb o e=>t b o (Jce e) e;refine wpAny_bind (Jdm (iY I3 u S (.inl hz) J (λs2 I4=>?_) (.inr hz)));refine Jdm (iY I4 u T (.inl C) r (λs3 I5=>?_) (.inr C));exact Jdm (iY I5 u U (.inl E) K (λs4 I6=>assignInOrder_nil (wpAny_pure ⟨_,F,I6,q1⟩)) (.inr E))
end
end L2
namespace K98
open PySem L2
def tJ (h:JnA t)(i:∀a H Q,t' a H Q→t a H Q):JnA t':=λb s a H Q I q=>h b s a H Q I (i a H Q q)
structure TmD (T):Prop where
 ok:iV T
 ex:∀(i:Nat) (t),T[i]?=some t→Jnv t.1∧Q3 t.1.length∧∀p∈t.2,0≤p∧p<(i)
def tTm (K:W.Frag)(j:Nat)(ns:List Int):TE:=λa H Q=>ia j a H λv b=>∃z,v=.str z∧∀H' q,JM b (Jc0 (Jbk K H' (dT (z,ns)) q) q)
def mkT {K:W.Frag}{H:Hp}{z:Str}{Q:VK}(ns)(i:JdP 3)(k:∀H' q,Jln (Jbk K H' (dT (z,ns)) q) q) :
  (ns.map V.int).length≤sizeLine∧∀u,Vu u→Vi 2∧∀q,Qu (upd H u (.tup (ns.map V.int)) q)→Q (.ref q) (Jt (Jt H u (ns.map V.int)) q (VV z u)):=by refine⟨by rw[lM];exact Joe _,λu g=>⟨lS2,λq c=>?_⟩⟩;let⟨j,a,d,f⟩:=Xv g (ns.map V.int);rw[a]at c ⊢;let⟨h,a,b,e⟩:=Xv c (VV z u);rw[a];exact k h q (d.trans b) (JeL e (JeU (by simp only[Has]) (JdI (b _ _ f) ns)))
noncomputable def zdk (b c f:Str):List Tm:=[(b,[]),(c,[]),(f,[0]),(f,[1]),(f,[2]),(f,[0,1]),(f,[1,0])]
def DW (v:GdZ b)(u:GdZ c)(a:GdZ f)(o:b≠c)(m):TmD ((zdk b c f).take m):=by
 have q:(zdk b c f).Nodup:=by unfold zdk;simp [o]
 have n:∀(i:Nat) t,(zdk b c f)[i]?=some t→(Jnv t.1∧Q3 t.1.length)∧t.2.length≤3∧∀p∈t.2,0≤p∧p<(i:Int):=λi t h=>by
  unfold zdk at h;rcases i with _ | _ | _ | _ | _ | _ | _ | i
  all_goals simp only[List.getElem?_cons_succ,List.getElem?_cons_zero,List.getElem?_nil,Option.some.injEq,reduceCtorEq]at h
  all_goals subst h
  ·exact Jkk v
  ·exact Jkk u
  ·exact Jkk a
  ·exact Jkk a
  ·exact Jkk a
  ·exact Jkk a
  ·exact Jkk a
 have d:∀i t,((zdk b c f).take m)[i]?=some t→(zdk b c f)[i]?=some t∧i<((zdk b c f).take m).length:=λi t h=>by have e:=(gEq h).1;have j:=e;rw[List.length_take]at j;rw[List.getElem?_take,if_pos (by lia)]at h;exact⟨h,e⟩
 refine JlZ (q.sublist (JfI _)) ?_ (λt r=>?_) (λi t h=>?_)
 ·rw[List.length_take];exact Nat.le_trans (Jks _) (by show 7≤60;decide)
 ·let⟨i,e⟩:=List.getElem?_of_mem r;let⟨l,w⟩:=d i t e;let⟨_,g,k⟩:=n i t l;exact⟨g,λp s=>by have:=k p s;lia⟩
 ·let⟨l,w⟩:=d i t h;let⟨g,_,k⟩:=n i t l;exact⟨g.1,g.2,k⟩
def lL (h:0≤m):Jmq xs m=xs.take m.toNat:=by
 unfold dh;rw[HT.sIx_none,List.drop_zero,Nat.sub_zero];show xs.take (if m<0 then(m+(xs.length:Int)).toNat else min m.toNat xs.length)=_
 rw[if_neg (by lia)];rcases Nat.le_total m.toNat xs.length with z | z
 ·rw[Nat.min_eq_left z]
 ·rw[Nat.min_eq_right z,Jc_ _,tO z]
inductive tK (K):Sp|m{vs H Q E9} (l) (zs) (m):vs=JfK l m→XD l (zs.map V.str)→Nms zs→0≤m→(∀H' r T xs,Jcg H r (JQ r xs→XH H' (T.map dT) xs→Jc0 (TmD T) r))→tK K vs H Q E9
def x_:Vj ["_law_names_here","_law_many","_law_b","_law_c","_law_f"] (Jbx "_law_many") q_:=fsc
section
variable {P:Program} {w:World} {K:W.Frag} {mg:Str→Option Value} {base:Heap} {f:Addr} {fd:FuncData}
def DX (F:V4 "_law_terms" "_law_terms" q_):Jhb (Jbx "_law_many") (tK K):=by
 refine F.ok x_ (λvs H Q E h=>?_) (λcdv A outer s H vs Q E hr h=>?_)
 ·let⟨l,zs,m,rfl,_⟩:=h;rfl
 let⟨l,zs,m,rfl,hl,N,m0,q⟩:=h;have tm0:∀ {X:Cx} {e:Expr} {j:Nat},JnA (fy (cm (ia j) (cm (fy de) de)))→PE X e (tTm K j []):=λh=>tJ h λσ H Q ⟨v,e,z,J,k⟩=>by subst J;exact JnP e (mkT [] (by decide) k)
 have g:∀ {X:Cx} {e:Expr} {j:Nat} {a:Int},JnA (fy (cm (ia j) (cm (fy (JbN a de)) de)))→PE X e (tTm K j [a]):=λ{X e j a} h=>tJ h λσ H Q ⟨v,e,z,J,k⟩=>by subst J;exact JnP e (mkT [a] (by simp) k)
 have o:∀ {X:Cx} {e:Expr} {j:Nat} {a b:Int},JnA (fy (cm (ia j) (cm (fy (Jey a b de)) de)))→PE X e (tTm K j [a,b]):=λ{X e j a b} h=>tJ h λσ H Q ⟨v,e,z,J,k⟩=>by subst J;exact JnP e (mkT [a,b] (by simp) k)
 refine JN (Jdd (DV (i:=2) (j:=3) (k:=4) rfl x_.nd rfl rfl rfl rfl rfl rfl (Jj2 (Jy cu 0) (Jy cu 0) (Jy cu 0)) rfl) (eU gW (bM (JdX (tm0 (Jib 2 (bQ ac))) (tm0 (Jib 3 (bQ ac))) (aa (g (Jib 4 (bQ (Qc af)))) (JdX (g (Jib 4 (bQ (Qc af)))) (g (Jib 4 (bQ (Qc af)))) (XB (o (Jib 4 (Jh9 af af))) (o (Jib 4 (Jh9 af af)))))))) eS (Jld 1)))
 rfl'
 rfl'
 let⟨M,O,zn⟩:=N;rcases zs with _ | ⟨b,_ | ⟨c,_ | ⟨d,zs⟩⟩⟩
 ·cases M
 ·cases M
 ·cases M
 have a0:atI ((b :: c :: d :: zs).map V.str) 0=some (.str b):=ay rfl;have a1:atI ((b :: c :: d :: zs).map V.str) 1=some (.str c):=ay rfl;have a2:atI ((b :: c :: d :: zs).map V.str) 2=some (.str d):=ay rfl;have ne:b≠c:=λe=>(List.nodup_cons.mp zn).1 (by rw[e];simp);refine⟨_,rfl,l,_,_,_,rfl,rfl,SqL.of hl,a0,_,rfl,l,_,_,_,rfl,rfl,SqL.of hl,a1,_,rfl,l,_,_,_,rfl,rfl,SqL.of hl,a2,_,_,_,rfl,?_⟩;refine JiH b (λH2 q0 s2 t0=>JiH c (λH3 q1 s3 t1=>JiH d (λH4 Z s4 t2=>JiH d (λH5 Y s5 t3=>JiH d (λH6 W s6 t4=>JiH d (λH7 U s7 t5=>JiH d (λH8 T s8 t6=>⟨(by show Vi 7;decide),λll hll=>?_⟩)))))));have n:∀ {L Hb:Hp} {t:Tm} {x:V},ap L Hb→Has K L (dT t) x→Has K Hb (dT t) x:=λs h=>h.keep s.kt (rG _);have p:=s8;have u:=s7.trans p;have y:=s6.trans u;have B:=s5.trans y;have C:=s4.trans B;have D:=s3.trans C;have all:XH H8 ((zdk b c d).map dT) _:=.cons (n D t0) (Qp (n C t1) (n B t2) (Qp (n y t3) (n u t4) (JeU (n p t5) t6)));have G:=s2.trans D;let⟨H9,eN,R,n9⟩:=Xj hll [.ref q0,.ref q1,.ref Z,.ref Y,.ref W,.ref U,.ref T];rw[eN];refine⟨_,rfl,_,rfl,ll,_,rfl,SqL.of n9,λr I=>?_⟩;rw[lL m0];let⟨L,eN,sa,na⟩:=Xj I (List.take m.toNat [.ref q0,.ref q1,.ref Z,.ref Y,.ref W,.ref U,.ref T]);rw[eN];have S:=(G.trans R).trans sa;refine q L r ((zdk b c d).take m.toNat) _ S (((G.trans R)).free I) na ?_ (DW (O b (by simp)) (O c (by simp)) (O d (by simp)) ne _);rw[List.map_take];exact r_ _ (all.keep (R.trans sa).kt (eE _))
end
end K98
namespace K98
inductive Ex8 {α₁ α₂ α₃ α₄ α₅ α₆ α₇ α₈:Type}(p:α₁→α₂→α₃→α₄→α₅→α₆→α₇→α₈→Prop):Prop | m (a:α₁) (b:α₂) (c:α₃) (d:α₄) (e:α₅) (f:α₆) (g:α₇) (h:α₈):p a b c d e f g h→Ex8 p
open PySem L2
structure iE (K)(H)(t)(T:List Tm)(As:List At)(Rs:Vp Int):Prop where
 ex:∃tl al rl xs ys zs,Jfo t (JgX tl al rl)∧Je7 tl∧JjQ dT∧XD al ys∧J7 (As.map dA) ys∧XD rl zs∧Ja_ dR zs
def iE.same (h:iE K H t T As Rs)(s:Xg H):iE K H' t T As Rs:=by let⟨a,k,b,xs,ys,zs,j,i,g,f,e,d,c⟩:=h.ex;exact⟨a,k,b,xs,ys,zs,s.tup j,s _ _ i,g.keep s.kt (eE _),s _ _ f,e.keep s.kt (JkD _),s _ _ d,c.keep s.kt (dw _)⟩
structure ThD (T)(As)(Rs):Prop where
 tm:TmD T
 pl:iU As
 nd:As.Nodup
 a1:1≤As.length
 a5:JjH 5
 nm:∀z,At.plain z∈As→Jnv z∧Q3 z.length
 ro:hX As.length Rs
 r:JhV 100
inductive tL (K):Sp|m{vs H Q E9} (a) (ns:List Int):vs=JfJ a (.bl true)→Jmn H a→JdP 63→(∀H' t T As Rs,JiF (iE K H' t T As Rs→ThD T As Rs→Jc0 (JhV 8) t))→tL K vs H Q E9
def ft:Vj ["_law_script","_law_plain_alone","_law_names_here","_law_terms_here","_law_atoms","_law_k","_law_mix","_law_atom","_law_rows","_law_row","_law_j","_law_part"] (Ja5 "_law_plain_alone") ra:=fsc
def yb {n:Nat}(h:1≤n)(m):((1+m % (n:Int)) * (1 - 2 * (m / 61 % 2))≠0)∧((1+m % (n:Int)) * (1 - 2 * (m / 61 % 2))).natAbs≤n:=by
 have b1:=eF m (show(0:Int)<(n:Int) by lia);have:m / 61 % 2=0∨m / 61 % 2=1:=by lia
 rcases this with e | e
 ·rw[e,show(1:Int) - 2 * 0=1 by decide,Int.mul_one];lia
 ·rw[e,show(1:Int) - 2 * 1=-1 by decide];lia
def DY (z y):QM (peq (Jhz z) (.tup [.str "same",.str y,.str y])):=by simp only[dA,peq,zbI];rfl
def DZ {zs:List Str}{d:Dt}(h:∀z∈zs,QM (peq (Jhz z) d)):QM (((zs.map At.plain).map dA).any λe=>peq e d):=by rw[List.any_eq_false];intro e b;let⟨a,c,rfl⟩:=List.mem_map.mp b;let⟨z,hz,rfl⟩:=List.mem_map.mp c;rw[h z hz];decide
section
variable {P:Program} {w:World} {K:W.Frag} {mg:Str→Option Value} {base:Heap} {aK C CP CM:Addr} {f fC fM fN fT:Addr} {fd dC dM dN dT':FuncData}
def D0 (F:V4 "_law_things" "_law_things" ra)(T:JcR C)(c:Ji5 fC dC (Ja5 "_law_k") (iD K))(BM:Jk2 fM dM (Jdb "_law_k") kj)
  (BN:JgD 3 "_law_names" fN dN ["_law_cell"] oy)(BT:Jiu "_law_terms" fT dT' (Jbx "_law_many") (tK K)):JeF 4 (Ja5 "_law_plain_alone") (tL K):=by
 refine F.ok ft (λvs H Q E h=>?_) (λcdv A outer s H vs Q E hr h=>?_)
 ·let⟨a,ns,rfl,_⟩:=h;rfl
 let⟨a,ns,rfl,ha,nl,q⟩:=h;have g:a_ 1 _:=hr.mono (by decide);have hu:=gH hr;refine JN (JfB (i:=2) ft.nd (JfA BN.ok hr BN.m BN.kp BN.b (Qc (Jms g 0 af))) (i:=3) ft.nd (Jc4 BT.ok g BT.m BT.kp BT.b 2 (Jke eo (JiW (Jms g 0 af)))) (JH (i:=4) ft.nd (bM ac) (JlX (Qc (Jke eo (JiW (Jms g 0 af)))) (i:=5) ft.nd (JmP (i:=6) ft.nd (JfA BM.ok g BM.m BM.kp BM.b (Jhh (Jms g 0 af) 5)) (JH (i:=7) ft.nd (Jh9 bz (Jg cu 2 (pv 5))) (Jnk (Jis (Jhy eu (JdJ cw 6)) (Jcw (pv 1)))) (aj (be (Jis (Jk3 (pE hu) (pv 7) 4) (Jk3 (pE hu) (bQ (Jj2 bz (Jg aQ 7 (JcB af)) (JC 7))) 4)) (Jmk 4 (Vh 7))
     cb))))) (JH (i:=8) ft.nd (bM ac) (JlX (Qc (JiW (Jms g 0 af))) (i:=5) ft.nd (JH (i:=9) ft.nd (bM ac) (JlX (Qc (JiW (Jms g 0 (Jke eo (pv 5))))) (i:=10) ft.nd (JfB (i:=6) ft.nd (JfA BM.ok g BM.m BM.kp BM.b (XB (Jms g 0 (Jke eo (pv 5))) (JdJ eo 10))) (i:=11) ft.nd (aX gU (Jke eo (Jh5 cw 6 (Jf0 4))) (Jke gh (Jke gU (Jjj fx 6)))) (aj (be (Jk3 mi (pv 11) 9) (Jmk 9 (Vh 11))
       aU)))) (Jmk 8 (Qc (Jo3 gk 9))))) (Qi (bQ (Qa 3 (V6 4 8)))))))
 rfl'
 rfl'
 have d:∀ {H':Hp} {Q':VK} {k:Int},Xg H→0≤k→(∀i,Q' (.int i) H')→iD K (JfK a k) H' Q' E0:=λs' k0 k=>JcX a ns _ (s'.seq ha) nl k0 k;refine QI (d (ap.refl H) (by decide) λc0=>Qd c0 (λH1 nm zs s1 nn hn N=>?_));refine Jos (d s1 (by decide) λc1=>?_);have b6:=eF c1 (show(0:Int)<6 by decide);refine⟨_,_,rfl,rfl,(by show(0:Int)<6;decide),_,_,rfl,rfl,nm,zs,_,rfl,hn,N,by lia,λH2 tl Ts xs s2 nt ht hT td=>?_⟩;have D:=s1.trans s2;refine Jf6 (λL hal=>?_);let⟨H3,u,s3,n3⟩:=Xj hal [];rw[u];have s13:=D.trans s3;have hal0:Vu L:=D.free hal;have zl:=N.len;refine QI (d s13 (by decide) λc2=>?_);have b5:=eF c2 (show(0:Int)<5 by decide);obtain⟨m,hm⟩:∃m:Nat,(1+c2 % 5:Int).toNat=m:=Vf _;have hm5:1≤m∧m≤5:=by lia
 refine⟨_,_,rfl,rfl,(by show(0:Int)<5;decide),_,_,rfl,rfl,_,rfl,by lia,by lia,iI (lo:=0) (n:=(1+c2 % 5:Int).toNat) (λi B H'=>Ex4 λ(v5 Y v7:Option V) (ys:List V)=>An4 (B=[Ja a,Jk7 true,Ja nm,Ja tl,Ja L,v5,Y,v7,none,none,none,none]) (Xg H2) (JkP L) (XH H' (((zs.take i).map At.plain).map dA) ys))
  ⟨none,none,none,[],rfl,s3,n3,ar.nil⟩ ?_ ?_⟩
 ·rintro i B H4 hi ⟨v5,Y,v7,ys,rfl,s4,J,l⟩;have M:=D.trans s4;have iz:i<zs.length:=by lia
  have hz:=gG iz;generalize zs[i]=z at hz;have az:atI (zs.map V.str) (0+(i:Int))=some (.str z):=by rw[Int.zero_add];exact ay (by rw[List.getElem?_map,hz];rfl)
  refine QI (d M (by decide) λc3=>JfX _ c3 _ (λmx=>?_));refine JeT _ _ rfl nm _ _ _ rfl rfl (SqL.of ((s2.trans s4) _ _ hn)) az lS2 (λX hat=>?_);let⟨H5,u,s5,n5⟩:=Xv hat [.str "plain",.str z];rw[u];dsimp only [ie];refine seqJ (λn hn=>JeT _ _ _ rfl rfl (by show(0:Int)<3;decide) _ _ rfl rfl _ rfl (bo (λ_=>Jos (bq hn)) (λ_=>bq hn))) ?_;have hd:Jbk K H5 (Jhz z) X:=JeL n5 (JeU (by simp only[Has]) (by simp only[Has]));have hA5:=l.keep s5.kt (JkD _);have dp:za6 (((zs.take i).map At.plain).map dA)≤50:=Vx (j_ (n:=1) (λa=>by rw[xj];exact nRq _) _);have no1:QM ((((zs.take i).map At.plain).map dA).any λe=>peq e (Jhz z)):=by rw[nM xk];exact dFq (jA (f:=At.plain) N.nd hz λe=>by injection e)
  have yl:JeJ 6:=by rw[←l.length,lM,lM,List.length_take];lia
  have p1:JcW z (-1)=some (.str z):=mh [V.str "plain"] (.str z);have p2:JcW z 1=some (.str z):=VW (j:=1);refine⟨_,rfl,_,rfl,L,_,_,_,rfl,Vd (s5 _ _ J),hA5,hd,Vx dp,_,rfl,?_⟩;rw[show Vq (if Vq true then !((((zs.take i).map At.plain).map dA).any λd'=>peq d' (Jhz z)) else _) by rw[if_pos rfl,no1];rfl]
  refine b_ ⟨_,rfl,_,rfl,X,_,_,_,rfl,rfl,SqT.of n5,p1,_,rfl,X,_,_,_,rfl,rfl,SqT.of n5,p2,lS3,λsm hsm=>?_⟩;let⟨H6,u,v,n6⟩:=Xv hsm [.str "same",.str z,.str z];rw[u];have hs6:Jbk K H6 (.tup [.str "same",.str z,.str z]) sm:=JeL n6 (.cons (by simp only[Has]) (JeU (by simp only[Has]) (by simp only[Has])));have no2:QM ((((zs.take i).map At.plain).map dA).any λe=>peq e (.tup [.str "same",.str z,.str z])):=DZ λz' _=>DY z' z;have S:=v _ _ (s5 _ _ J);refine Jie _ L _ _ _ (Vd S) (hA5.keep v.kt (JkD _)) hs6 (Vx dp) _ rfl ?_;rw[show Vq (if Vq true then !((((zs.take i).map At.plain).map dA).any λd'=>peq d' (.tup [.str "same",.str z,.str z])) else _) by rw[if_pos rfl,no2];rfl]
  refine b_ (Jov _ (Jez S) _ L _ _ S (cR (by lia)) ?_);have kt:=bj.lst (ys:=ys++Vz X) S;refine⟨_,_,_,_,rfl,((s4.trans s5).trans v).upd hal,ao,?_⟩;rw[bE hz,mAq,mAq];exact((hA5.keep v.kt (JkD _)).keep kt (JkD _)).append (ar.one ((hd.keep v.kt (dc _)).keep kt (dc _)))
 rintro B H4 ⟨v5,Y,v7,ys,rfl,s4,J,l⟩;have M:=D.trans s4;rw[hm]at l;generalize W:(zs.take m).map At.plain=As at l;have al5:As.length=m:=by rw[←W,lM,List.length_take];lia
 have yl:JdA m:=by rw[←l.length,lM,al5]
 refine Jf6 (λrl hrl=>?_);let⟨H5,u,s5,n5⟩:=Xj hrl [];rw[u];have s15:=M.trans s5;refine QI (d s15 (by decide) λc4=>?_);have b8:=eF c4 (show(0:Int)<8 by decide);refine⟨_,_,rfl,rfl,(by show(0:Int)<8;decide),_,rfl,by lia,by lia,iI (lo:=0) (n:=(c4 % 8).toNat) (λi B H'=>Ex8 λ(v5 Y v7 v9 v10 v11:Option V) (us:List V) (Rs:Vp Int)=>An6 (B=[Ja a,Jk7 true,Ja nm,Ja tl,Ja L,v5,Y,v7,Ja rl,v9,v10,v11]) (Xg H4) (JQ rl us) (XH H' (Rs.map dR) us) (Rs.length=i) (∀r∈Rs,r.Nodup∧∀p∈r,Jha m))
  ⟨v5,Y,v7,none,none,none,[],[],rfl,s5,n5,ar.nil,rfl,λr hr=>nomatch hr⟩ ?_ ?_⟩
 ·rintro i B H6 hi ⟨w5,w6,w7,w9,w10,w11,us,Rs,rfl,v,I,U,G,rok⟩;have s16:=M.trans v;refine Jf6 (λro hro=>?_);let⟨H7,u,s7,n7⟩:=Xj hro [];rw[u];have s17:=s16.trans s7;have rne:rl≠ro:=λe=>by rw[e,hro]at I;cases I
  have c5p:(0:Int)≤5+(0+(i:Int)):=by lia
  refine⟨_,rfl,_,rfl,_,_,rfl,rfl,d s17 c5p λc5=>?_⟩;have b4:=eF c5 (show(0:Int)<4 by decide);refine⟨_,_,rfl,rfl,(by show(0:Int)<4;decide),_,rfl,by lia,by lia,iI (lo:=0) (n:=(c5 % 4).toNat) (λj B H'=>Ex4 λ(Y v10 v11:Option V) (ps:List Int)=>An6 (B=[Ja a,Jk7 true,Ja nm,Ja tl,Ja L,Je (0+(i:Int)),Y,w7,Ja rl,Ja ro,v10,v11]) (Xg H6) (JQ ro (ps.map V.int)) (QV j) (ps.Nodup) (∀p∈ps,Jha m))
   (Jjb w6 w10 w11 [] s7 n7 (nRq _) List.nodup_nil (λp hp=>nomatch hp)) ?_ ?_⟩
  ·rintro j B H8 hj ⟨u6,u10,u11,ps,rfl,Z,o,pl8,O,R⟩;have s18:=s16.trans Z;have al8:=(v.trans Z) _ _ J;refine⟨_,rfl,_,rfl,_,_,rfl,rfl,d s18 c5p λc6=>Jjb _ rfl _ _ rfl c6 _ rfl (λmx=>?_)⟩;have pin:=yb hm5.1 mx;have bm:=eF mx (show(0:Int)<(m:Int) by lia);have bb:=eF (mx / 61) (show(0:Int)<2 by decide);refine⟨_,rfl,_,rfl,L,_,rfl,Vd al8,_,_,rfl,rfl,(by rw[yl];lia),_,_,rfl,rfl,_,rfl,_,_,rfl,rfl,JL (by decide),_,_,rfl,rfl,(by show(0:Int)<2;decide),_,_,rfl,rfl,JeE (by decide),_,_,rfl,rfl,_,_,rfl,rfl,Qr (by rw[yl];lia) (by rw[yl];lia),?_⟩;rw[yl];generalize (1+mx % (m:Int)) * (1 - 2 * (mx / 61 % 2))=pt at pin;refine Jgm _ _ rfl ro _ rfl (Vd o) (kH _) _ rfl ?_;rw[if_pos rfl,iM];by_cases e:pt∈ps
   ·rw[dTq e];exact bq (Jjb _ _ _ ps Z o (by lia) O R)
   ·rw[dFq e];refine b_ ⟨_,rfl,Jez o,_,rfl,ro,_,_,rfl,rfl,o,cR (by rw[lM];lia),_,_,_,ps++[pt],rfl,Z.upd hro,?_,?_,?_,λp hp=>?_⟩
    ·rw[mAq];exact ao
    ·rw[lAq];show _+1≤_;lia
    ·exact List.nodup_append.mpr (Jan O (λx hx y hy z=>e (by rw[mS hy]at z;exact z ▸ hx)))
    ·rcases mPq hp with z | z
     ·exact R p z
     ·rw[mS z];exact pin
  ·rintro B H8 ⟨u6,u10,u11,ps,rfl,Z,o,pl8,O,R⟩;have hr8:=Z _ _ I;have ul:us.length=i:=by rw[←U.length,lM,G]
   refine⟨_,rfl,Jez hr8,_,rfl,ro,_,rfl,JeO o (λtu htu=>?_)⟩;let⟨H9,u,s9,n9⟩:=Xv htu (ps.map V.int);rw[u];have hr9:=s9 _ _ hr8;have kt:=bj.lst (ys:=us++Vz tu) hr9;refine JcX rl _ _ rfl hr9 (cR (by lia)) ?_;refine⟨_,_,_,_,_,_,us++Vz tu,Rs++[ps],rfl,((v.trans Z).trans s9).upd hrl,ao,?_,by rw[lAq,G];rfl,λr hr=>?_⟩
   ·rw[mAq];exact((U.keep (Z.trans s9).kt (dw _)).keep kt (dw _)).append (JoO (JoN n9) ps)
   ·rcases mPq hr with z | z
    ·exact rok r z
    ·rw[mS z];exact⟨O,R⟩
 ·rintro B H6 ⟨w5,w6,w7,w9,w10,w11,us,Rs,rfl,v,I,U,G,rok⟩;refine JnD _ _ _ rfl lS3 (λt ht'=>?_);let⟨H7,u,s7,n7⟩:=Xv ht' (JgX tl L rl);rw[u];have s27:=(s4.trans v).trans s7;have s67:=v.trans s7;have zin:∀z,At.plain z∈As→z∈zs:=λz hz=>by rw[←W]at hz;let⟨y,hy,e⟩:=List.mem_map.mp hz;injection e with e;exact e ▸ List.mem_of_mem_take hy
  refine q H7 t Ts As Rs (D.trans s27) ⟨tl,L,rl,xs,ys,us,SqT.of n7,s27 _ _ ht,hT.keep s27.kt (eE _),s67 _ _ J,l.keep s67.kt (JkD _),s7 _ _ I,U.keep s7.kt (dw _)⟩ ⟨td,λx hx=>?_,?_,by lia,by lia,λz hz=>hY (N.gd z (zin z hz)),Jhu (by rw[al5];exact rok) (by lia),by lia⟩ (by lia)
  ·rw[←W]at hx;let⟨y,_,rfl⟩:=List.mem_map.mp hx;exact Vf y
  ·rw[←W];exact List.pairwise_map.mpr ((N.nd.sublist (JfI _)).imp λ{x y} ne e=>ne (by injection e))
end
end K98
namespace K98
open PySem L2
inductive tM (K):Sp|m{vs H Q E9} (c m) (al) (ys):vs=[.int c,.int m,.ref al]→Jz H al ys→1≤ys.length→JeJ 5→0≤m→m≤4→(∀H' l (ps:List Int),Jcg H l (JQ l (ps.map V.int)→QV 4→Jc0 (∀p∈ps,Jha ys.length) l))→tM K vs H Q E9
def oz:Vj ["_law_cell","_law_many","_law_atoms","_law_parts_here","_law_k","_law_mix"] (JlD "_law_many") rb:=fsc
section
variable {P:Program} {w:World} {K:W.Frag} {mg:Str→Option Value} {base:Heap} {aK C CP CM:Addr} {f fM fI fA fL fR:Addr} {fd dM dI dA' dL' dR':FuncData}
def D4 (F:V4 "_law_parts" "_law_parts" rb)(T:JcR C)(j:Jk2 fM dM (Jdb "_law_k") kj):JeF 2 (JlD "_law_many") (tM K):=by
 refine F.ok oz (λvs H Q E h=>?_) (λcdv A outer s H vs Q E I h=>?_)
 ·let⟨c,m,v,ys,rfl⟩:=h;rfl
 let⟨c,m,v,ys,rfl,J,y,M,O,N,q⟩:=h;refine JN (JH (i:=3) oz.nd (bM ac) (JlX (Vh 1) (i:=4) oz.nd (JmP (i:=5) oz.nd (Jki j.ok I j.m j.kp j.b 0 4) (Jmk 3 (Qc (aX gU (Jke eo (Jh5 cw 5 (Jf0 2))) (Jke gh (Jke gU (Jjj fx 5)))))))) (JjJ 3))
 rfl'
 rfl'
 refine Jf6 (λl u=>?_);let⟨S,L,B,G⟩:=Xj u [];rw[L];refine Jk9 _ rfl m rfl (by lia) (iI (λi k H'=>Ex3 λ r o ps=>An5 (k=[Je c,Je m,Ja v,Ja l,r,o]) (Xg H) (JQ l (ps.map V.int)) (ps.length=i) (∀p∈ps,Jha ys.length))
  (JcX none none [] B G rfl (λp t=>nomatch t)) ?_ ?_)
 ·rintro i k x R ⟨r,o,ps,rfl,d,g,pl,a⟩;refine JnD _ _ c _ rfl (λe=>?_);have D:=yb y e;have bm:=eF e (show(0:Int)<(ys.length:Int) by lia);refine⟨_,rfl,Jez g,_,rfl,_,rfl,v,_,rfl,.inl (d.seq J),_,_,rfl,rfl,(by lia),_,_,rfl,rfl,_,rfl,_,_,rfl,rfl,JL (by decide),_,_,rfl,rfl,(by show(0:Int)<2;decide),_,_,rfl,rfl,JeE (by decide),_,_,rfl,rfl,_,_,rfl,rfl,Qr (by lia) (by lia),l,_,_,rfl,rfl,g,cR (by rw[lM];lia),?_⟩;refine JcX _ _ (ps++[(1+e % (ys.length:Int)) * (1 - 2 * (e / 61 % 2))]) (d.upd u) ?_ ?_ (λp t=>?_)
  ·rw[mAq];exact ao
  ·rw[lAq,pl];rfl
  ·rcases mPq t with z | z
   ·exact a p z
   ·rw[mS z];exact D
 ·rintro k x ⟨r,o,ps,rfl,d,g,pl,a⟩;exact QI (q x l ps d u g (by lia) a)
structure PG (P)(w)(K)(mg)(base)(C CM fI fA fL fR)(dI dA' dL' dR'):Prop where
 mI:Mk K C fI
 I:QR 1 fI dI ["self"] (nO C)
 bI:Jnx dI
 g:mg "Problem"=Ja C
 mA:Jnm "add_term" fA
 A:QR 4 fA dA' (Jj4 "name") (rL K C)
 bA:Jw dA' (Jj4 "name")
 mL:Jnm "add_plain" fL
 L:QR 4 fL dL' (VL "name") (nS K C)
 bL:Ja9 dL' "name"
 mR:Jnm "add_row" fR
 R:Jmv P w K w 2 fR dR' "parts" (lj K C CM)
 bR:Jok dR'
def lN {H:Hp}{Rs:List (List Int)}{xs:List V}{i:Nat}{x:V}(h:JkQ dR)(e:xs[i]?=some x):∃r q,Rs[i]?=some r∧Jny q∧SqT K H q (r.map V.int):=by let⟨d,a,j⟩:=h.get e;rw[List.getElem?_map]at a;let⟨r,g,rfl⟩:=Option.map_eq_some_iff.mp a;let⟨q,c,b⟩:=pM j;exact⟨r,q,g,c,b⟩
inductive lO (K)(C):Sp|m{vs H Q E9} (t mo) (T) (As) (Rs) (qs):vs=Jaz t mo→iE K H t T As Rs→ThD T As Rs→Jz H mo (qs.map V.int)→qs.length≤4→(∀p∈qs,Jd7 (p≠0))→(∀H' p tl al rl,Jcg H p (J5 rl (Jc0 (bu K C H' p tl al rl T As (Rs++Jb8 qs)) p)))→lO K C vs H Q E9
def jC:Vj ["_law_things_here","_law_more","_law_problem_here","_law_name","_law_parts_here","_law_atom","_law_row","_law_k"] (Jae "_law_more") rf:=fsc
def D9 (F:V4 "_law_problem" "_law_problem" rf)(T:JcR C)(G:PG P w K mg base C CM fI fA fL fR dI dA' dL' dR'):Jmf P w K w 5 f fd (Jae "_law_more") (lO K C):=by
 refine Fun.okX F jC (λvs H Q E h=>?_) (λcdv Ar outer s H vs Q E hr h=>?_)
 ·let⟨t,U,T',S,Rs,u,rfl,_⟩:=h;rfl
 let⟨t,U,T',S,Rs,u,rfl,Th,D,W,q4,qin,Q0⟩:=h;have hr2:=VT (j:=2);refine JN (JH (i:=2) jC.nd (ky G.mI G.I hr2 rfl G.g G.bI .nil aJ) (Jbb rfl (cT (JC 0)) (JkX rfl (i:=3) jC.nd (i:=4) jC.nd gf) (Jc5 2 G.mA G.A hr G.bA aJ (V6 3 4))) (ae (Jbb rfl (cT (JC 0)) (VH (i:=5) jC.nd) (aj (be (Jmt 5) (Jc5 2 G.mL G.L hr G.bL aJ (JiE 5))
     cb))) (JcI (Jbb rfl (cT (JC 0)) (VH (i:=6) jC.nd) (Jc5 2 G.mR G.R hr2 G.bR (hJ xe1) (Vh 6))) (Jbb rfl (JlT (Qc (Jf0 1))) (VH (i:=7) jC.nd) (aj (be (JiS mi (Jg cu 1 (pv 7)) (Jly gW 1 eS (Jld 7))) (Jc5 2 G.mR G.R hr2 G.bR (hJ xe1) (Qc (bQ (Qc (JcB (Jg cu 1 (pv 7)))))))
     aU))) (pv 2))))
 rfl'
 rfl'
 let⟨tt,ta,tr,xs,ys,zs,h1,h2,h3,h4,h5,h6,h7⟩:=Th.ex;have a0:Jgu tt ta tr 0=some (.ref tt):=VW (j:=0);have a1:Jgu tt ta tr 1=some (.ref ta):=VW (j:=1);have a2:Jgu tt ta tr 2=some (.ref tr):=VW (j:=2);have xl:Ja0 T'.length:=by rw[←h3.length,lM]
 have yl:JdA S.length:=by rw[←h5.length,lM]
 have zl:Jg4 Rs.length:=by rw[←h7.length,lM]
 have t60:=D.tm.ok.len;have a5:=D.a5;have r100:=D.r;intro d v np ndx nex;have s0:Jna (JgW v d d v []):=λb o h=>by rw[aq (λe=>by rw[e,np]at h;cases h),aq (λe=>by rw[e,ndx]at h;cases h)];exact h
 have hp0:=ao (H:=JcP v d) (a:=d) (o:=QF v []);generalize JgW v d d v []=H0 at s0 hp0;refine VO d v hp0 (λB N J H1 n1 n2 n3 e1 e2 e3 hp1 ht1 ha1 hr1 k1=>VI rfl);have s1:Jna H1:=λb o h=>k1 b o (s0 b o h) (λe=>by rw[e,np]at h;cases h);have fT:=s0.free n1;have fA:=s0.free n2;have fR:=s0.free n3;have P1:bu K C H1 d B N J [] [] []:=⟨⟨v,hp1⟩,Joq ht1,Joq ha1,Joq hr1,e1,e2,e3⟩;have X:∀ {Ha Hb:Hp} {z:Addr},Vu z→Jna Ha→Fr1 Ha Hb z→ap H Hb:=λhz s f b o e=>f b o (s b o e) λy=>by rw[y,hz]at e;cases e
 refine Jjy _ t _ _ _ (s1.tup h1) a0 tt rfl (QE _ (s1 _ _ h2)) (Jim (cU (xs:=xs)) (λi l H'=>(∃v3 v4,l=[Ja t,Ja U,Ja d,v3,v4,none,none,none])∧JmO H (bu K C H' d B N J (T'.take i) [] [])) (λi l H' h=>SqL.of (h.2.1 _ _ h2)) ⟨Jbz none none,s1,P1⟩)
 ·rintro i l H2 x H3 hi ⟨⟨v3,v4,rfl⟩,Y,P2⟩ ⟨rfl,hx⟩;let⟨tm,q,pq,M,rfl,hq,hpq⟩:=tmAt h3 (Joj (Y _ _ h2));let⟨⟨dx2,ho2⟩,_⟩:=id P2;let⟨O,g2,g3⟩:=D.tm.ex i tm M;have iT:i<T'.length:=(gEq M).1;have tk:(T'.take i).length=i:=by rw[List.length_take];lia
  refine⟨q,_,rfl,Y.tup hq,rfl,_,_,rfl,_,_,rfl,rfl,?_⟩;refine⟨_,rfl,d,dx2,_,rfl,ho2,QK _ _ _,_,rfl,_,rfl,d,B,N,J,pq,T'.take i,[],[],tm.1,tm.2,rfl,P2,Y.tup hpq,g2,O,(D.tm.ok.ps tm (mO M)).1,by rw[tk];exact g3,by lia,λz=>jA (f:=id) D.tm.ok.nd M (λh=>h) (by rw[List.map_id];exact z),λH3 P3 f3=>Qj (JkS _) (X fT Y f3)⟩;rw[bE M];exact P3
 rintro l H2 ⟨⟨v3,v4,rfl⟩,Y,P2⟩;rw[xl,List.take_length]at P2;refine Jjy _ t _ _ _ (Y.tup h1) a1 ta rfl (QE _ (Y _ _ h4)) (Jim (cU (xs:=ys)) (λi l H'=>(∃v5,l=[Ja t,Ja U,Ja d,v3,v4,v5,none,none])∧JmO H (bu K C H' d B N J T' (S.take i) [])) (λi l H' h=>SqL.of (h.2.1 _ _ h4)) ⟨Vf none,Y,P2⟩)
 ·rintro i l H3 x H4 hi ⟨⟨v5,rfl⟩,Z,P3⟩ ⟨rfl,hx⟩;let⟨a,O,g2⟩:=lE (h5.keep Z.kt (JkD S)) (Joj (Z _ _ h4));let⟨z,rfl⟩:=D.pl a (mO O);simp only[dA,Has,ar]at g2;let⟨pq,zs',rfl,hp,w1,r1,rfl,rfl,w2,r2,rfl,rfl,rfl⟩:=g2;let⟨⟨dx3,ho3⟩,_⟩:=id P3;have b0:JcW z 0=some (.str "plain"):=VW (j:=0);have b1:JcW z 1=some (.str z):=VW (j:=1);have nz:=D.nm z (mO O);refine Jjy _ pq _ _ _ hp b0 rfl _ rfl (J9 (λc=>QU c));refine⟨_,rfl,d,dx3,_,rfl,ho3,QK _ _ _,_,rfl,pq,_,_,_,rfl,rfl,hp,b1,d,B,N,J,T',S.take i,[],z,rfl,P3,nz.2,nz.1,by rw[List.length_take];lia,λy=>jA (f:=id) D.nd O (λh=>h) (by rw[List.map_id];exact y),λH5 P5 f5=>Qj (Vf _) (X fA Z f5)⟩;rw[bE O];exact P5
 rintro l H3 ⟨⟨v5,rfl⟩,Z,P3⟩;rw[yl,List.take_length]at P3;refine Jjy _ t _ _ _ (Z.tup h1) a2 tr rfl (QE _ (Z _ _ h6)) (Jim (cU (xs:=zs)) (λi l H'=>(∃v6,l=[Ja t,Ja U,Ja d,v3,v4,v5,v6,none])∧JmO H (bu K C H' d B N J T' S (Rs.take i))) (λi l H' h=>SqL.of (h.2.1 _ _ h6)) ⟨Vf none,Z,P3⟩)
 ·rintro i l H4 x H5 hi ⟨⟨v6,rfl⟩,s4,P4⟩ ⟨rfl,hx⟩;let⟨r,q,O,rfl,g2⟩:=lN h7 (Joj (s4 _ _ h6));let⟨⟨dx4,ho4⟩,_⟩:=id P4;have rr:=D.ro.row r (mO O);have on:JbJ r=r:=pO r [] rr.1;have rl20:Je4 20:=by
   have h1:=gq 11 (xs:=r.map λp=>p+5) (List.pairwise_map.mpr (rr.1.imp λ{x y} e z=>e (by lia))) λx hx=>by let⟨p,hp,rfl⟩:=List.mem_map.mp hx;have:=(rr.2 p hp).2;lia
   rw[lM]at h1;lia
  have iR:i<Rs.length:=(gEq O).1;refine⟨_,rfl,d,dx4,_,rfl,ho4,QK _ _ _,_,rfl,d,B,N,J,q,T',S,Rs.take i,r,rfl,P4,.inr (s4.tup g2),rl20,by lia,λn hn=>by have:=rr.2 n hn;lia,by rw[List.length_take];lia,λe=>by rw[List.length_take]at e;lia,λ_ H6 P6 f6=>Qj (Vf _) (X fR s4 f6)⟩;rw[on]at P6;rw[bE O];exact P6
 rintro l H4 ⟨⟨v6,rfl⟩,s4,P4⟩;rw[zl,List.take_length]at P4;have ml:(u.map V.int).length=u.length:=lM _;refine⟨_,rfl,U,_,rfl,.inl (s4.seq W),_,rfl,by lia,by lia,iI (lo:=0) (n:=(((u.map V.int).length:Nat):Int).toNat) (λi l H'=>(∃v7,l=[Ja t,Ja U,Ja d,v3,v4,v5,v6,v7])∧JmO H (bu K C H' d B N J T' S (Rs++Jb8 (u.take i)))) ⟨Vf none,s4,by show bu K C H4 d B N J T' S (Rs++[]);rw[List.append_nil];exact P4⟩ ?_ ?_⟩
 ·rintro i l H5 hi ⟨⟨v7,rfl⟩,s5,P5⟩;have iq:i<u.length:=by lia
  have hk:=gG iq;generalize u[i]=k at hk;have ak:atI (u.map V.int) (0+(i:Int))=some (.int k):=by rw[Int.zero_add];exact ay (by rw[List.getElem?_map,hk];rfl)
  have et:=vz (acc:=[]) hk;have kin:=qin k (mO hk);have ol:=jn (u.take i) [];rw[List.length_nil,List.length_take]at ol;refine⟨_,rfl,_,rfl,U,_,_,_,rfl,rfl,s5.seq W,ak,_,rfl,_,rfl,_,rfl,U,_,rfl,s5.seq W,λcp hcp=>?_⟩;have ec:Jmq (u.map V.int) (0+(i:Int))=(u.take i).map V.int:=by rw[Int.zero_add,lL (by lia),Int.toNat_natCast,List.map_take]
  rw[ec];let⟨H6,eN,s6,n6⟩:=Xj hcp ((u.take i).map V.int);rw[eN];refine⟨cp,_,rfl,Vd n6,rfl,kH _,_,rfl,?_⟩;rw[if_pos rfl,iM];have P6:=P5.same s6;have s16:=s5.trans s6;by_cases e:k∈u.take i
  ·rw[dTq e];rw[if_pos ((iu _ _).mpr (.inr e))]at et;exact bq ⟨Vf _,s16,by rw[et];exact P6⟩
  ·rw[dFq e];rw[if_neg λz=>e (((iu (u.take i) []).mp z).resolve_left (by simp))]at et;let⟨⟨dx6,ho6⟩,_⟩:=id P6;refine b_ ⟨_,rfl,d,dx6,_,rfl,ho6,QK _ _ _,_,rfl,_,rfl,U,_,_,_,rfl,rfl,s16.seq W,ak,_,rfl,lS1,λtu htu=>?_⟩;let⟨H7,eN,s7,n7⟩:=Xv htu (Ji6 (-k));rw[eN];have rlen:(Rs++Jb8 (u.take i)).length<200:=by unfold za9;rw[lAq,lM];lia
   refine⟨d,B,N,J,tu,T',S,_,[-k],rfl,P6.same s7,JbT n7,(by show 1≤20;decide),by lia,λn hn=>by rw[mS hn];lia,by lia,λe=>by lia,λ_ H8 P8 f8=>Qj (Vf _) (X fR (s16.trans s7) f8)⟩;rw[et];have e3:Rs++za9 (JbJ (u.take i)++[k])=Rs++Jb8 (u.take i)++[JbJ [-k]]:=by unfold za9;rw[mAq,List.append_assoc];rfl
   rw[e3];exact P8
 ·rintro l H5 ⟨⟨v7,rfl⟩,s5,P5⟩;rw[Int.toNat_natCast,ml,List.take_length]at P5;exact QI (Q0 H5 d B N J s5 np fR P5)
end
def D_ (h:∀e∈kvs,∃n,JmF e.2.2 n):∃n,getS kvs k (.int 0)=.int n:=by
 unfold getS;cases e:Je3 k with
 | none=>exact Vf 0
 | some x=>exact h x (List.mem_of_find?_eq_some e)
def PlV (a:List At)(v:Jn_ Int)(kvs:Jhg V)(n:Nat):Prop:=∀i z,i<n→a[i]?=some (.plain z)→Xa (JfM (Sum.inr z)) (.bl (v ((i:Int)+1)))
def agF (v:Jn_ Int)(Rs:Vp Int)(ps:List Int):Bool:=(Rs.all λr=>Jfx v)&&!(ps.any (zaT v))
inductive tN (P)(w)(K):Sp|m{vs H Q E9} (tt td) (T) (xs):vs=Jaz tt td→Je7 tt→JjQ dT→TmD T→jB P w K H td→(∀H' l,JiF (Xl l H'))→tN P w K vs H Q E9
def oA:Vj ["_law_terms_here","_law_tables","_law_values_here","_law_name","_law_parts_here"] (Jjd "_law_tables") nI:=fsc
section
variable {P:Program} {w:World} {K:W.Frag} {mg:Str→Option Value} {base:Heap} {aK C CP CM:Addr} {f fV fH:Addr} {fd dV dH:FuncData}
def Ea (F:V4 "_law_values" "_law_values" nI)(T:JcR C):Jhb (Jjd "_law_tables") (tN P w K):=by
 refine F.ok oA (λvs H Q E h=>?_) (λcdv A outer s H vs Q E hr h=>?_)
 ·let⟨O,J,T',xs,rfl,_⟩:=h;rfl
 let⟨O,J,T',xs,rfl,Z,hT,D,Tb,q⟩:=h;have hu:=gH hr;refine JN (JcI (Jgq (i:=2) oA.nd rfl rfl (bM ac)) (Jcb (cT (pv 0)) (JkX rfl (i:=3) oA.nd (i:=4) oA.nd gf) (Jmk 2 (Qc (Ck hu (pv 1) (XB (Jib 3 (JnK gk (Qc (Vw (N':=["_law_part","_law_values_here"]) (ix:=[2]) rfl rfl rfl (λok=>JjO (sc:=ai nI)) rfl rfl (JdN _) (Jlc 4) (λ_ _ _ _=>(Jod (r:=jc K) cu 1 (pv 0))))))) af))))) (pv 2))
 rfl'
 rfl'
 refine Jf6 (λl hl=>?_);let⟨H1,B,s1,n1⟩:=Xj hl [];rw[B];have xl:Ja0 T'.length:=by rw[←hT.length,lM]
 have t60:=D.ok.len;refine JdD _ O (QE _ (s1 _ _ Z)) (Jim (cU) (λi I H'=>(∃N M,I=[some _,some _,some _,N,M])∧Xg H∧∃ns:List Int,JQ l (ns.map V.int)∧ns.length=i) (λi I H' h=>SqL.of (h.2.1 _ _ Z)) ⟨Jbz none none,s1,[],n1,rfl⟩)
 ·rintro i I H8 x H2 hi ⟨⟨N,M,rfl⟩,t,ns,h2,nl⟩ ⟨rfl,X⟩;let⟨a,p,pq,z,rfl,hp,hpq⟩:=tmAt hT (X _ (SqL.of (t _ _ Z)));let⟨_,_,g3⟩:=D.ex i a z;have lt:=(D.ok.ps a (mO z)).1;have b:=t.tup hpq;have G:=Tb.same t;let⟨kvs,S,_⟩:=id G.ex;refine⟨p,_,rfl,t.tup hp,rfl,_,_,rfl,_,_,rfl,rfl,?_⟩;have gt:∀k∈a.2,atI (ns.map V.int) k=some (.int (VN k.toNat)):=λk L=>by
   have:=g3 k L;have e:k=(k.toNat:Int):=by lia
   conv=>lhs;rw[e]
   refine ay ?_;rw[List.getElem?_map,List.getD_eq_getElem?_getD,gG (by lia)];rfl
  refine JeT _ (Jez h2) _ rfl (Jv J kvs S) _ rfl _ rfl pq rfl (V8 b) (λD' hD=>Jm3 dU (λj us H'=>Xg H2∧us=((a.2.take j).map λk=>VN k.toNat).map V.int) (λj us H' ⟨d,_⟩=>d.tup b) hD ?_ ?_)
  ·rintro j us H4 x H5 hj hly c ⟨d,rfl⟩ ⟨rfl,X⟩;let⟨k,L,rfl⟩:=cA (X _ (d.tup b));rw[lM]at hj;refine JjP _ _ rfl l _ _ _ (Jno _ _ h2) (gt k (mO L)) (JoU (bsz _ (by rw[lM];lia)) (by rw[lM];exact hj) c (d.upd hD));rw[bE L,mAq,mAq];rfl
  rintro us H4 c ⟨d,rfl⟩;rw[lM,Jc_ _]at c;refine Jv D' _ (JeO c (λu Y=>?_));let⟨H5,B,s5,n5⟩:=Xv Y ((a.2.map λk=>VN k.toNat).map V.int);rw[B];refine⟨lS2,λsg hsg=>?_⟩;let⟨H6,B,s6,n6⟩:=Xv hsg (VV a.1 u);rw[B];have o:=(d.trans s5).trans s6;let⟨y,R,U,_,W⟩:=(G.same o).ex;have v:e_ K H6 (a.1,(a.2.map λk=>VN k.toNat).map Sum.inl) sg:=⟨u,SqT.of n6,by rw[List.map_map];exact SqT.of (s6 _ _ n5)⟩
  let⟨n,en⟩:=D_ W;refine Jhr J sg _ (.int 0) y rfl R U v ?_;rw[en];refine⟨l,_,_,rfl,rfl,o _ _ h2,cR (by rw[lM];lia),JkS _,(t.trans o).upd hl,ns++[n],?_,by rw[lAq,nl];rfl⟩;rw[mAq];exact ao
 ·rintro I H2 ⟨⟨N,M,rfl⟩,t,_⟩;exact QI (q H2 l t)
inductive oB (K):Sp|m{vs H Q E9} (t pd vl) (p) (T) (As) (Rs) (kvs) (v):vs=[.ref t,.ref pd,.ref vl,.int p]→iE K H t T As Rs→iU As→Jc2 pd→PlV As v kvs As.length→Jd7 (p≠0)→Jx (zaT v p) H→oB K vs H Q E9
def yc:Vj ["_law_things_here","_law_plain_here","_law_values_here","_law_part","_law_atom"] (Jeq "_law_part") ri:=fsc
def Ec (F:V4 "_law_holds" "_law_holds" ri)(T:JcR C):Jhb (Jeq "_law_part") (oB K):=by
 refine F.ok yc (λvs H Q E h=>?_) (λcdv A outer s H vs Q E R h=>?_)
 ·let⟨t,o,J,p,T',G,Rs,kvs,v,rfl⟩:=h;rfl
 let⟨t,o,J,p,T',G,Rs,kvs,v,rfl,Th,pl,x,d,N,q⟩:=h;have O:=c_ R;refine JN (JmP (i:=4) yc.nd (aI cu (JC 0) (V2 gh (Jal ja T.abs (Vh 3)))) (ae (be (Jmt 4) (Qi (cZ bZ (my O (pv 1) (JC 4) cN (Jj5 rfl)) (cZ eu (pv 3) af)))
   aU)
  cb))
 rfl'
 rfl'
 let⟨L,b,M,xs,ys,zs,W,h2,h3,U,y,h6,h7⟩:=Th.ex;have Z:Jgu L b M 1=some _:=ay rfl;have yl:JdA G.length:=by rw[←y.length,lM]
 obtain⟨j,l,S⟩:∃j:Nat,(if p<0 then -p else p)-1=(j:Int)∧j<ys.length:=Jhu (p.natAbs-1) (by split <;> lia)
 have r:=gG S;let⟨a,D,B⟩:=lE y r;let⟨z,rfl⟩:=pl a (mO D);simp only[dA,Has,ar]at B;let⟨g,I,X,u,w1,r1,rfl,rfl,w2,r2,rfl,rfl,rfl⟩:=B;have n:atI ys ((if p<0 then -p else p)-1)=some (.ref g):=by rw[l,←X];exact ay r
 have Y:JcW z 0=some _:=ay rfl;have b1:JcW z 1=some _:=ay rfl;refine⟨_,rfl,t,_,_,_,rfl,rfl,W,Z,_,rfl,p,rfl,_,_,rfl,rfl,b,_,_,_,rfl,rfl,SqL.of U,n,?_⟩;refine Jjy _ g _ _ _ u Y rfl _ rfl (J9 (λc=>QU c));refine⟨_,rfl,o,rfl,Jjv _ x,_,rfl,g,_,_,_,rfl,rfl,u,b1,_,cn.k (k:=Sum.inr z) x,?_⟩;rw[d j z (by lia) D];refine⟨_,rfl,_,_,rfl,rfl,rfl,?_⟩;have e:decide (V.bl (v ((j:Int)+1))=V.bl (decide (0<p)))=zaT v p:=by
  unfold zaT;by_cases c:0<p
  ·rw[if_pos c,show(j:Int)+1=p by rw[if_neg (by lia)]at l;lia,dTq c];cases v p <;> rfl
  ·rw[if_neg c,show((j:Int)+1)=-p by rw[if_pos (by lia)]at l;lia,dFq c];cases v _ <;> rfl
 show Jx (decide (V.bl (v ((j:Int)+1))=V.bl (decide (0<p)))) H;rw[e];exact q
structure AgP (P)(w)(K)(H)(t pd td q)(T)(As)(Rs)(ps:List Int)(v):Prop where
 th:iE K H t T As Rs
 d:ThD T As Rs
 pv:∃kvs,Jc2 pd∧PlV As v kvs As.length
 tb:jB P w K H td
 q:Jl_ H q V.int
 l:QV 100
 i:∀p∈ps,Jd7 (p≠0)
inductive oC (P)(w)(K):Sp|m{vs H Q E9} (t pd td q) (T) (As) (Rs) (ps) (v):vs=[.ref t,.ref pd,.ref td,.ref q]→AgP P w K H t pd td q T As Rs ps v→(∀H',JiF (Jx (Jl7 v) H'))→oC P w K vs H Q E9
def tP:Vj ["_law_things_here","_law_plain_here","_law_tables","_law_parts_here","_law_values_here","_law_row"] (JcE "_law_tables") kX:=fsc
def yd (v)(r:List Int):peq (.lst ((r.filter (zaT v)).map Dt.int)) (.lst [])=!(Jfx v):=by
 cases e:r.filter _ with
 | nil =>
  rw[show QM (r.any _) from by rw[List.any_eq_false];exact List.filter_eq_nil_iff.mp e];simp only[List.map_nil,peq,zbI];rfl
 | cons a b =>
  have:a∈r.filter (zaT v):=by rw[e];exact List.mem_cons_self
  have:=List.mem_filter.mp this;rw[show Vq (r.any _) from JbB a this.1 this.2];simp only[List.map_cons,peq,zbI];rfl
def oD {v:Int→Bool}{r:List Int}{j:Nat}{k:Int}(h:r[j]?=some k):(r.take (j+1)).filter (zaT v)=(r.take j).filter (zaT v)++if Vq (zaT v k) then [k] else []:=by rw[bE h,List.filter_append,List.filter_cons,List.filter_nil]
def Ed (F:V4 "_law_against" "_law_against" kX)(BV:Jiu "_law_values" fV dV (Jjd "_law_tables") (tN P w K))(z:Jiu "_law_holds" fH dH (Jeq "_law_part") (oB K)):JeF 2 (JcE "_law_tables") (oC P w K):=by
 refine F.ok tP (λvs H Q E h=>?_) (λcdv A outer s H vs Q E hr h=>?_)
 ·let⟨t,Y,td,q,T',As,Rs,ps,v,rfl,_⟩:=h;rfl
 let⟨t,Y,td,q,T',As,Rs,ps,v,rfl,G,Q0⟩:=h;have hu:=gH hr;have I:=hr;refine JN (JcI (Jgq (i:=4) tP.nd rfl rfl (JfA BV.ok I BV.m BV.kp BV.b (Jhh (JC 0) 2))) (Jj6 (JC 0) (i:=5) tP.nd (aj (be (JiS (pD hu) (Jax (N':=["_law_part","_law_things_here","_law_plain_here","_law_values_here"]) (ix:=[0,1,4]) rfl rfl rfl (λok=>JjO (sc:=ai kX)) rfl rfl (ixC (QZ _ rfl rfl rfl) (ixC (QZ _ rfl rfl rfl) (JdN _))) (Jlc 5) (λ_ _ _ _=>(cD (Q6 z.ok I z.m z.kp z.b 1 (Qa 2 (V6 3 0))))) (λ_ _ _ _=>(pv 0))) (bM ac)) (Qi cN)
     aU))) (cZ (pD hu) (Jax (N':=["_law_part","_law_things_here","_law_plain_here","_law_values_here"]) (ix:=[0,1,4]) rfl rfl rfl (λok=>JjO (sc:=ai kX)) rfl rfl (ixC (QZ _ rfl rfl rfl) (ixC (QZ _ rfl rfl rfl) (JdN _))) (cT (pv 3)) (λ_ _ _ _=>(cD (Q6 z.ok I z.m z.kp z.b 1 (Qa 2 (V6 3 0))))) (λ_ _ _ _=>(pv 0))) (bM ac) rfl))
 rfl'
 rfl'
 let⟨W,ta,X,xs,ys,zs,h1,h2,h3,h4,h5,h6,h7⟩:=G.th.ex;let⟨kvs,hd,pvv⟩:=G.pv;have a0:Jgu W ta X 0=some (.ref W):=ay rfl;have a2:Jgu W ta X 2=some (.ref X):=ay rfl;have zl:Jg4 Rs.length:=by rw[←h7.length,lM]
 refine⟨_,rfl,t,_,_,_,rfl,rfl,h1,a0,_,rfl,W,td,T',xs,rfl,h2,h3,G.d.tm,G.tb,λH1 vl s1=>?_⟩;have g:∀ {H':Hp} {Q':VK} {p:Int},Xg H→(Jd7 (p≠0))→Q' (.bl (zaT v p)) H'→oB K _ H' Q' E0:=λs' pi k=>⟨t,Y,vl,_,T',As,Rs,kvs,v,rfl,G.th.same s',G.d.pl,s' _ _ hd,pvv,pi,k⟩;refine Jjy _ t _ _ _ (s1.tup h1) a2 X rfl (QE _ (s1 _ _ h6)) (Jim (cU) (λi U H'=>(∃v5,U=[Ja t,Ja Y,Ja td,Ja q,Ja vl,v5])∧JmO H (Vq ((Rs.take i).all λr=>Jfx v))) (λi U H' h=>SqL.of (h.2.1 _ _ h6)) (Jbz (Vf none) s1))
 ·rintro i U H8 x H2 hi ⟨⟨v5,rfl⟩,u,Z⟩ ⟨rfl,hx⟩;let⟨r,rq,g1,rfl,g2⟩:=lN h7 (Joj (u _ _ h6));have rm:=mO g1;have rr:=G.d.ro.row r rm;have rl:=xX G.d.ro r rm;have B:=u.tup g2;refine Jhk _ rq B (λD S=>gZ dU (λj us H'=>Xg H2∧us=((r.take j).filter (zaT v)).map V.int) (λj us H' ⟨c,_⟩=>c.tup B) (Jdh S) ?_ ?_)
  ·rintro j us H4 y T R o a ⟨c,rfl⟩ ⟨rfl,hy⟩;let⟨k,M,rfl⟩:=cA (hy _ (c.tup B));refine Jhs _ rfl _ rfl _ _ rfl (g (u.trans c) (rr.2 k (mO M)) (QI ?_));cases e:zaT v k with
   | true=>exact b_ (QI (cJ (bsz _ (by rw[lM];lia)) R o a ⟨c.upd S,by rw[oD M,if_pos e,mAq];rfl⟩))
   | false=>exact bq (gY R o a ⟨c,by rw[oD M,if_neg (by rw[e];decide),List.append_nil]⟩)
  ·rintro us H4 a ⟨c,rfl⟩;rw[tO (by rw[lM];exact nRq _)]at a;refine Jf6 (λl L=>?_);let⟨T,eN,N,n5⟩:=Xj L [];rw[eN];have O:=u.trans (c.trans N);refine⟨.lst _,.lst [],JnB (N _ _ a) _,QP n5 ar.nil,(by simp only[dep,hO];decide),_,rfl,?_⟩;rw[yd];cases e:Jfx v with
   | false =>
    refine b_ ?_;have:=Q0 T O;have e3:QM (Jl7 v):=by unfold agF;rw[show QM (Rs.all λr=>Jfx v) from List.all_eq_false.mpr ⟨r,rm,by rw[e];decide⟩,Bool.false_and]
    rw[e3]at this;exact this
   | true =>
    refine bq (Qj (Vf _) O);rw[bE g1,List.all_append,Z];simp only[List.all_cons,e,List.all_nil];rfl
 ·rintro U H2 ⟨⟨v5,rfl⟩,u,Z⟩;rw[zl,List.take_length]at Z;have J:=u.seq G.q;have l100:=G.l;refine Jhk _ q J (λD S=>gZ cU (λj us H'=>Xg H2∧us=((ps.take j).filter (zaT v)).map V.int) (λj us H' ⟨c,_⟩=>c.seq J) (Jdh S) ?_ ?_)
  ·rintro j us H4 y T R o a ⟨c,rfl⟩ ⟨rfl,hy⟩;let⟨k,M,rfl⟩:=cA (hy _ (c.seq J));refine Jhs _ rfl _ rfl _ _ rfl (g (u.trans c) (G.i k (mO M)) (QI ?_));cases e:zaT v k with
   | true=>exact b_ (QI (cJ (bsz _ (by rw[lM];lia)) R o a ⟨c.upd S,by rw[oD M,if_pos e,mAq];rfl⟩))
   | false=>exact bq (gY R o a ⟨c,by rw[oD M,if_neg (by rw[e];decide),List.append_nil]⟩)
  ·rintro us H4 a ⟨c,rfl⟩;rw[tO (by rw[lM];exact nRq _)]at a;refine Jf6 (λl L=>?_);let⟨T,eN,N,n5⟩:=Xj L [];rw[eN];refine⟨.lst _,.lst [],JnB (N _ _ a) _,QP n5 ar.nil,(by simp only[dep,hO];decide),?_⟩;rw[yd];have:=Q0 T (u.trans (c.trans N));unfold agF at this;rw[Z,Bool.true_and]at this;exact this
end
noncomputable def pwI (a:Int):Int:=([1,2,4,8,16]:List Int).getD (a-1).toNat 1
def vcF (c a:Int):Bool:=decide (c / pwI a % 2=1)
def Ee (v:Jn_ Int):∃c:Nat,c<32∧∀a:Int,1≤a→a≤5→vcF c a=v a:=by
 have d:∀b1 b2 b3 b4 b:Bool,∃c:Nat,c<32∧vcF c 1=b1∧vcF c 2=b2∧vcF c 3=b3∧vcF c 4=b4∧vcF c 5=b:=λb1 b2 b3 b4 b =>
  ⟨b1.toNat+2 * b2.toNat+4 * b3.toNat+8 * b4.toNat+16 * b.toNat,by revert b1 b2 b3 b4 b;decide +kernel⟩
 let⟨c,e,j,i,h,g,f⟩:=d (v 1) (v 2) (v 3) (v 4) (v 5);refine⟨c,e,λa l k=>?_⟩;have:a=1∨a=2∨a=3∨a=4∨a=5:=by lia
 rcases this with rfl | rfl | rfl | rfl | rfl <;> assumption
def Ef {n:Nat}{v u:Int→Bool}(h:∀a:Int,1≤a→a≤(n:Int)→v a=u a){p:Int}(b:Jha n):zaT v p=zaT u p:=by
 unfold zaT;split
 ·exact h p (by lia) (by lia)
 ·rw[h _ (by lia) (by lia)]
theorem tQ {n:Nat}{v u:Int→Bool}(h:∀a:Int,1≤a→a≤(n:Int)→v a=u a):∀ {r:List Int},(∀p∈r,Jha n)→Jfx v=Jfx u
 | [],_=>rfl
 | p :: r,b=>by rw[List.any_cons,List.any_cons,Ef h (Jfd p),tQ h λq c=>b q (Xe c)]
def Eg {n:Nat}{v u:Int→Bool}{Rs:List (List Int)}{ps:List Int}(h:∀a:Int,1≤a→a≤(n:Int)→v a=u a)(b:∀r∈Rs,∀p∈r,Jha n)(e:∀p∈ps,Jha n):Jl7 v=agF u Rs ps:=by
 unfold agF;rw[tQ h e];congr 1
 induction Rs with
 | nil=>rfl
 | cons r Rs c=>rw[List.all_cons,List.all_cons,tQ h (Jfd r),c λx d=>b x (Xe d)]
def Eh (h:Vq (Jl7 v))(d:∀p∈ps,p≠0):dZ v (Rs++Jb8 ps):=by
 unfold agF at h;rw[Bool.and_eq_true]at h;intro r c;rcases mPq c with z | z
 ·let⟨p,b,a⟩:=List.any_eq_true.mp (List.all_eq_true.mp h.1 r z);exact⟨p,b,a⟩
 ·let⟨p,b,rfl⟩:=List.mem_map.mp z;have a:=((iu _ _).mp b).resolve_left λw=>nomatch w;refine Qj (-p) List.mem_cons_self;have f:QM (ps.any (zaT v)):=by simpa using h.2
  have e:=Ji_ f a;rw[qb (d p a),Bool.eq_false_iff.mpr e];rfl
def hvF (n:Nat)(hs:List Int)(a:Int):Bool:=decide (a∈cS n hs)
def ye (h:p∈cS n hs):p≠0∧-p∉cS n hs:=by
 let⟨a,f,e⟩:=List.mem_map.mp h;have g:=ka.mp f;have e:=e
 refine⟨by split at e <;> lia,λz=>?_⟩;let⟨b,d,c⟩:=List.mem_map.mp z;have b1:=ka.mp d;have c:=c
 have ab:a=b:=by split at e <;> split at c <;> lia
 subst ab;by_cases m:a∈hs
 ·rw[if_pos m]at e c;lia
 ·rw[if_neg m]at e c;lia
def tR (h:p∈cS n hs):Vq (zaT (hvF n hs) p):=by
 let⟨h0,a⟩:=ye h;unfold zaT hvF;split
 ·exact dTq h
 ·rw[dFq a];rfl
def Ei (h:∀r∈Rs++Jb8 ps,∃p∈r,p∈cS n hs):Vq (Jl7 (hvF n hs)):=by
 unfold agF;rw[Bool.and_eq_true];refine VI (List.all_eq_true.mpr λr d=>?_)
 ·let⟨p,b,a⟩:=h r (Xr d);exact List.any_eq_true.mpr ⟨p,b,tR a⟩
 ·have:QM (ps.any (zaT (hvF n hs))):=by rw[List.any_eq_false];intro p e;let⟨x,b,a⟩:=h [-p] (Jj (Xz p ((iu _ _).mpr (.inr e)) rfl));rw[mS b]at a;have c:=tR a;have f:=(ye a).1;rw[qb (by lia)]at c;simpa using c
  rw[this];rfl
structure DuP (K)(H)(t q)(T)(As)(Rs)(ps:List Int):Prop where
 th:iE K H t T As Rs
 d:ThD T As Rs
 q:Jl_ H q V.int
 l:QV 4
 i:∀p∈ps,Jd7 (p≠0)
def DuP.same {K:W.Frag}{H H':Hp}{t q:Addr}{T:List Tm}{a:List At}{Rs:List (List Int)}{ps:List Int}(h:DuP K H t q T a Rs ps)(s:Xg H):DuP K H' t q T a Rs ps:=⟨h.th.same s,h.d,s.seq h.q,h.l,h.i⟩
inductive tS (K):Sp|m{vs H Q E9} (t q) (T) (As) (Rs) (ps):vs=Jaz t q→DuP K H t q T As Rs ps→(∀H' v,JiF (Vq (Jl7 v)→Jon "no"))→(∀H',JiF ((∀v,QM (Jl7 v))→Jon "yes"))→tS K vs H Q E9
def oE:Vj ["_law_things_here","_law_parts_here","_law_code","_law_plain_here","_law_k"] (Jae "_law_parts_here") rj:=fsc
section
variable {P:Program} {w:World} {K:W.Frag} {mg:Str→Option Value} {base:Heap} {aK C CP CM CC:Addr} {f fG fD fL fR:Addr} {fd dG dD dL' dR':FuncData}
def ok_due (F:V4 "_law_due" "_law_due" rj)(T:JcR C)(W:JgD 2 "_law_against" fG dG (JcE "_law_tables") (oC P w K)):JeF 3 (Jae "_law_parts_here") (tS K):=by
 refine F.ok oE (λvs H Q E h=>?_) (λcdv A outer s H vs Q E O h=>?_)
 ·let⟨t,q,T',D,Rs,ps,rfl,_⟩:=h;rfl
 let⟨t,q,T',D,Rs,ps,rfl,G,qN,qY⟩:=h;have hu:=c_ O;refine JN (Jdd (JlX (Qc (V2 uk af)) (i:=2) oE.nd (JH (i:=3) oE.nd fj (JlX (Qc (VZ bO (JiE 0))) (i:=4) oE.nd (aj (g_ hu (pv 3) (aI aQ (aI cu (JC 0) (pv 4)) af) (cZ bZ (JiW (Jh5 fx 2 (aI cu (bM (JdX af af (Jj2 af af af))) (pv 4)))) af) rfl))) (aj (be (cD (Q6 W.ok O W.m W.kp W.b 0 (Qa 3 (Jhh fj 1)))) (Qi bz)
     aU)))) bz)
 rfl'
 rfl'
 let⟨tt,L,tr,xs,ys,zs,h1,h2,h3,h4,h5,h6,h7⟩:=G.th.ex;have U:Jgu tt L tr 1=some (.ref L):=ay rfl;have yl:JdA D.length:=by rw[←h5.length,lM]
 have a5:=G.d.a5;refine⟨_,_,rfl,rfl,JiA (by decide) (by decide),_,rfl,by decide,by decide,iI (λi u H'=>(∃Y X p,u=[Ja t,Ja q,Y,X,p])∧Xg H∧∀c:Nat,c<i→QM (Jl7 (vcF c))) ⟨⟨none,none,none,rfl⟩,ap.refl H,λc R=>J2 R _⟩ ?_ ?_⟩
 ·rintro i u H1 hi ⟨⟨Y,X,p,rfl⟩,M,no⟩;refine λd hd=>?_;let⟨H2,J,s2,n2⟩:=nwH hd (.dK []);rw[J];have x:=M.trans s2;have hdH:=M.free hd;refine⟨_,rfl,t,_,_,_,rfl,rfl,x.tup h1,U,L,_,rfl,Vd (x _ _ h4),_,rfl,by lia,by lia,iI (λk u H'=>(∃p,u=[Ja t,Ja q,Je (0+(i:Int)),Ja d,p])∧Xg H∧∃kvs,Xy d (.dK kvs)∧JbA k∧PlV D (vcF i) kvs k) ⟨Vf p,x,[],n2,nRq _,λj z hj=>J2 hj _⟩ ?_ ?_⟩
  ·rintro k u H3 hk ⟨⟨p,rfl⟩,Z,kvs,B,kl,N⟩;have hk':k<D.length:=by lia
   have hy:=gG (l:=ys) (i:=k) (by lia);let⟨a,S,g2⟩:=lE h5 hy;let⟨z,rfl⟩:=G.d.pl a (mO S);simp only[dA,Has,ar]at g2;let⟨pq,zs',ex,hp,w1,r1,rfl,rfl,w2,r2,rfl,rfl,rfl⟩:=g2;have at1:atI ys (0+(k:Int))=some (.ref pq):=by rw[Int.zero_add,←ex];exact ay hy
   have b1:JcW z 1=some (.str z):=VW (j:=1);have pk:JmN (([1,2,4,8,16]:List Int).map V.int) (0+(k:Int)) (.int (pwI ((k:Int)+1)))∧0<pwI ((k:Int)+1)∧pwI ((k:Int)+1)<100:=by
    have:k=0∨k=1∨k=2∨k=3∨k=4:=by lia
    rcases this with rfl | rfl | rfl | rfl | rfl <;> decide
   refine Jmd (by show Vi 5;decide) (λl hl=>?_);let⟨H4,J,I,n4⟩:=Xj hl (([1,2,4,8,16]:List Int).map V.int);rw[show Va H3 l [.int 1,.int 2,.int 4,.int 8,.int 16]=H4 from J];have g:=Z.trans I;refine⟨_,rfl,l,_,_,_,rfl,rfl,SqL.of n4,pk.1,_,_,rfl,rfl,⟨pk.2.1,by have:=pk.2.2;lia⟩,_,_,rfl,rfl,(by show(0:Int)<2;decide),rfl,_,rfl,_,rfl,t,_,_,_,rfl,rfl,g.tup h1,U,_,rfl,L,_,_,_,rfl,rfl,SqL.of (g _ _ h4),at1,pq,_,_,_,rfl,rfl,g.tup hp,b1,d,_,rfl,eA.k (k:=Sum.inr z) (I _ _ B) (cR (by lia)),?_⟩;refine⟨Vf _,g.upd hdH,_,ao,?_,λj z' hj o=>?_⟩
   ·have:=jR kvs (Sum.inr z) (.bl (decide (JmG ((0+(i:Int)) / pwI ((k:Int)+1) % 2) 1)));show(Jba (Sum.inr z) _).length≤_;lia
   ·rw[jM];by_cases e:j=k
    ·subst e;rw[S]at o;injection o with o;injection o with o;rw[if_pos (by rw[o])];congr 2;unfold vcF;rw[Int.zero_add];exact decide_eq_decide.mpr ⟨λy=>by injection y,λy=>by rw[y]⟩
    ·rw[if_neg (λy=>e ?_)]
     ·exact N j z' (by lia) o
     ·injection y with y;rw[←y]at S;exact ni G.d.nd o S
  ·rintro u H3 ⟨⟨p,rfl⟩,Z,kvs,B,kl,N⟩;rw[Int.toNat_natCast,yl]at N;refine Jos (λtd htd=>?_);let⟨H4,J,I,n4⟩:=nwH htd (.dK []);rw[J];have g:=Z.trans I;refine JeT _ t d td q T' D Rs ps (vcF i) rfl ⟨G.th.same g,G.d,⟨kvs,I _ _ B,N⟩,⟨[],JiC n4,λe he=>(nomatch he),by decide,λe he=>(nomatch he)⟩,g.seq G.q,by have:=G.l;lia,G.i⟩ (λH5 s5=>QI ?_);cases e:Jl7 (vcF i) with
   | true=>exact b_ (qN H5 _ (g.trans s5) e)
   | false =>
    refine bq ⟨⟨_,_,_,rfl⟩,g.trans s5,λc R=>?_⟩;rcases Nat.lt_or_ge c i with z | z
    ·exact no c z
    ·rw[show c=i by lia];exact e
 ·rintro u H1 ⟨⟨Y,X,p,rfl⟩,M,no⟩;refine qY H1 M λv=>?_;let⟨c,R,h⟩:=Ee v;rw[←Eg (n:=D.length) (λa U a2=>h a U (by lia)) (λr O=>(G.d.ro.row r O).2) G.i];exact no c R
inductive jD (P)(w)(K)(CC)(H)(As)(Rs:Vp Int)(f):Prop
 | no {c:Addr} {hs:List Int}:Ji1 f "no" c→ChAt P w K CC H As (Jl5 hs) c→(∀r∈Rs,∃p∈r,p∈Jl5 hs)→jD P w K CC H As Rs f
 | yes {pl:Addr} {ys:List V} {L:LL}:Ji1 f "yes" pl→Jz H pl ys→J7 (L.map λx=>lnD x.1 x.2) ys→JkJ Rs L→(∀v,¬dZ v Rs)→jD P w K CC H As Rs f
inductive tT (P)(w)(K)(CC):Sp|m{vs H Q E9} (f t q) (T) (As) (Rs) (ps):vs=JgX f t q→DuP K H t q T As Rs ps→jD P w K CC H As (Rs++Jb8 ps) f→(∀H',Jko H')→tT P w K CC vs H Q E9
def Ej:Vj (Jfz "_law_found") (Jfz "_law_found") rk:=fsc
def Ek (F:V4 "_law_right" "_law_right" rk)(T:JcR C)(TP:TxP K mg)(D:TxC K mg CC)(N:JgD 3 "_law_due" fD dD (Jae "_law_parts_here") (tS K))(M:JgD 2 "_law_against" fG dG (JcE "_law_tables") (oC P w K))
  (I:Jo P w K mg (Jda w) 5 "_law_problem" fR dR' (Jae "_law_more") (lO K C))(J:Jm4 6 "lets_by" fL dL' "paper" (tG K C)):Jmf P w K w 7 f fd (Jfz "_law_found") (tT P w K CC):=by
 refine Fun.okX F Ej (λvs H Q E h=>?_) (λcdv Ar outer s H vs Q E B h=>?_)
 ·let⟨k,t,q,T',o,Rs,ps,rfl,_⟩:=h;rfl
 let⟨k,t,q,T',o,Rs,ps,rfl,G,Fo,Q0⟩:=h;have W:=JkL (j:=2);have U:=JkL (j:=3);have S:=JkL (j:=5);refine JN (JcI (be (JmZ (Jcw (JfE mE 0 (JdZ (v:=.ty "tuple") rfl T.tuple rfl))) (JlV dQ 0) (dJ (Jg6 dQ 0 (Jki N.ok U N.m N.kp N.b 1 2))))
   cb
   aU) (be (Jmt 0) (Qi (Q6 M.ok W M.m M.kp M.b 1 (JdX (aV (JC 0) rfl) (aV (JC 0) rfl) (Vh 2))))
   aU) (JkE (JfD vE (XB (JC 0) (Jjc (v:=.ty "list") rfl TP.list rfl))) (JfA J.ok B J.m J.kp J.b (XB (Jr I.ok S I.m I.kp I.b (hJ xe1) 1 (Vh 2)) (JC 0)))))
 rfl'
 rfl'
 have p0:∀p∈ps,p≠0:=λp hp=>(G.i p hp).1;cases Fo with
 | no g hc hh =>
  rename_i c hs;have ag:=Ei hh;have y:Jli c 0=some (.str "no"):=ay rfl;have u:Jli c 1=some (.ref c):=ay rfl;refine Jo0 k _ "tuple" true g (JlA K) _ (bq (Jjb _ rfl k _ (.inr g) rfl _ rfl (bq ?_)));refine⟨_,rfl,k,_,_,_,rfl,rfl,g,y,_,rfl,_,rfl,t,q,T',o,Rs,ps,rfl,G,λY v a e=>JkN _ (VY (λz=>VR (by decide +kernel))),λY a e=>absurd (e (hvF o.length hs)) (by rw[ag];decide)⟩;refine Jjy _ k _ _ _ (a.tup g) y rfl _ rfl (J9 (λz=>QU z));have X:=hc.same a;let⟨dx,pd,td,kvs,c1,c2,c3,c4⟩:=X.ex;refine⟨_,rfl,_,rfl,k,_,_,_,rfl,rfl,a.tup g,u,c,CC,dx,_,_,rfl,c1,D.cl,D.nP,C8 _ _,_,rfl,k,_,_,_,rfl,rfl,a.tup g,u,c,CC,dx,_,_,rfl,c1,D.cl,D.nT,rfl,_,rfl,t,pd,td,q,T',o,Rs,ps,hvF o.length hs,rfl,⟨(G.same a).th,G.d,⟨kvs,c2,c3⟩,c4,a.seq G.q,by have:=G.l;lia,G.i⟩,λH2 O=>?_⟩;rw[ag];exact Q0 H2 (a.trans O)
 | yes g Z hL pg us =>
  rename_i pl ys L;have no:∀v,QM (Jl7 v):=λv=>by
   cases e:Jl7 v with
   | false=>rfl
   | true=>exact absurd (Eh e p0) (us v)
  have y:Jf7 pl 0=some (.str "yes"):=ay rfl;have u:Jf7 pl 1=some (.ref pl):=ay rfl;refine Jo0 k _ "tuple" true g (JlA K) _ (bq (Jjb _ rfl k _ (.inr g) rfl _ rfl (bq ?_)));refine⟨_,rfl,k,_,_,_,rfl,rfl,g,y,_,rfl,_,rfl,t,q,T',o,Rs,ps,rfl,G,λY v a e=>absurd e (by rw[no v];decide),λY a e=>JkN _ (VY (λz=>VR (by decide +kernel)))⟩;refine Jjy _ k _ _ _ (a.tup g) y rfl _ rfl (VY (λz=>VR (by decide +kernel)));refine⟨_,rfl,k,_,_,_,rfl,rfl,a.tup g,u,pl,_,"list",true,rfl,a.seq Z,il K "list",_,rfl,b_ ?_⟩;have A:=G.same a;refine⟨_,rfl,_,rfl,t,q,T',o,Rs,ps,rfl,A.th,A.d,A.q,A.l,A.i,λH2 p tl al rl O n1 n2 P2=>?_⟩;have n:=a.trans O;have R:(Rs++Jb8 ps).length≤1000:=by have h1:=jn ps [];have h2:=G.l;have h3:=G.d.r;unfold za9;rw[lAq,lM];rw[List.length_nil]at h1;lia
  exact⟨_,rfl,k,_,_,_,rfl,rfl,n.tup g,u,p,tl,al,rl,pl,T',o,_,ys,L,rfl,P2,by have:=G.d.a5;lia,R,n.seq Z,hL.keep n.kt (cq (code:=λx:List Int × List Int=>lnD x.1 x.2) (λx=>nX _ _) L),pg,λH3 s3=>Q0 H3 (n.trans s3)⟩
end
end K98
namespace L2
open PySem PySem.Spec PyProof.Rows PySem.W
structure jE (K:W.Frag)(M)(h)(x C):Prop where
 kin:K.In h
 ty:JlE M h (JbS x) C
 fe:JkW K C "__eq__" "object.__eq__"
 fn:JkW K C "__ne__" "object.__ne__"
 sb:JaW (subIn K (.ref C) (.type "object"))
section
variable {prog:Program} {w:World} {K:W.Frag} {A:Around} {E:Value→Shared→Prop} {s:Shared} {x C:Addr}
def iscSp {name:Str}{id:String}{a:List Value}{Q:Option Value→Shared→Prop}(I:Jl8 K (Xq w) x C)(d:JkW K C name id)(S:Slot "object" name id)
  (b:J6 w A (JbO id (Jes x a)) (λv=>Q (some v)) E s):J6 w A (callSpecialIfBound? (.ref x) name a) Q E s:=by
 simp only[callSpecialIfBound?,bindSpecialIfBound?];refine wpAny_holding (JbQ (Looks.here (I.ty.andThen (looks_findIn I.kin d)) ?_));simp only[S.bind];refine wpAny_bind (wpAny_askSetting (wpAny_ite ?_));have c:=
  wpAny_bind (wpAny_mono b (λv s' h'=>wpAny_pure h') λ_ _ h'=>h')
 split
 ·exact wpAny_bind (Jag c)
 ·exact wpAny_tryCatch (Qo (wpAny_pure c))
def iscEq (I:Jl8 K (Xq w) x C)(a:Q (some (.bool true)) s):J6 w A (callSpecialIfBound? (.ref x) "__eq__" (Vz x)) Q E s :=
 iscSp I I.fe PySem.F.cmp_object.eq (Jeo PySem.F.cmp_object.eq.plain PySem.F.cmpEntry_eq (check_slot PySem.F.cmpKind_eq PySem.F.cmpSplit_eq (I.ty.andThen (looks_subIn I.kin I.sb)) (PySem.F.cmpArgs_eq _ _) (objEq_entry_same a)))
def iscNeE (I:Jl8 K (Xq w) x C)(a:VC A.units)(b:Q (.done (.ret (.bool false))) s):J6 w A (Builtin.«object.__ne__» (JfG (Jaz x x))) Q E s:=by
 repeat (first | with_reducible refine JlF a | with_reducible refine iscEq I ?_ | wp_step)
 exact b
def iscNe (I:Jl8 K (Xq w) x C)(a:Jed 1)(b:Q (some (.bool false)) s):J6 w A (callSpecialIfBound? (.ref x) "__ne__" (Vz x)) Q E s :=
 iscSp I I.fn PySem.F.cmp_object.ne (Jeo PySem.F.cmp_object.ne.plain PySem.F.cmpEntry_ne (check_slot PySem.F.cmpKind_ne PySem.F.cmpSplit_ne (I.ty.andThen (looks_subIn I.kin I.sb)) (PySem.F.cmpArgs_ne _ _) (iscNeE I a b)))
def El (I:Jl8 K (Xq w) x C)(a:VC A.units)(b:Jjm true s):J6 w A (Jjo .Eq (.ref x) x) Q E s:=by
 show J6 w A (richCompare .Eq (.ref x) (.ref x)) Q E s;simp only[richCompare,cmpInfo_Eq,oneThing_ref,tryCompare]
 repeat (first | with_reducible refine JlF a | with_reducible refine I.ty.here ?_ | with_reducible refine iscEq I ?_ | (rw[if_neg (show ¬(Value.ref C != Value.ref C)=true by simp)]) | wp_step)
 exact b
def Em (I:Jl8 K (Xq w) x C)(b:Jed 1)(c:Jjm false s):J6 w A (Jjo .NotEq (.ref x) x) Q E s:=by
 have a:=Nat.lt_of_succ_lt b;show J6 w A (richCompare .NotEq (.ref x) (.ref x)) Q E s;simp only[richCompare,cmpInfo_NotEq,oneThing_ref,tryCompare]
 repeat (first | with_reducible refine JlF a | with_reducible refine I.ty.here ?_ | with_reducible refine iscNe I b ?_ | (rw[if_neg (show ¬(Value.ref C != Value.ref C)=true by simp)]) | wp_step)
 exact c
end
structure lP (K)(C):Prop where
 fe:JkW K C "__eq__" "object.__eq__"
 fn:JkW K C "__ne__" "object.__ne__"
 sb:JaW (subIn K (.ref C) (.type "object"))
section
variable {X:Cx}
def yg (I:QD s)(e:Jig a fs)(c:lP X.K C):Jl8 X.K (Xp X.w) a C:=by let⟨f,d,_⟩:=ku I.hok e;let⟨od,b,_⟩:=d.look;exact⟨I.kIn,b.cls ▸ (Looks.ld b.at_).andThen .now,c.fe,c.fn,c.sb⟩
inductive lQ (K)(b):R2|m{x y H Q} a C dx fs:JfV x a (Jow y a (Jig a fs) (lP K C) (Jx b H) (lQ K b x y H Q))
def op_eqI (i:Jbj 64):Qx X .Eq (lQ X.K true):=by intro b s g H x y v u Q I f d h;let⟨a,C,k,j,rfl,rfl,e,c,q⟩:=h;cases f;cases d;exact El (yg I e c) (by lia) (Joz q)
def op_neI (i:Jbj 64):Qx X .NotEq (lQ X.K false):=by intro b s g H x y v u Q I f d h;let⟨a,C,k,j,rfl,rfl,e,c,q⟩:=h;cases f;cases d;exact Em (yg I e c) (by lia) (Joz q)
def tU (r a:R2):R2:=λx y H Q=>r x y H Q∨a x y H Q
def yi (h:OpR X f r)(h':OpR X f r'):OpR X f (tU r r'):=by
 intro a s b H x y v u Q I d c q;rcases q with q | q
 ·exact h a s b H x y v u Q I d c q
 ·exact h' a s b H x y v u Q I d c q
def Eo:JgN X "int" (λxs H Q=>∃b:Bool,xs=[.bl b]∧Q7 (if b then 1 else 0) H):=by intro a s d H xs us Q I r h;let⟨b,rfl,q⟩:=h;let⟨u,rfl,c⟩:=eR r;cases c;exact call_int_bool (Jid _ H _ _ q)
end
end L2
namespace L2
open PySem PySem.Spec PySem.Calls PyProof.Rows PySem.W PySem.Builtin PySem.Builtin.ObjectAttr PySem.Builtin.Getset_descriptor
section
variable {prog:Program} {w:World} {A:Around} {E:Value→Shared→Prop} {s:Shared} {K:Frag} {x C:Addr}
def xc_get (X:K.In s.heap)(I:fc x C s.heap)(a:JaW (mroIn K C (.type "object")))
  (h:Jm1 (.ref C) s):codeAny (Xq w) A (.call (.builtin "getset_descriptor.__get__") (JfG (Jdj (.builtin "object.__class__") x tp))) R s:=by
 let⟨b,g,i,t,e⟩:=s;let⟨f,c,d⟩:=I;have k:JlE (Xq w) b (JbS x) C:=d ▸ (Looks.ld c).andThen .now;have j:=looks_mroIn (M:=Xq w) X a;refine codeAny_call_builtin KF.slot_gs.plain KF.entry_gs (KF.slot_gs.check _ _ _ _ _ _ _ _ KF.type_class (KF.args_gs _ _ _) ?_);unfold Builtin.«getset_descriptor.__get__» descrGet;rw[dga_obj];refine Qo ?_;unfold descrGetter descrCheckInstance descrNameAndClass isInstance;simp only[KF.owner_class]
 repeat lk
 refine⟨Code.quiet_builtin _ (by decide +kernel),QX KF.entry_class⟩;unfold Builtin.«object.__class__» shownTypeOf
 repeat lk
 exact h
structure XcK (K)(C):Prop where
 c:(clsIn K C).isSome=true
 ga:JkW K C "__getattribute__" "BaseException.__getattribute__"
 gn:QA (Jdn K C "__getattr__")
 cl:JkW K C "__class__" "object.__class__"
 get:Jbl (specialIn K (.builtin "object.__class__") "__get__") "getset_descriptor.__get__"
 tk:JaW (takesIn K (.builtin "object.__class__"))
 mo:JaW (mroIn K C (.type "object"))
 mb:JaW (mroIn K C (.type "BaseException"))
def Ep (X:K.In h)(k:XcK K C):Looks M h (find (.ref x) (.ref C) "__class__") (.bind (.builtin "getset_descriptor.__get__") (.builtin "object.__class__")):=by have d:=looks_findIn (M:=M) X k.cl;have c:Looks M h _ _:=looks_specialIn X k.get;have b:=looks_takesIn (M:=M) X k.tk;intro A Q E s a q;refine wpAny_bind ((d.keeps a).here ?_);refine wpAny_bind ((c.keeps a).here ?_);refine JbQ ((b.keeps a).here ?_);exact wpAny_pure (JeV q)
def Er (X:K.In s.heap)(I:fc x C s.heap)(k:XcK K C)(h:Q (.done (.ret (.ref C))) s) :
  wpAny (Xq w) A (Builtin.«object.__getattribute__» (JfG (JfJ x (.str "__class__" tk)))) Q E s:=by let⟨a,g,e,t,b⟩:=s;have j:=I;let⟨l,c,d⟩:=I;have i:JlE (Xq w) a (JbS x) C:=d ▸ (Looks.ld c).andThen .now;have f:=Ep (M:=Xq w) (x:=x) X k;refine Qo ?_;refine Qo ?_;refine wpAny_bind (i.at ?_);refine wpAny_bind (f.at ?_);exact JI (wpAny_call (xc_get X j k.mo (wpAny_pure h)))
def Es (X:K.In s.heap)(I:fc x C s.heap)(k:XcK K C)(b:Q () s):wpAny M A (checkBuiltinCall "BaseException.__getattribute__" (JfG (JfJ x nameV))) Q E s:=by
 let⟨d,g,o,t,j⟩:=s;let⟨l,e,f⟩:=I;have i:JlE M d (JbS x) C:=f ▸ (Looks.ld e).andThen .now;have h:=looks_mroIn (M:=M) X k.mb;have c:builtinKind "BaseException.__getattribute__"=some .slot:=by decide +kernel
 have a:splitId "BaseException.__getattribute__"=some ("BaseException","__getattribute__"):=by decide +kernel
 simp only[checkBuiltinCall,c,a];refine wpAny_bind ?_;refine wpAny_bind (i.at (h.at ?_))
 repeat wp_step
 exact b
def Et (X:K.In s.heap)(I:fc x C s.heap)(k:XcK K C)(h:Q (Ja C) { s with toks:=s.toks+1 }):J6 w A (getAttr? (.ref x) "__class__") Q E s:=by let⟨a,g,d,t,b⟩:=s;have c:=I;let⟨o,e,f⟩:=I;have n:JlE (Xq w) a (JbS x) C:=f ▸ (Looks.ld e).andThen .now;have l:=looks_findIn (M:=Xq w) X k.ga;have j:=looks_findIn (M:=Xq w) X k.gn;refine wpAny_bind (wpAny_mkText (wpAny_bind (wpAny_attempt (wpAny_holding (wpAny_bind (n.at (wpAny_bind (l.at ?_))))))));refine wpAny_bind (j.at ?_);refine wpAny_bind (wpAny_attempt (wpAny_holding ?_));show V0 _ (boundAndCalled _ _ _) _ _ _;unfold boundAndCalled;have i:=F.excAttr_ValueError.ga.bind (.ref x);rw[i];refine Qo ?_;refine Jeo F.excAttr_ValueError.ga.plain F.entry_bexc_ga (Es X c k (Er X c k ?_));exact handed_on rfl (wpAny_pure h)
def Eu (k:XcK K C):KitX K (.ref x) (.ref C) (λh=>fc x C h) where
 ty:=λM h _ I=>by let⟨v,p,r⟩:=I;exact r ▸ (Looks.ld p).andThen .now
 it:=λ_ _ X _=>by
  let⟨g,a⟩:=Option.isSome_iff_exists.mp k.c;unfold clsIn at a;split at a
  ·rename_i t d' i b f;intro A' y B s' k q;exact wpAny_bind (wpAny_loadPart (k _ _ (X _ _ f)) (wpAny_pure q))
  ·cases a
 ne:=λh j dd o n u X d=>by
  let⟨g,a⟩:=Option.isSome_iff_exists.mp k.c;refine Bool.eq_false_iff.mpr λq=>?_;have e:=Value.ref.inj (beq_iff_eq.mp q);subst e;unfold clsIn at a;split at a
  ·rename_i t d' i b f;have z:=(X _ _ f).symm.trans d;cases z
  ·cases a
 ca:=λX I l=>Et X I k l
end
section
variable {X:Cx}
inductive oF (K):List V→Hp→VK→Prop|m{xs H Q} (ea C D) (b):xs=Jaz ea D→Jin ea (Jhx ea C) (XcK K C→Xa (kitOne K (.ref C) (.ref D)) b→Jx b H→oF K xs H Q)
def lU:JgE X (oF X.K):=by intro a s k H xs us Q I r h;let⟨ea,C,D,b,rfl,j,g,i,q⟩:=h;let⟨u,c,rfl,e,d⟩:=jL r;cases (show Jl c D from d);cases (show Jl u ea from e);let⟨f⟩:=JbR ea j;exact kia_one (Eu g) I.kIn f i (λz=>nomatch z) λtk=>Jmp b _ q
end
end L2
namespace L2
open PySem PySem.Spec PyProof.Rows
section
variable {X:Cx} {pins:List (Jbp Obj)} {σ:St} {H:Hp} {s:Shared}
theorem yj (I:QD s){d:Dt}:∀ {a:List Dt} {vs:List V} {us:List Value},Jku H a vs→Jc6 vs→us.countP (JjX H d)=a.countP λe=>peq e d
 | [],vs,us,h,r=>by simp only[ar]at h;subst h;cases r;rfl
 | d' :: a,vs,us,h,r=>by
  simp only[ar]at h;let⟨v,rs,rfl,g,f⟩:=h;cases r with
  | cons c b=>rw[List.countP_cons,List.countP_cons,yj I f b,mn I c g]
end
end L2
namespace L2
open PySem
section
variable {K:W.Frag} {h:Heap} {mg:Str→Option Value} {C f:Addr} {fd:FuncData} {n x q:Str} {st:Stmt} {oc kV doc pm cdv ct:Value} {od an:Option Addr} {osl:Array (Option Value)}
structure FT (K)(n x)(st)(f)(fd):Prop where
 a:JnF n f
 F:V4 x x st
 k:Joo f
def FT.m (z:FT K n x st f fd)(X:K.In h)(G:Jh3 mg):mg n=some (.ref f):=W.mg_of X G z.a
def ft_in (a:JnF n f)(l:JiK f oc od (JlR x x st st (ai st) .none kV doc pm an cdv ct) osl)(c:Jl9 K cdv x)(k:Joo f):FT K n x st f (JlR x x st st (ai st) .none kV doc pm an cdv ct):=⟨a,va l c k,k⟩
structure FM (K)(C)(x q)(st)(f)(fd):Prop where
 a:Xa (Qg K C x) (Ja f)
 i:Vq (W.isFn K (.ref f))
 F:V4 x q st
 k:Joo f
def FM.M (z:FM K C x q st f fd):Jnm x f:=⟨z.a,z.i,z.k⟩
def fm_in (a:Xa (Qg K C x) (Ja f))(i:Vq (W.isFn K (.ref f)))(l:JiK f oc od (JlR x q st st (ai st) .none kV doc pm an cdv ct) osl)(c:Jl9 K cdv q)(k:Joo f):FM K C x q st f (JlR x q st st (ai st) .none kV doc pm an cdv ct):=⟨a,i,va l c k,k⟩
abbrev Bd (x q:Str)(st:Stmt)(ps:List Str)(us:List Value):Prop:=∀kV doc pm an cdv ct,Jgc (JfH (JlR x q st st (ai st) .none kV doc pm an cdv ct) us) (ps.zip us)
def Fun.b1 (F:V4 x q st)(h:∀a,Bd x q st [p] [a]):Jnw fd p:=F.binds λkV doc pm an cdv ct us b=>by rcases us with _ | ⟨_,_ | _⟩ <;> first | exact h _ kV doc pm an cdv ct | cases b
def Fun.b2 (F:V4 x q st)(h:∀a b,Bd x q st [p,p2] [a,b]):Jw fd [p,p2]:=F.binds λkV doc pm an cdv ct us c=>by rcases us with _ | ⟨_,_ | ⟨_,_ | _⟩⟩ <;> first | exact h _ _ kV doc pm an cdv ct | cases c
def Fun.b3 (F:V4 x q st)(h:∀a b c,Bd x q st [p,p2,p3] [a,b,c]):Jw fd [p,p2,p3]:=F.binds λkV doc pm an cdv ct us d=>by rcases us with _ | ⟨_,_ | ⟨_,_ | ⟨_,_ | _⟩⟩⟩ <;> first | exact h _ _ _ kV doc pm an cdv ct | cases d
def Fun.b4 (F:V4 x q st)(h:∀a b c d,Bd x q st [p,p2,p3,p4] [a,b,c,d]):Jw fd [p,p2,p3,p4]:=F.binds λkV doc pm an cdv ct us e=>by rcases us with _ | ⟨_,_ | ⟨_,_ | ⟨_,_ | ⟨_,_ | _⟩⟩⟩⟩ <;> first | exact h _ _ _ _ kV doc pm an cdv ct | cases e
def Fun.b5 (F:V4 x q st)(h:∀a b c d e,Bd x q st [p,p2,p3,p4,p5] [a,b,c,d,e]):Jw fd [p,p2,p3,p4,p5]:=F.binds λkV doc pm an cdv ct us g=>by rcases us with _ | ⟨_,_ | ⟨_,_ | ⟨_,_ | ⟨_,_ | ⟨_,_ | _⟩⟩⟩⟩⟩ <;> first | exact h _ _ _ _ _ kV doc pm an cdv ct | cases g
def Fun.top (F:V4 x q st)(h:∀a,Bd x q st [p] [a]):∀s v,BindsTo s fd (JfG [v]) [(p,v)]:=λs v=>by let⟨oc,od,kV,doc,pm,an,cdv,ct,osl,rfl,c,b⟩:=F.ex;exact .of_eq (h v kV doc pm an cdv ct)
end
end L2
namespace L2
open PySem PySem.Spec PyProof.Rows
section
variable {X:Cx}
inductive yk (K):V→List V→Hp→VK→Prop|m{x vs H Q} a xs ds y d:Jow x a (vs=[y]) (Jcr a) (JhZ ds) (Jor y→za6 ds≤60→Q7 (ds.countP λe=>peq e d:Int) H→yk K x vs H Q)
def Ew (J:Jbj 64):MtR X "list.count" (yk X.K):=by
 intro i s E H x vs v us Q I k l h;let⟨a,xs,D,y,d,rfl,rfl,C,hs,z,L,q⟩:=h;cases k;let⟨u,rfl,p⟩:=l.one;let⟨b,r,pl,hz⟩:=I.list C;let⟨o,e,j,n,c⟩:=id pl.isList;let⟨G,od,t,f⟩:=o;simp only at j c;subst j c;have g:VC (Jnq (za6 D)):=by rw[Around.in1_units];lia
 refine call_meets F.slot_list_count (JkS e) F.entry_list_count (F.args_list_count_2 _ _) (SeqAt.list_countAt a b.toArray n od f u (JjX H d)) (Qj e ?_)
 ·intro w B;exact jg I z p hs r g w (by simpa using B)
 ·refine Jid _ H _ _ ?_;rw[yj I hs r];exact q
end
structure FnS (P)(w)(K)(mg)(base)(k)(f)(fd)(ps:List Str)(sp:Sp):Prop where
 len:∀vs H Q E,sp vs H Q E→JgZ vs.length
 run:∀(A) (ea) (outer) (s) (H) args (us) (vs) (Q) (E),a_ k A→iJ P w K mg base A outer s H→BindsTo s fd args (ps.zip us)→Jc6 vs→sp vs H Q E →
  codeAny (JiM P) (A.mark (Ja ea)) (JeZ f args) (CR CX0 outer P w H s Q E) s
def Fun.okS {P:Program}{w:World}{K:W.Frag}{mg:Str→Option Value}{base:Heap}{x a:Str}{st:Stmt}{f:Addr}{G:FuncData}{N ps:List Str}{k:Nat}{sp:Sp}(F:Fun K x a st f G)(S:Vj N ps st)(h:∀vs H Q E,sp vs H Q E→JgZ vs.length)
  (g:∀cdv A ea outer s H vs Q E,Jb_ k (QO a (ai st) f cdv)→sp vs H Q E →
   ∃t,PSs ((Jka CX0 P w K mg N a st f A s H E).susp ea) (zas st) t∧t { nx:=λ_ H'=>Q .non H',rt:=Q } (zc4 N vs) H):FnS P w K mg base (k+1) f G ps sp:=by
 let⟨oc,od,kV,doc,pm,an,cdv,ct,O,rfl,R,C⟩:=F.ex;refine⟨h,λA ea outer s H L us vs Q E B l hb r i=>?_⟩;have Y:=h _ _ _ _ i;have M:=l.mod.kin.keeps λb o e=>(l.bs b o e).1;have z:=l.mod.nolimit.keeps λb o e=>(l.bs b o e).1;have d:∀y∈ps.zip us,(ai st).names.lookup y.1=some .local∨((ai st).names.lookup y.1=some .cell∧((JnX (Vv 1) (ai st).names).lookup y.1).isSome=true):=λ⟨n,v⟩ T=>by
  rcases S.par n (List.of_mem_zip T).1 with q | q
  ·exact .inl q
  ·exact JaF q (W.cellsFrom_some _ _ _ (.inl q))
 refine codeAny_call_function B.depth (M _ _ R) rfl S.co S.gen rfl (W.codeRec_of M C) (hb _ _ _ _ ?_);refine wpAny_newFunctionEnv_cells S.kind d λenv Z D x=>?_;subst Z;refine⟨z.keeps x.toInCall.keep,codeAny_func ?_⟩;let⟨t,U,X⟩:=g cdv A ea outer s H vs Q E (B.deeper _) i;have I:JnY (Jka CX0 P w K mg N a st f A s H E) _ H D:=uJ S B.hd l Y r x;refine wpAny_mono (U [] D (zc4 N vs) H _ (I.susp ea) X) (λfl s' hs=>?_) λe s' hs=>hs.elim;have j:∀ {c:St} {H':Hp} {v:V} {u:Value},JnY ((Jka CX0 P w K mg N a st f A s H E).susp ea) c H' s'→Jf2 v→Q v H'→L2.CE outer P w H s Q u s' :=
  λ{c H' v u} J p q=>⟨v,H',J.os,J.bare,J.base,J.hok,p,q⟩
 cases fl with
 | ret u =>
  let⟨v,c,H',J,p,q⟩:=hs;exact j J p q
 | next =>
  let⟨c,H',J,q⟩:=hs;exact j (v:=V.non) J rfl q
 | brk =>
  let⟨_,_,_,q⟩:=hs;exact False.elim q
 | cont =>
  let⟨_,_,_,q⟩:=hs;exact False.elim q
def Ex (F:FnS X.prog X.w X.K X.mg X.base k f fd ps sp)(j:a_ k X.A)(D:Gl X x)(z:X.mg x=Ja f)(C:Jfi X.K f)(L:Jm X.K fd ps)
  (M:JgK (X.susp ea) e t)(d:QM (x == ("__debug__":Str)):=by decide)(G:Jfu e=(false,Vg e) :: starEach es X.env:=by rfl)(c:(Jog es).any (·.1)=false:=by rfl) :
  PE (X.susp ea) (JJ x p (Jft e) [] pos) (oU sp [] E t):=by
 intro a s n H Q I h;refine JeP I D z ?_ d;refine W.callWith_K I.ok.mod.kin C (thn (M pos a s n H _ I h) λus g ⟨vs,R,l,r,q⟩=>VI l.kIn) G c;have ok:X.Ok:=⟨I.ok.mod,I.ok.kind,I.ok.glob,I.ok.blt,I.ok.above,I.ok.inj,I.ok.has,I.ok.cab,λ_=>j.hd,I.ok.frames,I.ok.stk,I.ok.exf,I.ok.bs,I.ok.bsz,I.ok.noex,I.ok.exfs,I.ok.funs,I.ok.frf⟩;have J:=l.unsusp ok;have i:=r.append .nil;have B:(us++([]:List Value)).length=ps.length:=by rw[←i.length];exact F.len _ _ _ _ q
 refine wpAny_call (codeAny_mono (F.run X.A ea X.stack g R (JfG us) (us++[]) (vs++[]) Q E j J.env0 (L g us J.kIn B) i q) λr s' b=>?_);cases r with
 | error e=>exact b.elim
 | ok N =>
  cases N with
  | ret u =>
   let⟨v,P,O,o,y⟩:=J.after b;exact⟨v,P,O.susp ea,o,y⟩
  | next=>exact False.elim b
  | brk=>exact False.elim b
  | cont=>exact False.elim b
end L2
namespace K98
open PySem L2
noncomputable def wdS:Wd→Str
 | .long=>"long"
 | .yes=>"yes"
 | .no=>"no"
structure WdI (n)(Rs)(most)(w:Wd):Prop where
 a:Jkb Rs n w
 long:w=.long→most≤2 ^ (n+1)
 yes:w=.yes→∃v,dZ v Rs
 no:w=.no→(∀r∈Rs,2≤r.length)→Jlz (2:Int)
def tV (h:∀r∈Rs,∃p∈r,p∈cS n hs):dZ (hvF n hs) Rs:=λr a=>by let⟨p,c,b⟩:=h r a;exact⟨p,c,tR b⟩
structure FoG (K)(C)(H)(p tl al rl q)(T)(As)(Rs)(ps)(most):Prop where
 f:FoP K C H p tl al rl q T As Rs ps most
 n:Jkj As.length
 r:Rs.length+(JbJ ps).length≤200
inductive oG (K)(C):Sp|m{vs H Q E9} (p tl al rl q) (T) (As) (Rs) (ps) (most):vs=Jdl p q most→FoG K C H p tl al rl q T As Rs ps most→(∀H' w,JiF (WdI As.length (Rs++Jb8 ps) most w→Jon (wdS w)))→oG K C vs H Q E9
def Ey:Vj (VG "_law_most") (VG "_law_most") rn:=fsc
def Ez:Vj (JcC "_law_most") (JcC "_law_most") rz:=fsc
section
variable {P:Program} {w:World} {K:W.Frag} {mg:Str→Option Value} {base:Heap} {aK C CB CM CL CC CE f fF fA fP fK:Addr} {fd dF dA' dP' dK':FuncData}
def EA (F:V4 "_law_asked_word" "_law_asked_word" rn)(TB:Jfl K)(TP:TxP K mg)(N:JjM K CL CL)
  (i:Jo P w K mg (Jda w) 11 "follows" fF dF (Jex "most") (kf P w K C CB CM CL CC)):JeF 12 (VG "_law_most") (oG K C):=by
 refine F.ok Ey (λvs H Q E h=>?_) (λcdv Ar outer s H vs Q E S h=>?_)
 ·let⟨p,o,x,u,q,T',D,Rs,ps,most,rfl,_⟩:=h;rfl
 let⟨p,o,x,u,q,T',D,Rs,ps,most,rfl,G,A⟩:=h;refine JN (aj (qp rfl rfl (λI E1 Eb T=>Qi (aI (r:=jc K) cu (bM (XB bz bz)) (cL Eo rfl TP.int PyProof.Rows.Boot.int (Qc (cZ bZ (aI (r:=gj K) aQ (Jr i.ok S i.m i.kp i.b T 0 (V6 1 2)) af) bz))))) (wF rfl TB.blong (λea=>Qi bz) qo)))
 rfl'
 refine⟨lS2,λl U=>?_⟩;let⟨H1,Z,e,J⟩:=Xj U [.str "no",.str "yes"];rw[Z];have b0:JcD "no" "yes" 0=some (.str "no"):=VW (j:=0);have b1:JcD "no" "yes" 1=some (.str "yes"):=VW (j:=1);have Y:FoP K C H1 p o x u q T' D Rs ps most:=⟨⟨G.f.a.pr.same e,G.f.a.tm,G.f.a.pl,G.f.a.nd,G.f.a.ro,G.f.a.m1,G.f.a.m2⟩,G.f.r,G.f.q.same e,G.f.l,G.f.n⟩;refine⟨_,rfl,_,rfl,_,rfl,p,o,x,u,q,T',D,Rs,ps,most,rfl,Y,λz=>VR (by rw[G.n];decide),λ_ z=>JfO G.r,λ_ _=>⟨λR g H' s'=>Qd CL (λM _=>⟨true,N,b_ (A H' .long (e.trans s') ⟨g,λ_=>R,nofun,nofun⟩)⟩),λB t c hs g d O v hc X=>?_,λB t pl ys L g d O n3 v h3 h4 pg lm us k=>?_⟩⟩
 ·have y:Jli c 0=some (.str "no"):=VW (j:=0);refine⟨t,_,_,_,rfl,rfl,SqT.of v,y,rfl,true,rfl,l,_,_,_,rfl,rfl,Jno _ _ J,b1,?_⟩;exact A B .yes (e.trans d) ⟨g,nofun,λ_=>V8 (tV X),nofun⟩
 ·have y:Jf7 pl 0=some (.str "yes"):=VW (j:=0);refine⟨t,_,_,_,rfl,rfl,SqT.of v,y,rfl,false,rfl,l,_,_,_,rfl,rfl,Jno _ _ J,b0,?_⟩;exact A B .no (e.trans d) ⟨g,nofun,nofun,λ_ h=>by have:=k h;lia⟩
inductive tW (K):Sp|m{vs H Q E9} (t q) (T) (As) (Rs) (ps) (most):vs=Jdl t q most→DuP K H t q T As Rs ps→Jlz 1→most≤2000→(∀H' w,JiF (WdI As.length (Rs++Jb8 ps) most w→Jon (wdS w)))→tW K vs H Q E9
def ym (h:QV 4):(JbJ ps).length≤4:=by have:=jn ps [];rw[List.length_nil]at this;lia
def once_i (h:∀p∈ps,Jha n):∀p∈JbJ ps,Jha n:=λp a=>h p (((iu _ _).mp a).resolve_left λz=>nomatch z)
def EB (F:V4 "_law_due_word" "_law_due_word" rz)(TB:Jfl K)(O:JjM K CL CL)
  (g:Jo P w K mg (Jda w) 10 "answer" fA dA' (Xt "most") (ov P w K C CL CC))(e:Jo P w K mg (Jda w) 5 "_law_problem" fP dP' (Jae "_law_more") (lO K C)):JeF 11 (JcC "_law_most") (tW K):=by
 refine F.ok Ez (λvs H Q E h=>?_) (λcdv Ar outer s H vs Q E J h=>?_)
 ·let⟨t,q,T',A,Rs,ps,most,rfl,_⟩:=h;rfl
 let⟨t,q,T',A,Rs,ps,most,rfl,G,X,U,y⟩:=h;have u:=J.mono (j:=5) (by decide);refine JN (aj (qp rfl rfl (λD E1 Eb M=>Qi (aI (r:=gj K) aQ (Vk g.ok J g.m g.kp g.b M (Jhh (Jr e.ok u e.m e.kp e.b M 0 (Vh 1)) 2)) af)) (wF rfl TB.blong (λea=>Qi bz) qo)))
 rfl'
 have d:=G.d;refine⟨_,rfl,_,rfl,t,q,T',A,Rs,ps,rfl,G.th,d,G.q,G.l,G.i,λH1 p R Z S o n1 I P1=>?_⟩;have ol:=ym G.l;have B:=d.r;refine Jf5 _ p R Z S T' A _ most rfl ⟨P1,d.tm.ok,d.pl,d.nd,rowsF d.ro (by lia) (once_i G.i),X,U⟩ ⟨λT a H' s'=>Qd CL (λN _=>⟨true,O,b_ (y H' .long (o.trans s') ⟨a,λ_=>T,nofun,nofun⟩)⟩),λz t c hs a n I v hc Y=>?_,λz t pl ys L a n I n3 v h3 h4 pg lm us k=>?_⟩
 ·have x:Jf7 c 0=some (.str "yes"):=ay rfl;exact Jhs t _ _ _ rfl (SqT.of v) x (y z .yes (o.trans n) ⟨a,nofun,λ_=>V8 (tV Y),nofun⟩)
 ·have x:Jli pl 0=some (.str "no"):=ay rfl;exact Jhs t _ _ _ rfl (SqT.of v) x (y z .no (o.trans n) ⟨a,nofun,nofun,λ_ h=>by have:=k h;lia⟩)
end
noncomputable def zb0:List Nat:=[0,1,2]
noncomputable def zmK:Nat→Str
 | 0=>"part"
 | 1=>"many"
 | _=>"long"
structure XF (K)(mg:Jdr Str)(cl:Nat→Addr)(CE):Prop where
 isi:QG "isinstance"
 ve:QG "ValueError"
 c0:mg "BadPart"=Ja (cl 0)
 c1:mg "TooMany"=Ja (cl 1)
 c2:mg "TooLong"=Ja (cl 2)
 c3:mg "NoChoice"=Ja (cl 3)
 c4:mg "HasChoice"=Ja (cl 4)
 ce:mg "ChoiceError"=Ja CE
 xc:∀c∈zb0,XcK K (cl c)
 ki:∀c∈zb0,∀d,d<5→Ja2 K (cl c) (cl d) (decide (c=d))
 kv:∀c∈zb0,JaW (Jo1 K (Jkf c))
 ex:∀c∈zb0,JjM K (cl c) CE
section
variable {P:Program} {w:World} {K:W.Frag} {mg:Str→Option Value} {base:Heap} {f:Addr} {fd:FuncData} {cl:Nat→Addr} {CE:Addr}
inductive oH (cl:Nat→Addr):Sp|m{vs H Q E9} (ea) (c):vs=Vz ea→c∈zb0→Jin ea (Jhx ea (cl c)) ((∀H',JiF (Jon (zmK c)))→oH cl vs H Q E9)
def yo:Vj ["_law_e","_law_kinds"] ["_law_e"] rA:=fsc
noncomputable def bls (c:Nat):List Bool:=(List.range 4).map λd=>decide (c=d)
theorem tX:∀bs:List Bool,J7 (bs.map Dt.bl) (bs.map V.bl)
 | []=>by simp only[List.map_nil,ar]
 | b :: bs=>by simp only[List.map_cons,ar];exact VO _ _ (by simp only[Has]) (tX bs)
def yp:∀c∈zb0,za6 ((bls c).map Dt.bl)≤60:=by decide
def EC:∀c∈zb0,((bls c).map Dt.bl).countP (λe=>peq e (.bl true))=1:=by decide
def bls_at:∀c∈zb0,(∃d,((bls c).map Dt.bl)[c]?=some d∧Jh8 d (.bl true))∧(∀m a,m<c→((bls c).map Dt.bl)[m]?=some a→QM (peq a (.bl true)))∧atI [V.str "part",.str "many",.str "long",.str "none"] (c:Int)=some (.str (zmK c)):=by
 intro c b;simp only[zb0,List.mem_cons,List.not_mem_nil,or_false]at b;rcases b with rfl | rfl | rfl
 ·exact⟨Qd (.bl true) (by decide),λm a h=>J2 h _,ay rfl⟩
 ·refine⟨Qd (.bl true) (by decide),λm a h e=>?_,ay rfl⟩
  match m,h with
  | 0,_=>injection e with e;rw[←e];decide
 ·refine⟨Qd (.bl true) (by decide),λm a h e=>?_,ay rfl⟩
  match m,h with
  | 0,_=>injection e with e;rw[←e];decide
  | 1,_=>injection e with e;rw[←e];decide
def ED (F:V4 "_law_kind" "_law_kind" rA)(T:XF K mg cl CE):FnS P w K mg base 1 f fd ["_law_e"] (oH cl):=by
 refine F.okS yo (λvs H Q E h=>?_) (λcdv A N outer s H vs Q E D h=>?_)
 ·let⟨ea,c,rfl,_⟩:=h;rfl
 let⟨ea,c,rfl,b,g,q⟩:=h;have u:=D.units;refine JN (JH (i:=1) yo.nd (bM (aa (JfE lU 0 (JjG (v:=Jkf 0) T.c0 rfl)) (JdX (JfE lU 0 (JjG (v:=Jkf 1) T.c1 rfl)) (JfE lU 0 (JjG (v:=Jkf 2) T.c2 rfl)) (aa (JfE lU 0 (JjG (v:=Jkf 3) T.c3 rfl))
   ac)))) (Jnk (JmZ (Jcw (aF (r:=qr K) Be rfl T.isi PyProof.Rows.Boot.isinstance (JX 0 (gb (v:=.ty "ValueError") rfl T.ve PyProof.Rows.Boot.ValueError rfl)))) (cD (aF (r:=oF K) lU rfl T.isi PyProof.Rows.Boot.isinstance (JX 0 (JjG (v:=Jkf 4) T.c4 rfl)))) (dJ (JiS dQ (Jd PySem.F.slot_list_count PySem.F.type_list_count (Ew u) (pv 1) (Qc cN)) af)))) (Qi (aI (r:=jc K) cu (bM (JdX bz bz (XB bz bz))) (Jd PySem.F.slot_list_index PySem.F.type_list_index (zw u) (pv 1) (Qc cN)))))
 have a:∀ {H':Hp} {d:Nat} {n:VK},Xy ea _→d<5→n (.bl (decide (c=d))) H'→oF K _ H' n:=λ{H' d n} h G q=>⟨ea,cl c,cl d,_,rfl,h,T.xc c b,T.ki c b d G,q⟩;refine QI (JiB g (QI (JiB g (QI (JiB g (QI (JiB g ⟨lS4,λe J=>?_⟩)))))));let⟨M,l,p,j⟩:=Xj J ((bls c).map V.bl);rw[show Jju e [.bl (decide (c=0)),.bl (decide (c=1)),.bl (decide (c=2)),.bl (decide (c=3))]=M from l];have t:=p _ _ g;have o:∀ {H':Hp},Has K H' (.bl true) (.bl true):=by simp only[Has,implies_true]
 have L:decide (c=4)=false:=by
  have:c<4:=by simp only[zb0,List.mem_cons,List.not_mem_nil,or_false]at b;lia
  exact dFq (by lia)
 refine Jhr _ rfl ea (cl c) "ValueError" t (T.kv c b) true rfl (bq (QI (JiB t (QI ?_))));rw[L];refine bq ⟨.ref e,rfl,Jez j,e,_,(bls c).map Dt.bl,.bl true,.bl true,rfl,rfl,SqL.of j,tX _,o,yp c b,?_⟩;rw[EC c b];let⟨C,B,z⟩:=bls_at c b;refine JkN false (bq ⟨lS4,λx I=>?_⟩);let⟨O,l,k,y⟩:=Xj I [.str "part",.str "many",.str "long",.str "none"];rw[l];exact⟨.ref e,rfl,Jez (k _ _ j),e,_,(bls c).map Dt.bl,.bl true,.bl true,c,rfl,rfl,k _ _ j,tX _,o,yp c b,C,B,x,_,_,_,rfl,rfl,SqL.of y,z,q _ (p.trans k)⟩
end
section
variable {P:Program} {w:World} {K:W.Frag} {mg:Str→Option Value} {base:Heap} {C CC f fK fF:Addr} {fd dK' dF:FuncData} {cl:Nat→Addr} {CE:Addr}
structure LfQ (H)(As:List At)(Rs:Vp Int)(ps:List Int)(most)(Q:VK):Prop where
 bad:Vq (Jbi As.length)→∀H',JiF (Jon "part")
 many:Jkj As.length→200<Rs.length+(JbJ ps).length→∀H',JiF (Jon "many")
 ok:Jkj As.length→Rs.length+(JbJ ps).length≤200→∀H' w,JiF (WdI As.length (Rs++Jb8 ps) most w→Jon (if w=.long then "long" else ""))
inductive lV (K)(C):Sp|m{vs H Q E9} (p tl al rl q) (T) (As) (Rs) (ps) (most):vs=Jdl p q most→FoP K C H p tl al rl q T As Rs ps most→LfQ H As Rs ps most Q→lV K C vs H Q E9
def yq:Vj (Jdo "_law_parts_here" "_law_most" "_law_e") (VG "_law_most") rB:=fsc
def EE (F:V4 "_law_follows" "_law_follows" rB)(X:XF K mg cl CE)(FK:FnS P w K mg base 1 fK dK' ["_law_e"] (oH cl))(R:mg "_law_kind"=Ja fK)(S:Joo fK)(bK:Jnw dK' "_law_e")
  (o:Jo P w K mg (Jda w) 11 "follows" fF dF (Jex "most") (kf P w K C (cl 0) (cl 1) (cl 2) CC)):JeF 12 (VG "_law_most") (lV K C):=by
 refine F.ok yq (λvs H Q E h=>?_) (λcdv Ar outer s H vs Q E I h=>?_)
 ·let⟨p,z,J,A,q,T',M,Rs,ps,most,rfl⟩:=h;rfl
 let⟨p,z,J,A,q,T',M,Rs,ps,most,rfl,G,L⟩:=h;have v:=I.mono (j:=1) (by decide);refine JN (Jdd (qp rfl rfl (λB E1 Eb U=>JaD (Jr o.ok I o.m o.kp o.b U 0 (V6 1 2))) (ph_as (i:=3) rfl X.ce yq.nd rfl rfl rfl (λea=>Qi (Ex (E:=E0) FK v rfl R S bK (Vh 3))) qo)) bz)
 rfl'
 have u:∀ {H':Hp} {c:Nat} {a:St} {D:iG},c∈zb0→Xg H→a.length=4→(∀d,Jna d→D.rt _ d)→wG K CE 3 4 (tRet (oU (oH cl) [] E0 (cm (ia 3) de))) (λ_=>uh) _ D a H':=λ{H' c a D} y s' k q=>⟨true,X.ex c y,b_ λea x=>by
  have T:(a.set 3 (some (V.ref ea)))[3]?=some (Ja ea):=by rw[List.getElem?_set_self (by lia)]
  exact⟨_,T,ea,c,rfl,y,ao,λd e=>q d (s'.trans ((Jdg x).trans e))⟩⟩
 refine⟨_,rfl,_,rfl,_,rfl,p,z,J,A,q,T',M,Rs,ps,most,rfl,G,λhb H' s'=>Qd (cl 0) (λa k=>u (by decide) s' k λd e=>L.bad hb d e),λl Y H' s'=>Qd (cl 1) (λa k=>u (by decide) s' k λd e=>L.many l Y d e),λl g=>⟨λO n H' s'=>Qd (cl 2) (λa k=>u (by decide) s' k λd e=>L.ok l g d .long e ⟨n,λ_=>O,nofun,nofun⟩),λd t c hs n e N h2 y Z=>?_,λd t pl ys LL' n e N n3 h2 h3 h4 pg lm us r=>?_⟩⟩
 ·exact L.ok l g d .yes e ⟨n,nofun,λ_=>V8 (tV Z),nofun⟩
 ·exact L.ok l g d .no e ⟨n,nofun,nofun,λ_ h=>by have:=r h;lia⟩
end
def gM:fz (Jda w) X E0:=λ_ _ _ _ _ _ _ h=>by let⟨_,_,_,_,_,_,_,_,_,_,_,_,_,h⟩:=h;exact h.elim
structure Fd3 (P)(w)(K)(CC)(H0 H:Hp)(As)(Rs)(f x):Prop where
 fd:jD P w K CC H As Rs f
 at_:(Ji1 f "no" x∧∃dx fs,Xh x (.ins CC dx fs))∨(Ji1 f "yes" x∧Qu (H0 x)∧∃(ys:List V) (L:LL),XD x ys∧J7 (L.map λx=>lnD x.1 x.2) ys)
def Kp (K:W.Frag)(c:Addr)(H:Hp)(f x k:Addr):Prop:=(Ji1 f "no" x∧k=x∧∃b a,Xh x (.ins c b a))∨(Ji1 f "yes" x∧∃(ys:List V) (L:LL),XD x ys∧J7 (L.map λx=>lnD x.1 x.2) ys∧XD k ys)
def oJ (L:LL):JdT (L.map λx=>lnD x.1 x.2):=cq (code:=λx:List Int × List Int=>lnD x.1 x.2) (λx=>nX _ _) L
def Kp.fr (h:Kp K CC H f x k)(a:Job H z)(hz:XD z zs)(e:x≠z)(g:k≠z):Kp K CC H' f x k:=by
 have b:=a.keepT hz;rcases h with ⟨d,rfl,n,l,c⟩ | ⟨d,ys,L,c,j,i⟩
 ·exact .inl ⟨b.sq d,rfl,n,l,a _ _ c e⟩
 ·exact Jfc (b.sq d) ys L (a _ _ c e) (j.keep b (oJ L)) (a _ _ i g)
def Kp.same (h:Kp K CC H f x k)(s:Xg H):Kp K CC H' f x k:=by
 rcases h with ⟨b,rfl,g,e,a⟩ | ⟨b,ys,L,a,d,c⟩
 ·exact .inl ⟨s.tup b,rfl,g,e,s _ _ a⟩
 ·exact Jfc (s.tup b) ys L (s _ _ a) (d.keep s.kt (oJ L)) (s _ _ c)
def Kp.at1 (h:Kp K CC H f x k):∃w,SqT K H f (VV w x):=by
 rcases h with ⟨a,_⟩ | ⟨a,_⟩
 ·exact V8 a
 ·exact V8 a
def Kp.eq (h:Kp K CC H f x k)(c:lP K CC)(q:Jev H):tU (rEqD K) (lQ K true) (.ref x) (.ref k) H Q:=by
 rcases h with ⟨e,rfl,i,g,a⟩ | ⟨e,ys,L,a,b,d⟩
 ·exact .inr (Jhs _ CC i g rfl a c q)
 ·refine .inl ⟨_,_,QP a b,QP d b,?_,?_⟩
  ·simp only[dep];have:=j_ (code:=λx:List Int × List Int=>lnD x.1 x.2) (n:=2) (λx=>by simp only[lnD,dep,za6,hO];decide) L;lia
  ·rw[gX];exact q
def Kp.ne (h:Kp K CC H f x k)(c:lP K CC)(q:JkO H):tU (rNeD K) (lQ K false) (.ref x) (.ref k) H Q:=by
 rcases h with ⟨e,rfl,i,g,a⟩ | ⟨e,ys,L,a,b,d⟩
 ·exact .inr (Jhs _ CC i g rfl a c q)
 ·refine .inl ⟨_,_,QP a b,QP d b,?_,?_⟩
  ·simp only[dep];have:=j_ (code:=λx:List Int × List Int=>lnD x.1 x.2) (n:=2) (λx=>by simp only[lnD,dep,za6,hO];decide) L;lia
  ·rw[gX];exact q
structure PlF (K)(C)(H0 H)(a t q p tl al rl)(ns:List Int)(T)(As)(Rs)(ps):Prop where
 d:DuP K H0 t q T As Rs ps
 sc:Jmn H0 a
 l:JdP 63
 n0:Qu (H0 rl)
 r7:JhV 50
 s:ap H0 H
 pr:Jkn C
def PlF.same (h:PlF K C H0 H a t q p tl al rl ns T As Rs ps)(s:Xg H):PlF K C H0 H' a t q p tl al rl ns T As Rs ps:=⟨h.d,h.sc,h.l,h.n0,h.r7,h.s.trans s,h.pr.same s⟩
def no_any {n:Nat}{ps:List Int}(h:∀p∈ps,Jha n):Jkj n:=by rw[List.any_eq_false];intro p a z;have:=h p a;unfold zaO at z;simp only[Bool.or_eq_true,decide_eq_true_eq]at z;lia
def num_of {n:Nat}{ps:List Int}(b:n≤5)(h:∀p∈ps,Jha n):∀p∈ps,hR p:=λp a=>by have:=h p a;exact gJ (by lia) (by lia)
section
variable {P:Program} {w:World} {K:W.Frag} {mg:Str→Option Value} {base:Heap} {aK C CB CM CL CC:Addr}
def foG {H:Hp}{p b e c q:Addr}{T:List Tm}{a:List At}{Rs:List (List Int)}{ps:List Int}{most:Int}(d:ThD T a Rs)(f:JhQ C H b e c T a)(j:JnL H q)(l:QV 4)(i:∀p∈ps,Jha a.length)(h:Jlz 1)(g:most≤2000):FoG K C H p b e c q T a Rs ps most:=by have r:=d.r;have k:=d.a5;have n:=ym l;exact Jhu (Ji9 ⟨f,d.tm.ok,d.pl,d.nd,d.ro,h,g⟩ (by lia) j (num_of k i)) (no_any i)
def oK (d:ThD T As Rs)(u:Jkn C)(A:JnL H q)(l:QV 4)(i:∀p∈ps,Jd7 (p≠0)){Q:VK}
  (k:∀H' f x,Jga H f (Fd3 P w K CC H H' As (Rs++Jb8 ps) f x) f):kf P w K C CB CM CL CC (Jdl p q 2000) H Q E0:=by
 have G:=foG d u A l i (most:=2000) (by decide) (by decide);have R:=d.a5;refine⟨p,tl,al,rl,q,T,As,Rs,ps,2000,rfl,G.f,λz=>VR (by rw[G.n];decide),λ_ z=>JfO G.r,λ_ _=>⟨λN _=>?_,λg t c hs I b e a h B=>?_,λg t pl ys L I b e y a o j v O us s=>?_⟩⟩
 ·have:(2:Int) ^ (As.length+1)≤2 ^ 6:=by exact_mod_cast Nat.pow_le_pow_right (by decide) (by lia)
  have D:(2:Int) ^ 6=64:=by decide
  lia
 ·let⟨E,M,J,kvs,F,_⟩:=id h.ex;exact k g t c b e ⟨.no (SqT.of a) h B,.inl ⟨SqT.of a,E,_,F⟩⟩
 ·exact k g t pl b e ⟨.yes (SqT.of a) (SqL.of o) j v us,Jfc (SqT.of a) y ys L o j⟩
def tY {H:Hp}{a b:Addr}{xs ys:List V}{Rs:List (List Int)}{Q:VK}(f:Je7 a)(e:JkQ dR)(d:XD b ys)(c:Ja_ dR ys)(q:JkO H):rNeD K (.ref a) (.ref b) H Q:=by
 refine⟨_,_,QP f e,QP d c,?_,?_⟩
 ·simp only[dep];have:=j_ (code:=dR) (λx=>by rw[dep_dR];exact nRq _) Rs;lia
 ·rw[gX];exact q
end
section
variable {P:Program} {w:World} {K:W.Frag} {mg:Str→Option Value} {base:Heap} {aK C CB CM CL CC f fC fF fR fA fD fW:Addr} {dC dF dR' dA' dD dW:FuncData} {tk:Tok}
abbrev nmP:List Str:=["_law_script","_law_things_here","_law_parts_here","_law_problem_here","_law_handed","_law_first","_law_kept","_law_second","_law_few","_law_more"]
def f_:Vj nmP ["_law_script"] fX:=fsc
structure PlG (P)(w)(K)(mg)(base)(C CB CM CL CC fC fF fR fA fD fW)(dC dF dR' dA' dD dW)(tk):Prop where
 c:Ji5 fC dC (Ja5 "_law_k") (iD K)
 f:Jo P w K mg (Jda w) 11 "follows" fF dF (Jex "most") (kf P w K C CB CM CL CC)
 fb:aw K dF (Jex "most") [JdY tk]
 r:Jo P w K mg (Jda w) 7 "_law_right" fR dR' (Jfz "_law_found") (tT P w K CC)
 a:JgD 12 "_law_asked_word" fA dA' (VG "_law_most") (oG K C)
 d:JgD 11 "_law_due_word" fD dD (JcC "_law_most") (tW K)
 mW:Jnm "add_row" fW
 w:Jmv P w K w 2 fW dW "parts" (lj K C CM)
 bW:Jok dW
 ob:lP K CC
def EF (T:Jco K C CB)(G:PlG P w K mg base C CB CM CL CC fC fF fR fA fD fW dC dF dR' dA' dD dW tk){cdv:Value}{Ar:Around}{outer:List Env}{s:Shared}{H00:Hp}{E:XK}(L:JbC 12 (JoZ fX f)) :
  ∃z,PSs (Jka CX0 P w K mg nmP "_law_plain" fX f Ar s H00 E).nox ((zas fX).drop 13) z ∧
   ∀D H0 H a t q p R al N O x k ns T' I Rs ps v4 v7,PlF K C H0 H a t q p R al N ns T' I Rs ps→Kp K CC H O x k→x≠N→k≠N→(∀H',Jjh H') →
    z D [Ja a,Ja t,Ja q,Ja p,v4,Ja O,Ja k,v7,none,none] H:=by
 have hr1:=Jgv (j:=1);have hr2:=Jgv (j:=2);have Z:=Jgv (j:=7);have u:=Jgv (j:=11);have Y:=gH L;have hv:bc [V.int 2000] [JdY tk]:=Jdx (Vf _);refine JN (ae (be (JmZ (Jk3 (yi (jf Y) (op_neI Y)) (JC 5) 6) (Jcw (Vk G.r.ok Z G.r.m G.r.kp G.r.b gM (aa (au G.f.ok u rfl G.f.m G.f.kp G.fb hv gM (V6 3 2)) (V6 1 2)))) (dJ (JiS (jf Y) (Js 3) (JC 1))))
   cb
   aU) (JH (i:=8) f_.nd (Jke eo (JiW (V2 fx (Jc4 G.c.ok hr1 G.c.m G.c.kp G.c.b 0 af)))) (be (aA dQ (Q6 G.a.ok L G.a.m G.a.kp G.a.b 3 (V6 2 8)) (Q6 G.d.ok u G.d.m G.d.kp G.d.b 1 (V6 2 8)))
   cb
   aU) (Xc (be (aA dQ (Q6 G.a.ok L G.a.m G.a.kp G.a.b 3 (JX 2 af)) (Q6 G.d.ok u G.d.m G.d.kp G.d.b 1 (JX 2 af)))
   cb
   aU) (bD (Jbw 3 G.mW G.w hr2 G.bW gM (Qc (bQ (Qc (Jke gh (Jke gU (JdJ cw 8)))))))) (Jdd (Qn (i:=9) f_.nd (bQ (Jj2 (JC 1) (JC 1) (aX iK (JC 1) (Jle (bQ (Qc (Jke gh (Jke gU (JdJ cw 8)))))))))) (JkE (Vk G.r.ok Z G.r.m G.r.kp G.r.b gM (aa (au G.f.ok u rfl G.f.m G.f.kp G.fb hv gM (V6 3 2)) (V6 9 2))) (cZ (yi (pD Y) (op_eqI Y)) (JC 5) (pv 6) rfl))))))
 rfl'
 rfl'
 rintro D H0 H a t q p R al N O x k ns T' I Rs ps v4 v7 F kp nx nk Q0;have d:=F.d.d;have W:=F.d.l;have B:=F.d.i;let⟨w0,hfi⟩:=kp.at1;have a1:∀ {w:Str},Q8 w x 1=some (.ref x):=λ{w}=>VW (j:=1);refine Jf5 _ O _ _ _ rfl rfl hfi a1 _ rfl (kp.ne G.ob (JhB ?_));refine Jos (oK d F.pr (.inl (F.s.seq F.d.q)) W B λH1 f2 x2 s1 n1 fd1=>?_);have F1:=F.same s1;have D1:=F.d.same F1.s;refine⟨_,rfl,_,rfl,f2,t,q,T',I,Rs,ps,rfl,D1,fd1.fd,λH2 s2=>JhB ?_⟩;have Q:=F1.same s2;have D2:=F.d.same Q.s;let⟨v,A,J,xs,ys,zs,h1,h2,h3,h4,h5,h6,h7⟩:=D2.th.ex;have b0:Jgu v A J 0=some (.ref v):=VW (j:=0);have b1:Jgu v A J 1=some (.ref A):=VW (j:=1);have b2:Jgu v A J 2=some (.ref J):=VW (j:=2);let⟨⟨dx2,ho2⟩,_,_,⟨us2,hu2,hU2⟩,_⟩:=id Q.pr;refine⟨_,rfl,p,C,dx2,_,_,rfl,ho2,T.cl,T.nR,gD _ _ _,_,rfl,t,_,_,_,rfl,rfl,h1,b2,tY hu2 hU2 h6 h7 (JhB ?_)⟩;refine⟨_,rfl,a,ns,_,rfl,Q.s.seq F.sc,F.l,by decide,λc14=>?_⟩;have b5:=eF (c14 / 10) (show(0:Int)<5 by decide);refine⟨_,_,rfl,rfl,JL (by decide),_,_,rfl,rfl,(by show(0:Int)<5;decide),_,_,rfl,rfl,?_⟩;generalize hfew:(1+c14 / 10 % 5:Int)=h;have f1:1≤h∧h≤5:=by lia
 refine⟨_,rfl,_,rfl,_,rfl,p,R,al,N,q,T',I,Rs,ps,h,rfl,foG d Q.pr (.inl (Q.s.seq F.d.q)) W B f1.1 (by lia),λH3 w1 s3 i3=>?_⟩;have F3:=Q.same s3;refine⟨_,rfl,_,rfl,_,rfl,t,q,T',I,Rs,ps,h,rfl,F.d.same F3.s,f1.1,by lia,λH4 w2 s4 i4=>?_⟩;cases i3.a.det i4.a;have F4:=F3.same s4;refine JkN _ (VY (λc=>JkH (by rw[dTq rfl];decide)));refine⟨_,rfl,_,rfl,p,R,al,N,q,T',I,Rs,ps,2000,rfl,foG d F4.pr (.inl (F4.s.seq F.d.q)) W B (by decide) (by decide),λH5 w3 s5 i5=>?_⟩;have F5:=F4.same s5;refine⟨_,rfl,_,rfl,t,q,T',I,Rs,ps,2000,rfl,F.d.same F5.s,by decide,by decide,λH6 w4 s6 i6=>?_⟩;cases i5.a.det i6.a;have F6:=F5.same s6;refine JkN _ (VY (λc=>JkH (by rw[dTq rfl];decide)));have bf:=eF h (show(0:Int)<2 by decide);have pt:∀y:Int,y=1 - 2 * (h % 2)→y=1∨y=-1:=λy e=>by lia
 generalize hy:(1 - 2 * (h % 2):Int)=y at pt;have y1:=pt y rfl;have a51:=d.a1;have a5:=d.a5;have r100:=d.r;let⟨⟨dx6,ho6⟩,_,_,⟨us6,hu6,hU6⟩,_⟩:=id F6.pr;have kp6:Kp K CC H6 O x k:=kp.same ((((((s1.trans s2).trans s3).trans s4).trans s5).trans s6));refine⟨_,rfl,p,dx6,_,rfl,ho6,QK _ _ _,_,rfl,_,_,rfl,rfl,(by show(0:Int)<2;decide),_,_,rfl,rfl,JeE (by decide),_,_,rfl,rfl,lS1,λtu htu=>?_⟩;rw[hy];let⟨H7,M,s7,n7⟩:=Xv htu (Ji6 y);rw[M];have F7:=F6.same s7;have hu7:=s7 _ _ hu6;refine⟨p,R,al,N,tu,T',I,Rs,[y],rfl,F7.pr,JbT n7,(by show 1≤20;decide),by lia,λn hn=>by rw[mS hn];lia,by lia,λe=>JfO e,λ_ H8 P8 f8=>?_⟩;have s08:ap H0 H8:=λb o e=>f8 b o (F7.s b o e) λz=>by rw[z,F.n0]at e;cases e
 have D8:=F.d.same s08;have X:=(kp6.same s7).fr f8 hu7 nx nk;let⟨w8,hfi8⟩:=X.at1;have on:JbJ [y]=[y]:=rfl;rw[on]at P8;let⟨v,A,J,xs,ys,zs,h1,h2,h3,h4,h5,h6,h7⟩:=D8.th.ex;have c0:Jgu v A J 0=some (.ref v):=VW (j:=0);have c1:Jgu v A J 1=some (.ref A):=VW (j:=1);have c2:Jgu v A J 2=some (.ref J):=VW (j:=2);have zl:Jg4 Rs.length:=by rw[←h7.length,lM]
 refine⟨_,rfl,t,_,_,_,rfl,rfl,h1,c0,_,rfl,t,_,_,_,rfl,rfl,h1,c1,_,rfl,t,_,_,_,rfl,rfl,h1,c2,_,rfl,_,_,rfl,rfl,(by show(0:Int)<2;decide),_,_,rfl,rfl,JeE (by decide),_,_,rfl,rfl,lS1,λtv htv=>?_⟩;rw[hy];let⟨H9,M,s9,n9⟩:=Xv htv (Ji6 y);rw[M];refine⟨lS1,λlv hlv=>?_⟩;let⟨Ha,M,sa,na⟩:=Xj hlv (Vz tv);rw[M];have U:=s9.trans sa;refine Jjb J lv _ _ rfl (U _ _ h6) na (sz _ (by show Q3 (zs.length+1);lia)) (λrv hrv=>?_);let⟨Hb,M,sb,nb⟩:=Xj hrv (zs++Vz tv);rw[M];refine⟨lS3,λmv hmv=>?_⟩;let⟨Hc,M,sc,nc⟩:=Xv hmv (JgX v A rv);rw[M];have sab:=sa.trans sb;have g:=((U.trans sb).trans sc);have thm:iE K Hc mv T' I (Rs++[[y]]):=⟨v,A,rv,xs,ys,zs++Vz tv,SqT.of nc,g _ _ h2,h3.keep g.kt (eE _),g _ _ h4,h5.keep g.kt (JkD _),sc _ _ nb,by rw[mAq];exact(h7.keep g.kt (dw _)).append (ar.one (JdI ((sab.trans sc) _ _ n9) [y]))⟩
 have dm:ThD T' I (Rs++[[y]]):=⟨d.tm,d.pl,d.nd,d.a1,d.a5,d.nm,⟨λr L=>by
  rcases mPq L with z | z
  ·exact d.ro.row r z
  ·rw[mS z];exact⟨by simp,λp hp=>by rw[mS hp];lia⟩,d.ro.n40,by rw[lAq];show Q3 (_+1);lia⟩,by rw[lAq];show _+1≤100;have:=F.r7;lia⟩
 refine Jos (oK dm (P8.same g) (.inl (g.seq D8.q)) W B λHd f3 x3 sd nd fd3=>?_);refine⟨_,rfl,_,rfl,f3,mv,q,T',I,_,ps,rfl,⟨thm.same sd,dm,(g.trans sd).seq D8.q,W,B⟩,fd3.fd,λHe se=>QI (b_ ?_)⟩;have S:=(g.trans sd).trans se;exact Jf5 _ O _ _ _ rfl rfl (S.tup hfi8) a1 _ rfl ((X.same S).eq G.ob (Q0 He))
end
def jF (I:St→Hp→Prop)(h:∀n:St→Hp→Prop,(∀b H',I b H'→n b H')→t { D with nx:=n } σ H)(a:∀b H',I b H'→u D b H'):tSeq t u D σ H:=h (u D) a
def PlF.fr (h:PlF K C H0 H a t q p tl al rl ns T As Rs ps)(f:Job H z)(hz:XD z zs)(j:Qu (H0 z))(i:z≠tl)(g:z≠al)(c:z≠rl):PlF K C H0 H' a t q p tl al rl ns T As Rs ps:=⟨h.d,h.sc,h.l,h.n0,h.r7,λb o e=>f b o (h.s b o e) (bV e j),h.pr.keep f hz i g c⟩
def Fr1.upd:Fr1 H (XE z o) z:=λb _ e n=>by rw[aq n];exact e
def Kp.x {K:W.Frag}{a:Addr}{H:Hp}{f x k:Addr}(h:Kp K a H f x k):∃o,H x=some o:=by
 rcases h with ⟨_,_,c,b,h⟩ | ⟨_,ys,L,h,_⟩
 ·exact V8 h
 ·exact V8 h
def Kp.k {K:W.Frag}{a:Addr}{H:Hp}{f x k:Addr}(h:Kp K a H f x k):∃o,H k=some o:=by
 rcases h with ⟨_,rfl,c,b,h⟩ | ⟨_,ys,L,_,_,h⟩
 ·exact V8 h
 ·exact V8 h
def jD.same (h:jD P w K CC H As Rs f)(s:Xg H):jD P w K CC H' As Rs f:=by
 cases h with
 | no c b a=>exact .no (s.tup c) (b.same s) a
 | yes c b a e d=>exact .yes (s.tup c) (s.seq b) (a.keep s.kt (oJ _)) e d
def Fd3.kp (h:Fd3 P w K CC H0 H As Rs f x):Kp K CC H f x x:=by
 rcases h.at_ with ⟨b,a⟩ | ⟨b,_,ys,L,a,c⟩
 ·exact .inl (Qd b a)
 ·exact Jfc b ys L a c a
def Fd3.ne (h:Fd3 P w K CC H0 H As Rs f x)(s:ap H0 H)(hz:Qb (H0 z) zs):x≠z:=by
 rcases h.at_ with ⟨b,d,c,a⟩ | ⟨b,a,_⟩
 ·exact eM a (s _ _ hz) λe=>by cases e
 ·exact(bV hz a).symm
section
variable {P:Program} {w:World} {K:W.Frag} {mg:Str→Option Value} {base:Heap} {aK C CB CM CL CC f fC fF fR fA fD fW:Addr} {dC dF dR' dA' dD dW:FuncData} {tk:Tok}
def EG (T:Jco K C CB)(G:PlG P w K mg base C CB CM CL CC fC fF fR fA fD fW dC dF dR' dA' dD dW tk){cdv:Value}{Ar:Around}{outer:List Env}{s:Shared}{H00:Hp}{E:XK}(R:JbC 12 (JoZ fX f)) :
  ∃z,PSs (Jka CX0 P w K mg nmP "_law_plain" fX f Ar s H00 E).nox ((zas fX).drop 10) z ∧
   ∀D H0 H a t q p v I e o x k ns T' u Rs ps W,PlF K C H0 H a t q p v I e ns T' u Rs ps→Kp K CC H o x k→x≠e→k≠e→(∀H',Jjh H') →
    z D [Ja a,Ja t,Ja q,Ja p,W,Ja o,Ja k,none,none,none] H:=by
 have Q:=JkK (j:=7);have n:=JkK (j:=11);let⟨_,M,h⟩:=EF T G (cdv:=cdv) (outer:=outer) (H00:=H00) R;refine JN (JmP (i:=7) f_.nd (Jr G.f.ok n G.f.m G.f.kp G.f.b gM 3 (XB (Jo3 gk 2) af)) (Xc (be (Jcw (Jr G.r.ok Q G.r.m G.r.kp G.r.b gM 7 (V6 1 2)))
   cb
   aU) (be (Jmt 7) (JaD (uT PySem.F.plainAttrs_list PySem.F.slot_list_clear PySem.F.type_list_clear zh (JC 7)))
   aU) M))
 rfl'
 rfl'
 rintro D H0 H a t q p v I e o x k ns T' u Rs ps W F kp Z nk Q0;refine JnD _ _ q _ rfl (Qr (F.s.seq F.d.q) (λtu O=>?_));let⟨H1,eN,Y,n1⟩:=Xv O (ps.map V.int);rw[eN];have J:=F.same Y;have k1:=kp.same Y;let⟨ox,N⟩:=k1.x;let⟨ok,S⟩:=k1.k;refine oK F.d.d J.pr (JbT n1) F.d.l F.d.i λH2 B g X n2 fd=>?_;have F2:=J.same X;refine⟨_,rfl,_,rfl,_,rfl,B,t,q,T',u,Rs,ps,rfl,F.d.same F2.s,fd.fd,λH3 c=>JhB ?_⟩;have F3:=F2.same c;have k3:=(k1.same X).same c;rcases fd.at_ with ⟨A,_⟩ | ⟨A,h0,ys,L,h2,_⟩
 ·have U:Jli g 0=some _:=ay rfl;exact Jjy _ B _ _ _ (c.tup A) U rfl _ rfl (bq (h D H0 H3 a t q p v I e o x k ns T' u Rs ps _ _ F3 k3 Z nk Q0))
 ·have U:Jf7 g 0=some _:=ay rfl;have a1:Jf7 g 1=some _:=ay rfl;have y:=c _ _ h2;let⟨_,⟨_,e1,_⟩,⟨_,e2,_⟩,⟨_,e3,_⟩⟩:=id J.pr;refine Jjy _ B _ _ _ (c.tup A) U rfl _ rfl (b_ ⟨_,rfl,B,_,_,_,rfl,rfl,c.tup A,a1,Jez y,g,_,rfl,rfl,y,?_⟩);exact h D H0 _ a t q p v I e o x k ns T' u Rs ps _ _ (F3.fr Fr1.upd y (J.s.free h0) (bV e1 h0).symm (bV e2 h0).symm (bV e3 h0).symm) (k3.fr Fr1.upd y (bV N h0) (bV S h0)) Z nk Q0
def HdK (H0 H:Hp)(a c b h:Addr)(ps:List Int):Prop:=(XD h (ps.map V.int)∧Qu (H0 h)∧h≠a∧h≠c∧h≠b)∨JbP h (ps.map V.int)
def plain5 (T:Jco K C CB)(TP:TxP K mg)(tl':Jop K "tuple" "list")(G:PlG P w K mg base C CB CM CL CC fC fF fR fA fD fW dC dF dR' dA' dD dW tk){cdv:Value}{Ar:Around}{outer:List Env}{s:Shared}{H00:Hp}{E:XK}(Y:JbC 12 (JoZ fX f)) :
  ∃z,PSs (Jka CX0 P w K mg nmP "_law_plain" fX f Ar s H00 E).nox ((zas fX).drop 5) z ∧
   ∀D H0 H a t q p y A o h ns T' B Rs ps,PlF K C H0 H a t q p y A o ns T' B Rs ps→HdK H0 H y A o h ps→(∀H',Jjh H') →
    z D [Ja a,Ja t,Ja q,Ja p,Ja h,none,none,none,none,none] H:=by
 have hr7:=Jck (j:=7);have O:=Jck (j:=11);have hu:=gH Y;have hv:bc [V.int 2000] [JdY tk]:=Jdx (Vf _);let⟨_,z10,M⟩:=EG T G (cdv:=cdv) (outer:=outer) (H00:=H00) Y;refine JN (JH (i:=5) f_.nd (au G.f.ok O rfl G.f.m G.f.kp G.fb hv gM (V6 3 4)) (be (JmZ (Jk3 (jf hu) (Jac kC rfl TP.list (Vh 4)) 2) (JiS (jf hu) (Js 3) (JC 1)) (dJ (Jcw (Jr G.r.ok hr7 G.r.m G.r.kp G.r.b gM 5 (V6 1 2)))))
   cb
   aU) (Xc (be (cD (JfE mj 4 (Jjc (v:=.ty "list") rfl TP.list rfl))) (Jmk 4 (Qc af))
   aU) (Qn (i:=6) f_.nd (JC 5)) (ae (be (Jmt 5) (Jnu (i:=6) f_.nd (Jac kC rfl TP.list (JiE 5)))
   aU) z10)))
 rfl'
 rfl'
 rintro D H0 H a t q p y A o h ns T' B Rs ps F hd Q0;have hi:JnL H h:=hd.elim (λz=>Vd z.1) λz=>JbT z;refine Jos (oK F.d.d F.pr hi F.d.l F.d.i λH1 g x1 I n1 Z=>?_);have F1:=F.same I;let⟨_,_,_,⟨_,e3,_⟩,_⟩:=id F.pr;have nx:=Z.ne I e3;refine⟨_,rfl,h,_,rfl,hi.same I,λl hl=>?_⟩;let⟨H2,eN,X,n2⟩:=Xj hl (ps.map V.int);rw[eN];have F2:=F1.same X;have D2:=F.d.same F2.s;have J:=I.trans X;have kp2:=Z.kp.same X;refine⟨_,rfl,_,_,JnB n2 ps,Has.lst' D2.q (ar.ints ps),by simp only[dep,hO];decide,?_⟩;rw[gX];refine JhB ?_;let⟨tt,ta,tr,xs,ys,zs,h1,h2,h3,h4,h5,h6,h7⟩:=D2.th.ex;have b2:Jgu tt ta tr 2=some (.ref tr):=VW (j:=2);let⟨⟨dx2,ho2⟩,_,_,⟨us2,hu2,hU2⟩,_⟩:=id F2.pr;refine⟨_,rfl,p,C,dx2,_,_,rfl,ho2,T.cl,T.nR,gD _ _ _,_,rfl,t,_,_,_,rfl,rfl,h1,b2,tY hu2 hU2 h6 h7 (JhB ?_)⟩;refine⟨_,rfl,_,rfl,_,rfl,g,t,q,T',B,Rs,ps,rfl,D2,Z.fd.same X,λH3 U=>JhB ?_⟩;have F3:=F2.same U;have k3:=kp2.same U;dsimp only [oQ];refine jF (λσ H'=>∃x,An4 (σ=[Ja a,Ja t,Ja q,Ja p,Ja h,Ja g,none,none,none,none]) (PlF K C H0 H' a t q p y A o ns T' B Rs ps) (Kp K CC H' g x x) (x≠o)) (λn hn=>?_) ?_
 ·have N:∀zs,XD h zs→x1≠h:=λzs e=>Z.ne I e;rcases hd with ⟨R,g2,g3,g4,g5⟩ | R
  ·have c:=U _ _ (J _ _ R);refine Jo0 _ _ _ true (.lst c) rfl true (b_ ⟨_,rfl,Jez c,h,_,_,rfl,rfl,c,cR (by have:=F.d.l;rw[lM];lia),hn _ _ ⟨x1,rfl,F3.fr Fr1.upd c g2 g3 g4 g5,k3.fr Fr1.upd c (N _ R) (N _ R),nx⟩⟩)
  ·exact Jo0 _ _ _ false (.tup (U _ _ (J _ _ R))) tl' false (bq (hn _ _ ⟨x1,rfl,F3,k3,nx⟩))
 rintro σ H4 ⟨x,rfl,F4,k4,u⟩;have a1:∀ {w:Str},Q8 w x 1=some (.ref x):=λ{w}=>VW (j:=1);rcases k4 with ⟨k,c2,c3⟩ | ⟨k,ys,L,c2,c3,c4⟩
 ·have a0:Jli x 0=some (.str "no"):=VW (j:=0);exact⟨_,rfl,g,_,_,_,rfl,rfl,k,a1,_,rfl,g,_,_,_,rfl,rfl,k,a0,rfl,_,rfl,bq (M D H0 H4 a t q p y A o g x x ns T' B Rs ps _ F4 (.inl ⟨k,c2,c3⟩) u u Q0)⟩
 ·have a0:Jf7 x 0=some (.str "yes"):=VW (j:=0);refine⟨_,rfl,g,_,_,_,rfl,rfl,k,a1,_,rfl,g,_,_,_,rfl,rfl,k,a0,rfl,_,rfl,b_ ⟨_,rfl,g,_,_,_,rfl,rfl,k,a1,x,_,rfl,Vd c2,λl5 Q=>?_⟩⟩;let⟨H5,eN,S,n5⟩:=Xj Q ys;rw[eN];let⟨_,_,_,⟨_,e4,_⟩,_⟩:=id F4.pr;exact M D H0 H5 a t q p y A o g x l5 ns T' B Rs ps _ (F4.same S) (Jfc (S.tup k) ys L (S _ _ c2) (c3.keep S.kt (oJ L)) n5) u (bV e4 Q).symm Q0
structure PlH (P)(w)(K)(mg)(base)(C fT fP fB)(dT' dP' dB):Prop where
 t:JgD 4 "_law_things" fT dT' (Ja5 "_law_plain_alone") (tL K)
 p:JgD 2 "_law_parts" fP dP' (JlD "_law_many") (tM K)
 b:Jo P w K mg (Jda w) 5 "_law_problem" fB dB (Jae "_law_more") (lO K C)
variable {fT fP fB:Addr} {dT' dP' dB fd:FuncData}
inductive iF (K):Sp|m{vs H Q E9} (a) (ns:List Int):vs=Vz a→Jmn H a→JdP 63→(∀H',Jev H')→iF K vs H Q E9
def EH (F:V4 "_law_plain" "_law_plain" fX)(T:Jco K C CB)(TP:TxP K mg)(D:Jop K "tuple" "list")(G:PlG P w K mg base C CB CM CL CC fC fF fR fA fD fW dC dF dR' dA' dD dW tk)(e:PlH P w K mg base C fT fP fB dT' dP' dB):JeF 13 ["_law_script"] (iF K):=by
 refine F.ok f_ (λvs H Q E h=>?_) (λcdv Ar outer s H vs Q E x h=>?_)
 ·let⟨a,ns,rfl,_⟩:=h;rfl
 let⟨a,ns,rfl,Y,O,Q0⟩:=h;have n:=Jgw (j:=1);have X:=Jgw (j:=2);have U:=Jgw (j:=4);have S:=Jgw (j:=5);let⟨_,z5,q5⟩:=plain5 T TP D G (cdv:=cdv) (outer:=outer) (H00:=H) x;refine JN (JmP (i:=1) f_.nd (Jc4 e.t.ok U e.t.m e.t.kp e.t.b 0 cN) (JfB (i:=2) f_.nd (JfA e.p.ok X e.p.m e.p.kp e.p.b (Jj2 (Jc4 G.c.ok n G.c.m G.c.kp G.c.b 0 af) (JiW (Jc4 G.c.ok n G.c.m G.c.kp G.c.b 0 af)) (JC 1))) (i:=3) f_.nd (Jr e.b.ok S e.b.m e.b.kp e.b.b gM 1 (Qc (bM ac))) (JH (i:=4) f_.nd (Jac kC rfl TP.list (Vh 2)) (be (Jhy bZ (JiW (V2 fx (Jc4 G.c.ok n G.c.m G.c.kp G.c.b 0 af)))) (Jnu (i:=4) f_.nd (Jo3 gk 2))
   aU) z5)))
 rfl'
 rfl'
 have g:∀ {H':Hp} {Q':VK} {k:Int},Xg H→0≤k→(∀i,Q' (.int i) H')→iD K (JfK a k) H' Q' E0:=λs' k0 k=>JcX a ns _ (s'.seq Y) O k0 k;refine⟨_,rfl,a,ns,rfl,Y,O,λH1 t T' o Rs M th d r8=>?_⟩;let⟨tt,J,tr,xs,ys,zs,h1,h2,h3,h4,h5,h6,h7⟩:=th.ex;have b1:Jgu tt J tr 1=some (.ref J):=VW (j:=1);have yl:JdA o.length:=by rw[←h5.length,lM]
 have a1:=d.a1;have a5:=d.a5;refine QI (g M (by decide) λc13=>QI (g M (by decide) λZ=>?_));have b5:=eF Z (show(0:Int)<5 by decide);refine⟨_,_,rfl,rfl,(by show(0:Int)<5;decide),_,rfl,t,_,_,_,rfl,rfl,h1,b1,_,_,J,ys,rfl,SqL.of h4,by lia,by lia,by lia,by lia,λH2 q ps s2 hq0 hq pl v=>?_⟩;rw[yl]at v;have u:=M.trans s2;refine Jmd lS0 (λl hl=>?_);let⟨B,z,r,n3⟩:=Xj hl [];rw[z];have L:=s2.trans r;have D3:DuP K B t q T' o Rs ps:=⟨th.same L,d,SqL.of (r _ _ hq),pl,v⟩;refine⟨t,l,T',o,Rs,[],rfl,D3.th,d,SqL.of n3,(by decide),nofun,λH4 p I al N A p0 r0 P4=>?_⟩;rw[show Rs++Jb8 []=Rs from List.append_nil Rs]at P4;have F4:PlF K C B H4 a t q p I al N ns T' o Rs ps:=Jk9 D3 ((u.trans r).seq Y) O r0 A P4;refine⟨_,rfl,q,_,rfl,Vd (A _ _ (r _ _ hq)),λh y=>?_⟩;let⟨H5,z,s5,n5⟩:=Xj y (ps.map V.int);rw[z];have F5:=F4.same s5;let⟨_,⟨_,e1,_⟩,⟨_,e2,_⟩,⟨_,e3,_⟩,_⟩:=id P4;refine QI (g (((u.trans r).trans A).trans s5) (by decide) λc=>⟨_,_,rfl,rfl,JL (by decide),_,_,rfl,rfl,(by show(0:Int)<2;decide),rfl,_,rfl,VY (λ_=>?_)⟩)
 ·refine JfX _ q _ (Qr (F5.s.seq D3.q) (λtu R=>?_));let⟨H6,z,s6,n6⟩:=Xv R (ps.map V.int);rw[z];exact q5 _ B H6 a t q p I al N tu ns T' o Rs ps (F5.same s6) (.inr n6) Q0
 ·exact q5 _ B H5 a t q p I al N h ns T' o Rs ps F5 (.inl ⟨n5,A.free y,(bV e1 y).symm,(bV e2 y).symm,(bV e3 y).symm⟩) Q0
end
noncomputable def as3 (zs:List Str):List At:=(zs.take 3).map At.plain
structure GrP (K)(H:Hp)(nl rw)(zs:List Str)(Rs:Vp Int):Prop where
 nm:XD nl (zs.map V.str)
 N:Nms zs
 rw:∃xs,H rw=Jm_ xs∧JkQ dR
 ro:hX 3 Rs
 l3:∀r∈Rs,Je4 3
 rl:JhV 200
def GrP.same {K:W.Frag}{H H':Hp}{a rw:Addr}{zs:List Str}{Rs:List (List Int)}(h:GrP K H a rw zs Rs)(s:Xg H):GrP K H' a rw zs Rs:=by let⟨xs,c,b⟩:=h.rw;exact⟨s _ _ h.nm,h.N,⟨xs,s _ _ c,b.keep s.kt (dw _)⟩,h.ro,h.l3,h.rl⟩
def lW (N:Nms zs):(as3 zs).length=3:=by have:=N.len;rw[as3,lM,List.length_take];lia
def km (zs):iU (as3 zs):=λa b=>by let⟨z,_,rfl⟩:=List.mem_map.mp b;exact Vf z
def pl_nd {zs:List Str}(h:zs.Nodup):(zs.map At.plain).Nodup:=List.pairwise_map.mpr (h.imp λ{x y} a e=>a (by injection e))
def ko {zs:List Str}(N:Nms zs):(as3 zs).Nodup:=pl_nd (N.nd.sublist (JfI _))
def tm0:iV []:=JiA List.nodup_nil nofun
inductive tZ (K)(C):Sp|m{vs H Q E9} (nl rw) (zs) (Rs):vs=JfJ nl (.ref rw)→GrP K H nl rw zs Rs→(∀H' p tl al rl,Jcg H p (J5 al (Jc0 (JhT C H' [] (as3 zs)) p)))→tZ K C vs H Q E9
def oM:Vj ["_law_names_here","_law_rows","_law_problem_here","_law_name","_law_row"] (Jbx "_law_rows") rC:=fsc
section
variable {P:Program} {w:World} {K:W.Frag} {mg:Str→Option Value} {base:Heap} {aK C CP CM:Addr} {f fI fA fL fR:Addr} {fd dI dA' dL' dR':FuncData}
def EI (F:V4 "_law_great" "_law_great" rC)(T:JcR C)(G:PG P w K mg base C CM fI fA fL fR dI dA' dL' dR'):JeF 5 (Jbx "_law_rows") (tZ K C):=by
 refine F.ok oM (λvs H Q E h=>?_) (λcdv Ar outer s H vs Q E hr h=>?_)
 ·let⟨nl,rw,zs,Rs,rfl,_⟩:=h;rfl
 let⟨nl,rw,zs,Rs,rfl,g,Q0⟩:=h;have B:=VT (j:=2);refine JN (JmP (i:=2) oM.nd (ky G.mI G.I B rfl G.g G.bI .nil aJ) (JcI (Jj6 (Jly gW 0 eS (eT af)) (i:=3) oM.nd (Jc5 2 G.mL G.L hr G.bL aJ (Vh 3))) (Jj6 (pv 1) (i:=4) oM.nd (Jc5 2 G.mR G.R B G.bR gM (Vh 4))) (pv 2)))
 rfl'
 rfl'
 let⟨xs,h6,h7⟩:=g.rw;have N:=g.N;have zl:=N.len;have xl:Ja0 Rs.length:=by rw[←h7.length,lM]
 have r200:=g.rl;intro c d np ndx nex;have Z:Jna (JgW d c c d []):=λb o h=>by rw[aq (λe=>by rw[e,np]at h;cases h),aq (λe=>by rw[e,ndx]at h;cases h)];exact h
 have D:=ao (H:=JcP d c) (a:=c) (o:=QF d []);generalize Jk8 _ c=H0 at Z D;refine VO c d D (λp l t H1 n1 n2 n3 e1 e2 e3 hp1 ht1 O hr1 k1=>VI rfl);have s1:Jna H1:=λb o h=>k1 b o (Z b o h) (λe=>by rw[e,np]at h;cases h);have fA:=Z.free n2;have fR:=Z.free n3;have P1:bu K C H1 c p l t [] [] []:=⟨⟨d,hp1⟩,Joq ht1,Joq O,Joq hr1,e1,e2,e3⟩;have S:∀ {Ha Hb:Hp} {z:Addr},Vu z→Jna Ha→Fr1 Ha Hb z→ap H Hb:=λhz s f b o e=>f b o (s b o e) λy=>by rw[y,hz]at e;cases e
 refine⟨_,rfl,_,rfl,nl,_,rfl,SqL.of (s1 _ _ g.nm),λcp J=>?_⟩;have ec:Jmq (zs.map V.str) 3=(zs.take 3).map V.str:=by rw[lL (by decide),List.map_take];rfl
 rw[ec];let⟨H2,eN,s2,v⟩:=Xj J ((zs.take 3).map V.str);rw[eN];have cpn:=(bV O J).symm;refine JoQ cp _ v (Jim (cU) (λi k H'=>(∃X,k=[some _,some _,some _,X,none])∧JmO H (Xy cp _∧bu K C H' c p l t [] ((zs.take i).map At.plain) [])) (λi k H' h=>SqL.of h.2.2.1) ⟨Vf none,s1.trans s2,v,P1.same s2⟩)
 ·rintro i k H3 x H4 hi ⟨⟨X,rfl⟩,Y,M,W⟩ ⟨rfl,hx⟩;have A:=Joj M;rw[List.getElem?_map]at A;let⟨z,hz,rfl⟩:=Option.map_eq_some_iff.mp A;have i3:i<3:=by have:=(gEq hz).1;rw[List.length_take]at this;lia
  rw[List.getElem?_take_of_lt i3]at hz;have gz:=hY (N.gd z (mO hz));let⟨⟨dx3,ho3⟩,_⟩:=id W;refine⟨_,rfl,c,dx3,_,rfl,ho3,QK _ _ _,_,rfl,c,p,l,t,[],_,[],z,rfl,W,gz.2,gz.1,by rw[lM,List.length_take];lia,jA N.nd hz (λe=>by injection e),λH5 P5 f5=>⟨Vf _,S fA Y f5,f5 _ _ M cpn,?_⟩⟩;rw[bE hz,mAq];exact P5
 rintro k H3 ⟨⟨X,rfl⟩,Y,_,W⟩;rw[lM,List.length_take,Nat.min_eq_left (by lia)]at W;refine JdD _ rw (QE _ (Y _ _ h6)) (Jim (cU) (λi k H'=>(∃v4,k=[some _,some _,some _,X,v4])∧JmO H (bu K C H' c p l t [] (as3 zs) (Rs.take i))) (λi k H' h=>SqL.of (h.2.1 _ _ h6)) ⟨Vf none,Y,W⟩)
 ·rintro i k H4 x H5 hi ⟨⟨v4,rfl⟩,u,U⟩ ⟨rfl,hx⟩;let⟨r,q,g1,rfl,g2⟩:=lN h7 (Joj (u _ _ h6));let⟨⟨dx4,ho4⟩,_⟩:=id U;have rr:=g.ro.row r (mO g1);have r3:=g.l3 r (mO g1);have on:=pO r [] rr.1;have al3:=lW N;refine⟨_,rfl,c,dx4,_,rfl,ho4,QK _ _ _,_,rfl,c,p,l,t,q,[],_,Rs.take i,r,rfl,U,.inr (u.tup g2),by lia,by lia,λn hn=>by have:=rr.2 n hn;lia,by rw[List.length_take];lia,λe=>by rw[List.length_take]at e;lia,λ_ H6 P6 f6=>Qj (Vf _) (S fR u f6)⟩;rw[on]at P6;rw[bE g1];exact P6
 rintro k H4 ⟨⟨v4,rfl⟩,u,U⟩;rw[xl,List.take_length]at U;exact QI (Q0 H4 c p l t u np fA U)
end
noncomputable def L4:Vp Int:=[[1,2,3],[1,2,-3],[1,-2,3],[1,-2,-3]]
def L8:Vp Int:=L4++[[-1,2,3],[-1,2,-3],[-1,-2,3],[-1,-2,-3]]
def LM (m:Nat):Vp Int:=L8++Jdf [1,2,3]
def oO (h:r∈LM m):r∈L8:=by
 rcases mPq h with h | h
 ·exact h
 ·rw[(List.mem_replicate.mp h).2];decide
def lX:∀r∈L8,r.length=3∧r.Nodup∧∀p∈r,Jha 3:=by decide
def jG (m):(LM m).length=8+m:=by rw[LM,lAq,List.length_replicate];rfl
def yt (h:m≤192)(d:3≤n)(b:n≤40):hX n (LM m):=⟨λr a=>⟨(lX r (oO a)).2.1,λp c=>by have:=(lX r (oO a)).2.2 p c;lia⟩,b,by rw[jG];lia⟩
def L8_no (v)(Rs)(h:∀r∈L8,r∈Rs):¬dZ v Rs:=λa=>by
 have k:=List.all_eq_true.mpr λr b=>by let⟨p,d,c⟩:=a r (h r b);exact List.any_eq_true.mpr ⟨p,d,c⟩
 have e:∀b1 b2 b3:Bool,QM (L8.all λr=>r.any λp=>zaT (λi=>if i=1 then b1 else if i=2 then b2 else b3) p):=by decide
 exact Jak (k.symm.trans (e (v 1) (v 2) (v 3)))
def t_ (v):¬dZ v (LM m++Rs):=L8_no v _ λr a=>Xr (Xr a)
def WdI.isno (h:WdI n Rs 2000 w)(c:n≤9)(u:∀v,¬dZ v Rs):w=.no:=by
 cases w with
 | no=>rfl
 | yes =>
  let⟨v,a⟩:=h.yes rfl;exact absurd a (u v)
 | long =>
  have:=h.long rfl;have:2 ^ (n+1)≤2 ^ 10:=by exact_mod_cast Nat.pow_le_pow_right (by decide) (by lia)
  lia
def WdI.islong (h:WdI n Rs 1 w)(r:∀r∈Rs,2≤r.length)(u:∀v,¬dZ v Rs):w=.long:=by
 cases w with
 | no =>
  have:=h.no rfl r;lia
 | yes =>
  let⟨v,a⟩:=h.yes rfl;exact absurd a (u v)
 | long=>rfl
def WdI.nolong (h:WdI n Rs 2000 w)(b:n≤9):w≠.long:=λe=>by
 have:=h.long e;have:2 ^ (n+1)≤2 ^ 10:=by exact_mod_cast Nat.pow_le_pow_right (by decide) (by lia)
 lia
inductive ua (K)(C):Sp|m{vs H Q E9} (p tl al rl nl q) (due:Str) (zs):vs=[.ref p,.ref nl,.ref q,.str due]→bu K C H p tl al rl [] (as3 zs) (LM 0)→XD nl (zs.map V.str)→nl≠al→Nms zs→((due="long"∧SqI K H q [])∨due="part")→(∀H',Job H al→Jev H')→ua K C vs H Q E9
def EJ:Vj (Jdq "_law_due_here") (Jdq "_law_due_here") rD:=fsc
def foP (P:bu K C H p tl al rl [] As (LM m))(pl:iU As)(a:As.Nodup)(f:3≤As.length)(g:JjH 4)(e:m≤192)(d:JnL H q)(l:QV 100)(n:∀p∈ps,hR p)(c:Jlz 1)(b:most≤2000):FoP K C H p tl al rl q [] As (LM m) ps most :=
 ⟨⟨P,tm0,pl,a,yt e f (by lia),c,b⟩,by rw[jG];lia,d,l,n⟩
section
variable {P:Program} {w:World} {K:W.Frag} {mg:Str→Option Value} {base:Heap} {aK C CP CM:Addr} {f fA fF fL:Addr} {fd dA' dF dL':FuncData}
structure ThG (P)(w)(K)(mg)(base)(C fA fF fL)(dA' dF dL'):Prop where
 a:JgD 12 "_law_asked_word" fA dA' (VG "_law_most") (oG K C)
 f:JgD 12 "_law_follows" fF dF (VG "_law_most") (lV K C)
 mL:Jnm "add_plain" fL
 L:QR 4 fL dL' (VL "name") (nS K C)
 bL:Ja9 dL' "name"
def EK (F:V4 "_law_then_good" "_law_then_good" rD)(T:JcR C)(G:ThG P w K mg base C fA fF fL dA' dF dL'):JeF 13 (Jdq "_law_due_here") (ua K C):=by
 refine F.ok EJ (λvs H Q E h=>?_) (λcdv Ar outer s H vs Q E u h=>?_)
 ·let⟨p,d,r,i,B,q,k,zs,rfl,_⟩:=h;rfl
 let⟨p,d,r,i,B,q,k,zs,rfl,P0,J,nla,N,hd,Q0⟩:=h;have D:=u.mono (j:=4) (by decide);refine JN (JcI (be (Jis (Jcj bZ 3 bz) (aA dQ (Q6 G.a.ok u G.a.m G.a.kp G.a.b 0 (JX 2 af)) bz))
   cb
   aU) (be (Jg8 (aA dQ (Q6 G.f.ok u G.f.m G.f.kp G.f.b 0 (XB (Jle (JcB af)) af)) bz) (Jhy dQ (Jbw 0 G.mL G.L D G.bL aJ (Qc (Jy cu 1)))))
   cb
   aU) (cZ bZ (Q6 G.a.ok u G.a.m G.a.kp G.a.b 0 (XB (Jle (JcB af)) af)) bz))
 rfl'
 rfl'
 have c:=lW N;have Z:∀p∈([-4]:List Int),hR p:=λp hp=>by rw[mS hp];exact Jdc (by decide)
 refine jF (λS H'=>S=[Ja p,Ja B,Ja q,Jcs k]∧Xg H) (λn hn=>?_) ?_
 ·rcases hd with ⟨rfl,hq⟩ | rfl
  ·refine Jlm (b_ ⟨_,rfl,_,rfl,p,d,r,i,q,[],as3 zs,LM 0,[],2000,rfl,Qd (foP P0 (km zs) (ko N) (by lia) (by lia) (by decide) hq (by decide) nofun (by decide) (by decide)) (by rw[jG];decide),λH1 w t A=>?_⟩);cases A.isno (by lia) λv=>t_ v;exact JkN _ (bq (hn _ _ (Jbm t)))
  ·exact Jlm (bq (bq (hn _ _ (Jbm (ap.refl H)))))
 rintro S H1 ⟨rfl,t⟩;refine JdD _ _ lS1 (λl hl=>?_);let⟨H2,O,X,n2⟩:=Xj hl (Ji6 (-4));rw[O];have P2:=(P0.same t).same X;refine⟨p,d,r,i,l,[],as3 zs,LM 0,[-4],2000,rfl,foP P2 (km zs) (ko N) (by lia) (by lia) (by decide) (Vd n2) (by decide) Z (by decide) (by decide),⟨λ_ H3 W=>?_,λz=>VR (by rw[c];decide),λz=>VR (by rw[c];decide)⟩⟩;have P3:=P2.same W;have g:=(t.trans X).trans W;have zl:=N.len;have i3:3<zs.length:=by lia
 have hz:=gG i3;generalize zs[3]=z at hz;have az:atI (zs.map V.str) 3=some (.str z):=ay (by rw[List.getElem?_map,hz];rfl);have gz:=hY (N.gd z (mO hz));have Y:=jA (f:=At.plain) N.nd hz (λe=>by injection e);let⟨⟨R,I⟩,_⟩:=id P3;refine JkN _ (bq ⟨_,rfl,p,R,_,rfl,I,QK _ _ _,_,rfl,B,_,_,_,rfl,rfl,SqL.of (g _ _ J),az,p,d,r,i,[],_,_,z,rfl,P3,gz.2,gz.1,by lia,Y,λH4 P4 f4=>?_⟩);rw[c];refine JkN _ (bq (JdD _ _ lS1 (λl5 M=>?_)));let⟨H5,O,U,n5⟩:=Xj M (Ji6 (-4));rw[O];have a4:(as3 zs++[At.plain z]).length=4:=by rw[lAq,c];rfl
 refine⟨p,d,r,i,l5,[],_,LM 0,[-4],2000,rfl,⟨foP (P4.same U) (λa ha=>?_) ?_ (by lia) (by lia) (by decide) (Vd n5) (by decide) Z (by decide) (by decide),by rw[a4];decide,by rw[jG];decide⟩,λH6 w s6 A=>?_⟩
 ·rcases mPq ha with z | z
  ·exact km zs a z
  ·exact V8 (mS z)
 ·exact Jf8 (ko N) (λx hx y hy e=>Y (by rw[←mS hy,←e];exact hx))
 cases A.isno (by lia) λv=>t_ v;exact Jbm (Q0 H6 λb o e n=>s6 _ _ (U _ _ (f4 _ _ (g _ _ e) n)))
end
structure RfS (K)(C)(H)(nl rw p tl al rl)(zs)(m):Prop where
 g:GrP K H nl rw zs (LM m)
 pr:bu K C H p tl al rl [] (as3 zs) (LM m)
 nla:nl≠al
 m:m≤192
def RfS.same {K:W.Frag}{C:Addr}{H H':Hp}{c rw p a d b:Addr}{zs:List Str}{m:Nat}(h:RfS K C H c rw p a d b zs m)(s:Xg H):RfS K C H' c rw p a d b zs m:=⟨h.g.same s,h.pr.same s,h.nla,h.m⟩
inductive gN (m):List Int→Str→Prop
 | long:gN m [] "long"
 | many {ps:List Int}:Jkj 3→200<8+m+(JbJ ps).length→gN m ps "many"
 | part {ps:List Int}:Vq (Jbi 3)→gN m ps "part"
structure PsN (ps:List Int):Prop where
 l:QV 20
 n:∀p∈ps,hR p
theorem ub (h:Jor x):∀k:Nat,J7 (Jbh d) (Jbh [x]).flatten
 | 0=>ar.nil
 | k+1=>by rw[List.replicate_succ,List.replicate_succ,List.flatten_cons];exact .cons h (ub h k)
section
variable {P:Program} {w:World} {K:W.Frag} {mg:Str→Option Value} {base:Heap} {aK C CP CM:Addr} {f fF fT fG:Addr} {dF dT' dG:FuncData}
def yu (S:RfS K C H h rw p tl al rl zs m)(d:gN m ps due)(n:PsN ps)(j:JnL H q)(k:∀H',JiF (Jon due)):lV K C (Jdl p q 1) H Q E:=by
 have a:=lW S.g.N;have h:=n.l;have o:=S.m;refine⟨p,tl,al,rl,q,[],as3 zs,LM m,ps,1,rfl,foP S.pr (km zs) (ko S.g.N) (by lia) (by lia) S.m j (by lia) n.n (by decide) (by decide),?_⟩;have c:=jG m;rcases d with _ | ⟨b,t⟩ | b
 ·refine⟨nofun,λ_ z=>VR (by rw[c];show ¬200<8+m+0;lia),λ_ _ H' w s e=>?_⟩;cases e.islong (λr i=>by
   rcases mPq i with z | z
   ·rw[(lX r (oO z)).1];decide
   ·cases z) λv=>t_ v
  exact k H' s
 ·exact⟨λz=>VR (by rw[a,b];decide),λ_ _=>k,λ_ z=>VR (by rw[c];lia)⟩
 ·exact⟨λ_=>k,λz=>VR (by rw[a,b];decide),λz=>VR (by rw[a,b];decide)⟩
abbrev nmR:List Str:=["_law_script","_law_names_here","_law_cell","_law_more","_law_eight","_law_many","_law_rows","_law_problem_here","_law_parts_here","_law_due_here","_law_at","_law_full"]
def dy:Vj nmR ["_law_script"] eL:=fsc
structure RfG (P)(w)(K)(mg)(base)(C fF fT fG)(dF dT' dG):Prop where
 f:JgD 12 "_law_follows" fF dF (VG "_law_most") (lV K C)
 t:JgD 13 "_law_then_good" fT dT' (Jdq "_law_due_here") (ua K C)
 g:JgD 5 "_law_great" fG dG (Jbx "_law_rows") (tZ K C)
def ref15 (T:JcR C)(G:RfG P w K mg base C fF fT fG dF dT' dG){cdv:Value}{Ar:Around}{outer:List Env}{s:Shared}{H00:Hp}{E:XK}(v:JbC 13 (JgS eL f)) :
  ∃z,PSs (Jka CX0 P w K mg nmR "_law_refusals" eL f Ar s H00 E).nox ((zas eL).drop 15) z ∧
   ∀D H u rw p Q al U q zs m ps h O M L J x,RfS K C H u rw p Q al U zs m→gN m ps h→PsN ps→XD q (ps.map V.int)→(∀H',Jjh H') →
    z D [O,Ja u,M,L,J,Je ((8+m:Nat):Int),some (.ref rw),Ja p,Ja q,Jcs h,x,none] H:=by
 have hr5:=v.mono (j:=5) (by decide);have a:=v.mono (j:=12) (by decide);have hu:=gH v;refine JN (ae (be (JmZ (aA dQ (Q6 G.f.ok a G.f.m G.f.kp G.f.b 7 (JX 8 af)) (pv 9)) (aA dQ (Q6 G.f.ok a G.f.m G.f.kp G.f.b 7 (XB (Jo3 gk 8) af)) (pv 9)) (dJ (Jk3 (jf hu) (Js 7) 6)))
   cb
   aU) (JcI (be (Jis (Jcj bZ 5 af) (Jcw (Q6 G.t.ok v G.t.m G.t.kp G.t.b 7 (Qa 1 (V6 8 9)))))
   cb
   aU) (Qn (i:=11) dy.nd (Jc4 G.g.ok hr5 G.g.m G.g.kp G.g.b 1 (V2 u_ (Jle (Jh9 af (JcB af)))))) (JkE (cZ bZ (Q6 G.f.ok a G.f.m G.f.kp G.f.b 11 (XB (Jle af) af)) bz) (cZ bZ (Q6 G.f.ok a G.f.m G.f.kp G.f.b 11 (XB (bM (XB af af)) af)) bz))))
 rfl'
 rfl'
 rintro D H u rw p Q al U q zs m ps h O M L J x S d n hq Q0;refine Jos (yu S d n (Vd hq) λH1 R=>Jlm (bo (λc=>JkH (by rw[dTq rfl];decide)) λ_=>?_));refine JnD _ _ q _ rfl (JeO (R _ _ hq) (λtu htu=>?_));let⟨H2,e,s2,n2⟩:=Xv htu (ps.map V.int);rw[e];refine yu ((S.same R).same s2) d n (JbT n2) λH3 s3=>Jlm (bo (λc=>JkH (by rw[dTq rfl];decide)) λ_=>?_);have F:=(R.trans s2).trans s3;have o:=S.same F;let⟨⟨dx3,ho3⟩,_,_,⟨us3,Z,hU3⟩,_⟩:=id o.pr;let⟨xs,Y,X⟩:=o.g.rw;refine⟨_,rfl,p,C,dx3,_,_,rfl,ho3,T.cl,T.nR,gD _ _ _,_,rfl,tY Z hU3 Y X (JhB ?_)⟩;dsimp only [oQ];refine jF (λσ H'=>σ=[O,Ja u,M,L,J,Je ((8+m:Nat):Int),some (.ref rw),Ja p,Ja q,Jcs h,x,none]∧JQ u (zs.map V.str)) (λn' hn=>?_) ?_
 ·refine Jlm (bo (λc=>?_) (λ_=>bq (hn _ _ (Jbm o.g.nm))));have m0:m=0:=by injection oDq c with c;lia
  subst m0;refine⟨_,rfl,_,rfl,_,rfl,_,rfl,p,Q,al,U,u,q,h,zs,rfl,o.pr,o.g.nm,o.nla,o.g.N,?_,λH4 f4=>JhB (hn _ _ (Jbm (f4 _ _ o.g.nm o.nla)))⟩;rcases d with _ | ⟨h1,h2⟩ | h1
  ·exact .inl (Jbm (Vd (F _ _ hq)))
  ·have h4:=jn ps [];have h5:=n.l;rw[List.length_nil]at h4;lia
  ·exact .inr rfl
 rintro σ H4 ⟨rfl,hn4⟩;refine JdD _ _ lS2 (λl1 hl1=>?_);let⟨H5,e,s5,n5⟩:=Xv hl1 (Jc9 1 (-1));rw[e];refine⟨lS1,λl2 hl2=>?_⟩;let⟨H6,e,s6,n6⟩:=Xj hl2 (Vz l1);rw[e];refine Jjb l2 200 _ rfl n6 (by decide) (by decide) (by show Vi 200;decide) (λl3 hl3=>?_);let⟨H7,e,s7,n7⟩:=Xj hl3 (List.replicate (200:Int).toNat (Vz l1)).flatten;rw[e];have N:=S.g.N;have k:=lW N;have gr:GrP K H7 u l3 zs (List.replicate 200 [1,-1]):=⟨s7 _ _ (s6 _ _ (s5 _ _ hn4)),N,JnP n7 (by rw[List.map_replicate];exact ub (JdI (s7 _ _ (s6 _ _ n5)) [1,-1]) 200),JiA (λr v=>by rw[(List.mem_replicate.mp v).2];decide) (by rw[List.length_replicate];decide),λr v=>by rw[(List.mem_replicate.mp v).2];decide,by rw[List.length_replicate];decide⟩
 refine⟨u,l3,zs,_,rfl,gr,λH8 W y B A s8 _ _ P8=>?_⟩;have fo:∀ {H':Hp} {l:Addr} {ps:List Int},Xg H8→JnL H' l→QV 20→(∀p∈ps,hR p)→FoP K C H' W y B A l [] (as3 zs) (List.replicate 200 [1,-1]) ps 9:=λs' hl l n=>Ji9 ⟨P8.same s',tm0,km zs,ko N,by rw[k];exact gr.ro,by decide,by decide⟩ (by rw[List.length_replicate];decide) hl n;refine Jmd lS1 (λl9 hl9=>?_);let⟨H9,e,s9,n9⟩:=Xj hl9 (Ji6 2);rw[e];refine⟨W,y,B,A,l9,[],_,_,[2],9,rfl,fo s9 (Vd n9) (by decide) (λp I=>by rw[mS I];exact Jdc (by decide)),⟨λz=>VR (by rw[k];decide),λ_ _ Ha sa=>?_,λ_ z=>VR (by rw[List.length_replicate];decide)⟩⟩;refine JkN _ (b_ (Jmd lS2 (λlb hlb=>?_)));let⟨Hb,e,sb,nb⟩:=Xj hlb (Jc9 2 4);rw[e];refine⟨W,y,B,A,lb,[],_,_,[2,4],9,rfl,fo ((s9.trans sa).trans sb) (Vd nb) (by decide) (λp I=>?_),⟨λ_ Hc sc=>Jbm (Q0 Hc),λz=>VR (by rw[k];decide),λz=>VR (by rw[k];decide)⟩⟩;rcases List.mem_cons.mp I with rfl | I
 ·exact gJ (by decide) (by decide)
 ·rw[mS I];exact Jdc (by decide)
end
noncomputable def P6:List Int:=[1,-1,2,-2,3,-3]
def uc:∀k<7,(P6.take k).any (zaO 3)=false∧(JbJ (P6.take k)).length=k∧(JbJ (P6.take k++(P6.take k).take 1)).length=k∧(P6.take k++(P6.take k).take 1).any (zaO 3)=false∧(P6.take k).length=k:=by decide
def P6_num:∀p∈P6,hR p:=λp a=>by have:-1000≤p∧Q3 p:=(by decide:∀p∈P6,-1000≤p∧Q3 p) p a;exact gJ this.1 this.2
inductive jH (m):List Int→Str→Prop
 | long (k):k<7→8+m+k≤200→jH m (P6.take k) "long"
 | many (k):k<7→200<8+m+k→jH m (P6.take k) "many"
 | part {ps:List Int}:Vq (Jbi 3)→jH m ps "part"
def PsN.one (h:PsN ps)(l:QV 7):PsN (ps++ps.take 1):=⟨by rw[lAq,List.length_take];lia,λp a=>(mPq a).elim (h.n p) λz=>h.n p (List.mem_of_mem_take z)⟩
def jH.to (h:jH m ps due)(l:due="long"→ps=[]):gN m ps due∧gN m (ps++ps.take 1) due:=by
 rcases h with ⟨k,a,b⟩ | ⟨k,a,b⟩ | h
 ·rw[l rfl];exact⟨.long,.long⟩
 ·let⟨d,f,e,c,_⟩:=uc k a;exact⟨.many d (by lia),.many c (by lia)⟩
 ·exact⟨.part h,.part (by rw[List.any_append,h];rfl)⟩
def yw (ps:List Int):Jmq (ps.map V.int) 1=(ps.take 1).map V.int:=by rw[lL (by decide),List.map_take];rfl
section
variable {P:Program} {w:World} {K:W.Frag} {mg:Str→Option Value} {base:Heap} {aK C CP CM:Addr} {f fF fT fG:Addr} {dF dT' dG:FuncData}
def yx {H:Hp}{q l:Addr}{ps:List Int}{Q:VK}(b:XD q (ps.map V.int))(a:XD l [])(k:Jx (!ps.isEmpty) H):rNeD K (.ref q) (.ref l) H Q:=by
 refine⟨_,_,JnB b ps,QP a ar.nil,by simp only[dep,hO];decide,?_⟩;have e:peq (.lst (ps.map Dt.int)) (.lst [])=ps.isEmpty:=by cases ps <;> simp [peq,zbI]
 rw[e];exact k
def ref12 (T:JcR C)(G:RfG P w K mg base C fF fT fG dF dT' dG){cdv:Value}{Ar:Around}{outer:List Env}{s:Shared}{H00:Hp}{E:XK}(hr:JbC 13 (JgS eL f)) :
  ∃z,PSs (Jka CX0 P w K mg nmR "_law_refusals" eL f Ar s H00 E).nox ((zas eL).drop 12) z ∧
   ∀D H x rw p O Z R q zs m ps a mo v0 v2 v4 v,RfS K C H x rw p O Z R zs m→jH m ps a→PsN ps→QV 7→XD q (ps.map V.int)→(∀H',Jjh H') →
    z D [v0,Ja x,v2,Je mo,v4,Je ((8+m:Nat):Int),some (.ref rw),Ja p,Ja q,Jcs a,v,none] H:=by
 have Y:=VT (j:=12);have hu:=gH hr;let⟨_,z15,U⟩:=ref15 T G (cdv:=cdv) (outer:=outer) (H00:=H00) hr;refine JN (Xc (be (JdG (Jcj bZ 9 bz) (gc (JiS (jf hu) (pv 8) (bM ac)) (gP (aA dQ (Q6 G.f.ok Y G.f.m G.f.kp G.f.b 7 (XB (Jh5 iK 8 (Jly gW 8 eS (eT af))) af)) bz))))
   cb
   aU) (be (Jis (Jcj bZ 9 bz) (JiS (jf hu) (pv 8) (bM ac))) (Jnu (i:=8) dy.nd (bM ac))
   aU) (ae (be (Jhy bZ (Jjj fx 3)) (Jnu (i:=8) dy.nd (Jh5 iK 8 (Jly gW 8 eS (eT af))))
   aU) z15))
 rfl'
 rfl'
 rintro D H x rw p O Z R q zs m ps a mo v0 v2 v4 v S d n l7 hq Q0;have N:=S.g.N;have al3:=lW N;have ll:=jG m;refine jF (λM H'=>M=[v0,Ja x,v2,Je mo,v4,Je (8+m:Int),some (.ref rw),Ja p,Ja q,Jcs a,v,none]∧Xg H) (λn' F=>?_) ?_
 ·by_cases e:a="long"
  ·subst e;refine Jlm (b_ (Jmd lS0 (λl hl=>?_)));let⟨H1,r,u,n1⟩:=Xj hl [];rw[r];refine yx (u _ _ hq) n1 (QI ?_);by_cases W:ps=[]
   ·subst W;exact bq (bq (F _ _ (Jbm u)))
   ·rw[show Vq (!ps.isEmpty) by cases ps with | nil=>exact JcL W | cons=>rfl];refine b_ (Jf5 _ _ rfl _ rfl _ rfl q _ rfl (SqL.of (u _ _ hq)) (λc hc=>?_));rw[yw];let⟨H2,r,t,L⟩:=Xj hc ((ps.take 1).map V.int);rw[r];refine Jjb q c _ _ rfl (t _ _ (u _ _ hq)) L (sz _ (by rw[lM,lM,List.length_take];lia)) (λe he=>?_);rw[←mAq];let⟨H3,r,I,X⟩:=Xj he ((ps++ps.take 1).map V.int);rw[r];have Q:=(u.trans t).trans I;have n':=n.one l7;have x:=n'.l;generalize y:("long":Str)=a at d;rcases d with ⟨k,h1,h2⟩ | ⟨k,h1,h2⟩ | h
    ·let⟨a1,a2,a3,a4,_⟩:=uc k h1;refine⟨p,O,Z,R,e,[],as3 zs,LM m,_,2000,rfl,foP (S.pr.same Q) (km zs) (ko N) (by lia) (by lia) S.m (Vd X) (by lia) n'.n (by decide) (by decide),⟨λz=>VR (by rw[al3,a4];decide),λ_ z=>VR (by rw[ll];lia),λ_ _ H4 w s4 wi=>?_⟩⟩;rw[if_neg (wi.nolong (by lia))];exact JkN _ (bq (F _ _ (Jbm (Q.trans s4))))
    ·exact absurd y (by decide +kernel)
    ·exact absurd y (by decide +kernel)
  ·refine Jlm ?_;rw[dFq λz=>e (by injection z)];exact bq (bq (F _ _ (Jbm (ap.refl H))))
 rintro M H1 ⟨rfl,u⟩;have B:=u _ _ hq;refine jF (λM H'=>Ex2 λJ o=>An6 (M=[v0,Ja x,v2,Je mo,v4,Je (8+m:Int),some (.ref rw),Ja p,Ja J,Jcs a,v,none]) (Xg H) (JQ J (o.map V.int)) (PsN o) (o.length≤7) (gN m o a∧gN m (o++o.take 1) a)) (λn' F=>?_) ?_
 ·by_cases e:a="long"
  ·subst e;have dk:gN m [] "long"∧gN m ([]++List.take 1 []) "long":=⟨.long,.long⟩;have pn:PsN []:=JL nofun;refine Jlm (b_ (Jmd lS0 (λl hl=>?_)));let⟨H2,r,t,L⟩:=Xj hl [];rw[r];refine yx (t _ _ B) L (QI ?_);by_cases W:ps=[]
   ·subst W;exact bq (F _ _ ⟨q,[],rfl,u.trans t,t _ _ B,pn,by decide,dk⟩)
   ·rw[show Vq (!ps.isEmpty) by cases ps with | nil=>exact JcL W | cons=>rfl];refine b_ (Jf6 (λl3 hl3=>?_));let⟨H3,r,I,X⟩:=Xj hl3 [];rw[r];exact F _ _ ⟨l3,[],rfl,(u.trans t).trans I,X,pn,by decide,dk⟩
  ·refine Jlm ?_;rw[dFq λz=>e (by injection z)];exact bq (bq (F _ _ ⟨q,ps,rfl,u,B,n,l7,d.to λz=>VR e⟩))
 rintro M H2 ⟨J,o,rfl,t,A,L,l2,d1,d2⟩;refine⟨_,rfl,_,_,rfl,rfl,JL (by decide),_,_,rfl,rfl,(by show(0:Int)<2;decide),rfl,_,rfl,J9 (λ_=>U D H2 x rw p O Z R J zs m o a _ _ _ _ _ (S.same t) d1 L A Q0)⟩;refine Jhr _ rfl _ rfl _ J _ rfl (SqL.of A) (λc hc=>?_);rw[yw];let⟨H3,r,I,X⟩:=Xj hc ((o.take 1).map V.int);rw[r];refine Jjb J c _ _ rfl (I _ _ A) X (sz _ (by rw[lM,lM,List.length_take];lia)) (λe he=>?_);rw[←mAq];let⟨H4,r,s4,n4⟩:=Xj he ((o++o.take 1).map V.int);rw[r];exact U D H4 x rw p O Z R e zs m _ a _ _ _ _ _ (S.same ((t.trans I).trans s4)) d2 (L.one l2) n4 Q0
end
def NoP (b:Int):Prop:=Vq (zaO 3 b)∧hR b
def at5 (f:NoP b1)(e:NoP b2)(d:NoP b3)(c:NoP b4)(a:NoP b5){j:Int}(h:0≤j)(g:j<5):∃b,JmN [V.int b1,.int b2,.int b3,.int b4,.int b5] j (.int b)∧NoP b:=by
 have:j=0∨j=1∨j=2∨j=3∨j=4:=by lia
 rcases this with rfl | rfl | rfl | rfl | rfl
 ·exact⟨b1,ay rfl,f⟩
 ·exact⟨b2,ay rfl,e⟩
 ·exact⟨b3,ay rfl,d⟩
 ·exact⟨b4,ay rfl,c⟩
 ·exact⟨b5,ay rfl,a⟩
def EL:NoP (-10 ^ (9:Int).toNat):=⟨by decide,by decide +kernel,by decide +kernel⟩
section
variable {P:Program} {w:World} {K:W.Frag} {mg:Str→Option Value} {base:Heap} {aK C CP CM:Addr} {f fF fT fG:Addr} {dF dT' dG:FuncData}
def ref8 (T:JcR C)(G:RfG P w K mg base C fF fT fG dF dT' dG){cdv:Value}{Ar:Around}{outer:List Env}{s:Shared}{H00:Hp}{E:XK}(hr:JbC 13 (JgS eL f)) :
  ∃z,PSs (Jka CX0 P w K mg nmR "_law_refusals" eL f Ar s H00 E).nox ((zas eL).drop 8) z ∧
   ∀D H h rw p B L F zs m J e A y,RfS K C H h rw p B L F zs m→(∀H',Jjh H') →
    z D [A,Ja h,Je J,Je e,y,Je ((8+m:Nat):Int),some (.ref rw),Ja p,none,none,none,none] H:=by
 let⟨_,M,v⟩:=ref12 T G (cdv:=cdv) (Ar:=Ar) (outer:=outer) (s:=s) (H00:=H00) (E:=E) hr;refine JN (JfB (i:=8) dy.nd (eU gW (bM (JdX af (JcB af) (JdX af (JcB af) (XB af (JcB af))))) eS (eT (JdJ cw 3))) (i:=9) dy.nd bz (Xc (be (Jhy eu (Jh5 eo 5 (Jf0 8))) (Jnu (i:=9) dy.nd bz)
   aU) (be (Jhy bZ (Jjj fx 2)) (JfB (i:=10) dy.nd (aX cw (JdJ fx 3) (V2 eo (Jf0 8))) (i:=8) dy.nd (aX iK (aX iK (Jly gW 8 eS (Jld 10)) (Jle (aI cu (bM (JdX af af (Jj2 (JcB af) af (JcB (V2 uk af))))) (Jjj fx 3)))) (Jly gW 8 (Jld 10) eS)) (Jnu (i:=9) dy.nd bz))
   aU) M))
 rfl'
 rfl'
 rintro D H h rw p B L F zs m J e A y S Q0;have b7:=eF e (show(0:Int)<7 by decide);refine JnD _ _ _ rfl (by show Vi 6;decide) (λl hl=>?_);let⟨H1,a,s1,n1⟩:=Xj hl (P6.map V.int);rw[show Jou [.int 1,.int (-1),.int 2,.int (-2),.int 3,.int (-3)]=H1 from a];refine JeT _ _ _ rfl rfl (by show(0:Int)<7;decide) _ rfl l _ rfl (SqL.of n1) (λq hq=>?_);obtain⟨k,hk⟩:∃k:Nat,(e % 7).toNat=k:=Vf _;rw[lL b7.1,hk,←List.map_take];let⟨H2,a,s2,x⟩:=Xj hq ((P6.take k).map V.int);rw[a];have O:k<7:=by lia
 let⟨a1,a2,a3,a4,o⟩:=uc k O;have N:PsN (P6.take k):=JgO (λp Q=>P6_num p (List.mem_of_mem_take Q));have S2:=S.same (s1.trans s2);refine jF (λr H'=>H2=H'∧r=[A,Ja h,Je J,Je e,y,Je ((8+m:Nat):Int),some (.ref rw),Ja p,Ja q,Jcs "long",none,none]) (λn' I=>I _ _ (Vf rfl)) ?_;rintro r _ ⟨rfl,rfl⟩;refine jF (λr H'=>H2=H'∧∃g,r=[A,Ja h,Je J,Je e,y,Je ((8+m:Nat):Int),some (.ref rw),Ja p,Ja q,Jcs g,none,none]∧jH m (P6.take k) g) (λn' I=>?_) ?_
 ·refine⟨_,rfl,_,rfl,q,_,rfl,Vd x,_,_,rfl,rfl,_,_,rfl,rfl,_,rfl,?_⟩;rw[lM,o];refine bo (λc=>I _ _ (JkN _ (.many k O ?_))) (λc=>I _ _ (JkN _ (.long k O ?_)))
  ·have:=oDq c;lia
  ·have:¬_:=λz=>Jiz z;lia
 rintro r _ ⟨rfl,g,rfl,d⟩;refine⟨_,rfl,_,_,rfl,rfl,JL (by decide),_,_,rfl,rfl,(by show(0:Int)<3;decide),rfl,_,rfl,J9 (λ_=>v D H2 h rw p B L F q zs m _ g e _ _ _ _ S2 d N (by lia) x Q0)⟩;refine⟨_,rfl,_,_,rfl,rfl,JL (by decide),_,rfl,q,_,rfl,Vd x,_,_,rfl,rfl,_,_,rfl,rfl,?_,?_⟩
 ·rw[lM,o];lia
 rw[lM,o];have bk:=eF (e / 7) (show(0:Int)<((k:Nat):Int)+1 by lia);obtain⟨j,hj⟩:∃j:Nat,e / 7 % (((k:Nat):Int)+1)=(j:Int):=V8 ((Int.toNat_of_nonneg bk.1).symm);rw[hj]at bk ⊢;have jl:j≤((P6.take k).map V.int).length:=by rw[lM,o];lia
 refine Jhr _ rfl _ rfl _ q _ rfl (SqL.of x) (λc1 Z=>?_);rw[xx jl,←List.map_take];let⟨H3,a,s3,n3⟩:=Xj Z (((P6.take k).take j).map V.int);rw[a];refine Jhr _ rfl _ _ rfl (JiA (by decide) (by decide)) _ rfl (by show Vi 5;decide) (λl5 X=>?_);have b5:=eF (e / 61) (show(0:Int)<5 by decide);let⟨b,hb,nb⟩:=at5 (b1:=0) (b2:=4) (b3:=-4) (b4:=40) (JL (Jdc (by decide))) (JL (Jdc (by decide))) (JL (Jdc (by decide))) (JL (Jdc (by decide))) EL b5.1 b5.2;let⟨H4,a,s4,n4⟩:=Xj X [.int 0,.int 4,.int (-4),.int 40,.int (-10 ^ (9:Int).toNat)];rw[a];refine⟨_,rfl,_,_,rfl,rfl,JL (by decide),_,_,rfl,rfl,(by show(0:Int)<5;decide),l5,_,_,_,rfl,rfl,SqL.of n4,hb,lS1,λl6 W=>?_⟩;let⟨H5,a,s5,n5⟩:=Xj W (Ji6 b);rw[a];have t:=s4.trans s5;have l1:((P6.take k).take j).length≤6:=by rw[List.length_take];lia
 refine Jjb c1 l6 _ _ rfl (t _ _ n3) n5 (sz _ (by rw[lM];show Q3 (_+1);lia)) (λl7 U=>?_);let⟨H6,a,s6,n6⟩:=Xj U (((P6.take k).take j++[b]).map V.int);rw[show Va H5 l7 (((P6.take k).take j).map V.int++Ji6 b)=H6 by rw[←a,mAq];rfl];have u:=(s3.trans t).trans s6;refine Jhr _ rfl _ rfl _ q _ rfl (SqL.of (u _ _ x)) (λc2 Y=>?_);rw[xy jl,←List.map_drop];let⟨H7,a,s7,n7⟩:=Xj Y (((P6.take k).drop j).map V.int);rw[a];have l2:((P6.take k).drop j).length=k-j:=by rw[List.length_drop,o]
 have l3:((P6.take k).take j).length=j:=by rw[List.length_take,o];lia
 refine Jjb l7 c2 _ _ rfl (s7 _ _ n6) n7 (sz _ (by rw[lM,lM,lAq];show Q3 (_+1+_);lia)) (λl8 R=>?_);rw[←mAq];let⟨H8,a,s8,n8⟩:=Xj R (((P6.take k).take j++[b]++(P6.take k).drop j).map V.int);rw[a];have ln:((P6.take k).take j++[b]++(P6.take k).drop j).length≤7:=by rw[lAq,lAq];show _+1+_≤7;lia
 exact v D H8 h rw p B L F l8 zs m _ "part" e _ _ _ _ (S2.same ((u.trans s7).trans s8)) (.part (by rw[List.any_append,List.any_append,List.any_cons,nb.1,Bool.true_or,Bool.or_true,Bool.true_or])) ⟨by lia,λp Q=>by
  rcases mPq Q with z | z
  ·rcases mPq z with z | z
   ·exact N.n p (List.mem_of_mem_take z)
   ·rw[mS z];exact nb.2
  ·exact N.n p (List.mem_of_mem_drop z)⟩ ln n8 Q0
end
noncomputable def ng:Jj0 Int (List Int)
 | []=>[]
 | x :: r=>-x :: r
def L4_3 {i:Nat}{r:List Int}(h:L4[i]?=some r):∃x y z,r=[x,y,z]:=by
 have:=(lX r (Xr (mO h))).1
 match r,this with
 | [x,y,z],_=>exact⟨x,y,z,rfl⟩
structure PSw (X)(st)(t):Prop where
 ps:PS X st t
structure PSsw (X)(ss)(t):Prop where
 ps:PSs X ss t
structure PIw (X)(tg iter)(wi):Prop where
 pi:Jox X tg
def EM (h:PSw X st t)(r:PSs X ss ts):PSsw X (st :: ss) (tSeq t ts):=⟨ae h.ps r⟩
def pss_sw (h:PS X st t)(r:PSsw X ss ts):PSs X (st :: ss) (tSeq t ts):=ae h r.ps
def EN (p:X.N.Nodup)(n:X.N[i]?=some y0)(r:Ja3 y0)(x:Vq X.calm)(d:Jdy scope.kind)(e:∀y∈scope.names,Jls y.2)(c:∀y∈scope.names,y.2=.local→Jde y.1)
  (h:X.Ok→∃k,Jdz X k)(f:Jlu L)
  (o:∀j i,ix[j]?=some i→∃y,X.N[i]?=some y∧N'[L+j]?=some y∧(Jd1 y∨Jd0 y)∧((Vs X.env).names.lookup y=some .cell∨(Vs X.env).names.lookup y=some .free))
  (s:PIw X tg iter wi)(t:∀k q a b,L2.PG (Jj8 k q) tg g)(w:∀k q a b,PE (Jj8 k q) elt te)(l:JiG (JnO []) (JhK y0) spos.line=pure true:=by rfl)
  (u:JdS y0∨X.env.scope.names.lookup y0=some .local:=by first | exact .inl rfl | exact .inr rfl | assumption)(hs:∀v,JiV v=pure v:=by intro _;rfl) :
  PSw X (JhG (JhK y0) (JnO []) spos) (Jlr (tLCG wi L ix g te) i):=⟨zR p n r x d e c h f o s.pi t w l u hs⟩
structure IE (X)(e)(i):Prop where
 pe:JnA (Jat i)
 hs:∀es,Jfu e=(false,Vg e) :: Vc es
def iX:IE X (Jf3 (.int i) j) i:=⟨af,λ_=>rfl⟩
def ie_n:IE X (.UnaryOp .USub (Jf3 (.int i) j) p) (-i):=⟨λa s b H Q I h=>bX bY af a s b H Q I (QI h),λ_=>rfl⟩
structure TE3 (X)(e)(a b c):Prop where
 pe:JnA (fy (JbN a (Jey b c de)))
 hs:∀es,Jfu e=(false,Vg e) :: Vc es
def te3 (f:IE X e1 a)(e:IE X e2 b)(d:IE X e3 c):TE3 X (JjT [e1,e2,e3] k) a b c:=⟨bQ (aa f.pe (aa e.pe (aa d.pe ac (d.hs _)) (e.hs _)) (f.hs _)),λ_=>rfl⟩
structure PEv (X)(e)(t):Prop where
 pe:JnA t
def le4 (g:TE3 X e1 a b c)(f:TE3 X e2 a2 b2 c2)(e:TE3 X e3 a3 b3 c3)(d:TE3 X e4 a4 b4 c4):PEv X (.List [e1,e2,e3,e4] pos) (tLst (cm (fy (JbN a (Jey b c de))) (cm (fy (JbN a2 (Jey b2 c2 de))) (cm (fy (JbN a3 (Jey b3 c3 de))) (cm (fy (Jey a4 b4 (JbN c4 de))) de))))):=⟨bM (aa g.pe (aa f.pe (aa e.pe (aa d.pe ac (d.hs _)) (e.hs _)) (f.hs _)) (g.hs _))⟩
def piw4 (h:PEv X e te):PIw X tg e (iList X.K te):=⟨cT h.pe⟩
def EO (c):∃m:Nat,m≤192∧atI [V.int 8,.int (196+c / 7 % 5)] (c % 2)=some (.int ((8+m:Nat):Int)):=by
 have:c % 2=0∨c % 2=1:=by lia
 rcases this with e | e <;> rw[e]
 ·exact JiA 0 (ay rfl)
 ·obtain⟨m,a⟩:∃m:Nat,188+c / 7 % 5=(m:Int):=V8 ((Int.toNat_of_nonneg (by lia)).symm);rw[show(196+c / 7 % 5:Int)=(8+m:Int) by lia];exact⟨m,by lia,ay rfl⟩
section
variable {P:Program} {w:World} {K:W.Frag} {mg:Str→Option Value} {base:Heap} {aK C CP CM:Addr} {f fF fT fG fC fN fM fR fP:Addr} {fd dF dT' dG dC dN dM dR' dP':FuncData}
def ref4 (T:JcR C)(G:RfG P w K mg base C fF fT fG dF dT' dG){cdv:Value}{Ar:Around}{outer:List Env}{s:Shared}{H00:Hp}{E:XK}(M:JbC 13 (JgS eL f)) :
  ∃z,PSs (Jka CX0 P w K mg nmR "_law_refusals" eL f Ar s H00 E).nox ((zas eL).drop 4) z ∧
   ∀D n nm d zs ys J S v0,Qb (n nm) (zs.map V.str)→Nms zs→Qb (n d) ys→XH n (L4.map dR) ys→(∀H',Jjh H') →
    z D [v0,Ja nm,Je J,Je S,Ja d,none,none,none,none,none,none,none] n:=by
 have U:=M.mono (j:=5) (by decide);let⟨_,z8,q8⟩:=ref8 T G (cdv:=cdv) (Ar:=Ar) (outer:=outer) (s:=s) (H00:=H00) (E:=E) M;refine JN (JfB (i:=4) dy.nd (Jh5 iK 4 (pe_lcg (N':=["_law_a","_law_b","_law_c"]) (L:=3) (ix:=[]) rfl rfl (by decide +kernel) (by decide +kernel) (λ_=>JmW []) rfl (λj i h=>by simp at h) (cT (pv 4)) (λ_ _ _ _=>(vD 3 K rfl rfl (Jbs (i:=0) (show(["_law_a","_law_b","_law_c"]:List Str).Nodup by decide +kernel) (JdE (i:=1) (show(["_law_a","_law_b","_law_c"]:List Str).Nodup by decide +kernel) (i:=2) (show(["_law_a","_law_b","_law_c"]:List Str).Nodup by decide +kernel) gf)))) (λ_ _ _ _=>(bQ (aa (Jgj 0) (V6 1 2)))))) (i:=5) dy.nd (aI cu (bM (XB af (Jke eo (Jjj fx 2)))) (JdJ cw 2)) (JfB (i:=6) dy.nd (Jh5 iK 4 (aX u_ (Jle (bQ (Jj2 af af af))) (JdJ gh 5))) (i:=7) dy.nd (Jki G.g.ok U G.g.m G.g.kp G.g.b 1 6) z8))
 rfl'
 rfl'
 rintro D n nm d zs ys J S v0 hn N c h7 Q0;have y4:JdA 4:=by rw[←h7.length];rfl
 refine JnD _ _ d rfl (QE _ c) (λe he=>vC (cU (xs:=ys)) (λi us H'=>JmO n (XH H' (((L4.take i).map ng).map dR) us)) (λi us H' h=>SqL.of (h.1 _ _ c)) ⟨Jdg he,ar.nil⟩ ?_ ?_)
 ·rintro j us H8 x H9 X W Z ⟨l,I⟩ ⟨rfl,hx⟩ O H;let⟨r,q,g1,rfl,g2⟩:=lN h7 (Joj (l _ _ c));let⟨x,y,z,rfl⟩:=L4_3 g1
  match O,H with
  | [w0,w1,w2],_ =>
   refine⟨q,_,rfl,l.tup g2,rfl,_,_,rfl,_,_,rfl,_,_,rfl,rfl,[Je x,Je y,Je z],rfl,rfl,?_⟩;refine⟨_,rfl,_,rfl,_,rfl,_,rfl,lS3,λt ht=>?_⟩;let⟨H9,a,k,R⟩:=Xv ht [.int (-x),.int y,.int z];rw[a];have h9:=k _ _ Z;have kt:=bj.lst (ys:=us++Vz t) h9;refine Jep (by rw[y4];decide) X W h9 ((l.trans k).upd he);rw[bE g1,mAq,mAq];exact((I.keep k.kt (dw _)).keep kt (dw _)).append (JoO (JoN R) [-x,y,z])
 rintro us H8 Y ⟨l,I⟩;rw[y4,show(L4.take 4).map ng=L4.map ng from rfl]at I;have u4:us.length=4:=by rw[←I.length];rfl
 refine Jjb d e _ _ rfl (l _ _ c) Y (Joe _) (λg hg=>?_);let⟨H9,a,k,R⟩:=Xj hg (ys++us);rw[a];have t9:XH H9 (L8.map dR) (ys++us):=by rw[show L8.map dR=L4.map dR++(L4.map ng).map dR from rfl];exact(h7.keep (l.trans k).kt (dw _)).append (I.keep k.kt (dw _))
 let⟨m,hm,em⟩:=EO J;refine⟨_,rfl,_,_,rfl,rfl,JL (by decide),_,_,rfl,rfl,(by show(0:Int)<5;decide),_,_,rfl,rfl,lS2,λi hi=>?_⟩;let⟨Ha,a,sa,na⟩:=Xj hi (Jc9 8 (196+J / 7 % 5));rw[a];refine⟨_,rfl,_,_,rfl,rfl,(by show(0:Int)<2;decide),i,_,_,_,rfl,rfl,SqL.of na,em,_,rfl,lS3,λj X=>?_⟩;let⟨Hb,a,sb,nb⟩:=Xv X [.int 1,.int 2,.int 3];rw[a];refine⟨lS1,λo ho=>?_⟩;let⟨Hc,a,sc,nc⟩:=Xj ho (Vz j);rw[a];have mt:(((8+m:Nat):Int)-8).toNat=m:=by lia
 refine⟨_,rfl,_,_,rfl,rfl,o,_,_,rfl,rfl,nc,by lia,by lia,sz _ (by rw[mt];show 1 * m≤1000;lia),λu hu=>?_⟩;rw[mt];let⟨Hd,a,sd,nd⟩:=Xj hu (Jdf (Vz j)).flatten;rw[a];have B:=((sa.trans sb).trans sc).trans sd;have Q:(Jdf [V.ref j]).flatten.length=m:=by rw[uZ,lS,Nat.mul_one]
 refine Jjb g u _ _ rfl (B _ _ R) nd (sz _ (by rw[lAq,Q];lia)) (λv hv=>?_);let⟨He,a,se,ne⟩:=Xj hv (ys++us++(Jdf (Vz j)).flatten);rw[a];have A:=B.trans se;have F:=(l.trans k).trans A;have te:XH He ((LM m).map dR) (ys++us++(Jdf (Vz j)).flatten):=by rw[LM,mAq,List.map_replicate];exact(t9.keep A.kt (dw _)).append (ub (JdI ((sc.trans sd).trans se _ _ nb) [1,2,3]) m)
 have gr:GrP K He nm v zs (LM m):=⟨F _ _ hn,N,JnP ne te,yt hm (by decide) (by decide),λr M=>Nat.le_of_eq (lX r (oO M)).1,by rw[jG];lia⟩;exact⟨_,rfl,_,rfl,nm,v,zs,_,rfl,gr,λHf p tl al Q sf _ fa Pf=>q8 _ Hf nm v p tl al Q zs m J S _ _ ⟨gr.same sf,Pf,bV (F _ _ hn) fa,hm⟩ Q0⟩
def ER (F:V4 "_law_refusals" "_law_refusals" eL)(T:JcR C)(G:RfG P w K mg base C fF fT fG dF dT' dG)(c:Ji5 fC dC (Ja5 "_law_k") (iD K))(R:Jk2 fM dM (Jdb "_law_k") kj)
  (O:JgD 3 "_law_names" fN dN ["_law_cell"] oy):JeF 14 ["_law_script"] (iF K):=by
 refine F.ok dy (λvs H Q E h=>?_) (λcdv Ar outer s H vs Q E Z h=>?_)
 ·let⟨a,ns,rfl,_⟩:=h;rfl
 let⟨a,ns,rfl,ha,nl,Q0⟩:=h;have n:=Jcl (j:=1);have Y:=Jcl (j:=3);let⟨_,z4,q4⟩:=ref4 T G (cdv:=cdv) (outer:=outer) (H00:=H) Z;refine JN (JfB (i:=1) dy.nd (JfA O.ok Y O.m O.kp O.b (Qc (Jms n 0 af))) (i:=2) dy.nd (Jms n 0 af) (pss_sw (Qn (i:=3) dy.nd (JfA R.ok n R.m R.kp R.b (XB (Jms n 0 af) af))) (EM (EN (i:=4) (N':=["_law_a","_law_b","_law_c"]) (ix:=[]) dy.nd rfl (Or.inl rfl) rfl rfl (by decide +kernel) (by decide +kernel) (λ_=>JmW []) rfl (λj i h=>by simp at h) (piw4 (le4 (te3 iX iX iX) (te3 iX iX ie_n) (te3 iX ie_n iX) (te3 iX ie_n ie_n))) (λ_ _ _ _=>(vD 3 K rfl rfl (Jbs (i:=0) (show(["_law_a","_law_b","_law_c"]:List Str).Nodup by decide +kernel) (JdE (i:=1) (show(["_law_a","_law_b","_law_c"]:List Str).Nodup by decide +kernel) (i:=2) (show(["_law_a","_law_b","_law_c"]:List Str).Nodup by decide +kernel) gf)))) (λ_ _ _ _=>(bQ (Qa 0 (V6 1 2))))) z4)))
 rfl'
 rfl'
 have g:∀ {H':Hp} {Q':VK} {k:Int},Xg H→0≤k→(∀i,Q' (.int i) H')→iD K _ H' Q' E0:=λs' k0 k=>JcX a ns _ (s'.seq ha) nl k0 k;refine QI (g (ap.refl H) (by decide) λc0=>Qd c0 (λH1 nm zs W nn hn N=>QI (g W (by decide) λce=>QI (g W (by decide) λc2=>Jv c2 _ (λmo=>?_)))));refine⟨lS3,λJ hl1=>?_⟩;let⟨H2,e,s2,n2⟩:=Xv hl1 [.int 1,.int 2,.int 3];rw[e];refine⟨lS3,λI hl2=>?_⟩;let⟨H3,e,s3,n3⟩:=Xv hl2 [.int 1,.int 2,.int (-3)];rw[e];refine⟨lS3,λD hl3=>?_⟩;let⟨H4,e,s4,n4⟩:=Xv hl3 [.int 1,.int (-2),.int 3];rw[e];refine⟨lS3,λB hl4=>?_⟩;let⟨H5,e,s5,n5⟩:=Xv hl4 [.int 1,.int (-2),.int (-3)];rw[e];refine⟨lS4,λl hl=>?_⟩;let⟨H6,e,s6,X⟩:=Xj hl [.ref J,.ref I,.ref D,.ref B];rw[e];have u:=s5.trans s6;have v:=s4.trans u;have o:=s3.trans v;have t6:XH H6 (L4.map dR) _:=Qp (JdI (o _ _ n2) [1,2,3]) (JdI (v _ _ n3) [1,2,-3]) (JeU (JdI (u _ _ n4) [1,-2,3]) (JdI (s6 _ _ n5) [1,-2,-3]));refine JoQ l _ X (λd hd=>vC (cU) (λi ys H'=>JmO H6 (XH H' ((L4.take i).map dR) ys)) (λi ys H' h=>SqL.of (h.1 _ _ X)) ⟨Jdg hd,ar.nil⟩ ?_ ?_)
 ·rintro j ys H7 x H8 hj hly hDs ⟨p,M⟩ ⟨rfl,hx⟩ S A;let⟨r,q,g1,rfl,g2⟩:=lN t6 (Joj (p _ _ X));let⟨x,y,z,rfl⟩:=L4_3 g1
  match S,A with
  | [w0,w1,w2],_ =>
   refine⟨q,_,rfl,p.tup g2,rfl,_,_,rfl,_,_,rfl,_,_,rfl,rfl,[Je x,Je y,Je z],rfl,rfl,?_⟩;refine JnD _ _ _ rfl lS3 (λt ht=>?_);let⟨H9,e,U,n9⟩:=Xv ht [.int x,.int y,.int z];rw[e];have h9:=U _ _ hDs;have kt:=bj.lst (ys:=ys++Vz t) h9;refine JoU (sz _ (by show Q3 4;decide)) hj h9 ((p.trans U).upd hd);rw[bE g1,mAq];exact((M.keep U.kt (dw _)).keep kt (dw _)).append (JoO (JoN n9) [x,y,z])
 rintro ys H7 hd7 ⟨p,M⟩;rw[show L4.take [V.ref J,V.ref I,V.ref D,V.ref B].length=L4 from rfl]at M;exact q4 _ H7 nm d zs ys ce mo _ (((s2.trans o).trans p) _ _ hn) N hd7 M Q0
def sc_law:Vj ["_law_script"] ["_law_script"] rE:=fsc
def ok_law (F:V4 "law" "law" rE)(i:Ji5 fC dC (Ja5 "_law_k") (iD K))(e:JgD 14 "_law_refusals" fR dR' ["_law_script"] (iF K))(g:JgD 13 "_law_plain" fP dP' ["_law_script"] (iF K)):JeF 15 ["_law_script"] (iF K):=by
 refine F.ok sc_law (λvs H Q E h=>?_) (λcdv Ar outer s H vs Q E n h=>?_)
 ·let⟨a,ns,rfl⟩:=h;rfl
 let⟨a,ns,rfl,o,k,p⟩:=h;have l:=JkI (j:=1);have d:=JkI (j:=13);refine JN (Jdd (be (Jhy bZ (JiW (Jc4 i.ok l i.m i.kp i.b 0 af))) (Qi (Jgl e.ok n e.m e.kp e.b 0))
   aU) (Jgl g.ok d g.m g.kp g.b 0))
 rfl'
 rfl'
 exact QI (JcX a ns _ o k (by decide) (λc=>Jhs _ _ rfl rfl (by show(0:Int)<3;decide) _ rfl (bo (λ_=>⟨_,rfl,a,ns,rfl,o,k,p⟩) (λ_=>⟨_,rfl,a,ns,rfl,o,k,p⟩))))
end
def ud (h:JaN K D (.type "ValueError") true):Jo1 K (.ref D)=some true:=by unfold W.kitOne at h;rw[if_neg (show ¬Vq (Value.ref D == Value.type "ValueError") from by intro z;cases z)]at h;exact h
def oP {R:Nat→Prop}(h0:R 0)(d:R 1)(b:R 2):∀c∈zb0,R c:=λc a=>by
 simp only[zb0,List.mem_cons,List.not_mem_nil,or_false]at a;rcases a with rfl | rfl | rfl
 ·exact h0
 ·exact d
 ·exact b
def ue {R:Nat→Prop}(h0:R 0)(e:R 1)(c:R 2)(b:R 3)(a:R 4):∀d,d<5→R d
 | 0,_=>h0
 | 1,_=>e
 | 2,_=>c
 | 3,_=>b
 | 4,_=>a
 | n+5,z=>VR (by lia)
def all_mk {l:W.OpenLaw}{K:W.Frag}{h:Heap}{fa aK C y z p C3 C4 CE CG g S fs es fa' ea ff ef:Addr}(X:K.In h)(G:Jh3 mg)(hfa:mg "law"=Ja fa){slK:Array (Option Value)}{t1 t2 t3 t4 t5 t6 t7 ts ta tf u1 u2 u3 u4 u5 u6 u7 u8:Tok}{nK:Nat}{ds da df:FuncData}{cd0 cd1 cd2:ClassData}
  (aC:JnF "Problem" C)(aP:JnF "BadPart" y)(aM:JnF "TooMany" z)(aL:JnF "TooLong" p)(a3:JnF "NoChoice" C3)(a4:JnF "HasChoice" C4)(aE:JnF "ChoiceError" CE)(aG:JnF "Groups" CG)(aH:JnF "Hunt" g)(aD:JnF "Choice" S)(y1:V_a "is_word" qw f1 d1)(y2:V_a "is_name" qx f2 d2)(y3:V_a "ask_name" qy f3 d3)(y4:V_a "once_each" qz f4 d4)(y5:V_a "place_of" qA f5 d5)(y6:V_a "given_links" qt f6 d6)(y7:V_a "alike_links" nj f7 d7)(y8:V_a "links" qu f8 d8)(y9:V_a "groups_of" qv f9 d9)(Z9:V_a "heads" nq f10 d10)(Z8:V_a "sameness" qI f11 d11)(Z7:V_a "held_same" ny f12 d12)(Z6:V_a "same_links" nC f13 d13)(Z5:V_a "clashing_atom" qJ f14 d14)(Z4:V_a "clash" qK f15 d15)(Z3:V_a "sign_of" nD f16 d16)(Z2:V_a "chosen" qL f17 d17)(Z1:V_a "levels" s_levels f18 d18)(Z0:V_a "part_levels" s_part_levels f19 d19)(ZZ:V_a "is_replaced" s_is_replaced f20 d20)(ZY:V_a "learnt" s_learnt f21 d21)(ZX:V_a "part_of" nF f22 d22)(ZW:V_a "not_failing" nu f23 d23)(ZV:V_a "is_learnt" qH f24 d24)(ZU:V_a "is_number" qO f25 d25)(ZT:V_a "are_parts" qP f26 d26)(ZS:V_a "are_numbers" qR f27 d27)(ZR:FT K "is_right_papers" "is_right" qS f28 d28)(ZQ:V_a "fault" qT f29 d29)(ZP:V_a "lets_by" qU f30 d30)(t:V_a "_law_cell_at" qW f31 d31)(r:V_a "_law_mixed" qX f32 d32)(ZO:V_a "_law_word" qZ f33 d33)(ZN:V_a "_law_names" nH f34 d34)(ZM:V_a "_law_terms" q_ f35 d35)(ZL:V_a "_law_things" ra f36 d36)(ZK:V_a "_law_parts" rb f37 d37)(J:V_a "_law_problem" rf f38 d38)(ZJ:V_a "_law_values" nI f39 d39)(ZI:V_a "_law_holds" ri f40 d40)(ZH:V_a "_law_against" kX f41 d41)(ZG:V_a "_law_due" rj f42 d42)(ZF:V_a "_law_right" rk f43 d43)(ZE:V_a "_law_asked_word" rn f44 d44)(ZD:V_a "_law_due_word" rz f45 d45)(ZC:V_a "_law_plain" fX f46 d46)(ZB:V_a "_law_kind" rA f47 d47)(ZA:V_a "_law_follows" rB f48 d48)(Zz:V_a "_law_great" rC f49 d49)(Zy:V_a "_law_then_good" rD f50 d50)(Zx:V_a "_law_refusals" eL f51 d51)(Zw:V_a "law" rE f52 d52)(Zv:FM K C "__init__" "Problem.__init__" qB f53 d53)(Zu:FM K C "ask_term" "Problem.ask_term" qC f54 d54)(Zt:FM K C "ask_part" "Problem.ask_part" qD f55 d55)(Zs:FM K C "add_term" "Problem.add_term" sAdd f56 d56)(Zr:FM K C "add_plain" "Problem.add_plain" qG f57 d57)(Zq:FM K C "add_row" "Problem.add_row" sRow f58 d58)(Zp:FM K CG "__init__" "Groups.__init__" wH f59 d59)(Zo:FM K CG "head" "Groups.head" wI f60 d60)(Zn:FM K CG "together" "Groups.together" wJ f61 d61)(Zm:FM K S "__init__" "Choice.__init__" wK f62 d62)(Zl:FM K g "__init__" "Hunt.__init__" wL f63 d63)(Zk:FM K g "hold" "Hunt.hold" wM f64 d64)(Zj:FM K g "watch" "Hunt.watch" wN f65 d65)(Zi:FM K g "begin" "Hunt.begin" wO f66 d66)(Zh:FM K g "finds" "Hunt.finds" wQ f67 d67)(Zg:FM K g "look_at" "Hunt.look_at" wR f68 d68)(Zf:FM K g "grow" "Hunt.grow" wU f69 d69)(Ze:FM K g "put" "Hunt.put" wV f70 d70)(Zd:FM K g "cut" "Hunt.cut" wW f71 d71)(Zc:FM K g "learn" "Hunt.learn" wX f72 d72)(Zb:FM K g "choose" "Hunt.choose" wY f73 d73)(Za:FM K g "held_parts" "Hunt.held_parts" wZ f74 d74)(s1:JgV K "SMALL_LETTERS" (.str abc t1))(s2:JlU K "LONGEST_NAME" 8 t2)(s3:JlU K "MOST_TERM_PARTS" 3 t3)(s4:JlU K "MOST_TERMS" 60 t4)(s5:JlU K "MOST_ATOMS" 40 t5)(s6:JlU K "MOST_ROW_PARTS" 20 t6)(s7:JlU K "MOST_ROWS" 200 t7)(s8:JnF "KEPT_WORDS" aK)(s9:Jg7 aK (.type "tuple") none (.seq #[.str "or" u1,.str "and" u2,.str "not" u3,.str "never" u4,.str "always" u5,.str "then" u6,.str "as" u7,.str "unlike" u8] nK) slK)(B:Jir "len")(Y9:Jir "all")(o:Jir "range")(b:Jir "isinstance")(Y8:Jir "bool")(f:Jir "tuple")(U:Jir "abs")(n:Jir "reversed")(j:Jir "enumerate")(Y7:Jir "sorted")(A:Jir "list")(Y6:Jir "zip")(Y5:Jir "dict")(Y4:Jir "any")(Y3:Jir "max")(Y2:Jir "min")(Y1:Jir "int")(Y0:Jir "str")(q:Jir "ValueError")(YZ:Jop K "int" "bool")(YY:Jop K "tuple" "list")(YX:Vq (JfR K C))(YW:Jio K C)(YV:Jip K C)(YU:Ji2 K C "object.__setattr__")(YT:Jj1 K C)(YS:Joo C)(YR:Vq (JfR K CG))(YQ:Jio K CG)(YP:Jip K CG)(YO:Ji2 K CG "object.__setattr__")(YN:Jj1 K CG)(YM:Joo CG)(YL:Vq (JfR K S))(YK:Jio K S)(YJ:Jip K S)(YI:Ji2 K S "object.__setattr__")(YH:Jj1 K S)(YG:Joo S)(YF:Vq (JfR K g))(YE:Jio K g)(YD:Jip K g)(YC:Ji2 K g "object.__setattr__")(YB:Jj1 K g)(YA:Joo g)(Yz:Jic C "terms")(Yy:Jic C "atoms")(Yx:Jic C "rows")(Yw:Jic CG "least")(x:Jic CG "gathered")(Yv:Jic S "plain")(Q:Jic S "tables")(E:Jic g "problem")(Yu:Jic g "most")(Yt:Jic g "known")(Z:Jic g "paper")(Y:Jic g "trail")(Ys:Jic g "held")(L:Jic g "looked")(O:Jic g "begins")(D:Jic g "watched")(u:Jic g "watching")(Yr:Jic g "order")(N:Jic g "lately")(xP:Jei K y bmV "ValueError.__new__")(xM:Jei K z bmV "ValueError.__new__")(xL:Jei K p bmV "ValueError.__new__")(oe:JfC K S "__eq__" "object.__eq__")(on:JfC K S "__ne__" "object.__ne__")(os:JaW (W.subIn K (.ref S) (.type "object")))(Yq:Xa (W.clsIn K y) cd0)(Yp:Jj9 K y "BaseException.__getattribute__")(Yo:JlW y)(Yn:JfC K y "__class__" "object.__class__")(Ym:JaW (JeD K y "object"))(Yl:JaW (Jlk K y))(Yk:Xa (W.clsIn K z) cd1)(Yj:Jj9 K z "BaseException.__getattribute__")(Yi:JlW z)(Yh:JfC K z "__class__" "object.__class__")(Yg:JaW (JeD K z "object"))(Yf:JaW (Jlk K z))(Ye:Xa (W.clsIn K p) cd2)(Yd:Jj9 K p "BaseException.__getattribute__")(Yc:JlW p)(Yb:JfC K p "__class__" "object.__class__")(Ya:JaW (JeD K p "object"))(X9:JaW (Jlk K p))(q5:Jbl (W.specialIn K (.builtin "object.__class__") "__get__") "getset_descriptor.__get__")(q6:JaW (W.takesIn K (.builtin "object.__class__")))(X8:Ja2 K y y true)(X7:Jd5 K y z)(X6:Jd5 K y p)(X5:Jd5 K y C3)(X4:Jd5 K y C4)(X3:Jd5 K z y)(X2:Ja2 K z z true)(X1:Jd5 K z p)(X0:Jd5 K z C3)(XZ:Jd5 K z C4)(XY:Jd5 K p y)(XW:Jd5 K p z)(XV:Ja2 K p p true)(XU:Jd5 K p C3)(XT:Jd5 K p C4)(XS:JaN K y (.type "ValueError") true)(XR:JaN K z (.type "ValueError") true)(XQ:JaN K p (.type "ValueError") true)(XP:JjM K y CE)(XO:JjM K z CE)(XN:JjM K p CE)(XM:JjM K p p)(ys:FD K "search" jZ fs es ds ts)(ya:FD K "answer" qM fa' ea da ta)(yf:FD K "follows" qV ff ef df tf)
  : ∃fd:FuncData,(∀(s:Shared) (v:Value),Jj_ s fd [v] [("_law_script",v)])∧∀base:Heap,K.In base→Jdt mg→aS l.prog w K mg base CX0 15 fa fd ["_law_script"] (iF K):=by have gn:=λ{x:Str} (e:Jir x)=>W.mg_none_of X G e;have gm:=λ{x:Str}{v:Value} (e:JgV K x v)=>W.mg_of X G e;have e:=hfa.symm.trans (Zw.m X G);cases e;obtain⟨I,rfl,rfl,rfl,rfl,rfl⟩:∃I:Nat→Addr,y=I 0∧z=I 1∧p=I 2∧C3=I 3∧C4=I 4:=JdD (λi=>[y,z,p,C3,C4].getD i 0) rfl rfl rfl;have T:Jcn K C (I 0) (I 1):=⟨JnC s1,JnC s2,JnC s3,JnC s4,JnC s5,JnC s6,JnC s7,gm s8,λH=>.inr ⟨_,_,_,s9,rfl,rfl,(by show Vi 8;decide),Qp (Vf _) (Vf _) (Qp (Vf _) (Vf _) (Qp (Vf _) (Vf _) (JeU (Vf _) (Vf _))))⟩,gn B,gn Y9,gn o,gn b,gn Y8,gn f,gn U,gm aP,gm aM,xP,xM,⟨YX,YW,YV,YU⟩,Yz,Yy,Yx⟩;have R:Jfg K (I 2):=⟨gn B,gn n,gn U,gn j,gn Y7,gn f,gn A,gn o,gm aL,xL⟩;have TG:TxG K CG:=⟨⟨YR,YQ,YP,YO⟩,Yw,x⟩;have TC:TxC K mg S:=⟨⟨YL,YK,YJ,YI⟩,Yv,Q,gn Y6⟩;have TH:JkF g:=⟨⟨YF,YE,YD,YC⟩,E,Yu,Yt,Z,Y,Ys,L,O,D,u,Yr,N⟩;have TE:Le98.Txt K mg:=⟨gn B,gn Y5,gn o,gn f,gn A,gn Y4,gn Y6,gn n,gn Y3,gn b,gn Y1,gn Y8,gn U,YZ⟩;have TL:TxL K mg:=⟨gn B,gn Y2,gn Y3,gn Y5⟩;have TP:TxP K mg:=⟨gn Y1,gn Y0,gn A,gn j,YZ⟩;have u1:∀c∈zb0,XcK K (I c):=oP ⟨by rw[Yq];rfl,Yp,Yo,Yn,q5,q6,Ym,Yl⟩ ⟨by rw[Yk];rfl,Yj,Yi,Yh,q5,q6,Yg,Yf⟩ ⟨by rw[Ye];rfl,Yd,Yc,Yb,q5,q6,Ya,X9⟩;have u2:∀c∈zb0,∀d,d<5→W.kitOne K (.ref (I c)) (.ref (I d))=some (decide (c=d)):=oP (ue X8 X7 X6 X5 X4) (ue X3 X2 X1 X0 XZ) (ue XY XW XV XU XT);have u3:∀c∈zb0,Jo1 K (.ref (I c))=some true:=oP (ud XS) (ud XR) (ud XQ);have u4:∀c∈zb0,Jek K (I c) CE=some true:=oP XP XO XN;have XX:XF K mg I CE:=⟨gn b,gn q,gm aP,gm aM,gm aL,gm a3,gm a4,gm aE,u1,u2,u3,u4⟩;have bs:Jiq ds "most":=bindD ys λ_ _ _ _ _ _ _ _=>QI rfl;have ba:Jiq da "most":=bindD ya λ_ _ _ _ _ _ _ _=>QI rfl;have bf:Jw df (Jex "most"):=bindD3 yf λ_ _ _ _ _ _ _ _ _=>QI rfl;have bg:aw K df (Jex "most") [JdY tf]:=bindD2 yf λ_ _ _ _ _ _ _ _=>QI rfl;have b1:Jnw d1 "text":=y1.F.b1 λ_ _ _ _ _ _ _=>rfl;have b2:Jnw d2 "word":=y2.F.b1 λ_ _ _ _ _ _ _=>rfl;have b3:Jnw d3 "word":=y3.F.b1 λ_ _ _ _ _ _ _=>rfl;have b4:Jnw d4 "parts":=y4.F.b1 λ_ _ _ _ _ _ _=>rfl;have b5:Jw d5 ["thing","things","most"]:=y5.F.b3 λ_ _ _ _ _ _ _ _ _=>rfl;have b6:Jw d6 (JjZ "given"):=y6.F.b2 λ_ _ _ _ _ _ _ _=>rfl;have b7:Jw d7 (JjZ "terms"):=y7.F.b2 λ_ _ _ _ _ _ _ _=>rfl;have b8:Jw d8 ["terms","given"]:=y8.F.b2 λ_ _ _ _ _ _ _ _=>rfl;have b9:Jnw d9 "links":=y9.F.b1 λ_ _ _ _ _ _ _=>rfl;have b10:Jw d10 ["many","links"]:=Z9.F.b2 λ_ _ _ _ _ _ _ _=>rfl;have b11:Jiq d11 "number":=Z8.F.b2 λ_ _ _ _ _ _ _ _=>rfl;have b12:Jiq d12 "held":=Z7.F.b2 λ_ _ _ _ _ _ _ _=>rfl;have b13:Jiq d13 "held":=Z6.F.b2 λ_ _ _ _ _ _ _ _=>rfl;have b14:Jw d14 (Jol "held"):=Z5.F.b3 λ_ _ _ _ _ _ _ _ _=>rfl;have b15:Jiq d15 "held":=Z4.F.b2 λ_ _ _ _ _ _ _ _=>rfl;have b16:Jw d16 ["term","values"]:=Z3.F.b2 λ_ _ _ _ _ _ _ _=>rfl;have b17:Jiq d17 "held":=Z2.F.b2 λ_ _ _ _ _ _ _ _=>rfl;have b18:Jnw d18 "trail":=Z1.F.b1 λ_ _ _ _ _ _ _=>rfl;have b19:Jnw d19 "trail":=Z0.F.b1 λ_ _ _ _ _ _ _=>rfl;have b20:Jw d20 (JoM "why"):=ZZ.F.b5 λ_ _ _ _ _ _ _ _ _ _ _=>rfl;have b21:Jw d21 ["rows","trail","fails"]:=ZY.F.b3 λ_ _ _ _ _ _ _ _ _=>rfl;have b22:Jiq d22 "numbers":=ZX.F.b2 λ_ _ _ _ _ _ _ _=>rfl;have b23:Jw d23 ["row","held"]:=ZW.F.b2 λ_ _ _ _ _ _ _ _=>rfl;have b24:Jw d24 ["rows","parts","hints"]:=ZV.F.b3 λ_ _ _ _ _ _ _ _ _=>rfl;have b25:Jnw d25 "thing":=ZU.F.b1 λ_ _ _ _ _ _ _=>rfl;have b26:Jiq d26 "parts":=ZT.F.b2 λ_ _ _ _ _ _ _ _=>rfl;have b27:Jnw d27 "things":=ZS.F.b1 λ_ _ _ _ _ _ _=>rfl;have b28:Jw d28 (JlN "line"):=ZR.F.b3 λ_ _ _ _ _ _ _ _ _=>rfl;have b29:Jiq d29 "paper":=ZQ.F.b2 λ_ _ _ _ _ _ _ _=>rfl;have b30:Jiq d30 "paper":=ZP.F.b2 λ_ _ _ _ _ _ _ _=>rfl;have b31:Jw d31 (Ja5 "_law_k"):=t.F.b2 λ_ _ _ _ _ _ _ _=>rfl;have b32:Jw d32 (Jdb "_law_k"):=r.F.b2 λ_ _ _ _ _ _ _ _=>rfl;have b33:Jw d33 (Jdb "_law_size"):=ZO.F.b2 λ_ _ _ _ _ _ _ _=>rfl;have b34:Jnw d34 "_law_cell":=ZN.F.b1 λ_ _ _ _ _ _ _=>rfl;have b35:Jw d35 (Jbx "_law_many"):=ZM.F.b2 λ_ _ _ _ _ _ _ _=>rfl;have b36:Jw d36 (Ja5 "_law_plain_alone"):=ZL.F.b2 λ_ _ _ _ _ _ _ _=>rfl;have b37:Jw d37 (JlD "_law_many"):=ZK.F.b3 λ_ _ _ _ _ _ _ _ _=>rfl;have b38:Jw d38 (Jae "_law_more"):=J.F.b2 λ_ _ _ _ _ _ _ _=>rfl;have b39:Jw d39 (Jjd "_law_tables"):=ZJ.F.b2 λ_ _ _ _ _ _ _ _=>rfl;have b40:Jw d40 (Jeq "_law_part"):=ZI.F.b4 λ_ _ _ _ _ _ _ _ _ _=>rfl;have b41:Jw d41 (JcE "_law_tables"):=ZH.F.b4 λ_ _ _ _ _ _ _ _ _ _=>rfl;have b42:Jw d42 (Jae "_law_parts_here"):=ZG.F.b2 λ_ _ _ _ _ _ _ _=>rfl;have b43:Jw d43 (Jfz "_law_found"):=ZF.F.b3 λ_ _ _ _ _ _ _ _ _=>rfl;have b44:Jw d44 (VG "_law_most"):=ZE.F.b3 λ_ _ _ _ _ _ _ _ _=>rfl;have b45:Jw d45 (JcC "_law_most"):=ZD.F.b3 λ_ _ _ _ _ _ _ _ _=>rfl;have b46:Jnw d46 "_law_script":=ZC.F.b1 λ_ _ _ _ _ _ _=>rfl;have b47:Jnw d47 "_law_e":=ZB.F.b1 λ_ _ _ _ _ _ _=>rfl;have b48:Jw d48 (VG "_law_most"):=ZA.F.b3 λ_ _ _ _ _ _ _ _ _=>rfl;have b49:Jw d49 (Jbx "_law_rows"):=Zz.F.b2 λ_ _ _ _ _ _ _ _=>rfl;have b50:Jw d50 (Jdq "_law_due_here"):=Zy.F.b4 λ_ _ _ _ _ _ _ _ _ _=>rfl;have b51:Jnw d51 "_law_script":=Zx.F.b1 λ_ _ _ _ _ _ _=>rfl;have b53:Jnx d53:=Zv.F.b1 λ_ _ _ _ _ _ _=>rfl;have b54:Ja9 d54 "number":=Zu.F.b2 λ_ _ _ _ _ _ _ _=>rfl;have b55:JlM d55:=Zt.F.b2 λ_ _ _ _ _ _ _ _=>rfl;have b56:Jw d56 (Jj4 "name"):=Zs.F.b3 λ_ _ _ _ _ _ _ _ _=>rfl;have b57:Ja9 d57 "name":=Zr.F.b2 λ_ _ _ _ _ _ _ _=>rfl;have b58:Jok d58:=Zq.F.b2 λ_ _ _ _ _ _ _ _=>rfl;have b59:Jnx d59:=Zp.F.b1 λ_ _ _ _ _ _ _=>rfl;have b60:Ja9 d60 "term":=Zo.F.b2 λ_ _ _ _ _ _ _ _=>rfl;have b61:Jw d61 (Jb3 "one"):=Zn.F.b3 λ_ _ _ _ _ _ _ _ _=>rfl;have b62:Jw d62 (JgG "plain"):=Zm.F.b3 λ_ _ _ _ _ _ _ _ _=>rfl;have b63:Jw d63 (Jfq "most"):=Zl.F.b3 λ_ _ _ _ _ _ _ _ _=>rfl;have b64:JoS d64:=Zk.F.b3 λ_ _ _ _ _ _ _ _ _=>rfl;have b65:Jw d65 ["self","number","one","other"]:=Zj.F.b4 λ_ _ _ _ _ _ _ _ _ _=>rfl;have b66:Jnx d66:=Zi.F.b1 λ_ _ _ _ _ _ _=>rfl;have b67:Jw d67 (Jb3 "number"):=Zh.F.b3 λ_ _ _ _ _ _ _ _ _=>rfl;have b68:JlM d68:=Zg.F.b2 λ_ _ _ _ _ _ _ _=>rfl;have b69:Jnx d69:=Zf.F.b1 λ_ _ _ _ _ _ _=>rfl;have b70:Ja9 d70 "line":=Ze.F.b2 λ_ _ _ _ _ _ _ _=>rfl;have b71:Ja9 d71 "level":=Zd.F.b2 λ_ _ _ _ _ _ _ _=>rfl;have b72:Ja9 d72 "fails":=Zc.F.b2 λ_ _ _ _ _ _ _ _=>rfl;have b73:Jnx d73:=Zb.F.b1 λ_ _ _ _ _ _ _=>rfl;have b74:Jnx d74:=Za.F.b1 λ_ _ _ _ _ _ _=>rfl;refine JnP (Zw.F.top λ_ _ _ _ _ _ _=>rfl) (λbase _ _=>?_);have MKI:Mk K C f53:=⟨YT,Zv.a,Zv.i,YS⟩;have MKG:Mk K CG f59:=⟨YN,Zp.a,Zp.i,YM⟩;have MKC:Mk K S f62:=⟨YH,Zm.a,Zm.i,YG⟩;have MKH:Mk K g f63:=⟨YB,Zl.a,Zl.i,YA⟩;have G1:=Bl (P:=l.prog) (w:=w) (base:=base) y1.F T;have G2:=Bm y2.F T G1 b1 y1.k (y1.m X G);have G3:=Bo y3.F ⟨G2,b2,y2.k,y2.m X G⟩;have G4:=BJ (P:=l.prog) (w:=w) (base:=base) y4.F T;have G5:=Bp (P:=l.prog) (w:=w) (base:=base) y5.F T;have G53:=Bq (P:=l.prog) (w:=w) (base:=base) Zv.F T;have G54:=Br (P:=l.prog) (w:=w) (base:=base) Zu.F T;have G55:=Bv (P:=l.prog) (w:=w) (base:=base) Zt.F T;have G56:=ok_add Zs.F T ⟨G3,b3,y3.k,y3.m X G⟩ G54 b54 Zu.M ⟨G5,b5,y5.k,y5.m X G⟩;have G57:=By Zr.F T ⟨G3,b3,y3.k,y3.m X G⟩ ⟨G5,b5,y5.k,y5.m X G⟩;have G58:=ok_row Zq.F T G55 b55 Zt.M ⟨G4,b4,y4.k,y4.m X G⟩;have G59:=Co (P:=l.prog) (w:=w) (base:=base) (mg:=mg) Zp.F TG;have G60:=Cq (P:=l.prog) (w:=w) (base:=base) (mg:=mg) Zo.F TG;have G61:=Cs Zn.F TG Zo.M G60 b60;have G6:=Ct (P:=l.prog) (w:=w) (base:=base) y6.F R;have G7:=Cv y7.F R TG (gn f) Zo.M G60 b60 Zn.M G61 b61;have G8:=Cw y8.F R MKG G59 b59 (gm aG) ⟨G6,b6,y6.k,y6.m X G⟩ ⟨G7,b7,y7.k,y7.m X G⟩;have G9:=ok_gof y9.F MKG G59 b59 (gm aG);have G10:=Cy Z9.F R TG ⟨G9,b9,y9.k,y9.m X G⟩ Zo.M G60 b60;have G11:=Cz (P:=l.prog) (w:=w) (base:=base) Z8.F T;have G12:=CD Z7.F ⟨G11,b11,Z8.k,Z8.m X G⟩;have G13:=CH Z6.F T ⟨G8,b8,y8.k,y8.m X G⟩ ⟨G12,b12,Z7.k,Z7.m X G⟩;have G14:=CI Z5.F T R ⟨G10,b10,Z9.k,Z9.m X G⟩ ⟨G11,b11,Z8.k,Z8.m X G⟩;have G15:=CJ Z4.F ⟨G13,b13,Z6.k,Z6.m X G⟩ ⟨G14,b14,Z5.k,Z5.m X G⟩;have G18:=Le98.ok_levels (P:=l.prog) (w:=w) (base:=base) (mg:=mg) Z1.F;have G19:=Le98.ok_part_levels Z0.F TE ⟨G18,b18,Z1.k,Z1.m X G⟩;have G20:=Le98.ok_is_replaced (P:=l.prog) (w:=w) (base:=base) ZZ.F TE;have G21:=Le98.ok_learnt ZY.F TE ⟨G19,b19,Z0.k,Z0.m X G⟩ ⟨G20,b20,ZZ.k,ZZ.m X G⟩;have G64:=B2 (P:=l.prog) (w:=w) (base:=base) (mg:=mg) Zk.F TH;have G65:=B4 (P:=l.prog) (w:=w) (base:=base) (mg:=mg) Zj.F TH;have G67:=B6 (P:=l.prog) (w:=w) (base:=base) (mg:=mg) Zh.F TH;have G68:=B7 Zg.F TH Zh.M G67 b67 Zk.M G64 b64;have G70:=ok_put Ze.F TH R Zj.M G65 b65;have G71:=ok_cut (P:=l.prog) (w:=w) (base:=base) Zd.F TH R;have G73:=Ca Zb.F TH R Zk.M G64 b64;have G74:=Cc (P:=l.prog) (w:=w) (base:=base) Za.F TH R;have G72:=Ci Zc.F TH R Zk.M G64 b64 Zd.M G71 b71 Ze.M G70 b70 ⟨G21,b21,ZY.k,ZY.m X G⟩;have G69:=CK Zf.F TH R Zg.M G68 b68 ⟨G15,b15,Z4.k,Z4.m X G⟩;have G66:=CN Zi.F TH R Zj.M G65 b65 Zk.M G64 b64 Zf.M G69 b69;have G63:=CT (P:=l.prog) (w:=w) (base:=base) Zl.F TH R T;have GH:HG l.prog w K mg base g C _ f63 f66 f72 f73 f69 f74 _ _ _ _ _ _:=⟨MKH,G63,b63,gm aH,Zi.M,G66,b66,Zc.M,G72,b72,Zb.M,G73,b73,Zf.M,G69,b69,Za.M,G74,b74⟩;have Gs:=CW (P:=l.prog) (w:=w) (base:=base) ys TH GH;have G62:=C_ (P:=l.prog) (w:=w) (base:=base) Zm.F TC;have G16:=Dd (P:=l.prog) (w:=w) (base:=base) Z3.F (gn f);have G17:=Di Z2.F T R TC MKC G62 b62 (gm aD) ⟨G10,b10,Z9.k,Z9.m X G⟩ ⟨G13,b13,Z6.k,Z6.m X G⟩ ⟨G16,b16,Z3.k,Z3.m X G⟩;have G22:=CY ZX.F T MKI (gm aC) G53 b53;have G23:=Dm ZW.F ⟨G4,b4,y4.k,y4.m X G⟩;have G24:=Dx ZV.F TL ⟨G23,b23,ZW.k,ZW.m X G⟩;have G25:=ok_num (P:=l.prog) (w:=w) (base:=base) ZU.F T TP;have G26:=Dz ZT.F T ⟨G25,b25,ZU.k,ZU.m X G⟩;have G27:=DB ZS.F T ⟨G25,b25,ZU.k,ZU.m X G⟩;have G28:=DD ZR.F T TP ⟨G26,b26,ZT.k,ZT.m X G⟩ ⟨G27,b27,ZS.k,ZS.m X G⟩ ⟨G24,b24,ZV.k,ZV.m X G⟩;have G29:=DE ZQ.F T TP ⟨G28,b28,ZR.k,ZR.m X G⟩;have G30:=DG ZP.F ⟨G29,b29,ZQ.k,ZQ.m X G⟩;have Ga:=DH (P:=l.prog) (w:=w) (base:=base) ya ⟨Gs,bs,ys.k,gm ys.a⟩ ⟨G17,b17,Z2.k,Z2.m X G⟩;have Gf:=DL (P:=l.prog) (w:=w) (base:=base) yf T R Zt.M G55 b55 ⟨G22,b22,ZX.k,ZX.m X G⟩ ⟨G4,b4,y4.k,y4.m X G⟩ Zq.M G58 b58 ⟨Ga,ba,ya.k,gm ya.a⟩;have G31:=Bu (P:=l.prog) (w:=w) (base:=base) t.F T;have G32:=DR (P:=l.prog) (w:=w) (base:=base) (mg:=mg) r.F;have G33:=DS ZO.F T ⟨G32,b32,r.k,(r.m X G)⟩;have G34:=DU ZN.F ⟨G33,b33,ZO.k,ZO.m X G⟩;have G35:=DX (P:=l.prog) (w:=w) (base:=base) (mg:=mg) ZM.F;have G36:=D0 ZL.F T ⟨G31,b31,t.k,(t.m X G)⟩ ⟨G32,b32,r.k,(r.m X G)⟩ ⟨G34,b34,ZN.k,ZN.m X G⟩ ⟨G35,b35,ZM.k,ZM.m X G⟩;have G37:=D4 ZK.F T ⟨G32,b32,r.k,(r.m X G)⟩;have GP:PG l.prog w K mg base C (I 1) f53 f56 f57 f58 _ _ _ _:=⟨MKI,G53,b53,gm aC,Zs.M,G56,b56,Zr.M,G57,b57,Zq.M,G58,b58⟩;have G38:=D9 J.F T GP;have G39:=Ea (P:=l.prog) (w:=w) (base:=base) ZJ.F T;have G40:=Ec (P:=l.prog) (w:=w) (base:=base) ZI.F T;have G41:=Ed ZH.F ⟨G39,b39,ZJ.k,ZJ.m X G⟩ ⟨G40,b40,ZI.k,ZI.m X G⟩;have G42:=ok_due ZG.F T ⟨G41,b41,ZH.k,ZH.m X G⟩;have G43:=Ek ZF.F T TP TC ⟨G42,b42,ZG.k,ZG.m X G⟩ ⟨G41,b41,ZH.k,ZH.m X G⟩ ⟨G38,b38,J.k,(J.m X G)⟩ ⟨G30,b30,ZP.k,ZP.m X G⟩;have G44:=EA ZE.F R TP XM ⟨Gf,bf,yf.k,gm yf.a⟩;have G45:=EB ZD.F R XM ⟨Ga,ba,ya.k,gm ya.a⟩ ⟨G38,b38,J.k,(J.m X G)⟩;have G47:=ED (P:=l.prog) (w:=w) (base:=base) ZB.F XX;have G48:=EE ZA.F XX G47 (ZB.m X G) ZB.k b47 ⟨Gf,bf,yf.k,gm yf.a⟩;have GL:PlG l.prog w K mg base C (I 0) (I 1) (I 2) S f31 ff f43 f44 f45 f58 _ _ _ _ _ _ tf:=⟨⟨G31,b31,t.k,(t.m X G)⟩,⟨Gf,bf,yf.k,gm yf.a⟩,bg,⟨G43,b43,ZF.k,ZF.m X G⟩,⟨G44,b44,ZE.k,ZE.m X G⟩,⟨G45,b45,ZD.k,ZD.m X G⟩,Zq.M,G58,b58,⟨oe,on,os⟩⟩;have G46:=EH ZC.F T TP YY GL ⟨⟨G36,b36,ZL.k,ZL.m X G⟩,⟨G37,b37,ZK.k,ZK.m X G⟩,⟨G38,b38,J.k,(J.m X G)⟩⟩;have G49:=EI Zz.F T GP;have G50:=EK Zy.F T ⟨⟨G44,b44,ZE.k,ZE.m X G⟩,⟨G48,b48,ZA.k,ZA.m X G⟩,Zr.M,G57,b57⟩;have G51:=ER Zx.F T ⟨⟨G48,b48,ZA.k,ZA.m X G⟩,⟨G50,b50,Zy.k,Zy.m X G⟩,⟨G49,b49,Zz.k,Zz.m X G⟩⟩ ⟨G31,b31,t.k,(t.m X G)⟩ ⟨G32,b32,r.k,(r.m X G)⟩ ⟨G34,b34,ZN.k,ZN.m X G⟩;exact ok_law Zw.F ⟨G31,b31,t.k,(t.m X G)⟩ ⟨G51,b51,Zx.k,Zx.m X G⟩ ⟨G46,b46,ZC.k,ZC.m X G⟩
def walk {l:W.OpenLaw}{q:Program}{b:List Str}{t:(Jdr Str)→Heap→Prop}{i:World→Heap→Prop}{d:DefRec}{K:Params→W.Frag}(j:Xa l.most 63)(c:Jn0 [])(p:∀(w:World) (h:Heap),i w h→(K w.params).In h)(F:∀(w:World) (mg:Jdr Str) (g:Addr) (h:Heap),(K w.params).In h→Jh3 mg→mg d.name=Ja g →
   ∃e:FuncData,(∀(s:Shared) (u:Value),Jj_ s e [u] [("_law_script",u)])∧∀base:Heap,(K w.params).In base→Jdt mg→VQ l.prog (K w.params) 15 g e ["_law_script"] (iF (K w.params))) :
  W.WalkO q b t i l.row.toRowW d [] (λf vs=>PySem.call f vs) :=
 L2.walk_of (n:=63) (k:=15) (x:="_law_script") (CX:=λ_=>CX0) (sp:=λw=>iF (K w.params)) j (by decide) c ⟨rfl,by decide,by decide,rfl⟩ p F (λ_ _ a ns o _ r=>⟨a,ns,rfl,r,o,λ_=>rfl⟩) λ_ _ _ _ _ z=>z
end K98
init_quot
open PySem PySem.W PyProof.Rows
set_option maxRecDepth 100000 in
set_option maxHeartbeats 0 in
theorem PySem.Challenge.cw_yesorno_k98_follows_holds : PySem.Challenge.rw_yesorno_k98_follows.Holds := by
 w_on;o_law;k_head;(case hw=>w_witness2)
 k_fill
 refine K98.walk (l:=PySem.Challenge.rw_yesorno_k98_follows) rfl rfl (λw h Y=>W.kIn_of Y) ?F
 case F =>
  intro w mg fa h KX G hmg;apply K98.all_mk KX G hmg
  iterate 10 ·k_is
  iterate 52 ·exact L2.ft_in (by k_is) (by k_is) (by k_is) (by k_is)
  iterate 22 ·exact L2.fm_in (by k_is) (by k_is) (by k_is) (by k_is) (by k_is)
  iterate 28 ·k_is
  iterate 2 ·kit_is
  iterate 43 ·k_is
  iterate 3 ·k_exc
  iterate 23 ·k_is
  iterate 18 ·kit_is
  iterate 4 ·kts_exm
  iterate 3 ·exact K98.fd_in (by k_is) (by k_is) (by k_is) (by k_is) (by k_is)
