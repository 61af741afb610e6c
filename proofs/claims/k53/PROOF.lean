import PyProof.Rows.All
import Wide.All
import OpenK.AllK
import Wide.FinOn
import Lean
import PyProof.EqAt
import PyProof.EqKinds
import PyProof.TupleCall
import PySem.Challenge.RW_yesorno_k53_whole_no
set_option bootstrap.genMatcherCode false
set_option Elab.async false
set_option linter.all false
set_option compiler.extract_closed false
set_option genSizeOf false
set_option genInjectivity false
set_option maxRecDepth 100000
set_option maxHeartbeats 8000000
namespace J
open Lean
def n(k:Name)(a:Array Syntax):Syntax:=.node .none k a
def t(s:String):Syntax:=.atom .none s
def q(s:String)(a:Array Syntax):Syntax:=n (.str `Lean.Parser.Term s) a
def c(a:Array Syntax):Syntax:=n `null (a.foldl (λb x=>if b.isEmpty then #[x] else (b.push (t ",")).push x) #[])
def a(x:Array Syntax):Syntax:=if x.size<2 then x.getD 0 .missing else q "app" #[x[0]!,n `null (x.extract 1 x.size)]
def l(x y:Array Syntax)(s:String):Syntax:=
 let r:=(s.drop 1).toString
 let h:=q "hole" #[t "_"]
 let f:=s.front
 if f=='$' then x[r.toNat!]! else if f=='%' then y[r.toNat!]! else if s=="_" then h else if s=="?_" then q "syntheticHole" #[t "?",h] else if f=='.' then q "dotIdent" #[t ".",mkIdent r.toName] else if f.isDigit then n `num #[t s] else if f=='"' then n `str #[t s] else mkIdent s.toName
def g(s:String)(e:Array Syntax):Syntax:=if s=="⟨" then q "anonymousCtor" #[t s,c e,t "⟩"] else if s=="[" then n `«term[_]» #[t s,c e,t "]"] else if s=="(" then e[0]! else q "namedArgument" #[t "(",mkIdent (s.dropEnd 2).toString.toName,t ":=",e[0]!,t ")"]
def k(x y:Array Syntax):Nat→List String→Array Syntax→Array Syntax→Option (String×Syntax)→Array Syntax×List String
|0,r,_,e,_=>(e,r)
|m+1,r,b,e,p=>
 let z:=e.push (match p with|none=>a b|some (o,w)=>if o=="→" then q "arrow" #[w,t o,a b] else n (.mkSimple ("term_"++o++"_")) #[w,t o,a b])
 match r with
 |[]=>(z,[])
 |v::r=>if [")","⟩","]"].contains v then (z,r) else if v=="," then k x y m r #[] z none else if ["(","⟨","["].contains v then
   let (s2,r):=match v,r with|"(",q::r'=>if q.endsWith ":=" then (q,r') else (v,r)|_,_=>(v,r)
   let (u,r):=k x y m r #[] #[] none
   k x y m r (b.push (g s2 u)) e p
  else if ["=","≠","≤","<","∈","∉","∧","∨","→","+","++","::","-","×"].contains v then k x y m r #[] e (some (v,a b)) else k x y m r (b.push (l x y v)) e p
def w(s:String):List String:=((s.foldl (λ(b:List String×String) d=>if "()⟨⟩[], ".contains d then (if d==' ' then (if b.2=="" then b.1 else b.2::b.1,"") else (d.toString::(if b.2=="" then b.1 else b.2::b.1),"")) else (b.1,b.2.push d)) ([],"")) |>(λb=>if b.2=="" then b.1 else b.2::b.1)).reverse
def u(s:String)(a:Array Syntax):Syntax:=n (`Lean.Parser.Tactic++s.toName) a
def p:Nat→Syntax→Syntax
|0,s=>s
|m+1,s=>if s.isIdent then u "rcasesPat.one" #[s] else if s.getNumArgs<2 then u "rcasesPat.ignore" #[t "_"] else u "rcasesPat.tuple" #[t "⟨",n `null ((s[1].getArgs.flatMap λx=>if x.isOfKind `null then x.getArgs else #[x]).map λx=>if x.isAtom then x else u "rcasesPatLo" #[u "rcasesPatMed" #[n `null #[p m x]],n `null #[]]),t "⟩"]
theorem x{a:Prop}(h:∀G:Prop,(a→G)→G):a:=h a id
def T:="some (.ref $0)
List.mem_cons_of_mem _ $0
eval $0 X.env
Nat.le_trans $0 %1
aN $0 $1 (ai $2)
Ga $0 σ $1 $2
Mf (mg $0)
Xa (X.env.kindOf $0) $1
Q (.bl $0) $1
.ins $0 dx $1
$0 < s.heap.objs.size
.inr ⟨$0,$1⟩
upd H $0 $1
%5
Has.tup' (SqT.of $0) $1
%1
[\"_law_script\",$0]
$0 ≤ 1000
%4
wpAny_pure (wpAny_pure $0)
FB $0 w K mg base CX0 $1 $2 $3 $4 $5 $6
%0
[.int $0,$1]
%12
aY Rs $0
Ic $0 (.dK $1)
Vn $0 f fd $1 $2
plainId_quiet $0 _
absurd rfl $0
%13
Builtin.SmallTypes.nextOf (.ref $0)
.cons $0 .nil
Mb rfl $0 (Wt $1 $2) $3
Qo $0 $1 $2 $3 $4 aJ $5
hdL (L.take $0) $1
MI Rs $0
MA $0 $1 (Mr $2) $3
.Name x $0
Qp $0 rfl (.inl rfl) (.inl rfl)
⟨$0,rfl,$1,$2,$3,$4,$5,$6,$7,$8,$9,$10,$11⟩
⟨$0,$1,$2,$3,$4,rfl,$5,$6,$7,$8,$9⟩
Xa (Wb $0 $1) $2
call (.builtin $0) $1
Qt $0 (cX $1)
⟨$0,$1,$2,rfl,$3,$4,$5,$6⟩
pairsF ts $0
QI $0 (Qg $1)
MG %6 $0
[\"_law_problem\",$0,$1,$2]
⟨$0,rfl,$1,$2,$3,$4,$5,$6,$7,$8⟩
Ul $0 (.ref $1)
Int.le_trans (Int.le_of_eq $0) $1
W53.Needs $0 $1 x $2 $3
WW (.int $0)
X.A.units + $0
V2 $0 O $1
bO Rs ts $0 ts.length
Iu $0 $1 $2 $3 $4 $5 (Uc $6)
PyProof.Rows.envOfC $0 (ai $1) s.heap.objs.size $2 $3
atI $0 0
Na aM $0 $1
aA $0 (Qg $1) $2
lnD %7 $0
$0 = some $1
List.mem_append_right _ $0
%14
ap $0 H'
%15
%16
List (List $0)
%17
%18
[\"problem\",$0]
%19
wpAny_bind (wpAny_holding $0)
Ik H $0
Vb $0 w $1 mg CX0 $2 $3 $4 $5 $6
%20
xs.length = $0
$0 → Option $1
Xa (sc.names.lookup $0) $1
%21
[\"_law_problem\",$0,$1]
Ju P $0 $1 $2 $3 $4 $5
Fun K $0 $1 $2 f fd
Jw $0 (.int $1)
%22
zat $0 c $1
W.kitOne $0 $1 (.type $2)
⟨$0,$1,rfl⟩
Xa (K.lookup $0) $1
absurd $0 %1
U.u.tr.keep $0 (cA $1)

Jq_ $0 hr
Rch $0 most $1 $2
typeLookup (.type $0) $1
aX $0 $1 af
OpR $0 (binaryOp $1) $2

List.take_append_of_le_length (nRq $0)
Nat.ne_of_lt (hLq $0)
%23
Qv $0 $1 (.ref $2)
Wr \"part\" $0
s.TypeIs (.ref $0) $1
Uv H $0
MC $0 $1 $2 $3 $4 (Qm $5)
ae (Me $0 $1 $2) $3
zaz kvs $0 $1
$0 = Sum.inl $1
.inr (SqT.of $0)
⟨$0,rfl,$1,$2,$3,$4,$5,$6,$7,$8,$9,$10,$11,$12⟩
IV K $0 $1
.ok (.ret $0)
Gg $0 $1 $2 $3 $4 aJ $5
%24
cm (hdL $0) $1
[.int $0]
Vn $0 $1 $2 (Wo $3) $4
Jw $0 (.ref $1)
Wj $0 $1 $2 $3 pos
[$0,V.int $1]
aa $0 (Qh $1 $2)
Xt \"_law_found\" $0
wpAny_pure (Nd $0 $1)
aa (pv $0) $1
ae $0 (ae $1 $2)
Ub PySem.F.slot_list_append PySem.F.type_list_append $0 $1 $2
$0 ≤ sizeLine
cz $0 $1 %9

Uf aQ $0
aa $0 (Yb $1)
%25
SqL K $0 $1 $2
.inl ⟨$0,$1⟩
ar K $0 $1 $2
⟨$0,?_⟩
%26
Um $0 T.cl $1 $2 $3 $4 $5 $6
⟨$0,$1,rfl,$2,$3⟩
%27
Ia (H $0) $1

PW.pt (cI $0 $1)
U.u.pp.keep $0 U.u.pn
zaz $0 (.inl $1) $2
eK As.length $0
Has $0 $1 $2 (.ref $3)
U.u.kn.keep $0 (cN $1)
dz $0 $1 $2 PyProof.Rows.Boot.tuple $3
wpAny_bind (wpAny_letGo $0)
Ji true $0
clR $0 As
Nd _ $0
%28
No H $0
Ic $0 $1 → $2
zc2 $0 (hdL $1)
Qh (Qg $0) $1
p.natAbs ≤ $0
.builtin $0 ⟨$1,$2⟩
%29
wpAny_bind (wpAny_standAt $0)
bn $0 u
IA $0 $1 H'
Addr × $0
Nw $0 (.int $1)
.BoolOp $0 $1 pos
Gq (JH $0 $1 $2 $3 $4 $5)
Xq $0 Value
Ve $0 $1 PyProof.Rows.Boot.max $2
$0 :: es
%30
Nb Key $0
%31
ae $0 (Nc $1)

assignEach $0 X.env
Xa (scope.names.lookup $0) .local
%32
Gx bD $0
⟨_,$0,$1⟩
A.units + $0
X7 (V.int $0) $1
JN $0 $1 $2 $3 $4 $5 $6 rfl $7 $8 $9 $10
%33
Vh kvs $0
upd $0 $1 (.lst $2)
aS $0 $1 $2 $3 base $4 $5 $6 $7 $8 $9
upd $0 $1 (.dK $2)
%34
aF $0 rfl $1 $2 $3
Xa (X.env.cells.lookup $0) $1
model X.prog $0
br $0 (Sum.inl $1)
$0 = true
[.ref $0]
Nat.lt_of_le_of_lt $0 %1
%35
%36
Xn P K $0 $1 $2 $3 $4
Yf H $0 $1
List.nodup_append.mpr ⟨$0,$1,$2⟩
PrD $0 $1 $2 $3 $4 $5 $6 $7 As $8
codeAny_builtin $0 ?_
$0 = Value.ref $1
Ql H $0 $1
%37
%38

gsF As $0
Uk $0 (.tup $1)
ar.keep $0 (cA $1) $2
Yj $0 (Wo $1)
Wv s.heap.objs.size $0 $1 $2
wpAny_bind (wpAny_bind $0)
Mh (.bl $0) $1 $2 $3
%39
List.replicate $0 none
V.int
br $0 (.inl $1)
List.mem_cons_self
Qa $0 (Uc $1)

GO $0 $1 $2 ld gd $3 $4 $5 $6
I.hok $0 _ $1
Heap.get?_push_size _ rfl
$0 → IL $1 $2
Has $0 H $1 $2
QF (Ms $0 $1)
PW.pt (fw $0 $1)
cG $0 $1 (cnt $2) $3 $4
Qr $0 xs
Wn (Yh $0 $1 $2)
⟨$0,$1,rfl,$2,$3,$4⟩
de $0 $1 rfl %0 %0
Yb (Qg $0)
PySem.W.keepIn $0 (.ref $1)
Wy (ts.map $0)
s.heap.objs.size
s.heap.IsTuple a $0
N0 $0 $1 $2 S
Ql H' $0 $1
base.Ns mainGlobals $0
pyNext (.ref $0)
Wx (Q6 $0)
cU (pv $0)
WO (I.turned $0 $1 $2 $3 $4 $5 $6)
IU (.str $0) $1 $2
Vi (X.fn $0)
some (.int $0)
aa $0 ac
.inl (SqL.of $0)
nRq _
.cons $0 (.cons $1 $2)
SqT K $0 $1 $2
s.heap.objs.size + $0
W.findIn $0 (.ref $1) $2
model prog $0
aw K $0 $1 %7
List Int
S.ts.take j
Gc _ $0
absurd $0 %4
ay $0 rfl
PE X $0 $1
s.heap
lvF ts $0
cO $0 (.builtin $1) $2
T.cl
envOfC $0 $1 s.heap.objs.size $2 $3
wpAny_bind (wpAny_specialOf $0 $1 $2)
$0 = false
Ua X.prog X.w $0 $1 $2 $3 $4
Prod.fst
Vg X.w




































Jj C $0
















Nat.zero_le _













































Ir $0 $1 H $2
Wg 0
W.nsIn $0 mainGlobals $1
X.env

WC Int
⟨$0,rfl⟩
aV (pv $0) rfl
Nat.lt_of_lt_of_le (hLq $0) $1
InR T.length $0
.Call (.Name $0 $1) $2 $3 $4

.tup [$0,$1]
ts.length
Xa $0 none
[\"self\",$0]


[\"self\",$0,$1]
Calls.callWith_builtin $0 (Calls.evalArgs_plain $1)
bb $0 $1 rfl (Or.inl rfl)
[$0,$1,.int $2]
Mh (.ref $0) $1 $2 $3
Has.lst' (SqL.of $0) $1
$0 < cLine
Vt $0 xs
Nh $0 $1 af
pv 1
sIx items.size $0 $1
Int × $0
Nat.le_of_lt (Nat.lt_of_lt_of_le $0 $1)
iE $0 $1 $2 $3 %0 %0 $4 $5 %0 $6 $7 $8 $9 $10 $11
zbP $0 (Sum.inl $1)
Qa $0 (Yb $1)
Jm $0 (.own $1)
Vo $0 (ps.map V.int)
Iu $0 $1 $2 $3 $4 $5 (Yb $6)
wpAny_bind (wpAny_updateSeq $0 $1 $2)
bp $0 (ps.take $1)
.inr ⟨$0,$1,$2,$3⟩
$0 ≤ ts.length
⟨rfl,$0⟩
wgt n $0 $1
GF $0 $1 $2 $3 $4 rfl $5 $6 $7 $8 $9
As.length
List.replicate $0 true
Xu $0 \"_law_searched\" $1 $2 $3 $4
GE $0 $1 $2 A $3 hs $4
SqT.of ao
Ul \"long\" $0
c.heap.objs.size
⟨$0,%7⟩
$0 → VO $1 $2 $3



Uj \"_law_most\"
⟨%5,$0⟩
HT.sIx xs.length $0 $1

absurd $0 c
⟨$0,$1,$2,rfl,$3,$4,$5⟩
eM $0 $1 $2 (.type $3)
Wy (Rs.map $0)
wpAny (model $0 $1) $2 $3 $4 $5 $6
cC PySem.F.plainAttrs_list $0 $1 $2 $3 $4
Qa $0 ac
Yi w
ts.take j
Na $0 $1 af
Hu $0 $1 $2 $3 $4 $5 $6 most $7 $8 $9
X.prog
A.dx
[\"_law_problem\",$0]
Xa (H' $0) $1
Wl (.str $0) $1
bf (pv $0) $1 $2 $3 $4 $5 .nil $6 $7

items.size
Ve $0 T.len bLq $1
I.hok.fresh (nRq $0)
Wr $0 \"other\"
hr.mono $0 %1
Nl Rs $0 $1
Wu $0 (.int $1) $2
Qj $0 $1 xs
k $0 %4 $1 $2

wpAny_bind (wpAny_typeOf $0 $1)

pv 2
dz $0 $1 $2 PyProof.Rows.Boot.list $3
Mr (SqL.of $0)
hG _ $0
ps.map VG
[\"problem\",$0,$1]
Mf (X.mg $0)
NA $0 $1 X.xe $2
Wf (Nn $0)
Gw $0 (.int $1)
aq (Ne.symm $0)
Nat.lt_of_lt_of_le $0 (Nat.min_le_left $1 $2)
bc $0 us
Ve $0 $1 PyProof.Rows.Boot.sorted $2
aI $0 $1 (pv $2) $3
PySem.W.emptyDict
Q .non $0
Vo $0 xs
Xa $0 true
Xy $0 r
Value.int $0 t
Wu (.ref $0) (.ref $1) $2
NK _ $0 $1
aO $0 $1 $2 $3 $4 base $5 $6 $7 $8 $9 $10 outer $11 $12 $13
f $0 $1 $2 %9
PySem.mem_of_lookup h
Vi (peq $0 $1)







aY S.rs $0
$0 = .function
.inl ⟨rfl,_,SqL.of $0⟩
Inv $0 pins $1 $2 $3
upd $0 $1 (.tup $2)
⟨$0,$1,?_⟩
K w.params
%10 < $0
wpAny_bind (wpAny_pure $0)
au $0 $1 rfl $2 $3 $4 .nil $5 $6
X.K
wpAny _ $0 $1 $2 $3 $4
pl.isList
wpAny_bind (wpAny_seqItems $0 $1 $2)

OpR $0 (compareOp $1) $2
some (.builtin $0)
bo %2 $0
ts.length - $0
aj (ak $0)
Uj \"_law_cell\"


Uu (.int $0) $1 $2
$0 ≠ X.env.locals
[.ref $0,$1]
aA $0 $1 af
X.calm
⟨$0,$1,rfl,$2⟩
aZ S.rs S.ts $0
Va $0 $1 %7
List.length_filter_le _ $0
wpAny_pure ⟨$0,$1⟩
Ug K C $0 $1 $2 $3 pr $4 $5 $6
⟨$0,rfl,$1,$2,$3,$4,$5,$6,$7,$8,$9,$10⟩
ns.getD $0 0

⟨$0,$1,I.tok $2,$3,$4⟩
bsF $0 (S.ts.take $1)
c_ (cM $0)

QP Obj
Nk x $0


kvs.length ≤ $0

mk1 (Ny $0)

[$0,$1,.ref $2]
Int → $0
.inl (lookup_relabel_local $0)
⟨$0,rfl,$1,$2,$3,$4,$5,$6,$7,$8,$9,$10,$11,$12,$13,$14,$15,$16,$17,$18,$19⟩
ck (hx $0 $1)
swapsWith $0 $1 $2 X.env
Im $0 $1 $2 rfl $3









J3 $0 H
Xa $0 (.lst $1)
starEach $0 X.env
Xa (H $0) $1
⟨%1,$0⟩
Dt.int

A.h
wpAny_pure ?_

fg $0 $1 $2 $3 (PyProof.Rows.callWith_type1 $4 $5 $6)
Jf X $0 $1
Ia (H' $0) $1
⟨$0,rfl,$1,$2,$3,$4⟩


ar.append $0 (ar.one $1)
Around.under_plainId $0 _
Inv X $0 $1 $2 $3


Gg $0 $1 $2 $3 $4 aJ (Qa $5 $6)
zaR (top $0) $1
Gw $0 (.ref $1)
Up ah $0
bE $0 (tkv $1)
$0 < ts.length
$0 → Mc $1 $2
ap $0 (Gb $1 $2 $3)
Ve $0 $1 PyProof.Rows.Boot.abs $2
X.stack
ns.map VG
nwH $0 (.lst $1)
W53.atP $0 M
h $0 List.mem_cons_self
zaz $0 (Sum.inl $1) $2
Uj \"_law_paper\"
True.intro
Jr $0 → $1
$0 < sizeLine
pv 0
EqR $0 As
bo $0 %2
PyProof.Rows.slot_tuple_getitem
S.ts
.int $0 t
aa $0 (Uc $1)
GU $0 (.ref $1) $2
bJ $0 C $1 $2
.inr (lookup_relabel_local $0)
aA $0 (pv $1) $2
[\"problem\",$0,$1,$2]
wpAny_pyIter_list $0 ?_
bV X.prog X.w $0 $1 $2 $3









ju $0 $1 $2 %1 $3
List.mem_append_left _ $0
bY PassesOwn.never $0 $1 $2 $3
Q (.ref $0) $1
List.mem_map.mpr ⟨$0,$1,$2⟩
aB $0 $1 rfl (Or.inl rfl) $2
$0 = none
bo %8 $0
⟨$0,$1,$2,rfl,$3⟩
PySem.F.plainAttrs_dict
wpAny_bind (wpAny_rule $0)

⟨$0,rfl,$1,$2⟩
Nb $0 Int
Q (.int $0) $1
cnt (ts.take $0)
Jjg c.ok d c.m c.kp c.b 0 af
EP X a b Q
⟨_,$0⟩
Nf $0 → $1
congrArg List.length $0
absurd $0 (Nat.lt_irrefl $1)
Yb (Wg $0)
wpAny_bind (wpAny_field $0 $1 $2 $3 $4)
PySem.F.slot_dict_setdefault
TOk $0 ts
As.length ≤ $0
Im $0 $1 rfl $2 $3
VD _ H I ?_
cv (bsz $0 $1) $2 $3 $4 $5
bM S.rs S.ts $0
Ix (Uc $0)
smF As $0
Ye $0 $1 .nil

aZ $0 ts $1
pv 3

z.length

Ut f $0
Mj (wpAny_pure $0)
Vq $0 $1 $2 $3 $4 al $5 $6 $7
vs.toArray
MP $0 $1 $2 $3 tl rl $4 $5
absurd z $0

Vi (bX $0)
K53.Tm
Nat.le_of_lt (dV $0)
T.length ≤ $0
Xa (atI $0 $1) $2
I.laid $0 $1 (nRq $2) $3
QF (QB $0)



$0 ++ L.drop $1
typeOf (.ref $0)


List.nodup_cons.mpr ⟨$0,$1⟩
ap H $0
Builtin.Tuple.tupleItemsOf (.ref $0)
aI $0 (pv $1) $2
List ($0 × $1)
aj (aT $0)
⟨$0,rfl,$1⟩

Mf (H $0)
Nat.lt_of_le_of_lt lA (Nat.lt_of_lt_of_le hi (Jd (Int.toNat_le.mpr a1)))
aX $0 (pv $1) $2
List.mem_filter.mpr ⟨$0,$1⟩
relabel scope $0
$0 = .ref $1
lrn $0 ts $1 $2
Qb (Me $0 $1 $2) $3 $4
aW $0 _
Xd $0 → $1
backTo $0 (Ib $1)
PySem.W.kia_one $0 I.kIn $1 $2 $3 $4
ag $0 (A.deeper $1)

T.n_trail
X.s₀.heap.objs.size ≤ $0
Heap.SameBut $0 s.heap $1
Wl (.int $0) $1
$0 :: rest
hsF As $0
Nat.ne_of_lt (Wh $0 $1)
Yx X.A $0 $1 $2 $3
PySem.W.findIn $0 (.ref $1) $2
upd $0 $1 (Jj $2 $3)

PySem.W.instObj $0 s.heap.objs.size
tO (nRq $0)
bZ b_ $0
absurd $0 (Nat.not_lt_zero $1)
cnt (S.ts.take $0)
$0 ≤ 100
Gi $0 $1 _ _ $2
A.handled
X9 \"_law_most\"
Txt K mg aK $0
Loc X.env.scope $0
aq (cn $0 $1)
jR $0 $1 $2 %0 %0 %0

PathOk L $0 $1 $2
Xa (MF $0) $1
Ix (Mv $0)
$0 = S.ts.length
wpAny_bind (wpAny_tryCatch $0)
Qb $0 $1 (Nc $2)
Nm $0 $1 $2 $3 (Nc $4)
absurd $0 %0
WU $0 $1 $2 $3 R
$0 = ps.length


Xa (S.wt $0) $1
.ins $0 A.dx $1
lvF d.ts $0
PtG As.length $0
Va H $0 $1
Nat.le_add_right _ $0
List.take_append_drop i $0
oh PySem.F.plainAttrs_list $0 $1 $2 $3
Yw (behindInMarks $0 $1)
Builtin.List.listExtendWith (.ref $0) $1 $2
Ve $0 $1 PyProof.Rows.Boot.all $2
wpAny_passesOwn K $0
u.TypeIs $0 \"list_reverseiterator\"
wpAny_call_entry $0 $1 $2 ?_ $3
if_pos (dTq $0)
Fr2.of_same (ap.refl $0)
tupleKind (cq $0 $1)
s.heap.objs.size ≤ $0
Nat.le_trans I.ok.bsz $0
xs.length ≤ $0
Nat.sub_succ_lt_self $0 i $1
dZ a.negs $0
Nat.le_trans $0 (Nat.succ_le_succ $1)
sfD As.length $0 $1 $2
wpAny_Call_Name_kw (js $0 $1 $2 $3 $4)
wpAny_bind (wpAny_newObj_type $0 $1)
.inr ⟨$0,$1,$2,$3,$4⟩
wpAny_bind (wpAny_tupleItemsOf $0 $1 $2)
.Subscript $0 $1 pos
$0 < L.length
aW $0 (.lst $1)
IsTup s.heap $0 $1
.ref $0 :: $1
s.heap.IsSliceOf $0 $1 $2 .none
Jjy \"self\"
Vi (PySem.W.plainGet $0 $1 $2)
congrArg some $0
S.cut $0 la
hS0 $0 As.length
Jh $0 .free
Jh $0 .cell
Yj $0 (Ur $1)
JaI $0 \"one\"
d_ $0 (Vx $1)
.inr (.inr $0)
UX CX P w K mg N c a f cdv A s H E
c (dTq $0)
.inl (Wf $0)
Mf (H' $0)
Wy (ls.map $0)
UF \"parts\" $0
NG (pv $0)
GI (.int $0) $1 $2 $3 $4
Vis X.env.scope $0
Un $0 $1 $2 $3 s.heap $4
atKey $0 k
.int 2000 $0
Nx a
wpAny_bind (wpAny_attempt $0)
$0 < xs.length
Ve $0 T.isi PyProof.Rows.Boot.isinstance $1
backToKw $0 (keywordEach $1 X.env)
Vi (W.keepIn $0 (.ref $1))
$0 :: X.outer
SqT X.K $0 $1 $2
J.yld $0 $1 x $2
PySem.F.args_tuple_add_2 _ $0
some $0 :: $1
fh $0 (eW $1)
aW $0 (.tup $1)
$0 ≤ PySem.sizeLine
Qk $0 (.inl $1)
Xu $0 $1 $2 $3 (Xj $4) $5
Has.tup' $0 (MG $1 $2)
J.stop i $0
Builtin.Slice.slicePlaces $0 $1 1
bs.getD $0 true
ka As.length $0 $1 $2 $3
Call_ (Ij $0 $1 $2 $3 $4 $5 $6)
Ml $0 rfl $1
Gq (Qc $0 $1 $2)
Wr \"problem\" $0
Mr (gG $0)
Ys $0 \"isinstance\" $1
Jz $0 kvs
U.at' $0 rfl rfl
Wx (J2 $0)
Prod.snd
I.pin p $0
List.mem_filterMap.mpr ⟨$0,$1,$2⟩
absurd $0 Bool.false_ne_true
d.ts.take $0 ++ $1
zbu $0 (.ref $1) $2
eA $0 S.hs
Np cpos $0
Xz $0 (.type $1) $2
XS $0 %5 $1 $2 $3 $4
Jq \"_law_k\"
.call (.ref $0) $1
d.hok.fresh (nRq $0)
ys.length = $0
Eq.trans $0 (Eq.symm $1)
gS $0 (hdL $1)
aX $0 $1 (pv $2)
Uu (.ref $0) $1 $2
ms.filter (X2 $0 $1)
Mg XN
scope.kind
.Attribute $0 f $1
IntsAre $0 ns
Wk $0 xs.length $1
$0 ≤ 100000
S.put $0 ps $1
decide_eq_decide.mpr ⟨$0,$1⟩
s.heap.IsTuple l1 $0
s.heap.IsTuple l2 $0
kq PassesOwn.never $0 $1
Fr2 $0 H' $1 $2
Ni (List.mem_reverse.mpr $0) $1
Xa $0 (Gn $1)
Vp $0 %4 $1
Xu $0 \"_law_paper_right\" $1 $2 $3 $4
Iy %7 $0
Vc $0 $1 (Jb0 $2)
Wz cx $0
Bool.false_ne_true
NK A.in1 $0 $1
xs.length
S.ts.length
I.base.free b $0 $1 $2 $3
⟨$0,$1,I.bare,$2,$3,$4,$5,$6,$7,$8,$9⟩
I.ok.kind
FT K $0 $0 $1 $2 $3
.inl (.inl $0)
hdL (ls.take $0)
Vi (nol $0)
VL $0 $1 $2 ts.length $3 (hdL $4) $5
SqL.of ao
Value.str $0 t
eval $0 env
.Pass ⟨$0,$1,$2,$3⟩
p.isList
bU ld gd $0 $1
Jcj H $0
atS kvs $0
$0 ≠ s.heap.objs.size
atI $0 1
ps.length ≤ $0
kvs.length + $0
Xa (bootBuiltins $0) $1
Nb Addr $0
Ic $0 (.tup $1)
gb (Wt $0 $1) $2
Nz $0 I.ok.above
Nat.le_trans (GC $0) $1
Jbj $0 rfl
I.freeC x $0 $1
h.Ns mainGlobals $0
br kvs $0
X.env.locals
Nb Str $0
U.u.nd
Ans (QC $0) $1 $2 $3 $4
JP $0 $1 (Ja $2)
IY \"parts\" $0 $1
WZ $0 $1 ps.length $2
Nc (Ja9 $0 $1)
$0 × Value
hdL Qi
HOk P w $0 $1
$0 ≠ \"__name__\"
Joz \"most\"
$0 < 1000
JgS H1 v pp (Xw x y)
cK $0 $1 $2 $3 ?_ ?_
JK $0 $1 $2 (JcP $3 $4 $5 $6)
zs.length = $0
Gc $0 (List.mem_range.mpr $1)
Qk (SqL.of $0) $1
XI bz $0
JcU (Jb2 $0)
ys.length
VR $0 (f_ $1)
S.hold (UT $0) $1
bindArgs $0 (WY $1)
Ic $0 (Y_ $1)
a.toArray
Jaa PySem.F.slot_list_pop PySem.F.type_list_pop $0 $1
cO $0 (.type $1) $2
wpAny_Call_method_late $0 $1 $2 rfl $3
ItemsOf $0 acc $1
cnt (d.ts.take $0)
fj.k $0 $1 (hln $2)
acc.toList.length = $0
Vb $0 $1 $2 $3 (CX1 $4 $5) $6 $7 $8 $9 $10
Mf (H0 $0)
Vi (PySem.W.hasDictIn $0 $1)
Nm $0 $1 $2 (Me $3 $4 $5) $6
X.base
Uu (.str \"same\") $0 $1
UD (UD $0)
GE $0 $1 $2 $3 $4 S.hs $5
IU (.ref $0) $1 $2
Ib (QV $0)
JaV (frs $0) $1 $2 $3 $4
Jdi X.stack $0 $1 $2 $3
SeqAt.RcAt A $0 $1 $2 $3
$0 = Value.type $1
seqIndex_neg %5 $0
SeqAt.EqAt $0 s $1 $2 $3
cq X.prog $0
hdL ls $0
[$0,\"groups\"]
bsz $0 %5
N.has.keep $0 N.nl
Ve $0 $1 PyProof.Rows.Boot.min $2
Ms $0 (Mc $1 $2)
Xt \"_law_parts\" $0
cB $0 $1 (IO $2) $3
Xd H
JW \"_law_script\" \"_law_first\" $0
XY \"add_row\" $0
Ja1 $0 (WG $1 $2)
Jbc $0 \"sameness\" $1 $2 \"number\" $3
JcF $0 \"groups\"
JcK H $0
PySem.W.fnOf $0 $1 $2 $3 $4 $5 $6 $7 $8 $9 cdv $10
XP \"why\"
E (.ref $0) none $1
Jh4 \"_law_one\"
dz $0 $1 $2 PyProof.Rows.Boot.dict $3
fZ $0 $1 $2 PyProof.Rows.Boot.list $3
NG af
JhD o
Ml $0 %0 %0
VA $0 \"parts\"
wpAny_truthy_bool ⟨$0,$1,$2⟩
$0 = .int $1
$0 = pure $1
⟨$0,iter,$1,$2⟩
$0 < h.objs.size
Jch 0 0 0 0
$0 < S.ts.length
field (.ref $0) $1
g.extBut $0 $1 $2 (d.extBut $3 $4 $5 $6)
Heap.FlyingW $0 $1 $2 (.ref $3) $4 $5
ae $0 (aj $1)
negs (ts.take $0)
Int.lt_of_lt_of_le $0 h
$0 = s.heap.objs.size
Xa (env.cells.lookup $0) $1
ap $0 (Va $1 $2 $3)
Value.ref (Yg $0)
Ww $0 (ar.ints $1)
XB $0 ⟨$1,$2,$3,$4⟩
Jd6 $0 $1 $2 (.func $3) $4
WD $0 (Int.toNat_le.mpr $1)
GN $0 → $1
KV kvs $0
xs.map (entryOfKey $0)
I.hok b $0 $1
letOwnedTupleGo $0 (.ref $1) $2
ns.length ≤ $0
ys.length ≤ $0
$0 = Option.none
fvs $0 ix
N'.length = $0
R (.error $0) $1
Nat.add_comm _ $0
B.zs.drop i
T.n_held
lvF ts
eT $0 $1 s.heap $2 $3
cc ts $0 $1
Jeo gs $0
JjD \"why\"
TuI.ext $0 h.extBut $1 $2
dr (pv $0)
fy rfl $0 $1
Jet T.range $0
gR $0 (hdL $1)
nbr $0 L.length $1
eD (ie $0 $1 $2)
Fr1 $0 H' $1
As.length < $0
pv 4
Xt $0 \"_law_cell\"
Wf _
Jw $0 (.bl true)
zby $0 pr most $1
Nat.le_succ _
JW \"_law_parts\" \"_law_roots\" $0
XX $0 $1 $2 $3 $4 rfl $5 $6 $7 $8 $9 $10 $11
JeH $0 $1 $2 $3 $4 rfl $5 $6 $7 $8 $9 $10
NU 0
JeI $0 $1 $2 $3 $4 $5 $6 rfl $7 rfl $8
Jf6 _ H _ _ q
Q8 $0 $1 $2 $3 $4 $5 $6 rfl $7 $8 $9
U.ins
loF (hd $0) (hd $1)
hiF (hd $0) (hd $1)
JeE $0 lk
I.cell $0 c $1
model $0 w
f.fpOk $0 (f.hok.fresh $1)
.int $0 s.toks
PySem.W.lookIn name $0
⟨$0,$1,$2,$3,rfl,$4,$5,$6,$7⟩
JfL o
Key × $0
bu $0 $1 $2 $3 $4 $5 $6 $7 $8 Rs
Jbl \"most\"
f.fresh $0 fa $1
List $0 → $1
XR $0 → $1
$0 → Je3 $1 $2
List $0 × $1
pyIter (.ref $0)
ar.keep $0 (kW $1) $2
W.plainGet $0 $1 Str.empty
.inr (Wf $0)
Nq $0 True.intro $1 $2 $3
XG (QC $0) $1 $2
Vc $0 $1 (XO $2 $3 $4)
PA $0 (QV $1) $2
Nat.min_le_right _ $0
PySem.W.instObj $0 dx
df $0 pins $1 $2
tn $0 s.heap
h.IsListIter $0 $1 i
PySem.W.isFn $0 (.ref $1)
ixN xs.length $0
iG I.hok $0
bE kvs $0
$0 < 199900
c.toArray
cL.put _ $0
G.seqG $0 hS
Txt $0 mg
InR rs.length $0
PIn As.length $0
Jcw rfl
ptF d $0
TxH K $0
hS0 Rs $0
JcD $0 $1 (Jfw $2) $3 $4
X.mono $0 %1
y.mono $0 %1
$0 < 1073741824
Md $0 $1 rfl
Yj $0 (Xj $1)
X.xe
Yp $0 ta
Xq Int $0
U.u.pn
⟨$0,hJ %0 %0⟩
fe jh Rs
fe jg As
IU (V.str $0) $1 $2
.frz $0 (.dK kvs)
cN _
UX $0 $1 $2 $3 $4 $5 $6 (ai $7) $8 cdv $9 $10 $11 $12
WZ $0 $1 ns.length $2
X0 $0 $1 $2 $3 $4 (Uc $5)
I0 $0 s.heap $1 $2
Ur \"one\"
X6 $0 p $1 %7
JfS \"zip\" $0
J8 $0 (Qg $1)
.inr ⟨$0,$1,$2⟩
aB $0 $1 $2 (Or.inr $3) $4
⟨lS0,$0⟩
Vi (PySem.W.codeIn $0 $1 $2)
Vi (gv $0)
Wy (T.map $0)
IA $0 s.heap.objs.size $1
VL $0 $1 $2 $3 $4 $5 av
Option Value
Z_ $0 $1 s
Jf4 a $0
JaT $0 $1 $2 (Wf $3) $4
Jbw \"least\" $0 $1
JoF \"_law_atoms\"
G0 _ rfl _ $0
wpAny_execs_nil ⟨$0,$1,$2,$3⟩
.Assign [$0] $1 $2
$0 = Value.bool $1
$0 = xs.length
Jgt VN
Jdv \"_law_bonds\"
cP (gD $0) $1 $2 rfl
WOk.glen $0 c
Uk $0 (.dK $1)
Mn $0 H'
Wr $0 \"parts\"
Ms $0 (Ms $1 $2)
foldedSetIterable iter X.env $0
Wz bz $0
Q4 (Jgm $0)
$0 → QO $1 $2
$0 → Jgo $1 $2 $3
JY \"no\" $0
BindsTo $0 $1 (WY $2) $3
SqL.of (Jbp $0)
Gz _ $0 rfl
JeM $0 $1 $2 rfl $3 $4 $5 $6 $7 $8
Nz e (I.ok.cab x c J l)
JeZ K $0 $1 p $2 $3 $4 $5 As
Jgw C $0 $1 $2 $3 $4
s'.heap
Has.int
Jgx $0 tl al rl $1
I.base.there b $0 $1 $2
.Constant $0 $1 pos
J.go i $0
⟨⟨$0,$1,$2⟩,$3⟩
bj H $0
eF $0 ts $1
JgG Rs $0
S.setW r $0 $1
[$0,$1,V.int $2]
l d s e H _ I h
JgJ (V.int $0) (V.int $1) $2
[V.str $0,$1]
JgM $0 (V.ref $1)
nbr $0 L.length
bq (gj $0 $1 $2 $3)
Va $0 $1 N.dropLast
Vc $0 $1 %7
Gb (JgR $0 $1) $2 $3
Mh $0 $1 rfl $2
Vi (W.codeIn $0 $1 $2)
Je $0 (Wo $1) $2
Np pos $0
cc $0 (Vx $1) $2
VH kvs $0
zaf X N' scope $0 $1 $2 $3
Inv (JgZ $0 $1 $2 $3) $4 $5 $6 $7
cb (IT $0 $1)
HOk X.prog X.w $0 $1
Jbk cR (pv $0) $1
Jb8 $0 I.os $1 $2 $3 I.free I.freeC $4 $5 $6
U _ _ nb1 nb2 z
Vi (VS ts $0 ts $1 $2)
Jq \"_law_first\"
dw $0 $1 $2 (UI $3) ?_ ?_
aI aM (bK $0) $1
Jg9 $0 (JcV $1)
Qj $0 $1 (ps.map V.int)
JdP $0 $1 → $2
Ve ah TB.len bLq $0
JoH \"_law_rows\"
Jf2 $0 $1 g N $2 hd
Jhe $0 $1 b
Jhf H $0
JeG \"_law_link\"
Jdy \"_law_many\"
Id Jp
U.u.wg
Jg4 $0 I.base I.loc I.cell $1 I.hok I.len
⟨$0,$1,$2,?_⟩
$0 ≤ xs.length
⟨$0,%4,$1,$2⟩
.str ⟨$0⟩
⟨$0,pl.isList.push $1⟩
call_meetsIn $0 dd.typeIs $1 $2 $3 $4
S.wg $0 ++ $1
iI $0 $1 $2 %5
W.hideAll s.heap $0
U.u.wd
ag $0 _
L.length - $0
s.heap.objs.size ≠ $0
$0 < f.heap.objs.size
Vi (zeo $0)
$0 ++ Vj $1
Va $0 $1 (JhB $2 $3)
Jm a $0
GD (JB $0) $1
JhE PySem.F.plain_max_loop $0
Jo $0 (JV $1)
JhG $0 %6
X4 $0 $1 $2 \"parts\" $3
U.u.lt
N5 $0 (JeE $1 $2)
JeW $0 $1 $2 $3 rfl $4 $5 $6
loF (d $0) (d $1)
U.u.hd
some (.lst $0)
.inr (.inl $0)
upd $0 $1 _
start $0 vs
absurd (hLq $0) $1
call (.type $0) $1
jC I.hok $0
jD I.hok $0
⟨$0,$1,%5⟩
HT.sIx $0 $1 (some $2)
TOk $0 S.ts
s.heap.DictOfH $0 $1 xs
wpAny_bind (thn $0 $1)
zc4 $0 $1 s.heap
aj (be $0 $1 $2)
Yg 1
[\"_law_roots\",$0,\"_law_other\"]
s4.seq (SqL.of $0)
W53.TxG $0 mg $1
S.rs.length ≤ $0
Yb (bK $0)
.inl (Id $0)
Vi (W.hasDictIn $0 $1)
Vi (W.plainOver $0 $1)
Mj (wpAny_bind $0)
wpAny_pure (Qm $0)
Vn $0 $1 $2 (Ur $3) $4
Jid $0 $1 $2 \"one\" $3
Mr (gm $0)
QA (wpAny_pure $0)
QD (wpAny_pure $0)
QD (bq $0)
Vc $0 $1 (WF $2 $3)
QG $0 $1 (Uk $2 $3)
QG $0 (.tup $1) $2
X8 ba ba ba
IY \"held\" \"found\" $0
GZ $0 (some $1) $2
JbV H $0 $1
min v.toNat $0
.int $0 u
.frz o $0
Gl X $0
getMethod $0 $1 pl
Str × $0
Nat.le_trans $0 hz
operate $0 (getItem $1 $2)
d.params.defaults = $0
argBest $0 k
IsPair $0 TO $1 $2
Nat.lt_irrefl _ $0
Lev $0 $1 ts
Ve ah W.len bLq (Mv 0)
UT S
bO Rs ts f $0
gP S.ts $0
[.str $0,$1]
JiH $0 (.ref $1)
SD $0 $1 $2 $3 kvs
gp $0 $1 $2 $3 rfl
hdL L $0
aA $0 $1 $2 rfl
JiM $0 $1 (pv $2)
InR n $0
$0 ≠ Sum.inl $1
TxB $0 mg $1
bx $0 ≤ $1
TxP $0 mg
[$0,\"_law_held\"]
Xa $0 .local
Xa $0 X.env.locals
ls.length
f.heap.objs.size
T.n_known
Rs.length
dY $0 $1 rfl rfl %0 %0 rfl $2 %0 rfl rfl $3 $4 $5
Yb (Ji0 $0 $1 $2 $3 $4 $5)
Vi (zgt $0 $1)
Il $0 ys
Qp $0 $1 (SqL.of $2) $3
Gx da $0
XA _ $0
call_meets $0 (Ji6 $1) $2 $3 $4 $5
VA $0 \"term\"
PySem.F.entry_tuple_add
UF $0 \"groups\"
UF \"rows\" $0
$0 ∧ QJ $1
WP $0 S.ts
XY \"hold\" $0
W8 $0 rfl $1 $2 $3 $4
Jcn (Q7 $0 $1)
JcU (WJ $0 $1 $2 $3 $4 $5 $6)
ak (Qc cR $0 $1)
Vo $0 (hs.map V.int)
JgA H $0
JgF (N8 $0 $1)
inV (.int $0) (ps.map V.int)
JiQ $0 CL
PSs $0 $1 t
zbu f $0 $1
Array (Option $0)
$0 ≤ cnt $1
I.kIn
bM Rs ts $0
Two $0 O $1
kt.sq (SqT.of $0)
ap.g (ap.refl $0)
JpF _ _
[$0,$1,\"one\",\"other\"]
Jjx $0 \"number\"
Jjx \"terms\" $0
Jke \"_law_one\"
JiT \"_law_row\"
JeB \"_law_one\"
[\"part\",$0,\"kept\",\"level_of\",\"last\"]
xs.length + $0
Yh $0 $1 \"__setattr__\"
Nh $0 $1 (pv $2)
Je $0 (Xj $1) $2
Yj $0 [$1]
JjI $0 \"self\"
.inl (Jl $0 $1)
JA 1 $0 $1
attributeBase $0 $1 X.env (Jc $2)
wpAny_bind (wpAny_isInstance $0 isSubtype_tuple_tuple $1)
QG $0 (Y_ $1) $2
A.under (QK $0 (Jaz $1 $2) $3)
Xa (Jcl $0) $1
ar X.K H $0 $1
k $0 _ (.inl rfl) $1
JjS $0 e
Jf5 $0 → $1
Jcn (JgN $0 $1)
Jho $0 (Nat.zero_le $1) $2
tAsg $0 (jt $1)
o.data = $0
JjY (.dict es $0)
JjY (.seq $0 $1)
kvs.length
Q (.bool $0) $1
Cls $0 C
seqIndex_of h0 $0
subscripted $0 false $1 $2
$0 ≠ .cell
ifs.length ≤ $0
hitD X.K $0 $1
mf $0 (Sum.inl $1) $2
Nat.lt_trans A $0
h.extBut _ $0 $1 $2
q $0 (ap.refl $1)
[$0,\"_law_roots\",$1,$2]
j.toNat
Jkc \"_law_terms\" $0 \"_law_other\"
$0 < b.length
$0 ≤ L.length
Xa (mg $0) $1
Jkh $0 (IS $1)
Xa (H1 $0) $1
Ic $0 (.own $1)
Ir $0 $1 H' $2
e.symm
Jkl $0 $1 s' ∧ $2
Vt (ts.map $0) $1
Iv 58 $0
Nw $0 (.ref $1)
JH $0 $1 $2 $3 $4 (Uc $5)
ar.nil
$0 → (NJ $1 → $2)
acc.toList
UO $0 aQ $1 af
Jkv $0 0
fZ $0 $1 T.tuple PyProof.Rows.Boot.tuple $2
VW $0 ok
W.fnOf $0 $1 (zbv $2) (zas $3) $4 $5 $6 $7 $8 $9 $10 $11
Ja3 K $0
Ja8 $0 (Jeg $1)
JeK $0 $1 $2 $3 $4 (SqT.of $5) $6 $7 $8
JgP $0 $1 $2 (Qm $3)
JiK $0 (Wg $1) $2 $3
T.n_watching
storeName X.env $0 $1
congrArg $0 e
ag $0 X.A
bc dvs $0
.int $0 0
fq S.ts $0 $1
alF ts $0
W.kitCls $0 $1 (.type $2)
U.u.at_ i $0 $1 $2 $3
PySem.F.slot_tuple_add
hC $0 rfl $1 $2
JkQ $0 $1 (Wf $2)
Dom $0 As
ngF (ps.take $0)
ms.Perm (ngF $0)
eD (jF $0 $1 $2)
jB $0 \"tuple\"
Vi (W.makesIn $0 $1)
Wj \"reversed\" $0 $1 $2 $3
.tup (Gu $0 $1 $2)
UF $0 \"found\"
MG Has.int $0
NG (Qg $0)
U.free b a e n (h b)
Xu $0 \"_law_cell_at\" $1 $2 (Jq \"_law_k\") $3
VP X.K $0 $1
JS $0 $1 $2 rfl $3 $4 $5
MR K $0 $1 $2 $3 Rs
Jk7 $0 $1 p $2
Jk8 C $0 $1
Jk9 $0 T
W7 (dTq $0)
JlE \"link\"
Jja \"line\"
NC (WH dx $0) $1 C %7
Jld x $0
V9 \"learnt\" $0 $1
Ja6 i $0 $1
Jlg H' $0
Jct $0 $1 (Jct $2 $3 $4)
zcH ks vals $0
gU $0 $1 pr most $2 $3
Jhc (Mv $0)
NG (Jkw $0)
Value.float $0 t
bc xs $0
.cons r $0
σ.set i $0
getItem (.ref $0) $1
wpAny_pure ⟨$0,$1,$2⟩
sliceBounds $0 $1 none $2
PySem.call $0 vs
[s.heap.objs.size,$0]
peq $0 d
.cons ?_ $0
kD I.hok $0
Jin \"atom\"
absurd e $0
lvF S.ts $0
.Name nm $0
aa $0 (aa $1 $2)
[\"terms\",$0]
InR us.length $0
Option $0 → $1
Xa (cl.lookup $0) $1
Xa (fs.lookup $0) $1
An3 $0 (Xd $1) $2
Jgj \"name\"
Vf $0 c → $1
JlL x $0
Ji false $0
Xr $0 .cell
Vs u $0
JdC \"link\"
Qv $0 $1 (.bl true)
JG $0 $1 $2 (aj $3)
VP K $0 $1
JlT $0 v
U.newF $0 (QQ $1 $2)
VQ $0 (QO $1 $2)
UW $0 _
JaK T $0
Ja2 pos $0
Ja2 cpos $0
Jbc $0 $1 $2 $3 \"paper\" $4
Jl1 $0 \"lets_by\" $1 $2 $3
Nr $0 (J6 $1 $2 f cdv)
Jl3 $0 \"law\" $1
J9 bD 2 ba
Jex $0 $1 (pv $2)
Jey H $0
.ListComp elt [$0] scope pos
PySem.F.slot_dict_get
Jl8 (JdR (JL $0) $1 $2)
$0 → Jgp $1 $2 $3 $4
Jjb $0 As.length
Jjo v $0
Jjt $0 H
aI aQ (J8 1 JdK) af
Qh (Jkr 0 M o j n 1) (Jkr 0 M o j n 2)
upd $0 a u
⟨o,$0,$1⟩
Jmh e $0
I.base.tups $0 xs $1
cQ $0 C $1
Jmk K $0
$0 < ns.length
ts.length ≤ $0
⟨$0,$1,$2,%5,$3⟩
Stp $0 most $1 $2
Fnd $0 most $1 $2
.done (.ret $0)
W.exmOne $0 (.ref $1) $2
Looks $0 $1 $2 (.ref $3)
looks_findIn $0 X $1
$0 ≤ As.length
some (V.ref $0)
kz G.mI G.I hr2 rfl G.gI G.bI .nil aJ
S.pp.length + $0
Qj $0 $1 ys
Jmz H $0
Vt (L.map $0) $1
Ny (ps.take $0)
GB $0 e
Ml $0 (UC $1) $2
Wn (Wb K $0)
QF (QO $0 $1)
GU (.ref $0) $1 $2
dh (pv 0) $0 rfl
JmI (bK $0)
J7 (Q7 $0 $1)
Ja5 H $0 $1
Xa (Jbz $0 $1 $2) $3
SqL X.K H $0 $1
Jdf $0 $1 $2 $3 $4 $5 → $6
U.set $0 rfl rfl $1 $2 $3
JfN CX0 $0 $1 $2 $3 $4 $5 $6 $7 $8 $9 $10 $11
J7 (JgN $0 $1)
PE (JgZ $0 $1 $2 $3) $4 $5
JlY (ts.map $0)
Nat.sub_le _ $0
.str $0 t
cq $0 w
I.base.keep b $0 $1 $2 $3 $4
D.nx a $0
wpAny_Name $0 g
.Tuple $0 $1 pos
IsPart $0 lo
wpAny_field $0 $1 rfl $2
atI xs $0
OldK $0 s'.heap
$0 ≠ none
Jm5 (H $0)
max $0 (bx $1)
peq d $0
valueAt $0 k
bp $0 ps
$0 + b.length
bsF 0 $0
$0 ∈ S.hs
i.objs.size
S.rs ++ [$0]
Jne (GA $0)
hdL (ls.take $0) $1
a.toArray.size
%10 ≤ $0
bo $0 %8
InR v.length $0
rs.length = $0
EqR $0 As $1
gu $0 ts.length
SqL.of (g $0 $1 $2)
kR $0 %4
b.toArray.size = $0
ts.length = $0
Xa $0 (Ja $1)
Xa l.most $0
Ia (H1 $0) $1
Nd rfl $0
Mh $0 rfl $1 $2
Ni $0 (dTq $1)
Vo $0 ys
Yp $0 (tC $1)
Yp $0 te
Xr $0 .local
mk1 (Ny $0) $1
Ua prog w $0 $1 $2 $3 $4
JnD A $0 $1 $2 $3
JnE $0 $1 E $2
JnF $0 Q $1
JnG $0 s
VA $0 \"part\"
WB $0 lo
JO $0 rfl $1 $2 $3 $4 $5 $6 $7 $8
JnK $0 $1 $2 $3 $4 $5 $6 rfl $7
S.keys
Yj $0 (XP \"why\")
VV $0 $1 $2 %4 $3
UW $0 s
JX $0 $1 $2 $3 $4 rfl $5 $6 $7
XY \"head\" $0
$0 → WZ $1 $2 $3 $4
.ext (zc4 ea $0)
J8 $0 (pv $1)
V9 \"equal\" $0 $1
Clo X scope $0
Qj $0 a (ns.map V.int)
Jcd $0 $1 $2 ls.length $3 $4
JP $0 $1 (some (.int $2 $3))
Jd9 a $0
jd s.heap l1 $0
PyProof.Rows.slot_tuple_getitem.lookup
N.inn
List.nodup_nil
zas st
Jet $0 (Uc $1)
cm (hdL $0) As $1
JfS $0 (QV $1)
Jg2 H' $0
Jg8 cS $0 $1 $2
Jhl $0 I.pin
JhW %5 $0
Jij $0 $1 kvs $2
Jip al $0
.Call (.Attribute $0 $1 apos) $2 %7 $3
Joe $0 $1 $2 cpos
Jjh $0 (Uc $1)
PI $0 $1 iter wi
wpAny_pure h
Jjb (p ≠ $0) n
$0 ∈ negs ts
$0 → (Jk_ $1 → $2)
aY (Jne $0) $1
hiF (d $0) (d $1)
Xj \"held\"
JnQ $0 $1 $2 rfl $3 $4 rfl $5
Mut (H $0)
⟨u.slots,$0⟩
some (some $0)
$0 = V.int $1
Jot (V.int $0) $1
⟨$0,$1,$2,$3,rfl,$4,$5,$6⟩
aq (cz $0 $1 $2)
Itv $0 $1 xs.length
PySem.F.args_dict_setdefault_3 _ _ _
[\"thing\",\"things\",$0]
aX cu $0 $1
JoA af $0
[\"_law_problem\",$0,$1,$2,$3]
Nat.lt_succ_self _
Jf7 ld %7
[\"_law_script\",\"_law_first\",\"_law_terms\",$0]
JL pos
[$0,\"_law_parts\",\"_law_hints\"]
if_pos (Ma $0)
if_pos (Xb $0)
Yb (cb $0)
bK (Uc $0)
Mf (X.H₀ $0)
Ji $0 H
$0 ∧ JoN $1
Vi (xs.all $0)
Ml _ $0 $1
JoQ lS2 $0
Xv \"__init__\" $0 $1
g.toArray
IC $0 T.abs (Uc $1)
aD (QD $0)
XG cl $0 $1
aq (a $0 $1 $2 %9)
QF (UQ $0)
WY (Vj $0)
VB $0 (MZ $1 $2 $3 $4) $5
Jbe $0 ∧ $1
JcE K $0 $1
GK (JdA $0 $1 $2)
JhK $0 $1 S.lk
JhL $0 $1 $2 $3 $4 rfl $5
Jkt $0 ts.length $1
JkE $0 $1 (pv $2) $3
Jk4 $0 $1 $2 (iP $3)
Jl8 (JdR $0 ifs $1)
eY $0 none (some $1)
JoN $0 → $1
h.objs.size ≤ $0
D.rt $0 H'
h $0 $1 (I.tok $2) $3
backTo cpos $0
zbP kvs $0
h $0 (I.tok $1)
C $0 %4
h.rng t $0
kvs.map $0 = $1
dd.typeIs
Jpj $0 (F.map Sum.inl)
ZKp $0 $1 $2 $3 s.heap $4
updateSeq N $0
X.tryc pins $0
$0 ≠ .tup $1
i_ $0 (pv $1) $2 $3
Jpq $0 $1 (pv $2) $3
a.length ≤ $0
eJ.trans $0 g3
$0 ≤ S.ts.length
NoI $0 $1 $2 As.length $3 $4 $5 $6 $7 $8
X.A.in1.units + $0
$0 = bs.map $1
Jpx (c.map $0) $1
L.length ≤ $0
S.pp.length ≤ $0
Mf (b $0)
Vi (nob $0)
Ul $0 (.lst $1)
ar.keep $0 (cT _) $1
q $0 (Uq $1)
Ut fl $0
Nv $0 h'
Gw $0 (.str $1)
JcI Str
S.ts.take j ++ [$0]
VA $0 \"number\"
JlE \"given\"
$0 → UQ H'
$0 → JpN $1
QR .And $0
R (XZ $0) $1
I0 $0 $1 $2 (.lst $3)
V3 $0 zs
JpS (ls.map $0)
W9 $0 $1 (.ref $2) $3
JbQ l $0
Mf (Jcl $0)
JdQ $0 (ps.zip $1)
Jeb $0 e
Jeu (Uc $0)
eqD (Jfu $0) $1
JfS \"range\" $0
Jf9 (aD $0)
ae $0 (Jg3 $1 $2)
Jg9 $0 (Jgm $1)
Jhc (Uc $0)
JiH \"plain\" $0
Vo $0 (JiI $1 $2)
Qd (JjE $0)
JjU b $0
TxG K mg $0
JmL a $0
Jjz \"links\"
Jdq \"terms\"
Jdq \"given\"
JaR \"links\"
S.rs
I.ok.above
lG _ _ _
Uc 2
Uc 0
Qg 2
Il u (us.map VG)
r.length
X.outer
PassesOwn.leaving
List.Pairwise.nil
I.ok.mod.kin
D.length
B.length
A.in1
q b s c H _ I h
kZ xe1
j a s b H _ I h
bq ?_
Qe h d
JmJ ac
JmI gJ
Jk0 \"held\"
Ji_ \"part\"
Jb1 H5 b d
JaR \"link\"
PySem.F.args_dict_get_3 _ _ _
PrD K C H' p tl al rl v %7  %7
List.length_eq_zero_iff.mp Jn
JdE name c d g a T kV C R Y U
Heap.get?_update_self _ h rfl
this.symm
l.prog
a.heap.objs.size
D.heap.objs.size
pv 5
Qg 3
Jn8 x e
JhM t u
Jdo X.w
Jcx c e
h.objs.size
PySem.F.entry_dict_setdefault
I.ok.frames
fc K H H' fd C L n x R Y W'
ap.refl _
Xj \"most\"
WJ c.ok e c.m c.kp c.b 1 af
SqT.of k3
JB F.plain_dict_update_loop
J5 p.ok hr p.m p.kp p.b 0 2
CX ID H s E e s' → X.xe e s'
PySem.F.type_dict_setdefault
PyProof.Rows.Boot.isinstance
mroIn K C (.type \"object\")
List.mem_singleton.mpr rfl
JgS H fd M %7
F.ok $0 %11
TP.list
dTq z
QC Tm
Nn hl
Nc cZ
JgJ (V.ref J) (V.ref N) m
JaS 0
d.ts
c.length
T.n_looked
M.length
F.slot_tuple_iterator_next
ty 0 _ d
rz rfl T.reversed (Uc 1)
pD _ _ _
env.kindOf x
Yb (iY lZ UA iW (iX af))
VJ 2 3
Qg 5
Nat.lt_of_lt_of_le w3 w4
List Key
JlY hs
JU 4 4
JU 3 3
JU 2 2
IY \"most\" \"hunt\" \"fails\"
G _ _ (u _ _ (Y _ _ ao))
PySem.F.plain_extend_loop
put _ _ _ x (a b o r e)
Z.fresh (O.trans t) Y W
Nat.lt_of_sub_eq_succ Q
JlD af af (X8 af af af)
slot_list_getitem.lookup
PySem.F.type_list_extend
PySem.F.slot_list_extend
PySem.F.slot_dict_update
F.slot_tuple_hash.lookup
F.entry_dict_update_loop
ns.length - 1
bU.put2 _ _
args_tuple_getitem _ _
Xt \"_law_most\" \"error\"
Nat.sub_one_lt_of_lt z
Nat.le_sub_one_of_lt g
List.mem_of_mem_take a
Jb7 o e n a
JaK Tm o.hs
I.cne x c e
C.sub x c h
vs.length
ps.length
hs.length
PySem.F.type_list_index
PySem.F.slot_list_index
small_one Jn Jn Jn Jn
jV h As
e _ _ h
Qp _ _ (g.trans v) ?_
N8 a us
JlC pos
Jk1 Jgz
JfU 0 1
Xv $0 $0 $1
I.tok _
PySem.F.entry_max_loop
PySem.F.entry_dict_get
F.slot_tuple_eq.lookup
wpAny_newObj_type ?_
typeOf (.builtin id)
tupleKind_room_in1 j
s _ _ Jqy (Qe h c) h
s _ _ Jqy (Qe h a) h
mX Wa (WG 3 (bK ac))
mX WA (QI 3 (bK ac))
lr _ (mO (qe k0 k1))
f.keepT hz
Yu b a f d
Yc (M.at' 1 rfl rfl)
Xj \"paper\"
VD _ H I q
UB og rfl Jra (Mv 0)
Rs.map zcM
ItzN K a b
ao (H:= $0) (a:= $1) (o:= $2)
Yo (j:= $0)
Je $0 $0 $1
cg.k (k:= $0) $1
Ji1 (N':= $0) (ix:= $1) $2 $3 $4 $5
Me (i:= $0) $1 $2
Ji0 (N':= $0) (ix:= $1) $2 $3 $4 $5
gh (lo:= $0) (n:= $1) $2 $3 $4 $5
bj.lst (ys:= $0) $1
Jky (sc:= $0)
Us (j:= $0)
JG $0 (i:= $1) $2 $3
Jht (ts:= $0) (i:= $1) (j:= $2)
Jli (i:= $0) $1 (i:= $2) $3 $4
I.turned (t':= $0) $1 $2 $3 $4 $5 $6
Jo0 $0 (t':= $1) $2 $3 $4 $5
mO (i:= $0) $1
pN (As:= $0) (ps:= $1)
jj (xs:= $0) (i:= $1) $2 $3
VW (sc:= $0) $1
Jkw (r:= $0)
List.mem_or_eq_of_mem_set (i:= $0) $1

List.findIdx_getElem (w:= $0)"
def i(s:String)(f:String):Nat:=s.foldl (λn d=>n*63+(f.splitOn d.toString).head!.length) 0
def e(f:Name):String:=let s:=f.toString;let d:="abcdefghijklmnopqrstuvwxyzABCDEFGHIJKLMNOPQRSTUVWXYZ0123456789_";let g:="JXQVYZWUGIMN";if s.length<4&&s.length>1&&(s.toList.all λx=>d.toList.contains x)&&g.contains s.front&&(s.length<3||s.front==g.front) then ((T.splitOn "\n").drop (if s.length<3 then i (s.take 1).toString g*63+i (s.drop 1).toString d else 756+i (s.drop 1).toString d)).headD "" else ""
end J
set_option hygiene false
local macro_rules|`($f:ident)=>if J.e f.getId=="" then Lean.Macro.throwUnsupported else `($f:ident _)
local macro_rules|`($f:ident $x*)=>do
 let r:=J.e f.getId
 if r=="" then Lean.Macro.throwUnsupported
 return (J.k x.raw (←`([(by decide +kernel),(by decide),(λx_=>?_),(λx_ x_=>?_),(by simp),(by lia),(by rfl),[],(λc=>?_),(by intro z;cases z),(0:Int),λcdv A outer s H vs Q E $(⟨x.raw.getD 1 .missing⟩):ident h=>?_,(λz=>nomatch z),(by (repeat intro);rfl),(show JlP a from d),(λj i h=>match j,h with|0,h=>by cases h;exact JM _|n+1,h=>by simp at h),(λj i h=>by simp at h),(S.rs.length:Int),(i+1),(ts.length:Int),(λe=>d (by simp [e])),("__debug__":Str),((sIx items.size 0 lo:Int)==0&&(1:Int)==1&&(sIx items.size items.size b-JnJ 0)==items.size),(λc=>?_),(-t.1),(ls++b),(·.1),((i:Nat):Int),(λ_ _=>True,λ_ _=>True,λ_ _=>True,λ_ _=>True),(by show Ge 2;decide),(by show Ge 3;decide),(JgL l.1 l.2.1 l.2.2),(· < ·),(by rw[lM];lia),(Rs.length:Int),(by simp;lia),(λw e=>kC I g f hs r c w (by simpa using e)),(Jkx (v:=.ty "tuple") rfl rfl),(G15,b15,o.k,(o.m X G)),(λl hl=>?_)])).raw[1].getSepArgs 999 (J.w r) #[] #[] none).1[0]!
local macro_rules|`(tactic|let $x:term:=$e)=>do
 let o←`(tactic|obtain $(⟨J.p 99 x⟩):rcasesPat:=$e)
 if (x.raw.getRange?.getD default).bsize<9 then return o
 `(tactic|(refine _root_.J.x λG_ k_=>?_;$o:tactic;refine k_ ?_;try clear k_ G_))
local macro_rules|`(tactic|rfl')=>`(tactic|try dsimp only [Cx.nox,Cx.wish,aO])
local macro_rules|`(($a,$b,*))=>do
 if b.elemsAndSeps.size%2==0 then Lean.Macro.throwUnsupported
 let h←`(_)
 let r←`(rfl)
 let g←`(?_)
 let c:=(#[a]++b.getElems).flatMap λx=>match x.raw.isNatLit? with|some 2=>#[h,r]|some 3=>#[h,h,r,r]|some 4=>#[h,h,h,r,r]|some 5=>#[h,h]|some 6=>#[r,r]|some 7=>#[h,r,h,r]|some 8=>#[h,h,h]|some 9=>#[g,g]|_=>#[x]
 `(⟨$c,*⟩)
local macro_rules|`(tactic|let $x:ident:=$e)=>`(tactic|have $x:ident:=$e)|`(tactic|let $x:ident:$t:term:=$e)=>`(tactic|have $x:ident:$t:term:=$e)|`(tactic|apply $e)=>if e.raw[0].getId==`H53.all_mk then Lean.Macro.throwUnsupported else `(tactic|refine $e)
local macro_rules|`(tactic|erw[$r,*]at $h:ident)=>`(tactic|(rw[$r,*]at $h:ident;cases $h:ident))
local macro_rules|`(tactic|rwa[$r,*]at $h*)=>let t:Array Lean.Term:=h.map λx=>⟨x.raw⟩;`(tactic|(rw[$r,*];exact $(Lean.Syntax.mkApp t[0]! (t.extract 1 t.size))))
local macro_rules|`($a<|>$e)=>`((by rw[$a:term];exact $e))
local macro_rules|`(tactic|lia)=>`(tactic|first|assumption|exact Nat.le_of_lt ‹_›|exact Nat.le_trans ‹_› (by decide)|exact Int.ofNat_zero_le _|exact Nat.le_succ_of_le ‹_›|exact Nat.lt_succ_of_le ‹_›|exact Nat.lt_succ_of_lt ‹_›|exact Nat.lt_of_le_of_lt ‹_› (by decide)|exact Int.ofNat_lt.mpr ‹_›|exact(Int.toNat_of_nonneg ‹_›).symm|exact Nat.le_trans ‹_› ‹_›|exact Nat.lt_of_lt_of_le ‹_› ‹_›|lia -ac)
local macro_rules|`(command|init_quot)=>do
 let mut a:=#[]
 let t:=[49,105,139,154,169,184,199,214,249,265,330,406,459,551,632,710]
 let c:=`PySem.Challenge.cw_yesorno_k53_whole_no_holds
 for n in [`PySem.Challenge.pw_yesorno_k53_whole_no,`PySem.Challenge.rw_yesorno_k53_whole_no,c.str "view_39",c.str "env_41"]++([39,46,733].map λi=>c.str s!"heap_{i}")++((List.range 694).map λi=>c.str s!"o_{i+39}")++(t.map λi=>c.str s!"sts_{i}")++((733::48::t).map λi=>c.str s!"tree_{i-1}") do
  a:=a.push (←`(def $(Lean.mkIdent (.str `PySem.W.Fast s!"tw{n.hash}")):ident:True:=⟨⟩))
 return Lean.mkNullNode a
local macro_rules|`($d:declaration)=>let k:=d.raw[1].getKind;let r:=if k==`Lean.Parser.Command.structure||k==`Lean.Parser.Command.inductive then d.raw.rewriteBottomUp λs=>s.setInfo .none else d.raw.setHeadInfo .none;if d.raw.getPos?.isNone||r.getPos?.isSome then Lean.Macro.throwUnsupported else return r
noncomputable section
set_option tactic.hygienic false
def lM{α β}{l:List α}(f:α->β):(l.map f).length=l.length:=List.length_map f
def lAq{α}{a b:List α}:(a++b).length=Jna a.length:=List.length_append
def mAq{α β}{f:α->β}{a b:List α}:(a++b).map f=a.map f++b.map f:=List.map_append
def lS{α}{a:α}:[a].length=1:=rfl
def mO{α}{l:List α}{i:Nat}{a:α}(h:l[i]?=some a):a∈l:=List.mem_of_getElem? h
def mPq{α}{a:α}{s t:List α}(h:a∈s++t):a∈s\/a∈t:=List.mem_append.mp h
def mSq{α}{a b:α}(h:a∈[b]):a=b:=List.mem_singleton.mp h
def gEq{α}{i:Nat}{a:α}{l:List α}(h:l[i]?=some a):∃h,l[i]=a:=List.getElem?_eq_some_iff.mp h
def gG{α}{l:List α}{i:Nat}(h:i<l.length):l[i]?=some l[i]:=List.getElem?_eq_getElem h
def sAq{α}{l:List α}:l.toArray.size=l.length:=List.size_toArray
def nRq(n:Nat):n<=n:=Nat.le_refl n
def tO{α}{i:Nat}{l:List α}(h:l.length<=i):l.take i=l:=List.take_of_length_le h
def dTq{p:Prop}[Decidable p](h:p):decide p=true:=decide_eq_true h
def oDq{p:Prop}[Decidable p](h:decide p=true):p:=of_decide_eq_true h
def dFq{p:Prop}[Decidable p](h:¬p):decide p=false:=decide_eq_false h
def hG{h:PySem.Heap}{a:PySem.Addr}{u:PySem.Obj}(o:PySem.Obj)(e:h.get? a=some u):(h.push o).get? a=some u:=PySem.Heap.get?_push_of_some o e
def bLq:PySem.bootBuiltins "len"=some (.builtin "len"):=PySem.boot_len
def hLq{h:PySem.Heap}{a:PySem.Addr}{o:PySem.Obj}(e:h.get? a=some o):JdS a:=PySem.Heap.lt_size e
def lqA{a b c:Nat}(h:a-b=c+1):a-(b+1)=c:=congrArg Nat.pred h
def lqB(a b c:Nat):min (a-b) (c-b)<=c:=Nat.le_trans (Jfd _) (JmU _)
def lqC{a b:Nat}(h:b<a):a-(b+1)+1=a-b:=Nat.sub_add_cancel (Nat.sub_pos_of_lt h)
def lqS(a b:Nat):a-1-b=a-b-1:=Nat.sub_right_comm a 1 b
def lqD{a b c:Nat}(h:a-(b+1)<=c)(g:c<a-b):c=a-1-b:=(Nat.le_antisymm JrR h).trans (lqS a b).symm
def lqG{a b:Nat}(h:a<b):b-1-a+1=b-a:=(congrArg (·+1) (lqS b a)).trans (Nat.sub_add_cancel (Nat.sub_pos_of_lt h))
def lqH{a b c:Nat}(h:a<c)(g:b<c)(e:c-1-a=c-1-b):a=b:=(Nat.sub_sub_self (Nat.le_sub_one_of_lt h)).symm.trans (e▸Nat.sub_sub_self JrR)
def lqJ{x y:Int}(h:x.natAbs=y.natAbs):x=y\/x=-y:=Int.natAbs_eq_natAbs_iff.mp h
set_option tactic.hygienic true in
def lqT{v:Int}{n:Nat}:(if v<0 then max (v+n) 0 else min v n)=((if v<0 then (v+n).toNat else Jiq n:Nat):Int):=by
 split
 .exact (Int.ofNat_toNat _).symm
 .rename_i h;let(k,rfl):=Int.eq_ofNat_of_zero_le (Int.not_lt.mp h);show _=((min k n:Nat):Int);rcases Nat.le_total k n with g|g
  .rwa[Nat.min_eq_left g]at Int.min_eq_left (Int.ofNat_le.mpr g)
  .rwa[Nat.min_eq_right g]at Int.min_eq_right (Int.ofNat_le.mpr g)
set_option tactic.hygienic true in
def lqU{v:Int}{n:Nat}:max 0 (min (if v<0 then v+n else v) n)=((if v<0 then (v+n).toNat else Jiq n:Nat):Int):=by
 rw[<-lqT];split
 .rename_i h;rw[Int.min_eq_left (by lia),Int.max_comm]
 .rename_i h;exact Int.max_eq_right (Int.le_min.mpr (Int.not_lt.mp h,Int.natCast_nonneg _))
def lqN{a p:Int}{n:Nat}(N:1<=a/\a<=n)(l:p=a\/p=-a):Joj 0:=by
 let(m,rfl):=Int.eq_ofNat_of_zero_le (Int.le_trans Jp N.1);let e:p.natAbs=m:=Int.natAbs_eq_natAbs_iff.mpr l;exact(Int.natAbs_ne_zero.mp (e▸Nat.ne_of_gt (Int.ofNat_lt.mp N.1)),e▸Int.ofNat_le.mp N.2)
def lqL{x y a b:Int}{P:Int->Prop}(g:(x=a/\y=b)\/(x=b/\y=a))(i:P a)(j:P b):P y:=g.elim (λz=>z.2▸j) λz=>z.2▸i
def lqM{x y a b:Int}{P:Int->Prop}(g:(x=a/\y=b)\/(x=b/\y=a))(i:P a)(j:P b):P x:=g.elim (λz=>z.1▸i) λz=>z.1▸j
def lqV{c:Int}:((2+c%3).toNat:Int)=2+c%3:=Int.toNat_of_nonneg Jn
def lqP{c:Int}:(2+c%3).toNat<=4:=Int.toNat_le.mpr Jn
def lqO{c:Int}:(2+c%3-1).toNat<=3:=Int.toNat_le.mpr Jn
def lqQ{c:Int}:(1+c/12%2).toNat<=2:=Int.toNat_le.mpr Jn
def lqR{x:Int}{k:Nat}(h:x.natAbs<=k):-(k:Int)<=x/\x<=k:=(Int.neg_le_of_neg_le (Int.le_trans (Int.natAbs_neg x▸Int.le_natAbs) (Int.ofNat_le.mpr h)),Int.le_trans Int.le_natAbs (Int.ofNat_le.mpr h))
def lqW{x:Int}{n:Nat}(h:-(n:Int)<=x/\x<=n):x.natAbs<=n:=(Int.natAbs_eq x).elim (λe=>Int.ofNat_le.mp (JZ Jkm h.2)) λe=>Int.ofNat_le.mp (JZ (Int.neg_eq_comm.mp Jkm).symm (Int.neg_le_of_neg_le h.1))
namespace L2
open PySem PySem.Spec PyProof.Rows
abbrev Key:=Sum Int Str
noncomputable def zgt:Key->Value->Bool
  |.inl k,v=>Value.isInt k v
  |.inr x,v=>Value.isStrOf x v
noncomputable def keyH (w:World):Key->Int
  |.inl k=>hashInt k
  |.inr x=>hashStr w x
def gZ:∀{k:Key} {v:Value},Ji2 k v->(∃i t,XV k i/\v=UU i)\/(∃x t,k=Sum.inr x/\v=Jcf x)
  |.inl i,v,h=>by let(t,e):=Value.isInt_shape h;exact .inl (Gz i t e)
  |.inr x,v,h=>by let(t,e):=Value.isStrOf_shape h;exact .inr (Gz x t e)
def zY (i)(t):Ji2 (.inl i) (IS i):=by simp [zgt,Value.isInt]
def zZ (x)(t):Ji2 (.inr x) (JmV x):=by simp [zgt,Value.isStrOf]
def key_ll (a b):decide (XV (Sum.inl a:Key) b)=(a==b):=by
  lia
def key_rr (a b):decide ((Sum.inr a:Key)=Sum.inr b)=decide (a=b):=by
  simp
def key_lr (a)(b):decide ((Sum.inl a:Key)=Sum.inr b)=false:=dFq (λq=>nomatch q)
def key_rl (a)(b):decide (XV (Sum.inr a:Key) b)=false:=dFq (λq=>nomatch q)
def cq (prog)(w):PySem.KeyKind prog w Key where
  is:=zgt
  hash:=keyH w
  inj:=λv a b l f=>by
    rcases gZ l with ⟨i,t,rfl,rfl⟩|⟨x,t,rfl,rfl⟩
    . rcases gZ f with ⟨j,u,rfl,e⟩ | ⟨y,u,rfl,e⟩
      . injection e with c _;rw[c]
      . exact nomatch e
    . rcases gZ f with ⟨j,u,rfl,e⟩ | ⟨y,u,rfl,e⟩
      . exact nomatch e
      . injection e with c _;rw[c]
  byValue:=λk v h=>by rcases gZ h with ⟨i,t,rfl,rfl⟩|⟨x,t,rfl,rfl⟩<;>rfl
  pyHash:=λd h=>by
    rcases gZ d with ⟨i,t,rfl,rfl⟩|⟨x,t,rfl,rfl⟩
    . exact wpAny_pyHash_int h
    . exact wpAny_pyHash_str h
  eqBool:=λg d h=>by
    rcases gZ g with ⟨i,t,rfl,rfl⟩|⟨x,t,rfl,rfl⟩
    . rcases gZ d with ⟨j,u,rfl,rfl⟩ | ⟨y,u,rfl,rfl⟩
      . rw[key_ll]at h;exact wpAny_eqBool_int h
      . rw[key_lr]at h;exact SeqAt.EqAt.int_str i t y u _ _ _ _ h
    . rcases gZ d with ⟨j,u,rfl,rfl⟩ | ⟨y,u,rfl,rfl⟩
      . rw[key_rl]at h;exact SeqAt.EqAt.str_int x t j u _ _ _ _ h
      . rw[key_rr]at h;exact wpAny_eqBool_str h
  «strs»:=λk x t v h=>by
    rcases gZ h with ⟨i,u,rfl,e⟩|⟨y,u,rfl,e⟩
    . exact nomatch e
    . injection e with c _;subst c;cases v<;>rfl
def z_ (prog)(w)(i)(t):(JmW prog).is (.inl i) (IS i)=true:=zY i t
def nV (prog)(w)(x)(t):(JmW prog).is (.inr x) (JmV x)=true:=zZ x t
set_option genInjectivity true in
inductive V where
  |non|bl (b:Bool)|int (i:Int)|str (x:Str)|byt (b:Array UInt8)|flt (b:UInt64)|ref (a:Addr)|ty (n:String)
  deriving DecidableEq
def bn:V->Value->Prop
  |.non,u=>u=Value.none
  |.bl b,u=>Jgb u b
  |.int i,u=>∃t,u=UU i
  |.str x,u=>∃t,u=Jcf x
  |.byt b,u=>∃t,u=Value.bytes b t
  |.flt b,u=>∃t,u=Jln b
  |.ref a,u=>JlP a
  |.ty n,u=>Jdl u n
abbrev bc:List V->List Value->Prop:=Paired bn
def bc.length (r:UM xs):Xp us.length:=Paired.length r
theorem bc.get{xs:List V}{us:List Value}{i:Nat}{x:V}(h:UM xs)(e:xs[i]?=some x):∃u,us[i]?=some u/\bn x u:=by
  induction h generalizing i with
  |nil=>cases e
  |cons r t o=>cases i with
   |zero=>cases e;exact QD r
   |succ i=>exact o e
theorem bc.set (r:QN x){xs:List V}{us:List Value}(i:Nat)(h:UM xs):bc (xs.set i x) (us.set i u):=by
  induction h generalizing i with
  |nil=>exact .nil
  |cons q t o=>cases i with
   |zero=>exact Jlp t
   |succ i=>exact .cons q (o i)
theorem bc.append{xs ys:List V}{us a:List Value}(h:UM xs)(s:bc ys a):bc (xs++ys) (us++a):=by
  induction h with
  |nil=>exact s
  |cons r t i=>exact Jlp i
theorem bc.take{xs:List V}{us:List Value}(n:Nat)(h:UM xs):bc (xs.take n) (us.take n):=by
  induction h generalizing n with
  |nil=>cases n<;>exact .nil
  |cons r t o=>cases n with
   |zero=>exact .nil
   |succ n=>exact Jlp (o n)
theorem bc.drop:∀{xs:List V} {us:List Value} (n:Nat),UM xs->bc (xs.drop n) (us.drop n)
  |_,_,0,r=>r
  |_,_,_+1,.nil=>.nil
  |_,_,n+1,.cons _ t=>bc.drop n t
def dk:Option V->Option Value->Prop
  |some v,some u=>QN v
  |none,none=>True
  |_,_=>False
def KV {a:Type}:Nb a V->Nb a Value->Prop:=Paired λ p q=>p.1=q.1/\bn p.2 q.2
noncomputable def kV:Key->V
  |.inl i=>.int i
  |.inr x=>.str x
inductive HO where
    |lst (xs:List V)
    |tup (xs:List V)
    |dK (kvs:List (Key×V))|dT (kvs:List (List Key×V))
    |set (S:Int->Bool)(n:Nat)
    |ins (C dx:Addr)(fs:List (Str×V))
    |own (x:Addr)
    |xd (fs:List (Str×V))
    |met (f x:Addr)
    |rng (lo hi:Int)
    |frz (o:Obj)(u:HO)
    |tbl (ps:Array Value)
    |ext (φ:Heap->Prop)
abbrev Hp:=Xq Addr HO
noncomputable def upd (H:Hp)(a:Addr)(o:HO):Hp:=λb=>if b=a then some o else H b
def ao:upd H a o a=some o:=by unfold upd;rw[if_pos rfl]
def aq (h:b≠a):upd H a o b=H b:=by unfold upd;rw[if_neg h]
def vk:Jmg (JhD o)=upd H a u:=by funext b;unfold upd;split<;>rfl
def cz {H:Hp}{a b:Addr}{o u:HO}(h:Ic a o)(h':Ic b u)(d:o≠u):a≠b:=Jn
def cn {H:Hp}{a b:Addr}{o:HO}(h:Ic a o)(h':Nf b):a≠b:=Jn
def fY (h:Heap)(a:Addr)(items:Array Value):Prop:=∃o,h.get? a=some o/\(o.cls,o.dict,)=(Value.type "tuple",none,)/\∃n,Jj0 items n
def fY.up (x:fY h a items):IsTup h a items:=(by let(o,e,c,d):=x;exact (o,e,(Prod.mk.inj c).1,d))
def fY.lt (x:fY h a items):JdS a:=x.up.lt
def fY.new (h:Heap)(items):fY (h.push { cls:=.type "tuple",data:=.seq items }) JqU items:=Qp _ VN _ rfl
section
variable (P:Program) (w:World)
def bV (H:Hp)(h:Heap)(a:Addr):HO->Prop
  |.lst xs=>Qd xs.length/\∃b n,Jlo b/\h.get? a=some { cls:=.type "list",data:=.seq b.toArray n }
  |.tup xs=>Qd xs.length/\∃b:List Value,Jlo b/\fY h a b.toArray
  |.dK kvs=>Qd Jj1/\Yw (a==sysModules)/\∃vs,Jd_ vs/\h.DictOf (JmW P) a vs
  |.dT kvs=>Qd Jj1/\Yw (a==sysModules)/\∃xs:Nb Jru (QP Value),
      Paired (λ p q=>p.1=q.1/\Jcs q.2.1 (p.1.map kV)/\bn p.2 q.2.2) kvs xs/\
      ∃o es ep,h.get? a=some o/\o.ExactDict/\JjZ ep/\es.toList=Jea (Jaj P w)/\(xs.map Qn).Nodup
  |.set S n=>h.SetOf (intKind P w) a S n
  |.ins C dx d=>Jkk dx a/\Jr d.length/\dx≠a/\h.get? a=some (Jfe C)/\
      ∃c,h.Ns1 dx c/\(∀f,dk (d.lookup f) (c f))/\PySem.Within c (d.map Qn)
  |.own _=>∃o,h.get? a=some o
  |.xd d=>∃c,h.Ns1 a c/\∀f,dk (d.lookup f) (c f)
  |.rng lo j=>∃t u v,h.get? a=some { cls:=.type "range",data:=.fields #[IS lo,Jir j,.int 1 v] }
  |.frz o u=>h.get? a=some o/\bV H h a u
  |.tbl ps=>h.get? a=some { cls:=.none,data:=.fields ps }
  |.met f x=>h.get? a=some (PySem.W.methodObj (.ref f) (.ref x))
  |.ext e=>e h/\(∃o,h.get? a=some o)/\∀i g:Heap,e i->(∀o,i.get? a=some o->g.get? a=some o)->e g
def HOk (H:Hp)(h:Heap):Prop:=∀a o,QG a o (bV P w H h a o)
end
section
variable {P:Program} {w:World} {H H':Hp} {h h':Heap} {a:Addr} {o:HO}
def bV.lt (x:bV P w H h a o):JdS a:=by
  cases o with
  |lst xs=>obtain⟨_,_,_,_,e⟩:=x;exact hLq e
  |tup xs=>obtain⟨_,_,_,p⟩:=x;exact p.lt
  |dK kvs=>obtain⟨_,_,_,_,o,_,_,e,_⟩:=x;exact hLq e
  |dT kvs=>obtain⟨_,_,_,_,o,_,_,e,_⟩:=x;exact hLq e
  |set S n=>obtain⟨o,_,_,_,e,_⟩:=x;exact hLq e
  |ins C dx b=>obtain⟨_,_,_,e,_⟩:=x;exact hLq e
  |own y=>obtain⟨_,e⟩:=x;exact hLq e
  |xd b=>obtain⟨_,⟨_,_,_,e,_⟩,_⟩:=x;exact hLq e
  |rng lo g=>obtain⟨_,_,_,e⟩:=x;exact hLq e
  |frz d u=>obtain⟨e⟩:=x;exact hLq e
  |tbl ps=>exact hLq (show h.get? a=some _ from x)
  |met f y=>exact hLq (show h.get? a=some _ from x)
  |ext c=>obtain⟨_,⟨_,e⟩,_⟩:=x;exact hLq e
theorem Paired.mapP{d:List α}{c:List β}(h:Paired F d c)(f:∀a b,F a b->G a b):Paired G d c:=by
  induction h with
  |nil=>exact .nil
  |cons r t i=>exact .cons (f _ _ r) i
def bV.stay (x:bV P w H h a o)(k:∀b u,(b=a∨Jkk b a)→h.get? b=some u→h'.get? b=some u)
    (B:∀b,Jik b (.own a) b (.own a))(A:∀b xs,Jil b xs (Vy b xs)):bV P w H' h' a o:=by
  induction o with
  |lst xs=>obtain⟨z,i,n,r,e⟩:=x;exact(z,i,n,r,JjT _)
  |tup xs=>obtain⟨z,i,r,g,e,c⟩:=x;exact(z,i,r,g,JjT _,c)
  |dK kvs=>obtain⟨z,y,vs,r,g,es,ep,e,c⟩:=x;exact(z,y,vs,r,g,es,ep,JjT _,c)
  | dT kvs =>
    let(z,y,xs,r,g,es,ep,e,c):=x;exact(z,y,xs,Paired.mapP r λp q z=>(z.1,A _ _ z.2.1,z.2.2),g,es,ep,JjT _,c)
  |set S n=>obtain⟨g,es,ep,t,e,c⟩:=x;exact(g,es,ep,t,JjT _,c)
  | ins C dx D =>
    let(d,z,l,e,j,(od,es,ep,E,c),r):=x;exact(B _ d,z,l,JjT _,j,(od,es,ep,k _ _ (.inr d) E,c),r)
  |own y=>obtain⟨g,e⟩:=x;exact(g,JjT _)
  |xd D=>obtain⟨j,⟨od,es,ep,e,c⟩,r⟩:=x;exact(j,(od,es,ep,JjT _,c),r)
  |rng lo G=>obtain⟨t,u,v,e⟩:=x;exact(t,u,v,JjT _)
  |frz g u s=>obtain⟨e,q⟩:=x;exact(JjT _,s q)
  | tbl ps =>
    let e:=x;exact JjT a
  | met f y =>
    let e:=x;exact JjT a
  |ext F=>obtain⟨p,⟨o,e⟩,st⟩:=x;exact(st _ _ p λo q=>JjS _ q,(o,JjT _),st)
def HOk.lt (x:JdD h)(e:Ic a o):JdS a:=(x a o e).lt
def HOk.fresh (x:JdD h)(e:Jpb a):Nf a:=by
  cases q:H a with
  |none=>rfl
  |some u=>exact Mu (Nat.lt_of_lt_of_le (x.lt q) e) _
def HOk.kept (x:JdD h)(k:∀b u,h.get? b=some u->h'.get? b=some u):JdD h':=λa o e=>
  (x a o e).stay (λb u y q=>k b u q) (λy q=>q) λy y q=>q
def HOk.laid (x:JdD h)(k:∀b u,h.get? b=some u->h'.get? b=some u)(i:Jpb a)(d:bV P w JdL h' a o):JcK JdL h':=λb u e=>by
  let f:=x.fresh i;by_cases g:b=a
  . subst g;erw[ao]at e;exact d
  . rw[aq g]at e;exact(x b u e).stay (λc v y q=>k c v q) (λc q=>by rwa[NP q f]at q) λc xs q=>by rwa[NP q f]at q
end
def Rd (H:Hp)(a:Addr)(u:HO):Prop:=Ic a u\/∃o,Ic a (Jis u)
def Rd.ok (r:Rd H a u)(x:JdD h):bV P w H h a u:=by
  rcases r with r|⟨o,r⟩
  . exact x a u r
  . let(_,q):=x a _ r;exact q
def Mut:Option HO->Prop
  |some (.lst _)=>True
  |some (.dK _)=>True
  |some (.dT _)=>True
  |some (.set _ _)=>True
  |some (.ins _ _ _)=>True
  |some (.ext _)=>True
  |_=>False
section
variable {P:Program} {w:World} {H:Hp} {h h':Heap} {x e:Addr} {o':HO}
def HOk.write (s:JdD h)(g:Joq x)(p:e=x∨Jkk e x)(k:∀b u,b≠e→h.get? b=some u→h'.get? b=some u)(n:∃u,h'.get? e=some u)
    (l:bV P w (Jm x o') h' x o'):JcK (Jm x o') h':=λb u q=>by
  let d:∀c y,QG c (.own y) (c≠x):=λc y r z=>by subst z;rw[r]at g;exact g
  let f:∀c xs,Jil c xs (c≠x):=λc xs r z=>by subst z;rw[r]at g;exact g
  by_cases j:b=x
  . subst j;erw[ao]at q;exact l
  . rw[aq j]at q;by_cases a:b=e
    . let o:H b=some (.own x):=by
        rwa[a]at p.resolve_left (a▸j)
      erw[q]at o;let(v,t):=n;exact(v,by rwa[a]at t)
    . apply(s b u q).stay (λc v i r=>k c v ?_ r) (λc r=>by rwa[aq (d c b r)]at r) λc xs r=>by rwa[aq (f c xs r)]at r
      rcases i with rfl|i
      . exact a
      . rintro rfl;rcases p with z | z
        . exact d c b i z
        cases i.symm.trans z;exact j rfl
end
structure Un (fs ex:List Addr)(H H':Hp)(h h':Heap):Prop where
  keep:∀b o,h.get? b=some o->Nf b->b∉fs->b∉ex->h'.get? b=some o
  slot:∀b o,h.get? b=some o->Nf b->b∈fs->b∉ex->∃sl,h'.get? b=some { o with slots:=sl }
  free:∀b o,h.get? b=some o->Nf b->b∉ex->JaP b
  there:∀b o,h.get? b=some o->b∉ex->∃o',h'.get? b=some o'
  tups:∀b xs,Jil b xs (Vy b xs)
  frzs:∀b o u,Jik b (Jis u) b (Jis u)
  tbls:∀b ps,Ic b (.tbl ps)->∃more,Uk b (.tbl (ps++more))
section
variable {fs fs' ex ex':List Addr} {H H1 H2:Hp} {h h1 h2 h':Heap} {a x e:Addr} {o:HO}
def Un.any (u:Un fs ex H H1 h h1){b:Addr}{c:Obj}(q:h.get? b=some c)(n:Nf b)(d:b∉ex):∃g,h1.get? b=some { c with slots:=g }:=by
  by_cases f:b∈fs
  . exact u.slot b c q n f d
  . exact(c.slots,u.keep b c q n f d)
def Un.kept (k:∀b u,h.get? b=some u->h'.get? b=some u):Un fs ex H H h h' :=
  (λb c q x x x=>k b c q,λb c q x x x=>(c.slots,k b c q),λx x x n x=>n,λb c q x=>(c,k b c q),λx x q=>q,λx x x q=>q,λx ps q=>(#[],by rw[q];simp))
def Un.refl:Un fs ex H H h h:=Un.kept λx x q=>q
def Un.laid (k:∀b u,h.get? b=some u->h'.get? b=some u)(d:Jpb a)(c:Nf a):Un fs ex H JdL h h' where
  keep:=λb u q x x x=>k b u q
  slot:=λb u q x x x=>Jor (k b u q)
  free:=λb u q n x=>by rwa[aq (Nz q d)]at n
  there:=λb u q x=>(u,k b u q)
  tups:=λb xs q=>by rwa[NP q c]at q
  frzs:=λb u xs q=>by rwa[NP q c]at q
  tbls:=λb ps q=>(#[],by rw[NP q c,q];simp)
def Un.write (d:Joq x)(l:e=x∨Jkk e x)(k:∀b u,b≠e→h.get? b=some u→h'.get? b=some u)(g:∃u,h'.get? e=some u):Un fs ex H (Jm x o) h h':=by
  let i:∀b,Ms b (b≠x):=λb n z=>by subst z;rw[n]at d;exact d
  let j:∀b,Ms b (b≠e):=λb n z=>by
    lia
  let f:∀b u,Ic b u->¬Mut (some u)->b≠x:=λb u q nm z=>by subst z;rw[q]at d;exact nm d
  apply(λb u q n y y=>k b u (j b n) q,λb u q n y y=>Jor (k b u (j b n) q),λb u q n y=>by rwa[aq (i b n)]at n,λb u q y=>?_,λb xs q=>by rwa[aq (f b _ q λz=>z)]at q,λb u xs q=>by rwa[aq (f b _ q λz=>z)]at q,λb ps q=>(#[],by rw[aq (f b _ q λz=>z),q];simp))
  by_cases c:b=e
  . subst c;exact g
  . exact(u,k b u c q)
end
noncomputable def trk (h:Heap)(H:Hp):List Addr:=(List.range JqU).filter λa=>(H a).isSome
def kc (h:Heap)(H:Hp):Heap:=PySem.W.hideAll h (trk h H)
def Aa (h)(H):(kc h H).objs.size=h.objs.size:=PySem.W.hideAll_size _ _
def Ab (e:h.get? b=some o)(n:Nf b):(kc h H).get? b=some o :=
  PySem.W.hideAll_get _ e λa=>by let q:=(List.mem_filter.mp a).2;rw[n]at q;simp at q
def Ac (e:(kc h H).get? b=some o):h.get? b=some o∧Nf b:=by
  let a:=PySem.W.of_hideAll _ e;apply Qm a;cases q:H b with
  |none=>rfl
  | some x =>
    let c:b∈trk h H:=Ni (List.mem_range.mpr (hLq a)) (by simp [q]);let z:(kc h H).get? b=none:=PySem.W.hideAll_none _ c;erw[z]at e
structure Mod (K:PySem.W.Frag)(mg)(base):Prop where
  kin:K.In base
  glob:V4 mg
  blt:∃mb,base.Ns builtinsNs mb/\∀x:Str,JcL x->mb x=bootBuiltins x
  nolimit:base.NoLimit
structure Cx where
  prog:Program
  w:World
  K:PySem.W.Frag
  mg:QT Str
  base:Heap
  A:Around
  N:List Str
  s₀:Shared
  H₀:Hp
  env:Env
  outer:List Env
  stack:List Env
  ex:List Addr
  fn:Str->Bool
  calm:Bool
  pn:Jcr Obj
  xe:Value->Shared->Prop
noncomputable def frs (l:List Env):List Addr:=l.filterMap (·.frame)
abbrev Cx.fs (X:Cx):List Addr:=frs Jqn
def Vis (sc:Scope)(x:Str):Prop:=JnB x\/JlO x\/Xr x .free
def Loc (sc:Scope)(x:Str):Prop:=JnB x\/JlO x
def Look (env:Env)(h:Heap)(m:QT Str)(x:Str)(u:Value):Prop :=
  (JiU Jrp/\Xa (m x) u)\/((Xa Jrp .cell\/Xa Jrp .free)/\∃c,Jd2 x c/\h.IsCell c (some u))
structure Cx.Ok (X:Cx):Prop where
  mod:Mod Gh X.mg Jdc
  kind:U9 X.env.scope.kind
  glob:X.env.globals=mainGlobals
  blt:X.env.builtins=builtinsNs
  above:Nu JcA
  inj:∀x y c,JlM (JlL y (x=y))
  has:∀x,(JaH x\/JaG x)->∃c,Vf x c
  cab:∀x c,V_ x->JlM (Nu c)
  hd:Vi Gy->Mf X.A.handled
  frames:Xa X.A.frames ID
  stk:X.stack=X.outer\/(X.stack=Ja4 Wc/\JiV X.env.frame)
  exf:∀b∈X.ex,Gv b/\∀x c,JlM (c≠b)
  bs:∀b o,X.base.get? b=some o->X.s₀.heap.get? b=some o/\JoM b
  bsz:X.base.objs.size<=X.s₀.heap.objs.size
  noex:∀b o,X.base.get? b=some o->b∉X.ex
  exfs:∀b∈X.ex,b∉X.fs
  funs:X.s₀.heap.FunFrames Jdc Jqn
  frf:∀b∈X.fs,JoM b
structure Inv (X:Cx)(pins)(σ:List (Option V))(H)(s:Shared):Prop where
  ok:X.Ok
  os:s.os=X.s₀.os
  bare:AllBare s.gens
  base:Un X.fs X.ex X.H₀ H X.s₀.heap Yq
  loc:∃m,s.heap.Ns JcA m/\∀(i:Nat) (x) (v),X.N[i]?=some x->σ[i]?=Jos v->JaU x->∃u,QN v/\Look Wc Yq m x u
  cell:∀x c,Vf x c->∃v,s.heap.IsCell c v
  free:Nf JcA
  freeC:∀x c,JlM (Nf c)
  pin:∀p∈X.pn++pins,s.heap.get? p.1=some p.2/\Nf p.1/\Gv p.1/\p.1∉X.fs/\∀v,p.2.data≠.cell v
  hok:Jg2 H Yq
  len:σ.length=X.N.length
section
variable {X:Cx} {pins:List GM} {σ:List (Option V)} {H H':Hp} {s:Shared} {h':Heap}
def Cx.Ok.nofr (a:X.Ok){b:Addr}{o:Obj}(e:X.base.get? b=some o):b∉X.fs:=λc=>by have:=(a.funs.mem c).1;erw[e]at this
def Inv.bs (I:Xm s):∀b o,X.base.get? b=some o->s.heap.get? b=some o/\Nf b:=λb o e=>
  (JmX o (I.ok.bs b o e).1 (I.ok.bs b o e).2 (I.ok.nofr e) (I.ok.noex b o e),Jb7 o (I.ok.bs b o e).1 (I.ok.bs b o e).2 (I.ok.noex b o e))
def Inv.bk (I:Xm s):∀b o,X.base.get? b=some o->s.heap.get? b=some o:=λb o e=>(I.bs b o e).1
def Inv.mod (I:Xm s):Mod Gh X.mg X.base:=I.ok.mod
def Inv.kIn (I:Xm s):X.K.In s.heap:=I.ok.mod.kin.keeps I.bk
def Inv.lt (I:Xm s):Jk X.env.locals:=(by let(_,hn,_):=I.loc;exact hn.lt)
def Inv.sz (I:Xm s):Nu s.heap.objs.size:=Nat.le_trans Jqg (Nat.le_of_lt I.lt)
def Inv.nofs (I:Xm s){a:Addr}(h:Jak a):a∉X.fs:=λc=>by let(_,o,b,_):=I.ok.funs.mem c;exact Mu (Wh b (Nat.le_trans I.sz h)) _
def Inv.cne (I:Xm s):∀x c,JlM (Gv c):=λx c e z=>by let(v,o,d,f):=JeR x e;let(m,(g,es,ep,a,b,_),_):=I.loc;lia
def Inv.funs (I:Xm s):s.heap.FunFrames Jdc X.outer:=by
  let f:∀l,(∀b∈frs l,b∈X.fs)→X.s₀.heap.FunFrames Jdc l→s.heap.FunFrames Jdc l:=by
    intro l
    induction l with
    |nil=>intro _ _;trivial
    | cons env r g =>
      intro hs k;let(n,(L,o,a,j,i,p),h):=k;let d:=hs L (by unfold frs;rwa[List.filterMap_cons,a]at VI);let(q,e):=I.base.slot L o i (I.ok.frf L d) d λz=>I.ok.exfs L z d;exact(n,(L,_,a,j,e,p),g (λb c=>hs b (by unfold frs;rwa[List.filterMap_cons,a]at Jb c)) h)
  exact f Jqn (λx c=>c) I.ok.funs
def Inv.stack (I:Xm s):s.heap.FunFrames Jdc X.stack:=by
  rcases I.ok.stk with e|⟨e,b⟩
  . rwa[e]at I.funs
  . rw[e];let(m,a,_):=I.loc;apply .cons (by rw[I.ok.kind];decide) b a ?_ I.funs;exact Heap.get?_none_of_le (Jal Jqg)
def Inv.stkSub (I:Xm s):∀b∈frs ID,b∈X.env.locals::X.fs:=λb a=>by
  rcases I.ok.stk with e|⟨e,c⟩
  . rw[e]at a;exact Jb a
  . rw[e]at a;unfold frs at a;rw[List.filterMap_cons,c]at a;exact a
def Inv.stkFree (I:Xm s):∀b∈frs ID,Nf b:=λb a=>by
  rcases List.mem_cons.mp (I.stkSub b a) with e|a
  . rwa[e]at I.free
  . let(_,o,c,_):=I.ok.funs.mem a;exact I.base.free b o c (I.ok.frf b a) λz=>I.ok.exfs b z a
def Inv.step {g':Array GenState}{t':Nat}{d':Drawn}{ch:List Addr}(I:Xm s)
    (j:∀b∈ch,(b∈X.ex\/Nu b)/\Gv b/\(∀x c,JlM (c≠b))/\∀p∈X.pn++pins,p.1≠b)
    (h:∀b o,Gv b->b∉X.fs->b∉ch->s.heap.get? b=some o->Nf b->h'.get? b=some o)
    (B:∀b o,Gv b->b∈X.fs->b∉ch->s.heap.get? b=some o->Nf b->∃P,h'.get? b=some { o with slots:=P })(f:∀b o,b∉ch->s.heap.get? b=some o->Nf b->JaP b)
    (C:∀b o,b∉ch->s.heap.get? b=some o->∃J,h'.get? b=some J)
    (F:∀b xs,Jil b xs (Vy b xs))(M:∀b o u,Jik b (Jis u) b (Jis u))(G:∀b ps,Ic b (.tbl ps)->∃L,Uk b (.tbl (ps++L)))
    (ns:∀m,s.heap.Ns JcA m->h'.Ns JcA m)(Q:Jn9 h')(hg:AllBare g'):
    Inv X pins σ H' { s with heap:=h',gens:=g',drawn:=d',toks:=t' }:=by
  let K:∀b o,X.s₀.heap.get? b=some o->Gv b:=λb o e=>Jcu e;let y:∀b o,X.s₀.heap.get? b=some o->b∉X.ex->b∉ch:=λb o e a D=>by
    rcases(j b D).1 with z|z
    . exact a z
    . exact Mu (Wh e z) _
  let t:∀x c,Vf x c->∀v,s.heap.IsCell c v->h'.IsCell c v:=λx c e v (o,E,R)=>by
    let g:c∉ch:=λz=>(j c z).2.2.1 x c e rfl;by_cases U:c∈X.fs
    . let(P,q):=B c o JrV U g E JqT;exact Q5 q R
    . exact Jmh (h c o JrV U g E JqT) R
  apply(I.ok,I.os,hg,(λb o e n D a=>?_,λb o e n D a=>?_,λb o e n a=>?_,λb o e a=>?_,λb xs e=>F b xs (Jmj b e),λb o xs e=>M b o xs (I.base.frzs b o xs e),λb ps e=>?_),?_,λx c e=>?_,?_,λx c e=>?_,λp T=>?_,Q,I.len)
  . exact h b o (K b o e) D (y b o e a) (JmX o e n D a) JrT
  . let(P,A):=I.base.slot b o e n D a;let(O,N):=B b _ (K b o e) D (y b o e a) A JrT;exact(O,N)
  . let(J,A):=JgB o e a;exact f b J (y b o e a) A JrT
  . let(J,A):=JgB o e a;exact C b J (y b o e a) A
  . let(Y,A):=I.base.tbls b ps e;let(W,N):=G b _ A;exact(Y++W,by rw[N,Array.append_assoc])
  . let(m,Z,hl):=I.loc;apply(m,ns m Z,λi x v A N e3=>?_);let(u,r,l):=hl i x v A N e3;apply Gc u r;rcases l with l | ⟨k,c,e,z⟩
    . exact .inl l
    . exact WM k c e (t x c e _ z)
  . let(v,z):=JeR x e;exact(v,t x c e v z)
  . let(m,(o,_,_,E,_),_):=I.loc;exact f _ o (λz=>(j _ z).2.1 rfl) E I.free
  . let(v,o,E,R):=JeR x e;exact f c o (λz=>(j c z).2.2.1 x c e rfl) E JqT
  . let(e,n,S,nf,d):=Jbs T;let g:p.1∉ch:=λz=>(j p.1 z).2.2.2 p T rfl;exact(h p.1 p.2 S nf g e n,f p.1 p.2 g e n,S,nf,d)
def Inv.un {t':Nat}(I:Xm s)(u:JaV X.fs [] H H' h')(c:Jn9 h'):Ik H' { s with heap:=h',toks:=t' }:=by
  let(m,(o,es,ep,h,r),_):=id I.loc;let(l,k):=u.any h I.free Js;exact I.step (g':=s.gens) (d':=s.drawn) (ch:=[]) (λx z=>nomatch z) (λb o x d x e n=>u.keep b o e n d Js) (λb o x d x e n=>u.slot b o e n d Js) (λb o x e n=>u.free b o e n Js) (λb o x e=>u.there b o e Js) u.tups u.frzs u.tbls (λq j=>by let(p,f,g,a,i):=j;erw[h]at a;exact(_,f,g,k,i)) c I.bare
def Inv.call {g':Array GenState}{t':Nat}{d':Drawn}{ch:List Addr}(I:Xm s)(u:Jdj ch H H' h')(g:Jn9 h')(t:AllBare g')
    (f:∀b∈ch,(b∈X.ex\/Nu b)/\Gv b/\(∀x c,JlM (c≠b))/\∀p∈X.pn++pins,p.1≠b):
    Inv X pins σ H' { s with heap:=h',gens:=g',drawn:=d',toks:=t' }:=by
  let(m,(o,es,ep,k,r),_):=id I.loc;let(y,h):=u.any k I.free λz=>(f _ z).2.1 rfl;exact I.step f (λb o h v a e n=>u.keep b o e n (λz=>(List.mem_cons.mp (I.stkSub b z)).elim h v) a) (λb o C C a e n=>u.any e n a) (λb o a e n=>u.free b o e n a) (λb o a e=>u.there b o e a) u.tups u.frzs u.tbls (λB q=>by let(A,i,j,d,l):=q;erw[k]at d;exact(_,i,j,h,l)) g t
def Inv.turned {t':Nat}{it:Addr}(I:Xm s)(k:∀b o,b≠it→s.heap.get? b=some o→h'.get? b=some o)(h:Nf it)(f:Gv it)
    (w:it∈X.ex\/Nu it)(t:∀x c,JlM (c≠it))(l:∀p∈X.pn++pins,p.1≠it):Xm { s with heap:=h',toks:=t' }:=by
  let d:∀b u,QG b u (b≠it):=λb u e z=>by erw[z,h]at e
  apply I.step (g':=s.gens) (d':=s.drawn) (ch:=[it]) (λb j=>?_) (λb o y y a e y=>k b o (λz=>a (by simp [z])) e) (λb o y y a e y=>(o.slots,k b o (λz=>a (by simp [z])) e)) (λy y y y n=>n)
    (λb o a e=>(o,k b o (λz=>a (by simp [z])) e)) (λy y e=>e) (λy y y e=>e) (λb ps e=>(#[],by rw[e];simp)) (λm i=>?_) (λb u e=>?_) I.bare
  . let e:b=it:=by simpa using j
    subst e;exact(w,f,t,l)
  . let(o,es,ep,g,r):=i;exact(o,es,ep,k _ o (Ne.symm f) g,r)
  . apply(JpY u).stay (λc v a q=>k c v ?_ q) (λy q=>q) λy y q=>q;lia
def Inv.tok (I:Xm s)(t):Xm { s with toks:=t }:=I.un (h':=Yq) (t':=t) Un.refl I.hok
def Inv.kept (I:Xm s)(k:∀b u,s.heap.get? b=some u->h'.get? b=some u):Xm { s with heap:=h',toks:=t' }:=I.un (Un.kept k) (I.hok.kept k)
def Inv.laid (I:Xm s)(k:∀b u,s.heap.get? b=some u→h'.get? b=some u)(d:Jak a)(c:I0 (JhD o) h' a o) :
    Inv X pins σ (JhD o) { s with heap:=h',toks:=t' }:=I.un (Un.laid k d (I.hok.fresh d)) (I.hok.laid k d c)
def Inv.write (I:Xm s)(d:Joq x)(f:e=x∨Jkk e x)(k:∀b u,b≠e→s.heap.get? b=some u→h'.get? b=some u)(a:∃u,h'.get? e=some u)
    (c:I0 (Jm x o) h' x o):Ik (Jm x o) { s with heap:=h',toks:=t' }:=I.un (Un.write d f k a) (I.hok.write d f k a c)
def Inv.pins_of (I:Xm s)(h:∀p∈pins',s.heap.get? p.1=some p.2/\Nf p.1/\Gv p.1/\p.1∉X.fs/\∀v,p.2.data≠.cell v):Jf4 pins' σ :=
  (Jhl I.ok (λp a=>(mPq a).elim (λz=>Jbs (Ma z)) (h p)))
def vl {N:List Str}(c:N.Nodup){i j:Nat}{x:Str}(a:N[i]?=some x)(b:N[j]?=some x):i=j:=by let(g,e):=gEq a;let(f,d):=gEq b;exact(List.getElem_inj c).mp (e.trans d.symm)
def vm {M:Model}{A:Around}{E:Value→Shared→Prop}{i:Nat}{x:Str}{v:V}{u:Value}{Q:Unit→Shared→Prop}(I:Xm s)(hN:X.N.Nodup)(R:X.N[i]?=some x)(t:NO x)(r:QN v)
    (h:∀s',Ga X (Jlq (some v)) H s'->(∃a,Nv a s'.heap/\(a=X.env.locals\/Vf x a))->Q () s')(hf:V_ x\/X.env.scope.names.lookup x=some .local:=by first|exact .inl rfl|exact .inr rfl|assumption):wpAny M A (JkG x u) Q E s:=by
  let(m,hn,hl):=id I.loc;let S:Yw (X.env.scope.kind == .class||(X.env.scope.kind == .module&&X.env.locals != X.env.globals)):=by rw[I.ok.kind];rfl
  let F:i<σ.length:=by rwa[I.len]at(gEq R).1
  let L:=I.cne;let f:∀{a:Addr} {h':Heap},(∃o,s.heap.get? a=some o/\Nf a)->JpH a->HOk Uh X.w H h':=λ{a h'} ha hs b ob e=>by
    let(_,_,B):=ha;apply(JpY ob).stay (λc W l q=>(hs.2 c ?_).trans q) (λ_ q=>q) λ_ _ q=>q;lia
  rcases t with D|D
  . apply wpAny_storeName_local D hn (λh' hn' hs=>?_) S;let(oL,_,_,hoL,_):=id hn;apply h _ (Jg4 I.ok (λb o e n K t=>?_,λb o e n K t=>?_,I.base.free,λb o e t=>?_,I.base.tups,I.base.frzs,I.base.tbls) (Q5 hn' (λj y v' g C e3=>?_)) (λy c e=>?_) (λp hp=>?_) (f (oL,hoL,I.free) hs) (by simpa using I.len)) (Q5 hs (.inl rfl))
    . exact(hs.2 b (Jcu e)).trans (JmX o e n K t)
    . let(sl,g):=I.base.slot b o e n K t;exact(sl,(hs.2 b (Jcu e)).trans g)
    . let(o',g):=JgB o e t;exact(o',(hs.2 b (Jcu e)).trans g)
    . by_cases G:j=i
      . subst G;erw[R]at g;erw[List.getElem?_set_self F]at C;exact(u,r,Qk D Js)
      . rw[List.getElem?_set_ne (Ne.symm G)]at C;let(u',r',q):=hl j y v' g C e3;apply Gc u' r';rcases q with ⟨k,e⟩ | ⟨k,c,e,z⟩
        . apply Qk k ?_;have:y≠x:=λe=>G (vl hN g (e▸R));simp [this,e]
        . exact WM k c e (z.sameBut hs (L y c e))
    . let(W,z):=JeR y e;exact(W,z.sameBut hs (L y c e))
    . let(e,n,Y,nf,d):=Jbs hp;exact((hs.2 p.1 Y).trans e,n,Y,nf,d)
  . let J:V_ x:=by
      lia
    let(c,l):=I.ok.has x (.inl D);let(W,z):=JeR x l;apply wpAny_storeName_cell Jb9 D l z (λh' U hs=>?_);let(oc,P,O):=id z;apply h { s with heap:=h' } (Jg4 I.ok (λb o e n K t=>?_,λb o e n K t=>?_,I.base.free,λb o e t=>?_,I.base.tups,I.base.frzs,I.base.tbls) (m,hn.sameBut hs (Ne.symm (L x c l)),λj y v' g C e3=>?_) (λy Z e=>?_) (λp hp=>?_) (f (oc,P,Jcx c l) hs) (by simpa using I.len)) (c,hs,.inr l)
    . exact(hs.2 b Jgv).trans (JmX o e n K t)
    . let(sl,g):=I.base.slot b o e n K t;exact(sl,(hs.2 b Jgv).trans g)
    . let(o',g):=JgB o e t;exact(o',(hs.2 b Jgv).trans g)
    . by_cases G:j=i
      . subst G;erw[R]at g;erw[List.getElem?_set_self F]at C;exact(u,r,WM (.inl D) c l U)
      . rw[List.getElem?_set_ne (Ne.symm G)]at C;let(u',r',q):=hl j y v' g C e3;apply Gc u' r';rcases q with q | ⟨k,Z,e,z'⟩
        . exact .inl q
        . apply WM k Z e (z'.sameBut hs ?_);rintro rfl;exact G (vl hN g (I.ok.inj _ _ _ e l▸R))
    . by_cases T:Z=c
      . subst T;exact Mr U
      . let(w2,z2):=I.cell y Z e;exact(w2,z2.sameBut hs T)
    . let(e,n,Y,nf,d):=Jbs hp;apply((hs.2 p.1 ?_).trans e,n,Y,nf,d);intro q;rw[q,P]at e;let q':=Option.some.inj e;exact d W (by rwa[<-q']at O)
def nW (I:Xm s)(d:X.N.Nodup)(b:X.N[i]?=some x)(a:NO x)(r:QN v)
    (h:∀s',Ga X (Jlq (some v)) H s'->Q () s')(c:V_ x\/X.env.scope.names.lookup x=some .local:=by first|exact .inl rfl|exact .inr rfl|assumption):wpAny M A (JkG x u) Q E s :=
  vm I d b a r (λs' e y=>h s' e) c
def Inv.call' (I:Xm s)(g:s'.os=s.os)(u:Jdj ch H H' s'.heap)(a:Jn9 s'.heap)(h:AllBare s'.gens)
    (d:∀b∈ch,(b∈X.ex\/Nu b)/\Gv b/\(∀x c,JlM (c≠b))/\∀p∈X.pn++pins,p.1≠b):Ik H' s':=by let(h',g',d',t',f):=s';let e:=g;subst e;exact I.call (g':=g') (t':=t') (d':=d') u a h d
end
abbrev XK:=Value->Option Addr->Hp->Prop
abbrev St:=List (Option V)
abbrev VK:=V->Hp->Prop
abbrev TE:=St->Hp->VK->Prop
abbrev TT:=St->Hp->(Bool->Hp->Prop)->Prop
abbrev TA:=St->Hp->(List V->Hp->Prop)->Prop
structure g_ where
  nx:St->Hp->Prop
  rt:VK
  bk:St->Hp->Prop:=λ_ _=>False
  ct:St->Hp->Prop:=λ_ _=>False
abbrev TS:=g_->St->Hp->Prop
def EP (X:Cx)(a:Jcr Obj)(b:St)(Q:VK)(u:Value)(s':Shared):Prop:=∃v H',Jkn a b (QN v/\Q v H')
def TP (X:Cx)(a:Jcr Obj)(c:St)(Q:Bool->Hp->Prop)(b:Bool)(s':Shared):Prop:=∃H',Jkn a c (Q b H')
def AP (X:Cx)(a:Jcr Obj)(b:St)(Q:List V->Hp->Prop)(us:List Value)(s':Shared):Prop:=∃vs H',Jkn a b (UM vs/\Q vs H')
def SP (X:Cx)(b:Jcr Obj)(D:g_)(f:Flow)(s':Shared):Prop :=
  match f with
  |.next=>∃a H',Jkn b a (JmY H')
  |.brk=>∃a H',Jkn b a (D.bk a H')
  |.cont=>∃a H',Jkn b a (D.ct a H')
  |.ret u=>∃v a H',Jkn b a (QN v/\Jpc v)
def PE (X:Cx)(e:Expr)(t:TE):Prop :=
  ∀a s (b:St) H Q,Jp9 (t b H Q->UH (Jc e) Mq s)
def PT (X:Cx)(e:Expr)(t:TT):Prop :=
  ∀a s (b:St) H Q,Jp9 (t b H Q->UH (isTrue e Wc (Jc e)) (TP X a b Q) s)
def PW (X:Cx)(e:Expr)(t:TT):Prop :=
  ∀b a s (c:St) H Q,JjU c (t c H Q->UH (isTrue e Wc b) (TP X a c Q) s)
def PW.pt (h:PW X e t):PT X e t:=h _
def PA (X:Cx)(es:List Expr)(t:TA):Prop :=
  ∀pos a s (b:St) H Q,Jp9 (t b H Q->UH (spliced (JgW es)) (AP X a b Q) s)
def PS (X:Cx)(st:Stmt)(t:TS):Prop :=
  ∀a s (b:St) H D,Jp9 (t D b H->UH (exec st Wc) (SP X a D) s)
def PSs (X:Cx)(st:List Stmt)(t:TS):Prop :=
  ∀a s (b:St) H D,Jp9 (t D b H->UH (execs st Wc) (SP X a D) s)
def thn (h:wpAny M A t Q E s)(b:∀a s,Q a s->Q' a s):wpAny M A t Q' E s:=wpAny_mono h b λy y x=>x
section
variable {X:Cx}
inductive jr (i:Nat):TE|m{σ H Q} v:σ[i]?=Jos v->Q v H->jr i σ H Q
def tC (v:V):TE:=λx H Q=>Q v H
def pe_var (w:X.N[i]?=some x)(o:JaU x)(g:Yw (x == Xs):=by decide)(j:Yw (x == ("__classdict__":Str)):=by decide):Yp JoG (jr i):=by
  intro f s n H Q I h;let(v,e,h):=h;let(m,p,t):=I.loc;let(u,r,l):=t i x v w e o;let d:EP X f n Q u s:=(v,H,I,r,h);rcases l with ⟨b,q⟩|⟨b,c,k,a⟩
  . exact JmZ (wpAny_loadName_local Jb9 b p q d)
  . rcases b with b | b
    . exact JmZ (wpAny_loadName_cell Jb9 b k a d)
    . exact JmZ (wpAny_loadName_free Jb9 b k a d j)
def af:Jnz (JgC (.int i) j) (.int i):=λx x x H x I h=>wpAny_Constant_int (Jf6 i H _ _ h)
def cZ:Jnz (JgC (.bool b) j) (.bl b):=λx x x H x I h=>Constant_bool (VD b H I h)
def eC:Jnz (JgC .none j) .non:=λx x x H x I h=>Constant_none (Mh .non H I h)
def ba:Jnz (JgC (.str x) j) (.str x):=λy y y H y I h=>Calls.Constant_str (GI (.str x) H _ JeC h)
def Gl (X:Cx)(x:Str):Prop:=Jh x .globalImplicit
def js (I:Xm s)(b:Jit x)(a:Xa (X.mg x) u)(h:Q u s)
    (c:Yw (x==Xs):=by decide):NA (Jc JoG) Q E s :=
  Calls.Name_function_global Jb9 b (Calls.loadGlobal_global (I.ok.glob<|>I.mod.glob.keeps I.bk) a h) c
def fg (I:Xm s)(d:Jit x)(c:UG x)(a:Jcq x u)(h:Q u s)
    (b:JcL x:=by decide)(e:Yw (x==Xs):=by decide):NA (Jc JoG) Q E s:=by let(i,g,f):=I.mod.blt;exact Calls.Name_function_global Jb9 d (Calls.loadGlobal_builtin (I.ok.glob<|>I.mod.glob.keeps I.bk) c (I.ok.blt<|>g.keeps I.bk) ((f x b).trans a) h) e
def hC (b:Jit x)(a:Xa (X.mg x) u)(r:QN v)(c:Yw (x==Xs):=by decide):Jnz JoG v :=
  λy y y H y I h=>js I b a (v,H,I,r,h) c
def fZ (d:Jit x)(c:UG x)(a:Jcq x u)(r:QN v)(b:JcL x:=by decide)(e:Yw (x==Xs):=by decide):Jnz JoG v :=
  λy y y H y I h=>fg I d c a (v,H,I,r,h) b e
variable {a b:Expr} {ta tb:TE} {pos:Pos}
def PC (X:Cx)(op:CmpOp)(a b:Expr)(t:TE):Prop :=
  ∀c s (f:St) H Q,Jf4 c f->t f H Q->
    wpAny Yz X.A (Jc a) (λv e=>UH (Jc b) (λu d=>UH (compareOp op v u) (EP X c f Q) d) e) JfD s
def vn (b){op:CmpOp}(h:op≠.In)(c:op≠.NotIn):Jab op b:=by
  let e:Yw (op==CmpOp.In):=beq_false_of_ne h
  let d:Yw (op==CmpOp.NotIn):=beq_false_of_ne c
  cases b<;>first|rfl|(show(_&&(op == .In||op == .NotIn)&&_)=false;simp [*])
inductive isB:V->Hp->(Bool->Hp->Prop)->Prop|m{x H Q} c:x=.bl c->Q c H->isB x H Q
def tB (t:TE):TT:=λc H Q=>t c H λx d=>isB x d Q
def eD (h:PC X op a b t)(f:Jab op b:=by first|exact vn _ (by decide) (by decide)|rfl):PT X (.Compare a [op] [b] pos) (tB t):=by intro e s g H Q I j;apply wpAny_isTrue_Compare1 (thn (h e s g H _ I j) λv r f=>thn f λu p k=>thn k λc o h_=>?_) f;let(x,n,l,i,q1):=h_;let(d,rfl,q):=q1;cases i;exact JdO n l q
def cM (h:Yp e t)(k:∀c,isTrue e Wc c=(do let v <-c;standAt e.pos;holding [v] (truthy v)):=by intro _;rfl):PT X e (tB t):=by intro f s g H Q I j;apply isTrue_plain (thn (h f s g H _ I j) λv o h_=>?_) (k _);let(x,n,l,i,q1):=h_;let(d,rfl,q):=q1;cases i;exact JdO n l q
variable {tA tB':TT} {rest:List Expr}
def tAnd (t u:TT):TT:=λd H Q=>t d H λc e=>if Vi c then u d e Q else Q false e
def tOr (t u:TT):TT:=λd H Q=>t d H λc e=>if Vi c then Q true e else u d e Q
def tNot (t:TT):TT:=λd H Q=>t d H λc e=>Q (!c) e
def f_ (g:PT X a tA):PW X (JpP [a]) tA:=by
  intro i d s f H Q I h;apply isTrue_and (thn (g d s f H Q I h) λc j e=>?_);cases c with
  |true=>exact isTrue_and_nil e
  |false=>exact e
def cX (g:PT X a tA):PW X (QR .Or [a]) tA:=by
  intro i d s f H Q I h;apply isTrue_or (thn (g d s f H Q I h) λc j e=>?_);cases c with
  |false=>exact isTrue_or_nil e
  |true=>exact e
def fw (l:PT X a tA)(k:PW X (JpP (Nx b)) tB'):PW X (JpP (a::Nx b)) (tAnd tA tB'):=by
  intro i d s e H Q I h;apply isTrue_and (thn JgK λc j (g,f,q1)=>?_);cases c with
  |true=>exact k i d j e g Q f q1
  |false=>exact(g,f,q1)
def cI (l:PT X a tA)(k:PW X (QR .Or (Nx b)) tB'):PW X (QR .Or (a::Nx b)) (tOr tA tB'):=by
  intro i d s e H Q I h;apply isTrue_or (thn JgK λc j (g,f,q1)=>?_);cases c with
  |true=>exact(g,f,q1)
  |false=>exact k i d j e g Q f q1
def c_ (f:PT X a tA):PT X (.UnaryOp .Not a pos) (tNot tA):=by intro d s e H Q I h;exact isTrue_not (f d s e H (λc g=>Q (!c) g) I h)
def tAndV (ta tb:TE):TE:=λd H Q=>ta d H λx e=>∃c,x=.bl c/\if Vi c then tb d e Q else JlN e
def tOrV (ta tb:TE):TE:=λd H Q=>ta d H λx e=>∃c,x=.bl c/\if Vi c then QB e else tb d e Q
def tNotV (ta:TE):TE:=λd H Q=>ta d H λx e=>∃c,x=.bl c/\Ji (!c) e
def eW (h:Yp a t):Yp (QR op [a]) t:=λc s d H Q I e=>BoolOp_one (h c s d H Q I e)
def fh (l:JfE a)(k:Yp (JpP (Nx b)) tb):Yp (JpP (a::Nx b)) (tAndV ta tb):=by
  intro d s e H Q I h;apply BoolOp_and (thn JgK λv i h_=>?_);let(x,g,f,j,q1):=h_;let(c,rfl,q1):=q1;cases j;apply wpAny_truthy_bool ?_;cases c with
  |true=>exact k d i e g Q f q1
  |false=>exact VD false g f q1
def pe_or (l:JfE a)(k:Yp (QR .Or (Nx b)) tb):Yp (QR .Or (a::Nx b)) (tOrV ta tb):=by
  intro d s e H Q I h;apply BoolOp_or (thn JgK λv i h_=>?_);let(x,g,f,j,q1):=h_;let(c,rfl,q1):=q1;cases j;apply wpAny_truthy_bool ?_;cases c with
  |false=>exact k d i e g Q f q1
  |true=>exact VD true g f q1
def pe_not (g:JfE a):Yp (.UnaryOp .Not a pos) (tNotV ta):=by intro d s e H Q I h;apply UnaryOp_ (thn (g d s e H _ I h) λv k h_=>?_);let(x,j,i,f,q1):=h_;let(c,rfl,q1):=q1;cases f;exact not_of (wpAny_truthy_bool (VD (!c) j i q1))
def tIf (t:TT)(ta tb:TE):TE:=λd H Q=>t d H λc e=>if Vi c then ta d e Q else tb d e Q
def iT (k:PT X c tA)(n:JfE a)(l:Yp b tb):Yp (.IfExp c a b pos) (tIf tA ta tb):=by
  intro e s f H Q I h;apply wpAny_IfExp (thn (k e s f H _ I h) λd g (j,i,q1)=>?_);cases d with
  |true=>exact n e g f j Q i q1
  |false=>exact l e g f j Q i q1
end
def SqL (K:PySem.W.Frag)(H:Hp)(a:Addr)(xs:List V):Prop :=
  Rd H a (.lst xs) \/
    ∃o b n,XB a o/\o.cls=.type "list"/\Mf o.dict/\Jj0 b n/\Qd b.size/\Jlo b.toList
def SqT (K:PySem.W.Frag)(H:Hp)(a:Addr)(xs:List V):Prop :=
  Rd H a (.tup xs) \/
    ∃o b n,XB a o/\(o.cls,o.dict,)=(Value.type "tuple",none,)/\Jj0 b n/\Qd b.size/\Jlo b.toList
noncomputable def absV:Xq Value V
  |.none=>some .non
  |.bool b=>some (.bl b)
  |.int i _=>Ya i
  |.str x _=>some (.str x)
  |.bytes b _=>some (.byt b)
  |.float b _=>some (.flt b)
  |.ref a=>Ja a
  |.type n=>some (.ty n)
  |_=>none
def bn.abs (r:QN x):absV u=some x:=by
  cases x with
  |non=>cases r;rfl
  |bl _=>cases r;rfl
  |int _=>obtain⟨t,rfl⟩:=r;rfl
  |str _=>obtain⟨t,rfl⟩:=r;rfl
  |byt _=>obtain⟨t,rfl⟩:=r;rfl
  |flt _=>obtain⟨t,rfl⟩:=r;rfl
  |ref _=>cases r;rfl
  |ty _=>cases r;rfl
def bn.inj (r:QN x)(q:QN y):x=y:=Option.some.inj (r.abs.symm.trans q.abs)
theorem bc.inj{xs ys:List V}{us:List Value}(h:UM xs)(k:UM ys):xs=ys:=by
  induction h generalizing ys with
  |nil=>cases k;rfl
  |cons r t i=>cases k with|cons a b=>rw[r.inj a,i b]
section
variable {X:Cx} {pins:List GM} {σ:St} {H:Hp} {s:Shared} {a:Addr} {xs ys:List V}
def SqL.of {K:PySem.W.Frag}(h:VT a):XR a:=Jca h
def SqT.of {K:PySem.W.Frag}(h:Jcs a xs):UR a:=Jca h
def Inv.list (I:Xm s)(h:JmN a xs):∃b:List Value,Jlo b/\PlainL Yq a b.toArray/\Qd xs.length:=by
  rcases h with h|⟨o,b,n,c,f,d,hs,hz,r⟩
  . let(z,b,n,r,e):=h.ok I.hok;exact(b,r,(_,n,e,rfl,6),z)
  . apply Jhm b.toList r (o,n,I.kIn a o c,f,d,by simpa using hs);let e:=Jqm;simp only[Array.length_toList]at e;lia
def Inv.tupD (I:Xm s)(h:Jqa xs):∃b:List Value,Jlo b/\fY Yq a b.toArray/\Qd xs.length:=by
  rcases h with h|⟨o,b,n,c,d,hs,hz,r⟩
  . let(z,b,r,p):=h.ok I.hok;exact(b,r,p,z)
  . apply Jhm b.toList r (o,I.kIn a o c,d,n,by simpa using hs);let e:=Jqm;simp only[Array.length_toList]at e;lia
def Inv.tuple (I:Xm s)(h:Jqa xs):∃b:List Value,Jlo b/\Jay a b.toArray/\Qd xs.length:=by let(b,r,p,z):=I.tupD h;exact(b,r,p.up,z)
def Inv.list_inj (I:Xm s)(h:JmN a xs)(h':JmN a ys):xs=ys:=by
  let(b,r,(o,n,e,_,_,d),_):=I.list h;let(its',f,(i,j,c,_,_,d'),_):=I.list h';erw[e]at c;rw[d]at d';injection d' with g _;have:b=its':=Jn
  subst this;exact r.inj f
def Inv.tuple_inj (I:Xm s)(h:Jqa xs)(h':Jqa ys):xs=ys:=by
  let(b,r,(o,e,_,n,d),_):=I.tuple h;let(its',f,(i,c,_,j,d'),_):=I.tuple h';erw[e]at c;rw[d]at d';injection d' with g _;have:b=its':=Jn
  subst this;exact r.inj f
end
abbrev Cx.wish (X:Cx)(E:Value->Shared->Prop):Cx:={ X with xe:=E }
abbrev Cx.nox (X:Cx):Cx:=X.wish λx x=>False
def Cx.Ok.wish {X:Cx}(a:X.Ok)(E):(X.wish E).Ok :=
  (a.mod,a.kind,a.glob,a.blt,a.above,a.inj,a.has,a.cab,a.hd,a.frames,a.stk,a.exf,a.bs,a.bsz,a.noex,a.exfs,a.funs,a.frf)
def Cx.Ok.unwish {X:Cx}{E:Value->Shared->Prop}(a:(X.wish E).Ok):X.Ok :=
  (a.mod,a.kind,a.glob,a.blt,a.above,a.inj,a.has,a.cab,a.hd,a.frames,a.stk,a.exf,a.bs,a.bsz,a.noex,a.exfs,a.funs,a.frf)
section
variable {X:Cx} {pins:List GM} {σ:St} {H:Hp} {s:Shared} {E:Value->Shared->Prop}
def Inv.wish (I:Xm s)(E):Jf (X.wish E) H s:=Joa (I.ok.wish E)
def Inv.unwish (I:Jf (X.wish E) H s):Xm s:=Joa I.ok.unwish
def SP.unwish (h:SP (X.wish E) pins D f s'):SP X pins D f s':=by
  cases f with
  |next=>obtain⟨a,H',I,q⟩:=h;exact(a,H',I.unwish,q)
  |brk=>obtain⟨a,H',I,q⟩:=h;exact(a,H',I.unwish,q)
  |cont=>obtain⟨a,H',I,q⟩:=h;exact(a,H',I.unwish,q)
  |ret u=>obtain⟨v,a,H',I,r,q⟩:=h;exact(v,a,H',I.unwish,r,q)
def PSs.nox {st:List Stmt}{t:TS}(h:Jjn X.nox st):Jjn X st:=λpins s σ H D I a=>
  wpAny_mono (h pins s σ H D (I.wish _) a) (λx x q=>q.unwish) λx x z=>False.elim z
end
section
variable {X:Cx} {st:Stmt} {rest:List Stmt} {t u:TS} {e:Expr} {te:TE} {pos:Pos}
def vo:TS:=λh_ a H=>by let(n,_,_,_):=h_;exact n a H
def tSeq (t u:TS):TS:=λh_ a H=>by let(n,r,b,c):=h_;exact t (u (n,r,b,c),r,b,c) a H
def aU:PSs X [] vo:=λx x a H x I h=>Jf_ a H I h
def ae (i:PS X st t)(g:PSs X rest u):PSs X (Nx st) (tSeq t u):=by
  intro a s c H D I h;apply wpAny_execs_cons (thn (i a s c H { D with nx:=u D } I h) λf d q=>?_);cases f with
  | next =>
    let(b,H',j,q):=q;exact g a d b H' D j q
  |ret v=>exact q
  |brk=>exact q
  |cont=>exact q
def aj (c:PS X st t):Jjn X [st]:=by
  intro a s b H D I h;apply wpAny_execs_cons (thn (c a s b H D I h) λf d q=>?_);cases f with
  |next=>exact wpAny_execs_nil q
  |ret v=>exact q
  |brk=>exact q
  |cont=>exact q
def Inv.quiet (I:Xm s):Yw (interactive Wc):=by simp [interactive,I.ok.kind]
def tDrop (te:TE):TS:=λh_ a H=>by let(n,_,_,_):=h_;exact te a H λx b=>n a b
def ak (c:JnA e)(hs:GZ e none pos.line=pure false:=by rfl):PS X (.Expr e pos) (tDrop te):=by intro a s b H D I h;exact wpAny_Expr_any (thn (c a s b H _ I h) λv g h_=>by let(x,f,d,i,q1):=h_;exact(b,f,d,q1)) I.quiet hs
def tRet (te:TE):TS:=λh_ a H=>by let(_,r,_,_):=h_;exact te a H r
def aT (d:JnA e):PS X (.Return (some e) pos) (tRet te):=by intro a s b H D I h;exact wpAny_Return_some (thn (d a s b H _ I h) λv i h_=>by let(x,g,f,c,q1):=h_;exact(x,b,g,f,c,q1))
def tRetN:TS:=λD x H=>D.rt .non H
def Ad:PS X (.Return none pos) tRetN:=λx x a H x I h=>wpAny_Return_none (.non,a,H,I,rfl,h)
def tIfS (c:TT)(t u:TS):TS:=λD a H=>c a H λb d=>if Vi b then t D a d else u D a d
def be (l:PT X c tc)(o:Jjn X a)(n:PSs X b u):PS X (.If c a b pos) (tIfS tc t u):=by
  intro f s g H D I h;apply wpAny_If (thn (l f s g H _ I h) λd i (k,j,q1)=>?_);cases d with
  |true=>exact o f i g k D j q1
  |false=>exact n f i g k D j q1
def vp:TS:=λx x x=>False
end
abbrev TG:=V->St->Hp->(St->Hp->Prop)->Prop
abbrev TGs:=List V->St->Hp->(St->Hp->Prop)->Prop
def PG (X:Cx)(a:Expr)(t:TG):Prop :=
  ∀b s (d:St) H v u Q,Jf4 b d->QN v->t v d H Q->
    wpAny Yz X.A (assign a Wc u) (λx s'=>∃c H',Jkn b c (Q c H')) JfD s
def PGs (X:Cx)(ts:List Expr)(t:TGs):Prop :=
  ∀a s (c:St) H vs us Q,Jf5 c->UM vs->t vs c H Q->
    wpAny Yz X.A (assignInOrder ((Q1 ts).map (·.2)) us) (λx s'=>∃b H',Jkn a b (Q b H')) JfD s
abbrev TSet:=V->V->V->Hp->(Hp->Prop)->Prop
def PSet (X:Cx)(t:TSet):Prop :=
  ∀a s (b:St) H o i v c d u Q,Jf5 b->bn o c->bn i d->QN v->t o i v H Q->
    wpAny Yz X.A (setItem c d u) (λx s'=>∃H',Jkn a b (Q H')) JfD s
abbrev TIp:=V->V->Hp->VK->Prop
def PIp (X:Cx)(op:Operator)(t:TIp):Prop :=
  ∀a s (b:St) H x y v u Q,Jf5 b->bn x v->QN y->t x y H Q->
    wpAny Yz X.A (inplaceOp op v u) Mq JfD s
section
variable {X:Cx} {pos:Pos}
def jt (i:Nat):TG:=λv a H Q=>Q (a.set i (some v)) H
def bb (e:X.N.Nodup)(c:X.N[i]?=some x)(b:NO x)(d:V_ x\/X.env.scope.names.lookup x=some .local:=by first|exact .inl rfl|exact .inr rfl|assumption):PG X JoG (jt i):=by intro a s g H v u Q I r h;exact wpAny_assign_Name (nW I e c b r (λs' f=>(_,H,f,h)) d)
def gNil:TGs:=λvs a H Q=>vs=[]/\Q a H
inductive gCons (t:TG)(u:TGs):TGs|m{vs σ H Q} v r:vs=v::r->(t v σ H λσ' H'=>u r σ' H' Q)->gCons t u vs σ H Q
def kj:PGs X [] gNil:=by intro a s b H vs us Q I r h;let(e,h):=h;subst e;cases r;exact assignInOrder_nil (b,H,I,h)
def gb (i:PG X e t)(g:PGs X es u)
    (hs:(Q1 (QV e)).map (·.2)=assign e Wc::(Q1 es).map (·.2):=by rfl):PGs X (QV e) (gCons t u):=by
  intro a s c H vs us Q I r h;let(v,n,j,h):=h;subst j;cases r with
  | cons r f =>
    rw[hs];apply assignInOrder_cons (thn (i a s c H _ _ _ I r h) λ_ d h_=>?_);let(b,l,k,q1):=h_;exact g a d b l _ _ Q k f q1
inductive gTup (K:PySem.W.Frag)(n)(t:TGs):TG|m{v σ H Q} a xs:Nk v a->UR a->Xp n->t xs σ H Q->gTup K n t v σ H Q
def ko (y:Vi Gy)(h:PGs X es t)
    (w:(Q1 es).length=n:=by rfl)(f:(Q1 es).findIdx? Qn=none:=by rfl):PG X (Jm0 es k) (gTup Gh n t):=by intro c s g H v u Q I r d;let(a,xs,z,q,x,d):=d;subst z;cases r;let(j,i,p,hz):=I.tuple q;apply assign_Tuple_tuple (I.ok.hd y) p (by simp [w,<-x,i.length]) f λh' l=>?_;let A:=I.kept (t':=s.toks) λb o e=>l b o (XM e) e;exact h c _ g H xs _ Q A (by simpa using i) d
def gSub (b c:TE)(t:TSet):TG:=λv a H Q=>b a H λo f=>c a f λi e=>t o i v e λd=>Q a d
def pg_sub (n:Yp o to)(p:Yp i ti)(hs:PSet X t)
    (q:∀v,assign (Jav o i) Wc v=(do
      let b <-holding [v] (Jc o)
      let c <-holding [v,b] (Jc i)
      standAt pos
      holding [v,b,c] (setItem b c v)
      release [v,b,c] []):=by intro _;rfl):PG X (Jav o i) (gSub to ti t):=by intro a s d H v u Q I r h;rw[q];apply Xl (thn (n a s d H _ I h) λb f h_=>?_);let(x,D,A,j,q1):=h_;apply Xl (thn (p a f d D _ A q1) λc e h_=>?_);let(y,C,z,g,l):=h_;apply QM (Xl (thn (hs a e d C x y v b c u _ z j g r l) λ_ E (B,w,k)=>?_));exact wpAny_release (d,B,w,k)
def tAsg (b:TE)(g:TG):TS:=λh_ a H=>by let(n,_,_,_):=h_;exact b a H λx c=>g x a c n
def ps_asg (j:JnA e)(i:PG X tg g)(hs:swapsWithSole [tg] e pos.line Wc=pure false:=by rfl)(f:swappedStores [tg] e Wc=pure none:=by rfl)
    (k:(Q1 [tg]).map (·.2)=[assign tg Wc]:=by rfl):PS X (Jga tg e pos) (tAsg te g):=by intro a s b H D I h;apply wpAny_Assign_stores (thn Jqw λv c h_=>?_) hs f;let(x,n,l,d,q1):=h_;rw[k];exact thn (i a c b n x v _ l d q1) λy o q=>q
def aB (k:X.N.Nodup)(f:X.N[i]?=some x)(d:NO x)(j:JnA e)(hs:Jio e (JL pos') pos.line=pure false:=by rfl)(g:V_ x∨X.env.scope.names.lookup x=some .local:=by first | exact .inl rfl | exact .inr rfl | assumption) :
    PS X (Jga (JL pos') e pos) (JjX te i):=by intro a s b H D I h;apply wpAny_Assign_Name (thn Jqw λv q h_=>?_) hs;let(y,o,n,c,q1):=h_;exact nW n k f d c (λp l=>(_,o,l,q1)) g
inductive tAug (i)(te:TE)(ti:TIp):TS|m{D σ H} x:σ[i]?=Jos x->(te σ H λy H1=>ti x y H1 λz H2=>D.nx (Jlq (some z)) H2)->tAug i te ti D σ H
def ps_aug (P:X.N.Nodup)(p:X.N[i]?=some x)(n:NO x)(M:JnA e)(F:PIp X op ti)(L:V_ x∨X.env.scope.names.lookup x=some .local:=by first | exact .inl rfl | exact .inr rfl | assumption) :
    PS X (.AugAssign (JL pos') op e pos) (tAug i te ti):=by
  intro a s o H D I h;let(v,Q,h):=h;let(m,G,K):=I.loc;let j:JaU x:=by rcases n with k|k;exact .inl k;exact JhP k
  let(u,r,l):=K i x v p Q j;apply wpAny_AugAssign_Name ?_;let q:UH (Jc e) (λw g=>UH (inplaceOp op u w) (λr f=>UH (JkG x r) (λV=>SP X a D .next) f) g) s:=by apply thn (M a s o H _ I h) λw t h_=>?_;let(y,W,T,C,q1):=h_;apply thn (F a t o W v y u w _ T r C q1) λz s2 h_=>?_;let(Y,U,S,B,E):=h_;exact nW S P p n B (λZ R=>(_,U,R,E)) L
  rcases l with ⟨b,J⟩|⟨b,c,O,d⟩
  . exact wpAny_loadName_local Jb9 b G J q
  . rcases b with b | b
    . exact wpAny_loadName_cell Jb9 b O d q
    . rcases n with k | k
      . have:X.env.scope.names.lookup x=some .free:=b;erw[k]at this
      . have:X.env.scope.names.lookup x=some .free:=b;erw[k]at this
inductive ipI (f:GV (GV Int)):TIp|m{x y H Q} i j:Jhb x i (Jhb y j (Mn (f i j) H->ipI f x y H Q))
def ip_add:PIp X .Add (ipI λi j=>i+j):=by intro a s f H x y v u Q I c b h;let(i,j,e,d,q):=h;subst e;subst d;let(t,rfl):=c;let(t',rfl):=b;exact iadd_int JeL
end
section
variable {X:Cx} {pos:Pos}
def tWhile (c:TT)(g:TS):TS:=λD a H=>∃W:Nat->St->Hp->Prop,(∃m,W m a H)/\∀m a H,W m a H->
  c a H λb f=>if Vi b then ∃N:St->Hp->Prop,(∀d H',N d H'->∃e,e<m/\W e d H')/\g { D with nx:=N,ct:=N,bk:=D.nx } a f else JmY f
def kq (u:PassesOwn Yz X.A Wc JfD)(L:PT X c tc)(M:PSs X body tb):PS X (.While c body [] pos) (tWhile tc tb):=by
  intro d s C H D I h;let(W,(K,F),i):=h;apply wpAny_While (codeAny_whileLoop (λn s'=>∃g H',Jkn d g (W n g H')) ?_ K (C,H,I,F));rintro n J ⟨e,B,O,E⟩;apply wpAny_passesOwn u (thn (L d J e B _ O (i n e B E)) λb G h_=>?_);let(z,y,l):=h_;cases b with
  | true =>
    let(N,x,l):=l;rw[if_pos rfl];apply wpAny_passesOwn u (thn (M d G e z _ y l) λf P k=>?_);cases f with
    | next =>
      let(a,j,t,p):=k;let(q,r,o):=x a j p;exact(q,r,a,j,t,o)
    | cont =>
      let(a,j,t,p):=k;let(q,r,o):=x a j p;exact(q,r,a,j,t,o)
    |brk=>exact k
    |ret v=>exact k
  | false =>
    rwa[if_neg Bool.false_ne_true]at Jf_ e z y l
end
structure It where
  go:Nat->Hp->Prop
  yld:Nat->Hp->V->Hp->Prop
  stop:Nat->Hp->Prop
def df (X:Cx)(a:Jcr Obj)(H:Hp)(b:Addr):Prop :=
  H b=none/\Gv b/\b∉X.fs/\(b∈X.ex\/Nu b)/\(∀x c,JlM (c≠b))/\∀p∈X.pn++a,p.1≠b
def Inv.fpOk (I:Xm s)(a:Jak b)(f:JaP b):Jff X H' b:=by
  apply(f,Nat.ne_of_gt (Nat.lt_of_lt_of_le I.lt a),I.nofs a,.inr (Nat.le_trans I.sz a),λx c e z=>?_,λp d z=>?_)
  . let(v,q):=JeR x e;exact Mu (Nat.lt_of_lt_of_le q.lt (z<|>a)) _
  . exact Mu (Wh (Jbs d).1 (z<|>a)) _
structure gc (P)(w)(K:PySem.W.Frag)(tg)(J:It)(fp:List Addr)(it)(tn:Nat->Heap->Prop):Prop where
  mem:it∈fp
  obj:∀i h,tn i h->∀b∈fp,∃o,h.get? b=some o/\∀v,o.data≠.cell v
  keep:∀i h h',tn i h->(∀b∈fp,∀o,h.get? b=some o->h'.get? b=some o)->tn i h'
  item:∀(X),X.prog=P->X.w=w->X.K=K->Vi X.calm->∀(i) (pins) (s) (σ:St) (H) (E),Xm s->(∀b∈fp,Jff X H b)->Jfg i->JgD H->
    wpAny (JeS P) X.A (V5 it) (λr s1=>∃u,Xa r u/\
      Ua P w X.A (Jec tg it u) (λ_ s2=>∃x H',Ik H' s2/\QN x/\Jlg H H'/\tn (i+1) s2.heap/\∀b∈fp,JaP b) E s1) E s
  done:∀(X),X.prog=P->X.w=w->X.K=K->Vi X.calm->∀(i) (pins) (s) (σ:St) (H) (E),Xm s->(∀b∈fp,Jff X H b)->Jfg i->Jbe H->
    wpAny (JeS P) X.A (V5 it) (λr s1=>Mf r/\Xm s1) E s
  self:∀(A) (i) (s) (Q) (E),Jfg i->Mc it s->Ua P w A (Je6 it) Q E s
abbrev TI:=St->Hp->(It->Hp->Prop)->Prop
def PIE (X:Cx)(a:Jcr Obj)(g:St)(h:Expr)(R:It->Hp->Prop)(c:Value)(e:Shared):Prop :=
  ∃it f d J H',Nk c it/\Jkl a g e/\gc Uh X.w Gh h J f it d/\d 0 e.heap/\(∀b∈f,df X a H' b)/\R J H'
def PI (X:Cx)(e b:Expr)(d:TI):Prop :=
  ∀a s (c:St) H R,Jf5 c->d c H R->
    wpAny Yz X.A (Jc b) (λv f=>UH (pyIter v) (PIE X a c e R) f) JfD s
def ju (b:s.heap.get? it=some o)(e:o.cls=.type n)(d:JjY (.fields vs))
    (c:["enumerate","zip","dict_itemiterator","dict_reverseitemiterator","odict_iterator","itertools.zip_longest","itertools.pairwise"].contains n=false)(a:Q () s):wpAny M A (Jec tg it u) Q E s:=by
  cases tg <;> first
    |exact wpAny_pure a
    |(cases u<;>first
        |exact wpAny_pure a
        | (refine wpAny_bind (wpAny_load b ?_)
           rw[e,d];show wpAny M A (if(["enumerate","zip","dict_itemiterator","dict_reverseitemiterator","odict_iterator","itertools.zip_longest","itertools.pairwise"].contains n&&vs[0]? == some (rawInt _))=true then _ else _) Q E s
           rwa[if_neg (by intro h;erw[c,Bool.false_and]at h)]at wpAny_pure a))
noncomputable def Itl (K:PySem.W.Frag)(a:Addr):It :=
  (λi H=>∃xs x,XR a/\xs[i]?=some x,λi H x H'=>H'=H/\∀xs,XR a->xs[i]?=some x,λi H=>∃xs,XR a/\Jam i)
noncomputable def Itt (K:PySem.W.Frag)(a:Addr):It :=
  (λi H=>∃xs x,UR a/\xs[i]?=some x,λi H x H'=>H'=H/\∀xs,UR a->xs[i]?=some x,λi H=>∃xs,UR a/\Jam i)
noncomputable def Itr (lo:Int)(n:Nat):It:=(λi y=>i<n,λi H x H'=>H'=H/\JdP x (lo+i),λi y=>n<=i)
def vq {P:Program}{w:World}{K:PySem.W.Frag}{O:Expr}(a it):gc P w K O (Itl K a) [it] it (λi h=>Jfh it a) where
  mem:=by simp
  obj:=λi h st b g=>by
    let e:b=it:=by simpa using g
    subst e;let(o,e,c,d):=st;exact Jmi (λv z=>by erw[d]at z)
  keep:=λi h h' st k=>st.at λo e=>Uw it o e
  item:=by intro X B y C N i f s M H E I n st A;subst B y C;let(xs,x,l,t):=A;let(r,q,p,hz):=I.list l;let(u,T,R):=q.get t;let(L,J,U,G,F,D):=n it Js;apply wpAny_pyNext_list_item st Jci (by simpa using T) λh' j Q=>?_;let Z:=JsI s.toks (λb o g e=>(Q.2 b g).trans e) L J G F D;let(o,e,c,d):=id j;exact Nd u (I_ e c d (x,H,Z,R,WO (λys S=>by rwa[I.list_inj S l]at t),j,λb g=>(n b g).1))
  done:=by intro X B y C N i f s M H E I n st A;subst B y C;let(xs,l,t):=A;let(r,q,p,hz):=I.list l;let(L,J,U,G,F,D):=n it Js;let hl:=q.length;exact wpAny_pyNext_list_end (I.ok.hd N) st Jci Vl λh' Y=>V8 (t':=s.toks) (λb o g e=>Y b o g e) L J G F D
  self:=λm m m m m st h=>wpAny_pyIter_listiter st h
def vr {P:Program}{w:World}{K:PySem.W.Frag}{O:Expr}(a it):gc P w K O (Itt K a) [it] it (λi h=>h.IsTupleIter it a i) where
  mem:=by simp
  obj:=λi h st b j=>by
    let e:b=it:=by simpa using j
    subst e;let(o,e,c,d):=st;exact Jmi (λv z=>by erw[d]at z)
  keep:=λi h h' st k=>st.at λo e=>Uw it o e
  item:=by intro X B y C N i f s M H E I q st A;subst B y C;let(xs,x,n,t):=A;let(g,r,p,hz):=I.tuple n;let(u,T,R):=r.get t;let(L,J,U,G,F,D):=q it Js;apply wpAny_pyNext_tuple_item st (show V1 JoT from p) (by simpa using T) λh' l Q=>?_;let Z:=JsI s.toks (λb o j e=>(Q.2 b j).trans e) L J G F D;let(o,e,c,d):=id l;exact Nd u (I_ e c d (x,H,Z,R,WO (λys S=>by rwa[I.tuple_inj S n]at t),l,λb j=>(q b j).1))
  done:=by intro X B y C N i f s M H E I q st A;subst B y C;let(xs,n,t):=A;let(g,r,p,hz):=I.tuple n;let(L,J,U,G,F,D):=q it Js;let hl:=Jqm;exact wpAny_pyNext_tuple_end (I.ok.hd N) st (show V1 JoT from p) Vl λh' Y=>V8 (t':=s.toks) (λb o j e=>Y b o j e) L J G F D
  self:=λm m m m m st h=>wpAny_pyIter_tupleiter st h
def Ae {P:Program}{w:World}{K:PySem.W.Frag}{D:Expr}(it)(lo)(n):gc P w K D (Itr lo n) [it] it (λi h=>IsRangeIter h it (lo+(i:Nat) * 1) ((n:Int)-(i:Nat)) 1) where
  mem:=by simp
  obj:=λi h st b c=>by
    let e:b=it:=by simpa using c
    subst e;exact Q5 st (λv z=>by let C:=z;cases C)
  keep:=λi h h' st k=>Uw it _ st
  item:=by intro X p g q l i a s B H E I f st j;subst p g q;let(A,y,J,x,u,r):=f it Js;let W:=Walks.range (prog:=Uh) (w:=X.w) (I.ok.hd l) it lo 1 n;apply W.item i s _ _ j st λv h' tk G d F=>?_;let(t,rfl):=G;let M:Z_ a B { s with heap:=h',toks:=tk }:=I.turned (λb o c e=>F b o (by simpa using c) e) A y x u r;apply QD (I_ d rfl rfl (.int _,H,M,Qm t,Wf rfl,d,λb c=>(f b c).1));rw[Int.mul_one]
  done:=by intro X p g q l i a s B H E I f st j;subst p g q;let(A,y,J,x,u,r):=f it Js;exact wpAny_pyNext_range_end (I.ok.hd l) st (by have:n<=i:=j;lia) λh' L=>V8 (t':=s.toks) (λb o c e=>L b o c e) A y x u r
  self:=λm m m m m st h=>wpAny_pyIter_rangeiter st h
section
variable {X:Cx} {tg:Expr}
inductive rItl (K:PySem.W.Frag):V->Hp->(It->Hp->Prop)->Prop|m{x H R} a:Jn0 ((∃xs,XR a)->R (Itl K a) H->rItl K x H R)
inductive rItt (K:PySem.W.Frag):V->Hp->(It->Hp->Prop)->Prop|m{x H R} a:Jn0 ((∃xs,UR a)->R (Itt K a) H->rItt K x H R)
def iList (K:PySem.W.Frag)(b:TE):TI:=λa H R=>b a H λx c=>rItl K x c R
def iTup (K:PySem.W.Frag)(b:TE):TI:=λa H R=>b a H λx c=>rItt K x c R
def dr {l:Expr}{g:TE}(r:Yp l g):PI X tg l (iList Gh g):=by
  intro c s i H R I h;apply thn (r c s i H _ I h) λv d h_=>?_;let(x,u,f,j,q1):=h_;let(a,e,(xs,n),q):=q1;subst e;cases j;let(k,w,p,hz):=f.list n;apply IZ Jci;apply JO d.heap.objs.size [d.heap.objs.size] _ _ u (f.kept (t':=d.toks) λb o e=>UD e) (vq a _) Jgd (λb t=>?_) q;let e:b=d.heap.objs.size:=by simpa using t
  subst e;exact JeT Yd Yd
def cU {l:Expr}{i:TE}(r:Yp l i):PI X tg l (iTup Gh i):=by
  intro d s j H R I h;apply thn (r d s j H _ I h) λv c h_=>?_;let(x,u,f,k,q1):=h_;let(a,e,(xs,n),q):=q1;subst e;cases k;let(g,w,p,hz):=f.tuple n;apply wpAny_pyIter_tuple (show c.heap.IsTuple a JoT from p) ?_;apply JO WX [WX] _ _ u (f.kept (t':=c.toks) λb o e=>UD e) (vr a _) Jgd (λb t=>?_) q;let e:b=c.heap.objs.size:=by simpa using t
  subst e;exact JeT Yd Yd
def vt {c:List GM}{d:St}{H:Hp}{s:Shared}{R:It→Hp→Prop}{E:Value→Shared→Prop}{lo a:Int}{t u v:Tok}{tk:Nat}(I:Jf4 c d)(k:-(2 ^ 62)≤lo)(j:lo<2 ^ 62)(i:-(2 ^ 62)≤a)(h:a<2 ^ 62)
    (q:R (Itr lo (a-lo).toNat) H):NA (Je6 V0) (PIE X c d tg R) E { s with heap:=s.heap.push { cls:=.type "range",data:=.fields #[IS lo,Jir a,.int 1 v] },toks:=tk }:=by
  apply wpAny_pyIter_range (IsRange.new ..) (small_one k j i h) ?_;let f:Z_ c d { s with heap:=s.heap.push { cls:=.type "range",data:=.fields #[IS lo,Jir a,.int 1 v] },toks:=tk }:=I.kept λb o e=>UD e;apply JO ((s.heap.push { cls:=.type "range",data:=.fields #[IS lo,Jir a,.int 1 v] }).objs.size) [(s.heap.push { cls:=.type "range",data:=.fields #[IS lo,Jir a,.int 1 v] }).objs.size] _ _ H (f.kept (t':=tk) λb o e=>UD e) (Ae _ lo (a-lo).toNat) ?_ (λb g=>?_) q
  . let n:lo+((0:Nat):Int) * 1=lo:=by simp
    let l:(((a-lo).toNat:Nat):Int)-((0:Nat):Int)=Builtin.Range.rangeSize lo a 1:=by rw[rangeSize_one];split<;>lia
    rwa[n,l]at Heap.get?_push_size _ rfl
  . let e:b=(s.heap.push { cls:=.type "range",data:=.fields #[IS lo,Jir a,.int 1 v] }).objs.size:=by simpa using g
    subst e;exact JeT Yd Yd
def iRng1 (b:TA):TI:=λa H R=>b a H λvs c=>∃j:Int,vs=X3 j/\-(2^62)<=j/\j<2^62/\R (Itr 0 Jkd) c
def iRng2 (b:TA):TI:=λa H R=>b a H λvs c=>∃i j:Int,vs=Xw i j/\(-(2^62)<=i/\i<2^62/\-(2^62)<=j/\j<2^62)/\R (Itr i (j-i).toNat) c
def fy {a:Expr}{c:TA}{p pos:Pos}(l:Jit "range")(k:UG "range")(n:PA X [a] c)(hs:Ib [a]=[(false,Jc a,)]:=by rfl):PI X tg (Jp1 [a]) (iRng1 c):=by
  intro b s d H R I h;apply Jbi I l k boot_range (thn (n pos b s d H _ I h) λus u h_=>?_) hs rfl;let(vs,v,o,g,q1):=h_;let(j,e,q1,i,q):=q1;subst e;cases g with
  | cons r f =>
    cases f;let(t,rfl):=r;exact call_range_1 (vt o Jn Jn q1 i (by simpa using q))
def Af (w:Jit "range")(v:UG "range")(x:PA X [a,b] ta)(hs:Ib [a,b]=[(false,Jc a,),(false,Jc b,)]:=by rfl)(d:Ib [b]=[(false,Jc b,)]:=by rfl) :
    PI X tg (Jp1 [a,b]) (iRng2 ta):=by
  intro c s g H R I h;apply Jbi I w v boot_range (thn (x pos c s g H _ I h) λus z h_=>?_) (by rw[hs,d]) (by rw[d];rfl);let(vs,A,y,k,q1):=h_;let(i,j,e,(q1,u,o,n),q):=q1;subst e;cases k with
  | cons r f =>
    cases f with
    | cons l f =>
      cases f;let(t,rfl):=r;let(t',rfl):=l;exact call_range_2 (vt y q1 u o n q)
def tFor (e:TI)(g:TG)(f:TS):TS:=λD a H=>e a H λJ j=>∃W:Nat->Nat->St->Hp->Prop,(∃m,W 0 m a j)/\∀i m a H,W i m a H->
  (Jo1 H (JmY H))\/(JgD H/\∃N:St->Hp->Prop,(∀b H',N b H'->∃d,d<m/\W Xi d b H')/\∀x H',Jlg H H'->g x a H' λc h=>f { D with nx:=N,ct:=N,bk:=D.nx } c h)
noncomputable def zf5 (a:List Addr)(h:Heap):Jcr Obj:=a.filterMap λb=>(h.get? b).map λo=>(b,o,)
def nX (a:b∈fp)(e:h.get? b=some o):(b,o,)∈zf5 fp h:=Jbt b a (by rw[e];rfl)
def Ah (a:p∈zf5 fp h):p.1∈fp∧h.get? p.1=some p.2:=by
  let(b,c,e):=List.mem_filterMap.mp a;cases q:h.get? b with
  |none=>erw[q]at e
  | some o =>
    rw[q]at e;let d:=Option.some.inj e;subst d;exact(c,q)
def Inv.pinned (I:Xm s)(h:∀b∈fp,Jff X H b)(g:∀b∈fp,∃o,s.heap.get? b=some o/\∀v,o.data≠.cell v):Jf4 (pins++zf5 fp s.heap) σ :=
  I.pins_of λp f=>(mPq f).elim (λz=>Jbs (Xb z)) λz=>by let(a,e):=Ah z;let(k,j,i,_):=h p.1 a;let(o,c,d):=g p.1 a;erw[e]at c;exact(e,k,j,i,d)
def Inv.unpinned (I:Jf4 (pins++pl) σ):Xm s:=I.pins_of λp a=>Jbs (Xb (Ma a))
def bY (K:PassesOwn Yz X.A Wc JfD)(hc:Vi Gy)(hi:Joh X tg)(hg:PG X tg g)(p:PSs X body tb)
    (hs:∀x,Jgl x=pure x:=by intro _;rfl):PS X (.For tg iter body [] pos) (tFor wi g tb):=by
  intro c s Z H D I h;apply wpAny_For (thn (hi c s Z H _ I h) λv s1 h1=>thn h1 λitv s2 h2=>?_) hs;let(it,M,tn,J,H2,e,I2,T,Q,f2,W,(m0,w0),C):=h2;subst e;let l:∀{H':Hp},(∀b∈M,JaP b)->∀b∈M,df X c H' b:=λhn b p=>(hn b p,(f2 b p).2);apply codeAny_forLoop_any (λn s'=>∃i k H',Jkn c k (tn i Jgy/\(∀b∈M,JaP b)/\W i n k H')) ?_ m0 (0,Z,H2,I2,Q,λb p=>(f2 b p).1,w0);rintro n s3 ⟨i,j,O,I3,F,L,w3⟩;rcases C i n j O w3 with ⟨E,qn⟩|⟨go,N,hN,step⟩
  . apply Jae (thn (T.done X rfl rfl rfl hc i c s3 j O JfD I3 (l L) F E) λr s4 h_=>?_);let(S,I4):=h_;subst S;exact Jf_ j O I4 qn
  . apply Jae (thn (T.item X rfl rfl rfl hc i c s3 j O JfD I3 (l L) F go) λr s4 h_=>?_);let(u,S,h4):=h_;subst S;apply Jae (thn h4 λ_ s5 h_=>?_);let(x,H5,I5,r5,y5,B,U):=h_;let Y:=I5.pinned (l U) (T.obj _ _ B);apply Jae (thn (hg _ s5 j H5 x u _ Y r5 (step x H5 y5)) λ_ s6 h_=>?_);let(P,H6,I6,q6):=h_;apply Jae (thn (p _ s6 P H6 _ I6 q6) λf R z=>?_);let q:∀ {a:St} {y:Hp},Ir _ a y R→N a y→∃m,m<n∧∃i k H',Jkl c k R∧tn i R.heap∧(∀b∈M,JaP b)∧W i m k H':=λ{a y} t G=>by let(m',hm,w7):=hN a y G;apply(m',hm,i+1,a,y,t.unpinned,T.keep _ _ _ B λb p o e=>(t.pin _ (Xb (Xb (nX p e)))).1,λb p=>?_,w7);let(o,e,d):=T.obj _ _ B b p;exact(t.pin _ (Xb (Xb (nX p e)))).2.1
    cases f with
    |next=>obtain⟨a,y,t,G⟩:=z;exact q t G
    |cont=>obtain⟨a,y,t,G⟩:=z;exact q t G
    |brk=>obtain⟨a,y,t,z⟩:=z;exact(a,y,t.unpinned,z)
    |ret v=>obtain⟨x7,a,y,t,r7,z⟩:=z;exact(x7,a,y,t.unpinned,r7,z)
end
def Ai {K:PySem.W.Frag}{a:Addr}{xs:List V}{g:TG}{k:TS}{D:g_}{b:St}{H:Hp}(c:Nat→St→Hp→Prop)(h0:c 0 b H)(o:∀i b H,Jhn i→c i b H→XR a)
    (hs:∀i x b H,xs[i]?=some x->c i b H->g x b H λd j=>k { D with nx:=c (i+1),ct:=c (i+1),bk:=D.nx } d j)(s:∀b H,c Jb5 b H->D.nx b H):
    ∃W:Nat->Nat->St->Hp->Prop,(∃m,W 0 m b H)/\∀i m b H,W i m b H->
      ((Itl K a).stop i H/\D.nx b H)\/((Itl K a).go i H/\∃N:St->Hp->Prop,(∀f H',N f H'->∃l,l<m/\W (i+1) l f H')/\∀x H',(Itl K a).yld i H x H'->g x b H' λd j=>k { D with nx:=N,ct:=N,bk:=D.nx } d j):=by
  apply Gc (λi m b H=>m=xs.length-i/\Jhn i/\c i b H) (JjW Jb5 _ h0);rintro i m b H ⟨rfl,r,p⟩;let q:=o i b H r p;by_cases h:Ja0 i
  . apply WM (xs,xs[i],q,by simp [h]) (c _) (λf H' n=>Qp (xs.length-Xi) (Nat.sub_succ_lt_self _ _ h) h n) (λx H' y=>?_);let(e,y):=y;subst e;exact hs i x b _ (y xs q) p
  . let e:Jgc i:=Nat.le_antisymm ‹_› (Nat.le_of_not_lt ‹_›)
    subst e;exact Qk (xs,q,nRq _) (s b H p)
def gh {lo:Int}{n:Nat}{g:TG}{j:TS}{D:g_}{a:St}{H:Hp}(f:Nat→St→Hp→Prop)(h0:f 0 a H)
    (hs:∀i a H,i<n->f i a H->g (.int (lo+i)) a H λb h=>j { D with nx:=f (i+1),ct:=f (i+1),bk:=D.nx } b h)(o:∀a H,f n a H->JmY H):
    ∃W:Nat->Nat->St->Hp->Prop,(∃m,W 0 m a H)/\∀i m a H,W i m a H->
      ((Itr lo n).stop i H/\JmY H)\/((Itr lo n).go i H/\∃N:St->Hp->Prop,(∀c H',N c H'->∃k,k<m/\W (i+1) k c H')/\∀x H',(Itr lo n).yld i H x H'->g x a H' λb h=>j { D with nx:=N,ct:=N,bk:=D.nx } b h):=by
  apply Gc (λi m a H=>m=n-i/\i<=n/\f i a H) (JjW n _ h0);rintro i m a H ⟨rfl,q,p⟩;by_cases d:i<n
  . apply WM d (f _) (λc H' l=>Qp (n-Xi) (Jan n d) d l) (λx H' y=>?_);let(e,y):=y;subst e y;exact hs i a _ d p
  . let e:i=n:=Jn
    subst e;exact Qk Yd (o a H p)
abbrev R2:=V->V->Hp->VK->Prop
def OpR (X:Cx)(f:Value→Value→Sem Value)(r:R2):Prop :=
  ∀a s (b:St) H x y v u Q,Jf5 b->bn x v->QN y->r x y H Q->
    wpAny Yz X.A (f v u) Mq JfD s
def UnR (X:Cx)(f:Value→Sem Value)(r:V→Hp→VK→Prop):Prop :=
  ∀a s (b:St) H x v Q,Jf5 b->bn x v->r x H Q->
    wpAny Yz X.A (f v) Mq JfD s
def cO (X:Cx)(f:Value)(r:List V→Hp→VK→Prop):Prop :=
  ∀a s (b:St) H xs us Q,Jf5 b->UM xs->r xs H Q->
    wpAny Yz X.A (call f us) Mq JfD s
def tOp (r:R2)(c b:TE):TE:=λa H Q=>c a H λx e=>b a e λy d=>r x y d Q
def tUn (r:V->Hp->VK->Prop)(b:TE):TE:=λa H Q=>b a H λx c=>r x c Q
inductive rI (C:Int->Int->Prop)(g:GV (GV V)):R2|m{x y H Q} i j:Jhb x i (Jhb y j (C i j->Q (g i j) H->rI C g x y H Q))
inductive rI0 (g:GV (GV V)):R2|m{x y H Q} i j:Jhb x i (Jhb y j (Q (g i j) H->rI0 g x y H Q))
inductive rU (g:GV V):V->Hp->VK->Prop|m{x H Q} i:Jhb x i (Q (g i) H->rU g x H Q)
section
variable {X:Cx} {a b c:Expr} {ta tb tc:TE} {pos:Pos}
def binT (z:JfE a)(t:Yp b tb){d:List GM}{s:Shared}{e:St}{H:Hp}{R:V→V→Hp→Prop}(I:Jf4 d e)
    (h:ta e H λx l=>tb e l λy g=>R x y g){Q:Value->Shared->Prop}{f:Value->Value->Sem Value}
    (r:∀v u k x y g,Ir d e g k->bn x v->QN y->R x y g->UH (f v u) Q k):
    wpAny Yz X.A (Jc a) (λv j=>UH (Jc b) (λu i=>UH (f v u) Q i) j) JfD s:=by apply thn (z d s e H _ I h) λv n h_=>?_;let(x,l,C,p,q1):=h_;apply thn (t d n e l _ C q1) λu k h_=>?_;let(y,g,B,o,q):=h_;exact r v u k x y g B p o q
def aX (j:XJ X op r)(l:JfE a)(k:Yp b tb):Yp (.BinOp a op b pos) (tOp r ta tb):=by intro d s e H Q I h;exact wpAny_BinOp (binT l k I h λv u f x y o n i g q=>j d f e o x y v u Q n i g q)
def bZ (i:UnR X (unaryOp op) r)(j:JfE a):Yp (.UnaryOp op a pos) (tUn r ta):=by intro d s e H Q I h;exact UnaryOp_ (thn (j d s e H _ I h) λv f h_=>by let(x,l,k,g,q1):=h_;exact i d f e l x v Q k g q1)
def opI {f:Value→Value→Sem Value}{C:Int→Int→Prop}{g:Int→Int→Int}
    (d:∀i j t u s Q E,C i j->Q (JeU (g i j)) { s with toks:=s.toks+1 }->NA (f (IS i) (Jir j)) Q E s):
    OpR X f (rI C λi j=>.int (g i j)):=by intro e s o H x y v u Q I l k h;let(i,j,rfl,rfl,n,q):=h;let(t,rfl):=l;let(t',rfl):=k;exact d i j t t' s _ _ n JeL
def opI0 {f:Value→Value→Sem Value}{g:Int→Int→Int}
    (d:∀i j t u s Q E,Q (JeU (g i j)) { s with toks:=s.toks+1 }->NA (f (IS i) (Jir j)) Q E s):
    OpR X f (rI0 λi j=>.int (g i j)):=by intro e s n H x y v u Q I l k h;let(i,j,rfl,rfl,q):=h;let(t,rfl):=l;let(t',rfl):=k;exact d i j t t' s _ _ JeL
def opB0 {f:Value→Value→Sem Value}{g:Int→Int→Bool}
    (d:∀i j t u s Q E,Jj2 (g i j) s->NA (f (IS i) (Jir j)) Q E s):
    OpR X f (rI0 λi j=>.bl (g i j)):=by intro e s n H x y v u Q I l k h;let(i,j,rfl,rfl,q):=h;let(t,rfl):=l;let(t',rfl):=k;exact d i j t t' s _ _ Jsq
def CDiv (i j:Int):Prop:=0<j/\JfA j
def CMul (i j:Int):Prop:=(-(2^64)<i/\i<2^64)\/(-(2^64)<j/\j<2^64)
def CMul.ok (h:CMul i j):IntMulOk i j:=by
  rcases h with ⟨e,d⟩|⟨e,d⟩
  . exact .of_left (intBits_le_64 e d)
  . exact .of_right (intBits_le_64 e d)
def cu:XJ X .Add (rI0 λi j=>.int (i+j)):=opI0 λx x x x x x x q=>add_int q
def gC:XJ X .Sub (rI0 λi j=>.int (i-j)):=opI0 λx x x x x x x q=>sub_int q
def iU:XJ X .Mult (rI CMul λi j=>.int (i*j)):=opI λx x x x x x x d q=>mul_int q d.ok
def cx:XJ X .FloorDiv (rI CDiv λi j=>.int (i/j)):=opI λi j x x x x x d q=>by let f:Ge j:=d.1;let e:JfA j:=d.2;exact floordiv_int Jn (Int.fdiv_eq_ediv_of_nonneg i (by lia)<|>q) (.inl (PyProof.noPylong_small Jn))
def bz:XJ X .Mod (rI (λx j=>0<j) λi j=>.int (i%j)):=opI λi j x x x x x d q=>by exact mod_int' Jn (Int.fmod_eq_emod_of_nonneg i (by lia)<|>q)
def unI {f:Value→Sem Value}{g:Int→Int}
    (d:∀i t s Q E,Q (JeU (g i)) { s with toks:=s.toks+1 }->NA (f (IS i)) Q E s):
    UnR X f (rU λi=>.int (g i)):=by intro e s k H x v Q I j h;let(i,rfl,q):=h;let(t,rfl):=j;exact d i t s _ _ JeL
def b_:UnR X (unaryOp .USub) (rU λi=>.int (-i)):=unI λx x x x x q=>neg_int q
end
noncomputable def zeo:V->Bool
  |.non=>true
  |.bl _=>true
  |.int _=>true
  |.str _=>true
  |_=>false
noncomputable def eqV:V->V->Bool
  |.non,.non=>true
  |.bl a,.bl b=>a==b
  |.bl a,.int b=>(if a then 1 else 0)==b
  |.int a,.bl b=>a==(if b then 1 else 0)
  |.int a,.int b=>a==b
  |.str a,.str b=>a==b
  |_,_=>false
inductive Fv:V->Value->Prop|non:Fv .non .none|bl b:Fv (.bl b) (.bool b)|int i t:Fv (.int i) (IS i)|str x t:Fv (.str x) (JmV x)
def bn.fv (r:bn x v)(f:JhA x):Fv x v:=by
  cases x with
  |non=>cases r;exact .non
  |bl b=>cases r;exact .bl b
  |int i=>obtain⟨t,rfl⟩:=r;exact IS i
  |str z=>obtain⟨t,rfl⟩:=r;exact JmV z
  |_=>exact Jbu (show Vi false from f)
def rcF (a:Fv x v)(b:Fv y u):Jdk s v u (eqV x y)/\SeqAt.RcNeAt A s v u (!eqV x y):=by cases a<;>cases b;exact(.none_none,.none_none);exact(.none_bool _,.none_bool _);exact(.none_int _ _,.none_int _ _);exact(.none_str _ _,.none_str _ _);exact(.bool_none _,.bool_none _);exact(.bool_bool _ _,.bool_bool _ _);exact(.bool_int _ _ _,.bool_int _ _ _);exact(.bool_str _ _ _,.bool_str _ _ _);exact(.int_none _ _,.int_none _ _);exact(.int_bool _ _ _,.int_bool _ _ _);exact(.int_int _ _ _ _,.int_int _ _ _ _);exact(.int_str _ _ _ _,.int_str _ _ _ _);exact(.str_none _ _,.str_none _ _);exact(.str_bool _ _ _,.str_bool _ _ _);exact(.str_int _ _ _ _,.str_int _ _ _ _);exact(.str_str _ _ _ _,.str_str _ _ _ _)
noncomputable def scal (x y:V):Bool:=zeo x&&zeo y&&match x,y with
  |.bl _,.int _ | .int _,.bl _=>false
  |_,_=>true
def rEq:R2:=λx y H Q=>JoO (Vi (scal x y)) (decide (x=y))
def rNe:R2:=λx y H Q=>JoO (Vi (scal x y)) (!decide (x=y))
def Aj:decide (Jou i j)=(i==j):=by rw[Bool.eq_iff_iff];simp
def Ak:decide (V.bl i=V.bl j)=(i==j):=by rw[Bool.eq_iff_iff];simp
def Al:decide (V.str i=V.str j)=(i==j):=by rw[Bool.eq_iff_iff];simp
section
variable {X:Cx} {a b c:Expr} {ta tb tc:TE} {pos:Pos}
def ku (I:Xm s)(q:JoN k)(e:k=k'):EP X pins σ Q (.bool k') s:=by subst e;exact VD k H I q
def vu (e:bn x v)(d:QN y)(h:Vi (scal x y)):Fv x v/\Fv y u/\eqV x y=decide (x=y):=by let h:=(Bool.and_eq_true _ _).mp h;let(f,g):=(Bool.and_eq_true _ _).mp h.1;let a:=e.fv f;let b:=d.fv g;apply Gc a b;cases a<;>cases b<;>first|exact Jbu h.2|exact Aj.symm|exact Ak.symm|exact Al.symm|rfl
def bD:Gm X .Eq rEq:=by intro d s i H x y v u Q I g f h;let(hs,q):=h;let(a,b,e):=vu g f hs;exact(rcF a b).1 _ _ _ _ (ku I q Jkm)
def eE:Gm X .NotEq rNe:=by intro d s i H x y v u Q I g f h;let(hs,q):=h;let(a,b,e):=vu g f hs;exact(rcF a b).2 _ _ _ _ (ku I q (congrArg not Jkm))
def iA:Gm X .Lt (rI0 λi j=>.bl (decide (i<j))):=opB0 λx x x x x x x q=>lt_int q
def op_le:Gm X .LtE (rI0 λi j=>.bl (decide (i<=j))):=opB0 λx x x x x x x q=>le_int q
def da:Gm X .Gt (rI0 λi j=>.bl (decide (j<i))):=opB0 λx x x x x x x q=>gt_int q
def jv:Gm X .GtE (rI0 λi j=>.bl (decide (j<=i))):=opB0 λx x x x x x x q=>ge_int q
def Am:Gm X .In (λx y H Q=>∃i j,x=.str i/\JoO (y=.str j) (!(Builtin.Str.occurrences j i 0 j.length 1).isEmpty)):=by intro d s g H x y v u Q I f e h;let(i,j,rfl,rfl,q):=h;let(t,rfl):=f;let(t',rfl):=e;exact in_str (ku I q rfl)
def nY:Gm X .Is (λx y H Q=>JoO (y=.non) (decide (x=.non))):=by
  intro e s g H x y v u Q I d f h;let(rfl,q):=h;cases f;apply is_none_gen (ku I q ?_);cases x<;>first
    |(cases d;rfl)
    |(let(t,rfl):=d;rfl)
def kx:Gm X .IsNot (λx y H Q=>JoO (y=.non) (!decide (x=.non))):=by
  intro e s g H x y v u Q I d f h;let(rfl,q):=h;cases f;apply isnot_none_gen (ku I q ?_);cases x<;>first
    |(cases d;rfl)
    |(let(t,rfl):=d;rfl)
def vv (b){op:CmpOp}(h:op≠.In:=by decide)(d:op≠.NotIn:=by decide):Jab op b:=vn b h d
def cP (j:Gm X op r)(n:JfE a)(l:Yp b tb)(k:Jab op b:=by exact vv _):Yp (.Compare a [op] [b] pos) (tOp r ta tb):=by intro d s e H Q I h;exact wpAny_Compare1 (binT n l I h λv u f x y p o i g q=>j d f e p x y v u Q o i g q) k
def tTest (t:TE):TT:=λd H Q=>t d H λx H'=>isB x H' Q
def aA (q:Gm X op r)(A:JfE a)(w:Yp b tb)(t:Jab op b:=by exact vv _):PT X (.Compare a [op] [b] pos) (tTest (tOp r ta tb)):=by
  intro d s f H Q I h;apply wpAny_isTrue_Compare1 (thn (A d s f H _ I h) λv i h_=>?_) t;let(x,G,D,n,q1):=h_;apply thn (w d i f G _ D q1) λu g h_=>?_;let(y,F,C,l,p):=h_;apply thn (q d g f F x y v u _ C n l p) λc J h_=>?_;let(z,E,B,j,k,e,o):=h_
  subst e;cases j;exact JdO E B o
def ky:(sizeLine:Nat)<2^63:=by rw[sizeLine_eq];decide
def vx:XJ X .Add (λx y H Q=>∃i j,x=.str i/\y=.str j/\Qd (i.length+j.length)/\Q (.str (i++j)) H):=by intro d s g H x y v u Q I f e h;let(i,j,rfl,rfl,hz,q):=h;let(t,rfl):=f;let(t',rfl):=e;exact add_str (λt' tk=>GI (.str _) H _ JeC q) hz
def eX (r:UM [x]):∃u,us=[u]/\bn x u:=by
  cases r with
  |cons e d=>cases d;exact QD e
def iC (r:UM [x,y]):∃u d,us=[u,d]∧QN x∧bn y d:=by
  cases r with
  | cons h g =>
    cases g with
    |cons f e=>cases e;exact Qp _ _ h f
def jw:Ys X "abs" (λxs H Q=>∃i,xs=X3 i/\Mn (if i<0 then -i else i) H):=by intro d s e H xs us Q I r h;let(i,rfl,q):=h;let(u,rfl,t,rfl):=eX r;exact call_abs_int λu tk=>Jf6 _ H _ _ q
def qo (f:Vi Gy):Ys X "max" (λxs H Q=>∃i j,xs=Xw i j/\Mn (if j>i then j else i) H):=by
  intro e s g H xs us Q I r h;let(i,j,rfl,q):=h;let(u,l,rfl,(t,rfl),(t',rfl)):=iC r;apply max_two_ints (I.ok.hd f) λh' tk k=>(_,H,I.kept k,?_,q);by_cases d:j>i
  . rwa[if_pos d,if_pos d]at Wf _
  . rwa[if_neg d,if_neg d]at Wf _
def An (f:Vi Gy):Ys X "min" (λxs H Q=>∃i j,xs=Xw i j/\Mn (if j<i then j else i) H):=by
  intro e s g H xs us Q I r h;let(i,j,rfl,q):=h;let(u,l,rfl,(t,rfl),(t',rfl)):=iC r;apply min_two_ints (I.ok.hd f) λh' tk k=>(_,H,I.kept k,?_,q);by_cases d:j<i
  . rwa[if_pos d,if_pos d]at Wf _
  . rwa[if_neg d,if_neg d]at Wf _
end
structure jx (h:Heap)(x dx C)(mA):Prop where
  obj:h.get? x=some (Jfe C)
  ns:h.Ns1 dx mA
  ne:dx≠x
set_option tactic.hygienic true in
def Ao {h:Heap}{dx:Addr}{c:Str→Option Value}(n:h.Ns1 dx c):∃od,h.get? dx=some od∧∀name,JeV od=some (c name):=by
  let(o,es,ep,f,j,i,_,g):=n;apply Jmh f (λname=>?_);let e:=g name;unfold nsFind findBy at e;rw[<-Array.find?_toList]at e;unfold PySem.W.lookIn;rw[j];dsimp only;split
  . rename_i y q;rw[q]at e;exact JaD e
  . rename_i q;rw[q]at e;let a:Yw (es.toList.any (·.refKey)):=by rw[List.any_eq_false];intro y d;let(z,t,b):=i y (Array.mem_toList_iff.mp d);simp [DictEntry.refKey,b]
    let k:¬Vi (es.toList.any (·.refKey)):=by rwa[a]at Jb3
    rwa[if_neg k]at JaD e
def jx.look (I:jx h x dx C mA):∃od,PySem.W.InstAt h x (Jfe C) C (some od)/\∀name,JeV od=some (mA name) :=
  let (od,ho,hl):=Ao I.ns
  (od,Jbj I.obj ho,hl)
section
variable {prog:Program} {w:World} {A:Around} {E:Value->Shared->Prop} {s:Shared} {K:PySem.W.Frag} {x dx C f:Addr} {mA:Str->Option Value} {name:Str} {v:Value}
def Ap (X:K.In Yq)(I:jx Yq x dx C mA)(e:JaC K C name)(d:Jda K C)
    (g:Wn (NB K C name))(b:Xa (mA name) v)(a:Vi (PySem.W.handedIn v))(h:Q v { s with toks:=s.toks+1 }):
    wpAny Ud A (getAttr (.ref x) name expr) Q E s:=by let(od,J,c):=I.look;exact PySem.W.get_value X J (PySem.W.plainGet_of e).1 (PySem.W.findObj_own d g rfl (by rw[c,b])) a h
def Aq (X:K.In Yq)(I:jx Yq x dx C mA)(a:JaC K C name)
    (e:Jns (NB K C name) f)(c:Vi (Jfi K f))(b:Mf (mA name))(h:Q (.ref f,Vj x,) s):
    wpAny Ud A (Jiu (.ref x) name) Q E s:=by let(od,J,d):=I.look;exact PySem.W.method_fn X J (PySem.W.plainGet_of a).1 (PySem.W.plainGet_of a).2 e (beq_iff_eq.mp c) (by show(JeV od).map _=some false;rw[d,b];rfl) h
def Au (X:K.In Yq)(I:jx Yq x dx C mA)
    (hs:JbX (NB K C "__setattr__") "object.__setattr__")(o:Vi (PySem.W.plainOver K C))(n:Wn (PySem.W.takerIn K C name))(p:Jda K C)
    (l:PySem.Within mA ns)(hsz:Qd ns.length)
    (h:∀h',jx h' x dx C (λy=>if y=name then some v else mA y)->JpH dx->Q () { s with heap:=h',toks:=s.toks+2 }):
    wpAny Ud A (setAttr (.ref x) name v) Q E s:=by let(od,J,B):=I.look;apply PySem.W.set_plain X J hs (PySem.W.osa_open X J o n λb=>?_);let(D,q,i):=PySem.W.any_some p;let k:=I.obj;apply Gf (VC (wpAny_loadPart k (wpAny_bind (PySem.W.Looks.here (PySem.W.looks_clsIn X q) ?_))));rw[i];apply wpAny_pure (Gf (wpAny_bind ?_));apply wpAny_nsSet1 I.ns λh' d c=>?_;let(z,t,u,e,g,j):=d.count (PySem.Within.cons name v l);apply wpAny_bind (wpAny_lookBehind e (g<|>pastItsLine_dict (Nat.le_trans j (by rw[List.length_cons];lia))) ?_);exact wpAny_pure (h _ ((c.2 _ (Ne.symm I.ne)).trans I.obj,d,I.ne) c)
def Av (X:K.In Yq)(b:Vi (PySem.W.makesIn K C))
    (c:Jns (NB K C "__init__") f)(e:Xa (PySem.W.typeIn K (.ref f)) (.type "function"))
    (h:codeAny Ud (JjP "type.__call__" C vs kw) (JbC f (Jaz Jh3 vs,kw)) (PySem.W.InitBack Jh3 R)
      { s with heap:=(s.heap.push UP).push (NE C) }):
    codeAny Ud A (JbC C (vs,kw)) R s:=by let(j,g,d,t,i):=s;exact PySem.W.make_core (PySem.W.makes_of X b) (PySem.W.looks_findIn X c) (λa=>PySem.W.bind_fn X a e) (.inl rfl) h
end
noncomputable def zbu (f:Str)(v:V):JcB V->JcB V
  |[]=>[(f,v,)]
  |(g,x,)::r=>if g=f then(g,v,)::r else(g,x,)::Jmc r
theorem lX (f g)(v):∀c:JcB V,(Jmc c).lookup g=if g=f then some v else c.lookup g
  | []=>by
    show List.lookup g [(f,v,)]=_;by_cases h:g=f
    . let a:=beq_iff_eq.mpr h;simp only[List.lookup,a,if_pos h]
    . let a:=beq_eq_false_iff_ne.mpr h;simp only[List.lookup,a,if_neg h]
  | (k,x,) :: r=>by
    let d:=lX f g v r;rw[show Jmc _=(if k=f then(k,v,)::r else(k,x,)::Jmc r) from rfl]
    by_cases b:k=f
    . rw[if_pos b];by_cases h:g=k
      . let a:=beq_iff_eq.mpr h;simp only[List.lookup,a,if_pos (h.trans b)]
      . let a:=beq_eq_false_iff_ne.mpr h;simp only[List.lookup,a,if_neg (λe:g=f=>h (e.trans b.symm))]
    . rw[if_neg b];by_cases h:g=k
      . let a:=beq_iff_eq.mpr h;simp only[List.lookup,a,if_neg (λe:g=f=>b (h.symm.trans e))]
      . let a:=beq_eq_false_iff_ne.mpr h;simp only[List.lookup,a];exact d
theorem qp (f)(v):∀b:JcB V,f∈(Jmc b).map Qn∧∀g,g∈b.map Qn→g∈(Jmc b).map Qn
  |[]=>(by simp [zbu],λg h=>by simp at h)
  | (k,x,) :: r=>by
    let(d,c):=qp f v r;rw[show Jmc _=(if k=f then(k,v,)::r else(k,x,)::Jmc r) from rfl]
    by_cases a:k=f
    . rw[if_pos a];subst a;exact(by simp,λg h=>by simpa using h)
    . rw[if_neg a];apply(?_,λg h=>?_)
      . rwa[List.map_cons]at Jb d
      . rw[List.map_cons]at h ⊢;rcases List.mem_cons.mp h with e | e
        . exact List.mem_cons.mpr (.inl e)
        . exact Jb (c g e)
theorem vy (f)(v):∀b:JcB V,(Jmc b).length<=b.length+1
  |[]=>by simp [zbu]
  | (k,x,) :: r=>by
    let c:=vy f v r;rw[show Jmc _=(if k=f then(k,v,)::r else(k,x,)::Jmc r) from rfl]
    by_cases a:k=f
    . rw[if_pos a,List.length_cons,List.length_cons];lia
    . rw[if_neg a,List.length_cons,List.length_cons];lia
def dk.some_of (r:dk (some v) o):∃u,Xa o u/\bn v u:=by
  cases o with
  |none=>exact(show False from r).elim
  |some u=>exact Nd u r
def dk.none_of (r:dk none o):Mf o:=by
  cases o with
  |none=>rfl
  |some u=>exact(show False from r).elim
def Aw (r:QN v):Vi (PySem.W.handedIn u):=by
  cases v with
  |non=>cases (show u=Value.none from r);rfl
  |bl b=>cases (show Jgb u b from r);rfl
  |int i=>obtain⟨t,e⟩:=(show ∃t,u=UU i from r);cases e;rfl
  |str x=>obtain⟨t,e⟩:=(show ∃t,u=Jcf x from r);cases e;rfl
  |byt b=>obtain⟨t,e⟩:=(show ∃t,u=Value.bytes b t from r);cases e;rfl
  |flt b=>obtain⟨t,e⟩:=(show ∃t,u=Jln b from r);cases e;rfl
  |ref a=>cases (show JlP a from r);rfl
  |ty n=>cases (show Jdl u n from r);rfl
section
variable {P:Program} {w:World} {H H':Hp} {h h':Heap} {a C dx:Addr} {fs fs':List (Jiv V)}
def nZ (c:JdD h)(e:Jc0 a fs):∃b,jx h a dx C b/\(∀f,dk (fs.lookup f) (b f))/\PySem.Within b (fs.map Qn)/\Jr fs.length/\H dx=some (.own a):=by let(d,z,i,g,b,n,r,q):=(show bV P w H h a _ from c a _ e);exact(b,(g,n,i),r,q,z,d)
end
structure Cls (K:PySem.W.Frag)(C):Prop where
  pg:JaC K C Str.empty
  hd:Jda K C
  po:Vi (PySem.W.plainOver K C)
  sa:JbX (NB K C "__setattr__") "object.__setattr__"
def Cls.get {K:PySem.W.Frag}{C:Addr}(c:Jj3 K)(f):JaC K C f:=c.pg
def cQ (K:PySem.W.Frag)(C:Addr)(f:Str):Prop:=Wn (NB K C f)
def cQ.taker {K:PySem.W.Frag}{C:Addr}{f:Str}(n:Jml f):PySem.W.takerIn K C f=some none:=by unfold PySem.W.takerIn;rw[show Wn (PySem.W.findIn K _ f) from n];rfl
structure bJ (K:PySem.W.Frag)(C)(m)(f):Prop where
  at_:Jns (NB K C m) f
  fn:Vi (Jfi K f)
  kp:Vi (VY K f)
section
variable {X:Cx} {pins:List GM} {σ:St} {H:Hp} {s:Shared} {a C dx:Addr} {fs:List (Jiv V)} {f:Str} {v:V} {A:Around} {E:Value->Shared->Prop}
def vz (I:Xm s)(e:Jc0 a fs)(c:Jj3 Gh)(n:Jmk Gh f)(l:JlI f v)
    (h:∀u s',Xm s'->QN v->Q u s'):Yx A (getAttr (.ref a) f b) Q E s:=by let(g,O,r,_,_,_):=nZ I.hok e;let(u,i,d):=dk.some_of (by rwa[<-l]at r f);exact Ap Jjr O (c.get f) c.hd n i (Aw d) (Jpd u _ _ d)
def vA (I:Xm s)(e:Jc0 a fs)(c:Jj3 Gh)(k:IV Gh m g)(l:Mf (fs.lookup m))
    (h:Q (.ref g,Vj a,) s):Yx A (Jiu (.ref a) m) Q E s:=by let(b,O,r,_,_,_):=nZ I.hok e;let d:=dk.none_of (by rwa[<-l]at r m);exact Aq Jjr O (c.get m) k.at_ k.fn d h
def vB (I:Xm s)(e:Jc0 a fs)(c:Jj3 Gh)(n:Jmk Gh f)(F:JcN fs.length)(p:QN y)
    (h:∀s',Ik (JhD (Y_ (Jjo y fs))) s'->Q () s'):Yx A (setAttr (.ref a) f u) Q E s:=by
  let(j,O,r,i,_,k):=nZ I.hok e;let hz:(fs.map Qn).length<=sizeLine:=by rw[lM,sizeLine_eq];lia
  apply Au Jjr O c.sa c.po n.taker c.hd i hz λh' d l=>h _ ?_;let B:∃o,h'.get? dx=some o:=(by let(o,_,_,e',_):=d.ns;exact (o,e'));apply I.write (e<|>IK) (.inr k) (λb q D z=>(l.2 b D).trans z) B ?_;apply(aq O.ne<|>k,?_,O.ne,d.obj,_,d.ns,λg=>?_,λg t=>?_)
  . have:=vy f y fs;lia
  . show dk _ _
    rw[lX];by_cases q:g=f
    . rwa[if_pos q,if_pos q]at p
    . rwa[if_neg q,if_neg q]at r g
  . by_cases q:g=f
    . rwa[q]at(qp f y fs).1
    . apply(qp f y fs).2 g (i g λz=>t ?_);lia
def Inv.made (I:Xm s):Inv X pins σ (upd (WH V0 Jh3) Jh3 (.ins C V0 []))
    { s with heap:=(s.heap.push UP).push (NE C) }:=by
  let d:(s.heap.push UP).get? V0=some PySem.W.emptyDict:=Heap.get?_push_size Yq rfl;let j:((s.heap.push UP).push (NE C)).get? Jh3=some (NE C):=by have:=Heap.get?_push_size (s.heap.push UP) (o:=NE C) rfl;rw[Heap.size_push]at this;exact this
  let i:(s.heap.push UP).Ns V0 (λx=>none):=(UP,#[],_,d,rfl,(λe h=>Yn h),λx=>rfl);let k:=I.laid (o:=.own Jh3) (h':=s.heap.push UP) (t':=s.toks) (λb u q=>UD q) Yd (Mr d);apply k.laid (t':=s.toks) (λb u q=>UD q) (Nat.le_of_eq (Heap.size_push _ _)) ?_;let c:Jhy (Yg 1):=Nat.ne_of_lt JoD;apply(by rw[aq c,ao],Nat.zero_le _,c,j,λx=>none,(Heap.Ns1.of_empty i).at λo q=>UD q,λx=>IK,λy g=>JC g)
def Ax (c:attributeBase e f env (Jcg e)=Jcg e)
    (h:JnF (Jcg e) (λo b=>JnG (getAttr o f true) b) s):JnH (Jcg (JbM e pos)) :=
  Attribute_any_ h (by rw[arm_eval_Attribute,c])
end
inductive rFld (K:PySem.W.Frag)(f):V->Hp->VK->Prop|m{x H Q} a C dx fs v:Jn0 (JjO a fs (Jj3 K->Jml f->JlI f v->Q v H->rFld K f x H Q))
def tFld (K:PySem.W.Frag)(b:TE)(f:Str):TE:=λa H Q=>b a H λx c=>rFld K f x c Q
inductive rSF (K:PySem.W.Frag)(f)(y)(R:Hp->Prop):V->Hp->Prop|m{x H} a C dx fs:Jn0 (JjO a fs (Jj3 K->Jml f->JcN fs.length->R (JhD (Y_ (Jjo y fs)))->rSF K f y R x H))
def sFld (K:PySem.W.Frag)(c b:TE)(f:Str):TS:=λD a H=>b a H λy e=>c a e λx d=>rSF K f y (D.nx a) x d
def InOp (X:Cx)(op:Operator)(c:V->V->Hp->VK->Prop):Prop :=
  ∀a s (b:St) H x y u v Q,Jp9 (QN x->bn y v->c x y H Q->UH (inplaceOp op u v) Mq s)
inductive rSG (f)(a C)(R:Hp->Prop):V->Hp->Prop|m{z H} dx fs:JjO a fs (JcN fs.length->R (JhD (Y_ (Jjo z fs)))->rSG f a C R z H)
inductive rSH (K:PySem.W.Frag)(tv:(V->Hp->Prop)->Hp->Prop)(rd:V->V->Hp->VK->Prop)(f)(R):V->Hp->Prop|m{x H} a C dx fs v:Jn0 (JjO a fs (Jj3 K->Jml f->JlI f v->tv (λy H2=>rd v y H2 λz H3=>rSG f a C R z H3) H->rSH K tv rd f R x H))
def Ay (K:PySem.W.Frag)(c b:TE)(d:V->V->Hp->VK->Prop)(f:Str):TS:=λD a H=>c a H λx e=>rSH K (λQ H'=>b a H' Q) d f (D.nx a) x e
section
variable {X:Cx} {o e value:Expr} {f:Str} {pos pos' tpos:Pos} {ta tv:TE}
def aV (j:JfE e)(k:JjM e f e=Jc e):Yp (JbM e pos) (tFld Gh ta f):=by intro b s d H Q I h;apply Ax k (thn (j b s d H _ I h) λu A h_=>?_);let(x,w,t,g,a,C,dx,B,v,p,ea,c,n,l,q):=h_;subst p;obtain rfl:u=Value.ref a:=g;exact vz t ea c n l λy z r i=>(v,w,r,i,q)
def dh (t:JfE o)(r:Yp value tv)(hs:JdQ (Jio value (JbM o pos') pos.line) false):PS X (Jga (JbM o pos') value pos) (sFld Gh ta tv f):=by intro b s d H D I h;apply plainObj_wpAny_Assign_Attribute (thn (r b s d H _ I h) λu g h_=>?_) hs;let(y,B,A,i,q):=h_;apply thn (t b g d B _ A q) λp F h_=>?_;let(x,J,z,j,a,C,dx,G,v,ea,c,n,l,k):=h_;subst v;obtain rfl:p=Value.ref a:=j;exact vB z ea c n l i λE w=>(d,_,w,k)
def Az (L:JfE o)(J:Yp value tv)(g:InOp X op rd):PS X (.AugAssign (JbM o tpos) op value pos) (Ay Gh ta tv rd f):=by intro b s d H D I h;apply wpAny_AugAssign_AttributeAny (thn (L b s d H _ I h) λF s1 h_=>?_);let(x,W,T,w,a,C,dx,fs,v,N,ea,c,n,l,q):=h_;subst N;obtain rfl:F=Value.ref a:=w;apply vz T ea c n l λu p S A=>thn (J b p d W _ S q) λj k h_=>?_;let(y,U,R,t,E):=h_;apply thn (g b k d U v y u j _ R A t E) λY s4 h_=>?_;let(z,H3,Q,r,O,M,i,G,B):=h_;exact vB Q i c n G r λZ P=>(d,_,P,B)
inductive rAdd:V->V->Hp->VK->Prop|m{x y H Q} i j:Jhb x i (Jhb y j (Mn (i+j) H->rAdd x y H Q))
def in_add:InOp X .Add rAdd:=by rintro a s d H x y u v Q I c b ⟨i,j,rfl,rfl,q⟩;let(t,rfl):=(show ∃t,u=UU i from c);let(t',rfl):=(show ∃t',v=Value.int j t' from b);exact PyProof.Rows.iadd_int JeL
end
section
variable {X:Cx} {pins:List GM} {σ:St} {H:Hp} {s:Shared} {A:Around} {E:Value->Shared->Prop} {Q:Value->Shared->Prop} {c:Value} {b:Bool}
inductive eM (K:PySem.W.Frag)(H:Hp):V->Value->Prop where
  |non:W9 K H .non "NoneType"
  |bl (x):W9 K H (.bl x) "bool"
  |int (i):W9 K H (.int i) "int"
  |str (x):W9 K H (.str x) "str"
  |flt (x:UInt64):W9 K H (.flt x) "float"
  |lst {a:Addr} {xs:List V} (e:H a=some (.lst xs)):JpU K H a "list"
  |frz {a:Addr} {o:Obj} {xs:List V} (e:H a=some (.frz o (.lst xs))):JpU K H a "list"
  |tup {a:Addr} {xs:List V} (e:H a=some (.tup xs)):JpU K H a "tuple"
  |dK {a:Addr} {kvs:List (Key×V)} (e:H a=some (.dK kvs)):JpU K H a "dict"
  |dT {a:Addr} {kvs:List (List Key×V)} (e:H a=some (.dT kvs)):JpU K H a "dict"
  |ins {a C dx:Addr} {fs:List (Str×V)} (e:H a=some (.ins C dx fs)) (cl:Cls K C) (ha:PySem.W.findIn K (.ref C) "__class__"=some (some (.builtin "object.__class__")))
      (hn:JbX (PySem.W.specialIn K (.builtin "object.__class__") "__get__") "getset_descriptor.__get__") (htk:US (PySem.W.takesIn K (.builtin "object.__class__")))
      (hm:US (PySem.W.mroIn K C (.type "object"))):eM K H (.ref a) (.ref C)
def AA (I:Xm s)(d:QN x)(ty:eM Gh H x t)(e:Xa (PySem.W.kitOne Gh t c) b)(h:∀tk,Jj2 b { s with toks:=tk }) :
    wpAny Yz A (JQ "isinstance" [u,c]) Q E s:=by
  cases ty with
  |non=>cases (show u=Value.none from d);exact Je_ PySem.W.kitx_none e Jx h
  |bl y=>cases (show Jgb u y from d);exact Je_ PySem.W.kitx_bool e Jx h
  |int i=>obtain⟨t,q⟩:=(show ∃t,u=UU i from d);cases q;exact Je_ PySem.W.kitx_int e Jx h
  |str y=>obtain⟨t,q⟩:=(show ∃t,u=Jcf y from d);cases q;exact Je_ PySem.W.kitx_str e Jx h
  |flt y=>obtain⟨t,q⟩:=(show ∃t,u=Jln y from d);cases q;exact Je_ PySem.W.kitx_float e Jx h
  | @lst a xs ea =>
    cases Xc;let(_,_,n,_,f):=(show JfQ H a (.lst xs) from VM a ea);exact Nq PySem.W.kitx_list (Ji6 f) e Jx h
  | @frz a l xs ea =>
    cases Xc;let(_,_,_,n,_,f):=(show JfQ H a (.frz l (.lst xs)) from VM a ea);exact Nq PySem.W.kitx_list (Ji6 f) e Jx h
  | @tup a xs ea =>
    cases Xc;let(_,_,_,p):=(show JfQ H a (.tup xs) from VM a ea);let(o,f,g,_):=p.up;exact Nq PySem.W.kitx_tuple (Jmh f g) e Jx h
  | @dK a kvs ea =>
    cases Xc;let(_,_,vs,_,p):=(show JfQ H a (.dK kvs) from VM a ea);let(o,es,ep,f,g,_):=p;exact Nq PySem.W.kitx_dict (Jmh f g.1) e Jx h
  | @dT a kvs ea =>
    cases Xc;let(_,_,xs,_,o,es,ep,f,g,_):=(show JfQ H a (.dT kvs) from VM a ea);exact Nq PySem.W.kitx_dict (Jmh f g.1) e Jx h
  | @ins a C dx F ea k B r j v =>
    cases Xc;let(D,O,_):=nZ I.hok ea;let(od,J,_):=O.look;exact Nq (PySem.W.kitx_own (k.get _) k.hd B r j v) J e Jx h
end
structure ag (k)(A:Around):Prop where
  hd:Mf NL
  dp:A.depth+3*k+5<recursionLimit
  un:A.units+16*k+200<cLine
  gd:Xa A.guards []
def ag.mono (r:ag k A)(h:j<=k):ag j A:=(r.hd,by have:=r.dp;lia,by have:=r.un;lia,r.gd)
def ag.deeper (r:ag (k+1) A)(env):Nr k env :=
  (r.hd,by have:=r.dp;show A.depth+1+3*k+5<_;lia,by have:=r.un;show A.units+3+16*k+200<_;lia,r.gd)
def AB {A:Around}{C:Addr}{us:List Value}{a:List JpJ}:(JjP "type.__call__" C us a).depth=A.depth+1:=by
  rfl
def AD {A:Around}{C:Addr}{us:List Value}{a:List JpJ}:(JjP "type.__call__" C us a).units=Q6 1:=by
  rfl
def AE {A:Around}{C:Addr}{us:List Value}{a:List JpJ}(h:Xa A.guards []):(JjP "type.__call__" C us a).guards=some []:=by
  first|exact h|simp [Around.under,Code.guards,Code.isGuard,guardIds,pushGuards,h]
def ag.make {k:Nat}{A:Around}(r:ag (k+1) A)(C)(us)(a):ag k (JjP "type.__call__" C us a) :=
  (r.hd,by have:=r.dp;rw[AB];lia,by have:=r.un;rw[AD];lia,AE r.gd)
def ag.depth (r:ag k A):A.depth<recursionLimit:=by have:=r.dp;lia
def ag.units (r:ag k A):V6 64:=by have:=r.un;lia
def hF:TA:=λx H Q=>Q [] H
def iV (c:TE)(b:TA):TA:=λa H Q=>c a H λx e=>b a e λxs d=>Q (x::xs) d
section
variable {X:Cx} {e:Expr} {es:List Expr} {te:TE} {t:TA} {pos:Pos}
def ac:PA X [] hF:=λx x x x H Q I h=>Calls.spliced_nil ([],H,I,.nil,h)
def aa (j:JnA e)(i:PA X es t)(hs:Jdh e=(false,Jc e,)::starEach es X.env:=by rfl):Jfc X e (iV te t):=by intro pos a s b H Q I h;rw[hs];apply Calls.spliced_cons (thn Jqw λu c h_=>?_);let(x,o,l,f,q1):=h_;exact thn (i pos a c b o _ l q1) λus p h_=>by let(xs,n,k,d,g):=h_;exact(x::xs,n,k,.cons f d,g)
def vC (t:TA):TE:=λb H Q=>t b H λxs a=>Qd Jb5/\∀p,IA (Mf (a p)) p (Gb a p xs)
def tLst (t:TA):TE:=λb H Q=>t b H λxs a=>Qd Jb5/\∀p,IA (Mf (a p)) p (Va a p xs)
def cb (h:PA X es t):Yp (Jm0 es x1) (vC t):=by intro a s g H Q I i;apply wpAny_Tuple_spliced (thn (h pos a s g H _ I i) λus c h_=>?_);let(xs,f,d,r,z,q):=h_;apply Qm (by rwa[<-r.length]at z);let j:=JbD _;apply Wv WX (JhQ f WX) (d.laid (t':=c.toks) (λb u e=>UD e) Yd ?_) (q _ j);exact(z,us,r,Qp _ VN _ rfl)
def bK (h:PA X es t):Yp (.List es pos) (tLst t):=by intro a s g H Q I i;apply wpAny_List_spliced (thn (h pos a s g H _ I i) λus c h_=>?_);let(xs,f,d,r,z,q):=h_;apply Qm (by rwa[<-r.length]at z);let j:=JbD _;apply Wv WX (JhQ f WX) (d.laid (t':=c.toks) (λb u e=>UD e) Yd ?_) (q _ j);exact(z,us,0,r,Heap.get?_push_size _ rfl)
end
abbrev Sp:=List V->Hp->VK->XK->Prop
abbrev CXT:=List Env->Hp->Shared->XK->Value->Shared->Prop
structure jy (P)(w)(K:PySem.W.Frag)(mg)(base)(A:Around)(outer)(s:Shared)(H:Hp):Prop where
  frames:Xa A.frames outer
  mod:Mod K mg base
  bs:∀b o,base.get? b=some o->s.heap.get? b=some o/\Nf b
  bsz:base.objs.size<=V0
  funs:s.heap.FunFrames base outer
  frf:∀b∈frs outer,Nf b
  hok:JdD Yq
  bare:AllBare s.gens
def CE (outer:List Env)(P:Program)(w:World)(H:Hp)(s:Shared)(Q:VK)(u:Value)(s':Shared):Prop :=
  ∃v H',s'.os=s.os/\AllBare s'.gens/\Jdi outer [] H H' Jgy/\JcK H' Jgy/\QN v/\Q v H'
def CR (CX:CXT)(outer:List Env)(P:Program)(w:World)(H:Hp)(s:Shared)(Q:VK)(E:XK)(r:Result)(s':Shared):Prop :=
  match r with
  |.ok (.ret u)=>CE outer P w H s Q u s'
  |.ok _=>False
  |.error e=>CX outer H s E e s'
structure aS (P)(w)(K:PySem.W.Frag)(mg)(base)(CX:CXT)(k)(f)(fd)(ps:List Str)(sp:Sp):Prop where
  len:∀vs H Q E,sp vs H Q E->N1 vs.length
  run:∀(A) (outer) (s) (H) args (us) (vs) (Q) (E),ag k A->jy P w K mg base A outer s H->BindsTo s fd args (ps.zip us)->UM vs->sp vs H Q E->
    codeAny (JeS P) A (JbC f args) (CR CX outer P w H s Q E) s
def aS.imp {P:Program}{w:World}{K:PySem.W.Frag}{mg:Str→Option Value}{base:Heap}{CX:CXT}{k:Nat}{f:Addr}{c:FuncData}{ps:List Str}{sp a:Sp}(F:Vb P w K mg CX k f c ps sp)
    (h:∀vs H Q E,a vs H Q E->sp vs H Q E):Vb P w K mg CX k f c ps a :=
  (λvs H Q E q=>F.len vs H Q E (h _ _ _ _ q),λA outer s H b us vs Q E e g i d hs=>F.run A outer s H b us vs Q E e g i d (h _ _ _ _ hs))
def jy.make {P:Program}{w:World}{K:PySem.W.Frag}{mg:Str→Option Value}{base:Heap}{A:Around}{outer:List Env}{s:Shared}{H:Hp}(e:jy P w K mg base A outer s H)(C)(us)(a) :
    jy P w K mg base (JjP "type.__call__" C us a) outer s H:=(by first|exact e.frames|(simpa [Around.under,Code.envs,Code.isFrame,pushEnvs] using e.frames),e.mod,e.bs,e.bsz,e.funs,e.frf,e.hok,e.bare)
section
variable {X:Cx} {pins:List GM} {σ:St} {H:Hp} {s s':Shared}
def Inv.env0 (I:Xm s):jy Uh X.w Gh X.mg Jdc X.A ID s H :=
  (JqW,I.ok.mod,I.bs,Jal I.sz,I.stack,I.stkFree,I.hok,I.bare)
def Inv.after (I:Xm s)(h:CE ID Uh X.w H s Q u s'):EP X pins σ Q u s':=by let(v,H',i,a,f,e,r,q):=h;let(j,g,d,t,c):=s';obtain rfl:c=s.os:=i;exact(v,H',I.call (h':=j) (g':=g) (d':=d) (t':=t) f e a (λb z=>Yn z),r,q)
end
def vD (sp:Sp)(a:List V)(E:XK)(t:TA):TE:=λb H Q=>t b H λvs c=>sp (vs++a) c Q E
inductive isO (C)(m):V->Hp->Prop->Prop|m{x H R} a dx fs:Jn0 (JjO a fs (Mf (fs.lookup m)->R->isO C m x H R))
def qr (C:Addr)(m:Str)(sp:Sp)(a:List V)(E:XK)(d:TE)(t:TA):TE:=λb H Q=>d b H λx c=>isO C m x c <| t b c λvs e=>sp (x::(vs++a)) e Q E
def tMake (C:Addr)(sp:Sp)(a:List V)(E:XK)(t:TA):TE:=λc H Q=>t c H λvs b=>∀x dx,JpB x->JpB dx->dx≠x->
  sp (Jaz x (vs++a)) (NC (upd b dx (.own x)) x C []) (λv d=>v=.non/\Mc x d) E
def aw (K:PySem.W.Frag)(b:FuncData)(ps:List Str)(a:List Value):Prop :=
  ∀s us,K.In Yq->(us++a).length=ps.length->Jgr s b us (ps.zip (us++a))
def aw.all {K:PySem.W.Frag}{b:FuncData}{ps:List Str}(h:∀us:List Value,N1 us.length->JpX (JcZ b us) us):Yj b ps:=λs us x a=>by rw[List.append_nil]at a⊢;exact .of_eq (h us a)
def iD (CX:CXT)(X:Cx)(E:XK):Prop:=∀a (b:St) H s e s',Jp9 Jq4
section
variable {X:Cx} {CX:CXT} {k:Nat} {f C:Addr} {fd:FuncData} {ps:List Str} {sp:Sp} {dvs:List V} {ds:List Value} {E:XK} {x m:Str} {p pos apos:Pos} {e o:Expr} {es:List Expr} {ta:TE} {t:TA}
def qt (F:aS Uh X.w Gh X.mg Jdc CX k f fd ps sp)(d:JkI k)(j:aw Gh fd ps ds)(i:JkJ ds)(c:iD CX X E)
    (I:Xm s)(r:UM vs)(h:sp (vs++dvs) H Q E):UH (call (.ref f) us) (EP X pins σ Q) s:=by
  let b:=r.append i;let g:(us++ds).length=ps.length:=by rwa[<-b.length]at F.len _ _ _ _ h
  apply wpAny_call (codeAny_mono (F.run X.A ID s H (WY us) (us++ds) (vs++dvs) Q E d I.env0 (j s us Jjr g) b h) λr s' a=>?_);cases r with
  |error e=>exact c pins σ H s e s' I a
  | ok fl =>
    cases fl with
    |ret u=>exact I.after a
    |next=>exact False.elim a
    |brk=>exact False.elim a
    |cont=>exact False.elim a
def au (F:aS Uh X.w Gh X.mg Jdc CX k f fd ps sp)(j:JkI k)(u:Jit x)(l:X.mg x=Ja f)(n:Vi (VY Gh f))(z:aw Gh fd ps ds)(y:JkJ ds)(i:iD CX X E)
    (B:Jfc X e t)(c:Yw (x==Xs):=by decide)(v:Jdh e=(false,Jc e,)::starEach es X.env:=by rfl)(b:(JgW es).any Qn=false:=by rfl):
    PE X JqQ (vD sp dvs E t):=by intro a s g H Q I h;apply Jar I u l ?_ c;apply PySem.W.callWith_K Jqq n (thn (B pos a s g H _ I h) λus D h_=>?_) v b;let(vs,G,d,r,q):=h_;apply Qm d.kIn;exact qt F j z y i d r q
def bf (M:JfE o)(c:Jj3 Gh)(n:IV Gh m f)(F:aS Uh X.w Gh X.mg Jdc CX k f fd ps sp)(L:JkI k)(O:aw Gh fd ps ds)(N:JkJ ds)(G:iD CX X E)(P:Jfc X e t)
    (d:Jdh e=(false,Jc e,)::starEach es X.env:=by rfl)(g:(JgW es).any Qn=false:=by rfl)
    (J:Jc (Joe o m (QV e) pos)=(do
      let j <-eval o Wc
      standAt apos.atName
      let (f,first,) <-holding [j] (Jiu j m)
      callWith pos f first (JgW (QV e)) (JlZ [])):=by rfl):
    PE X (Joe o m (QV e) pos) (qr C m sp dvs E ta t):=by
  intro b s i H Q I h;apply PySem.W.methodCall_KW (thn (M b s i H _ I h) λu z h_=>?_) J;let(x,S,y,B,a,dx,U,R,ea,l,q):=h_;subst R;obtain rfl:u=Value.ref a:=B;apply vA y ea c n l ?_;apply PySem.W.callWith_K (first:=Vj a) Jqq n.kp (thn (P pos b z i S _ y q) λus T h_=>?_) d g;let(vs,Y,v,r,D):=h_;apply Qm v.kIn
  exact qt (vs:=Jaz a vs) F L O N G v (.cons rfl r) D
def lY (z:JfE o)(c:Jj3 Gh)(i:IV Gh m f)(F:aS Uh X.w Gh X.mg Jdc CX k f fd ps sp)(y:JkI k)(D:aw Gh fd ps ds)(B:JkJ ds)(r:iD CX X E)
    (v:Jc (Joe o m [] pos)=(do
      let g <-eval o Wc
      standAt apos.atName
      let (f,first,) <-holding [g] (Jiu g m)
      callWith pos f first (JgW []) (JlZ [])):=by rfl):
    PE X (Joe o m [] pos) (qr C m sp dvs E ta hF):=by intro b s j H Q I h;apply PySem.W.methodCall_KW (thn (z b s j H _ I h) λu J h_=>?_) v;let(x,M,d,n,a,dx,L,G,ea,l,q):=h_;subst G;obtain rfl:u=Value.ref a:=n;apply vA d ea c i l ?_;exact PySem.W.callWith_K0 (first:=Vj a) d.kIn i.kp (qt (vs:=Vj a) F y D B r d (JF rfl) q)
structure Mk (K:PySem.W.Frag)(C f):Prop where
  makes:Vi (PySem.W.makesIn K C)
  init:Jns (NB K C "__init__") f
  fn:Vi (Jfi K f)
  kp:Vi (VY K C)
def vE (M:Mk Gh C f)(F:aS Uh X.w Gh X.mg Jdc CX k f fd ps sp)(l:JkI (k+1))(y:aw Gh fd ps ds)(q:JkJ ds)
    (j:iD CX X E)(I:Xm s)(r:UM vs)
    (h:∀x dx,Jgk x dx (dx≠x->sp (Jaz x (vs++dvs)) (Jle x) (λv D=>v=.non/\Mc x D) E)):
    wpAny Yz X.A (call (.ref C) us) (EP X pins σ Q) JfD s:=by
  let d:=h _ V0 (I.hok.fresh JeF) (Uq _) (Nat.ne_of_lt JoD);let b:=Inv.made (C:=C) I;let c:bc (V.ref Jh3::(vs++dvs)) _:=.cons rfl (r.append q);let n:(Jd4 1::us++ds).length=ps.length:=by let e:=Jri;rw[F.len _ _ _ _ d]at e;exact Jkm
  apply wpAny_call (Av Jjr M.makes M.init (beq_iff_eq.mp M.fn) (codeAny_mono (F.run _ ID _ _ (WY (Jd4 1::us)) (Jd4 1::(us++ds)) _ _ E (l.make C us []) (b.env0.make C us []) (y _ (Jd4 1::us) b.kIn n) c d) λr s' a=>?_))
  cases r with
  |error e=>exact j pins σ _ _ e s' b a
  | ok fl =>
    cases fl with
    | ret u =>
      let(v,H',B,g,z,i):=b.after a;subst z;exact(g,Mh (V.ref _) H' B i)
    |next=>exact False.elim a
    |brk=>exact False.elim a
    |cont=>exact False.elim a
def AF (M:Mk Gh C f)(F:aS Uh X.w Gh X.mg Jdc CX k f fd ps sp)(j:JkI (k+1))(n:Jit x)(l:X.mg x=Ja C)(y:aw Gh fd ps ds)(v:JkJ ds)(i:iD CX X E)
    (z:Jfc X e t)(c:Yw (x==Xs):=by decide)(u:Jdh e=(false,Jc e,)::starEach es X.env:=by rfl)(b:(JgW es).any Qn=false:=by rfl):
    PE X JqQ (tMake C sp dvs E t):=by intro a s g H Q I h;apply Jar I n l ?_ c;apply PySem.W.callWith_K Jqq M.kp (thn (z pos a s g H _ I h) λus B h_=>?_) u b;let(vs,D,d,r,q):=h_;apply Qm d.kIn;exact vE M F j y v i d r q
def kz (M:Mk Gh C f)(F:aS Uh X.w Gh X.mg Jdc CX k f fd ps sp)(d:JkI (k+1))(i:Jit x)(g:X.mg x=Ja C)(l:aw Gh fd ps ds)(j:JkJ ds)(c:iD CX X E)
    (a:Yw (x==Xs):=by decide):Yp (JfS x []) (tMake C sp dvs E hF):=by intro b s n H Q I h;apply Jar I i g ?_ a;exact PySem.W.callWith_K0 Jjr M.kp (vE M F d l j c I .nil h)
end
def PK (X:Cx)(c:List Keyword)(t:TA):Prop :=
  ∀pos a s (b:St) H Q,Jp9 (t b H Q->UH (evalAll ((JlZ c).map (·.2))) (AP X a b Q) s)
section
variable {X:Cx} {CX:CXT} {k:Nat} {f C:Addr} {fd:FuncData} {ps ks:List Str} {sp:Sp} {E:XK} {x m:Str} {p pos apos kpos:Pos} {e o:Expr} {es:List Expr} {kws:List Keyword} {te ta:TE} {t tk:TA} {nm:Option Str}
def AG:PK X [] hF:=λx x x x H Q I h=>wpAny_evalAll_nil ([],H,I,.nil,h)
def AH (l:JnA e)(j:PK X kws t):PK X ((nm,e,kpos)::kws) (iV te t):=by
  intro pos a s b H Q I h;show JnP _
  apply wpAny_evalAll_cons (wpAny_bind (thn (l a s b H _ I h) λu c h_=>?_));let(x,w,q,g,q1):=h_;apply QM Ih;exact thn (j pos a c b w _ q q1) λus y h_=>by let(xs,r,n,d,i):=h_;exact(x::xs,r,n,.cons g d,i)
variable {g:List Value->List Value->List Value} {gV:List V->List V->List V}
end
structure aN (N P:List Str)(sc:Scope):Prop where
  kind:U9 sc.kind
  co:Yw sc.isCoroutine
  gen:Yw sc.isGenerator
  nd:N.Nodup
  pre:N.take P.length=P
  par:∀x∈P,JnB x\/JlO x
  nofree:∀y∈sc.names,y.2≠.free
def fsc (a:U9 sc.kind:=by exact rfl)(b:Yw sc.isCoroutine:=by exact rfl)(c:Yw sc.isGenerator:=by exact rfl)(d:N.Nodup:=by decide +kernel)(e:N.take P.length=P:=by exact rfl)(f:∀x∈P,JnB x\/sc.names.lookup x=some .cell:=by decide +kernel)(g:∀y∈sc.names,y.2≠.free:=by decide +kernel):aN N P sc:=(a,b,c,d,e,f,g)
theorem vF {b:Str->Option NameKind}{x:Str}:∀{a:List JpJ} {m:Str->Option Value},(∀v,(x,v,)∉a)->bindL b a m x=m x
  |[],_,_=>rfl
  | (n,v,) :: r,m,h=>by
    unfold bindL;rw[vF λw c=>h w (Jb c)];split
    . have:x≠n:=by rintro rfl;exact IH v
      simp [this]
    . rfl
theorem vG {b:Str->Option NameKind}{x:Str}:∀{a:List JpJ} {m:Str->Option Value},(∀v,(x,v,)∉a)->bindC b a m x=m x
  |[],_,_=>rfl
  | (n,v,) :: r,m,h=>by
    unfold bindC;rw[vG λw c=>h w (Jb c)];split
    . rfl
    . have:x≠n:=by rintro rfl;exact IH v
      simp [this]
theorem vH {a:Str->Option NameKind}{x:Str}{v:Value}:∀{P:List Str} {vs:List Value} {i:Nat} {m:Str->Option Value},P.Nodup->P[i]?=some x->vs[i]?=some v->JiU (a x)->
    bindL a (P.zip vs) m x=some v
  |[],_,_,_,_,h,_,_=>by simp at h
  |_::_,[],_,_,_,_,h,_=>by simp at h
  |p::P,w::vs,0,m,d,c,b,e=>by simp at c b;subst c;subst b;show bindL a ((p,w,)::P.zip vs) m p=_;unfold bindL;rw[vF λv f=>(List.nodup_cons.mp d).1 (List.of_mem_zip f).1,if_pos e];simp
  |p::P,w::vs,i+1,m,d,c,b,e=>by unfold bindL;exact vH (List.nodup_cons.mp d).2 (by simpa using c) (by simpa using b) e
theorem vI {a:Str->Option NameKind}{x:Str}{v:Value}:∀{P:List Str} {vs:List Value} {i:Nat} {m:Str->Option Value},P.Nodup->P[i]?=some x->vs[i]?=some v->a x≠some .local->
    bindC a (P.zip vs) m x=some v
  |[],_,_,_,_,h,_,_=>by simp at h
  |_::_,[],_,_,_,_,h,_=>by simp at h
  |p::P,w::vs,0,m,d,c,b,e=>by simp at c b;subst c;subst b;show bindC a ((p,w,)::P.zip vs) m p=_;unfold bindC;rw[vG λv f=>(List.nodup_cons.mp d).1 (List.of_mem_zip f).1,if_neg e];simp
  |p::P,w::vs,i+1,m,d,c,b,e=>by unfold bindC;exact vI (List.nodup_cons.mp d).2 (by simpa using c) (by simpa using b) e
def start (N:List Str)(vs:List V):St:=vs.map some++VF (N.length-JrX)
noncomputable def aO (CX:CXT)(P:Program)(w:World)(K:PySem.W.Frag)(mg:QT Str)(base:Heap)(N:List Str)(b:Str)(a:Scope)(f:Addr)(d:Value)(A:Around)(outer:List Env)(s:Shared)(H:Hp)(E:XK):Cx where
  prog:=P
  w:=w
  K:=K
  mg:=mg
  base:=base
  A:=A.deeper Jsn
  N:=N
  s₀:=s
  H₀:=H
  env:=Yu b a f d
  outer:=outer
  stack:=Yu b a f d::outer
  ex:=[]
  calm:=true
  fn:=λx=>true
  pn:=[]
  xe:=λe s'=>Ua P w (A.deeper Jsn) (leaving Jsn e) (λx c=>CX outer H s E e c) (λg c=>CX outer H s E g c) s'
def vJ {sc:Scope}{n:Nat}{x:Str}(h:JlO x):∃c,(cellsFrom n sc.names []).lookup x=some c:=by let q:=PySem.W.cellsFrom_some sc.names n [] (.inl h);exact Option.isSome_iff_exists.mp q
def AI {CX:CXT}{P:Program}{w:World}{K:PySem.W.Frag}{mg:Str→Option Value}{base:Heap}{N ps:List Str}{g:Str}{d:Scope}{f:Addr}{G:Value}{A:Around}{outer:List Env}{s I:Shared}{H:Hp}{E:XK}{us:List Value}{vs:List V}
    (S:aN N ps d)(Q:Mf NL)(l:jy P w K mg base A outer s H)(T:N1 JrX)(r:UM vs)
    (x:InCallC s V0 (bindL (Yu g d f G).kindOf (ps.zip us) λn=>none) (cellsFrom Jh3 d.names []) (bindC (Yu g d f G).kindOf (ps.zip us) λn=>none) I):
    Inv (UX CX P w K mg N g d f G A s H E) [] (JhR N) H I:=by
  let O:Jco N.length:=by have:=Mt S.pre;rw[List.length_take]at this;lia
  let(F,tk,rfl,L):=x.done;let o:∀b:Addr,b∉(UX CX P w K mg N g d f G A s H E).ex:=λb z=>Yn (show b∈([]:List Addr) from z);apply((l.mod,S.kind,6,nRq _,λy z c F j=>?_,λy t=>?_,λy c n h=>?_,λn=>Q,Around.frames_deeper l.frames,Je9 rfl,λb z=>MS (o b),l.bs,l.bsz,λb n n=>o b,λb z=>MS (o b),l.funs,l.frf),rfl,l.bare,Un.kept L,Q5 x.toInCall.ns (λi y v F j U=>?_),λy c h=>Mr (x.cell y c h),l.hok.fresh Yd,λy c h=>?_,λp C=>Yn (show p∈([]:List _) from C),l.hok.kept L,?_)
  . exact name_of_addr x.apart (PySem.mem_of_lookup F) (PySem.mem_of_lookup j)
  . let t:=t;rcases t with t | t
    . exact vJ t
    . exact JC (S.nofree _ (PySem.mem_of_lookup t))
  . exact Nat.le_of_lt (x.above y c UZ)
  . let D:i<vs.length:=by
      unfold start at j;by_cases D:i<JrX
      . exact D
      . rw[List.getElem?_append_right (by simpa using D),List.getElem?_replicate]at j;split at j<;>cases j
    let R:vs[i]?=some v:=by
      unfold start at j;rw[List.getElem?_append_left (by simpa using D),List.getElem?_map]at j;cases e:vs[i]? with
      |none=>erw[e]at j
      |some a=>erw[e]at j;rfl
    let(u,J,M):=r.get R;let C:ps[i]?=some y:=by rwa[<-S.pre,List.getElem?_take_of_lt (by simp_all)]at F
    let B:ps.Nodup:=by rwa[<-S.pre]at S.nd.sublist (List.take_sublist _ _)
    apply Gc u M;rcases S.par y (mO C) with k|k
    . exact Qk k (vH B C J k)
    . let(c,e):=vJ k;apply WM (.inl k) c e ?_;let q:=x.cell y c e;rw[vI B C J (by show d.names.lookup y≠_;rw[k];decide)]at q;exact q
  . exact l.hok.fresh (Nat.le_of_lt (x.above y c UZ))
  . unfold start;show _=N.length;rw[lAq,lM,List.length_replicate];simp_all
def qu {CX:CXT}{P:Program}{w:World}{K:PySem.W.Frag}{mg:Str→Option Value}{base:Heap}{k:Nat}{f:Addr}{name c:Str}{d:Arguments}{g:List Stmt}{a:Scope}{T kV C R cdv U oc:Value}{Y od:Option Addr}
    {F:Array Jf3}{N ps:List Str}{sp:Sp}(lk:Jd7 f oc od JqI F)(M:JfY K cdv c)(S:aN N ps a)
    (l:∀vs H Q E,sp vs H Q E->N1 vs.length)
    (j:∀A outer s H vs Q E,Nr k (Yu c a f cdv)->sp vs H Q E->
      ∃t,Jjn (UX CX P w K mg N c a f cdv A s H E) g/\t { nx:=λm H'=>Q .non H',rt:=Q } (JhR N) H):
    aS P w K mg base CX (k+1) f JqI ps sp:=by
  apply(l,λA outer s H X us vs Q E L B hb r p=>?_);let hl:=l _ _ _ _ p;let Z:=B.mod.kin.keeps λb o e=>(B.bs b o e).1;let G:=B.mod.nolimit.keeps λb o e=>(B.bs b o e).1;let i:∀y∈ps.zip us,JiU (a.names.lookup y.1)\/(Xa (a.names.lookup y.1) .cell/\((cellsFrom Jh3 a.names []).lookup y.1).isSome=true):=λ(n,v) hy=>by
    rcases S.par n (List.of_mem_zip hy).1 with q|q
    . exact .inl q
    . exact Jl q (PySem.W.cellsFrom_some _ _ _ (.inl q))
  apply codeAny_call_function L.depth (Z _ _ lk) rfl S.co S.gen rfl (PySem.W.codeRec_of Z M) (hb _ _ _ _ ?_);apply wpAny_newFunctionEnv_cells S.kind i λenv he O x=>?_;subst he;apply(G.keeps x.toInCall.keep,codeAny_func ?_);let(t,ht,hq):=j A outer s H vs Q E (L.deeper _) p;let I:Inv JaM [] _ H O:=AI S L.hd B hl r x;apply wpAny_mono (ht [] O (JhR N) H _ I hq) (λfl s' hs=>?_) λe s' hs=>hs;let z:∀{h:St} {H':Hp} {v:V} {u:Value},Inv JaM [] h H' s'->QN v->Q v H'->CE outer P w H s Q u s' :=
    λ{h H' v u} J D q=>(v,H',J.os,J.bare,J.base,J.hok,D,q)
  cases fl with
  | ret u =>
    let(v,h,H',J,D,q):=hs;exact z J D q
  | next =>
    let(h,H',J,q):=hs;exact z (v:=V.non) J rfl q
  | brk =>
    let(_,_,_,q):=hs;exact False.elim q
  | cont =>
    let(_,_,_,q):=hs;exact False.elim q
section
variable {X:Cx} {x:Str} {p pos:Pos} {e:Expr} {es:List Expr} {t:TA} {id T:String} {r:List V->Hp->VK->Prop}
def tCB (r:List V->Hp->VK->Prop)(t:TA):TE:=λa H Q=>t a H λvs b=>r vs b Q
def aF (o:Ys X id r)(l:Jit x)(k:UG x)(i:Jcq x (.builtin id))(q:Jfc X e t)(j:JcL x:=by decide)(c:Yw (x == Xs):=by decide)
    (n:Jdh e=(false,Jc e,)::starEach es X.env:=by rfl)(b:(JgW es).any Qn=false:=by rfl):Yp JqQ (tCB r t):=by intro a s d H Q I h;apply wpAny_Call_Name_kw (fg I l k i ?_ j c);exact PyProof.Rows.callWith_builtin1 (thn (q pos a s d H _ I h) λus f h_=>by let(vs,v,u,g,q1):=h_;exact o a f d v vs us Q u g q1) n b
def dz (o:Jc3 X T r)(l:Jit x)(k:UG x)(i:Jcq x (.type T))(q:Jfc X e t)(j:JcL x:=by decide)(c:Yw (x == Xs):=by decide)
    (n:Jdh e=(false,Jc e,)::starEach es X.env:=by rfl)(b:(JgW es).any Qn=false:=by rfl):Yp JqQ (tCB r t):=by intro a s d H Q I h;apply wpAny_Call_Name_kw (fg I l k i ?_ j c);exact PyProof.Rows.callWith_type1 (thn (q pos a s d H _ I h) λus f h_=>by let(vs,v,u,g,q1):=h_;exact o a f d v vs us Q u g q1) n b
end
end L2
namespace HT
open PySem PyProof.Rows
section
variable {prog:Program} {w:World} {A:Around} {E:Value->Shared->Prop} {s:Shared}
def cat_tup (u:Jay t vs.toArray)(v:Jay b ws.toArray)(o:vs≠[])
    (y:IA (ws=[]) t s)(x:Jf1 (ws≠[]) { s with heap:=s.heap.push { cls:=.type "tuple",data:=.seq (vs++ws).toArray } })
    (hsz:Qd (vs.length+ws.length)):JnH (binaryOp .Add (.ref t) (.ref b)):=by
  let((cls,dd,data,k),i,q,n,p):=id u;let((r,g,j,c),a,f,l,d):=id v;simp only at q p f d;subst q p f d;let e:vs.toArray++ws.toArray=(vs++ws).toArray:=by simp
  by_cases h:ws=[]
  . exact concat_meets (Ji6 i) (Ji6 a) noFill_tuple_add seq_tuple_add JkP Ji9 (Ja7 _)
      (tuple_addW1 t b MQ ws.toArray n l dd g k c (by simpa using o) (by simp [h])) (i,a,y h)
  . apply concat_meets (Ji6 i) (Ji6 a) noFill_tuple_add seq_tuple_add JkP Ji9 (Ja7 _)
      (tuple_addW2 t b MQ ws.toArray n l dd g k c (by simpa using o) (by simpa using h) (by rwa[sAq,sAq]at hsz)) (Gc i a)
    rwa[e]at x h
noncomputable def sIx (n d:Nat):JlG Int Nat
  |none=>d
  |some v=>if v<0 then(v+(n:Int)).toNat else Jiq n
def sIx_none (n d):sIx n d none=d:=rfl
def sIx_nat (n d k:Nat):sIx n d (some (k:Int))=min k n:=by
  rfl
def vK (v)(n d:Nat):(if v<0 then max (v+(n:Int)) 0 else min v (n:Int))=((sIx n d (some v):Nat):Int):=by
  show(if v<0 then max _ 0 else min v (n:Int))=(((if v<0 then(v+(n:Int)).toNat else Jiq n):Nat):Int)
  exact lqT
def AJ (lo a)(n:Nat):Builtin.Slice.sliceAdjust lo a 1 (n:Int)=((sIx n 0 lo:Int),(sIx n n a:Int),):=by
  let b:¬(1<0):=Jn
  unfold Builtin.Slice.sliceAdjust;simp only[b,if_false];apply Prod.ext ?_ ?_
  . cases lo with
    |none=>rfl
    |some v=>exact vK v n 0
  . cases a with
    |none=>rfl
    |some v=>exact vK v n n
def AK (i j:Nat):Jbf (i:Int) (j:Int)=j-i:=by
  unfold Builtin.Slice.slicePlaces;lia
def vL (p:IsPart v o)(h:Q o s):JnH (Builtin.Slice.slicePartIndex v):=by
  cases p with
  |none=>exact slicePart_none h
  |int i t=>exact slicePart_int h
def vM {f:Addr}{e d:Value}{lo b:Option Int}{n:Nat}{Q:Int × Int × Nat→Shared→Prop}(hs:JaA f e d)(pl:Jm1 e)(g:IsPart d b)
    (h:Q ((sIx n 0 lo:Int),1,sIx n n b-sIx n 0 lo,) s):JnH (Builtin.Slice.sliceApplied (.ref f) (pure (n:Int))):=by
  let(j,a,i,c):=id hs;apply VC (Jm2 a c (wpAny_bind (Jm2 a c (wpAny_bind (Jm2 a c Ih)))));apply wpAny_bind (slicePart_none ?_);show JnP _
  rw[if_neg (by decide)];apply wpAny_bind (vL pl (wpAny_bind (vL g (Gf ?_))));show JnP (match Builtin.Slice.sliceAdjust lo b 1 (n:Int) with|(lo,b,)=>pure (lo,(1:Int),Jbf lo b,))
  rw[AJ lo b n];show JnP (pure ((sIx n 0 lo:Int),1,Jbf (sIx n 0 lo:Int) (sIx n n b:Int),));rwa[AK]at wpAny_pure h
def AL (xs:Array Value)(i k:Nat):((List.range k).filterMap λ(m:Nat)=>xs[((i:Int)+(m:Int) * 1).toNat]?).toArray=((xs.toList.drop i).take k).toArray:=by
  let e:(λ(m:Nat)=>xs[((i:Int)+(m:Int)*1).toNat]?)=λm=>xs[i+m]?:=by
    funext m;have:((i:Int)+(m:Int)*1).toNat=i+m:=(Nat.add_assoc _ _ _).symm
    rw[this]
  rw[e];have:=pick_run xs i k;rw[List.filterMap_map]at this;let a:((λx=>xs[x]?) ∘ λx=>i+x)=λm=>xs[i+m]?:=rfl;rw[a]at this;rw[this]
def getItem_tuple_cut {t d:Addr}{items:Array Value}{k j:Value}{lo b:Option Int}{Q:Value→Shared→Prop}(c:Jay t items)(hs:JaA d k j)(pl:Jm1 k)(l:IsPart j b)
    (o:¬(JnJ 0=0/\WB Uo b=Uo))
    (h:Mc V0 { s with heap:=s.heap.push { cls:=.type "tuple",data:=.seq ((items.toList.drop (JnJ 0)).take (sIx Uo Uo b-JnJ 0)).toArray } })
    (hsz:Qd Uo):JnH (Jlr t (.ref d)):=by
  let a:sizeOk (.seq ((items.toList.drop (JnJ 0)).take (sIx Uo Uo b-JnJ 0)).toArray):=by show((items.toList.drop _).take _).toArray.size<=sizeLine;rwa[sAq,List.length_take,List.length_drop,Array.length_toList]at Nat.le_trans (lqB _ _ _) hsz
  let(n,e,g,p):=id hs;let i:XQ d "slice":=(n,e,g);unfold getItem
  try with_reducible refine wpAny_holding ?_
  first|refine Gf ?_|skip
  apply wpAny_bind (wpAny_sequenceKey c.typeIs Jp ?_);apply wpAny_bind (wpAny_callSpecial?_slot (name:=Str.ofString "__getitem__") c.typeIs IQ (Jag IQ c.typeIs entry_tuple_getitem JrO))
  show JnP (M_ t>>=_);apply wpAny_bind (tupleItemsOf_ c ?_);apply Uy i ?_;rw[if_pos (by decide)];apply wpAny_bind (vM hs pl l ?_);let f:¬(Vi Xx):=by simp_all
  show JnP (if Vi Xx then _ else _)
  rw[if_neg f,AL]
  first
    |exact Jas (wpAny_pure (Jih h)) a
    |exact wpAny_bind _
    |exact wpAny_bind _
    |exact wpAny_bind _
end
end HT
namespace L2
open PySem PySem.Spec PyProof.Rows
abbrev TO:=St->Hp->(Option Int->Hp->Prop)->Prop
def PO (X:Cx)(e:Option Expr)(t:TO):Prop :=
  ∀a s (b:St) H Q,Jf5 b->t b H Q->
    wpAny Yz X.A (evalPart e Wc) (λu s'=>∃o H',Jkn a b (IsPart u o/\Q o H')) JfD s
def AM:TO:=λx H Q=>Q none H
def tPart (t:TE):TO:=λa H Q=>t a H λx b=>∃i,JdP x i/\Q (some i) b
def qv:∀ {us:List Value},UM (ns.map V.int)→IntsAre us ns:=by
  induction ns with
  |nil=>intro us r;erw[List.map_nil]at r;exact .nil
  | cons n ns c =>
    intro us r;rw[List.map_cons]at r;cases r with
    | cons b a =>
      let(t,e):=b;subst e;exact .cons n t (c a)
section
variable {X:Cx} {e:Expr} {te:TE} {lo hi:Option Expr} {tl th:TO} {pos p2:Pos}
def iW:PO X none AM:=by intro a s b H Q I h;rwa[evalPart_none]at wpAny_pure (none,H,I,.none,h)
def iX (h:JnA e):PO X (some e) (tPart te):=by intro a s b H Q I d;rw[evalPart_some];apply thn (h a s b H _ I d) λu j h_=>?_;let(x,g,f,c,q1):=h_;let(i,rfl,q):=q1;let(t,rfl):=c;exact(some i,g,f,IS i,q)
def SlR (X:Cx)(r:V→Option Int→Option Int→Hp→VK→Prop):Prop :=
  ∀a s (b:St) H x v d c lo hi f Q,Jf5 b->bn x v->JaA f d c->Jm1 d->IsPart c hi->r x lo hi H Q->
    ∃T id,JdQ (XH T "__getitem__") (Gn id)/\s.TypeIs v T/\UH (getItem v (.ref f)) Mq s
def SlR.or (h:SlR X r)(h':SlR X r'):SlR X (λx lo hi H Q=>r x lo hi H Q\/r' x lo hi H Q):=by
  intro a s b H x v d c lo hi f Q I g hs pl i q;rcases q with q|q
  . exact h a s b H x v d c lo hi f Q I g hs pl i q
  . exact h' a s b H x v d c lo hi f Q I g hs pl i q
def tSl (r:V->Option Int->Option Int->Hp->VK->Prop)(te:TE)(tl th:TO):TE:=λa H Q=>te a H λx d=>tl a d λl c=>th a c λu b=>r x l u b Q
def iY (B:SlR X r)(E:JnA e)(C:PO X lo tl)(y:PO X hi th):Yp (Jav e (.Slice lo hi none p2)) (tSl r te tl th):=by intro a s d H Q I h;apply Subscript_ (thn (E a s d H _ I h) λv k h_=>?_);let(x,N,L,n,q1):=h_;apply wpAny_Slice (thn (C a k d N _ L q1) λg j h_=>?_);let(l,M,K,pl,p):=h_;apply thn (y a j d M _ K p) λf c h_=>?_;let(u,i,J,t,o):=h_;rw[evalPart_none];apply wpAny_pure ?_;let G:Ir a d i { c with heap:=c.heap.push { cls:=.type "slice",data:=.fields #[g,f,.none] } }:=J.kept (t':=c.toks) λb O q=>UD q;let(T,id,F,z,D):=B a { c with heap:=c.heap.push { cls:=.type "slice",data:=.fields #[g,f,.none] } } d i x v g f l u WX Q G n (Heap.IsSliceOf.new ..) pl t o;exact tail_any (ops:=Gw WX v) z F D (by rfl)
def eY (xs:List V)(lo hi:Option Int):List V:=(xs.drop (W5 0 lo)).take (HT.sIx Jb5 Jb5 hi-W5 0 lo)
def vN (xs)(lo hi):(eY xs lo hi).length<=xs.length:=by unfold eY;rwa[List.length_take,List.length_drop]at lqB _ _ _
inductive rSlT (K:PySem.W.Frag):V->Option Int->Option Int->Hp->VK->Prop|m{x lo hi H Q} a xs:GN a->UR a->¬(W5 0 lo=0/\Jgc (W5 xs.length hi))->(∀p,Jdu p p (Gb H p (eY xs lo hi)))->rSlT K x lo hi H Q
def lZ:SlR X (rSlT Gh):=by
  intro f s n H x v t p lo hi u Q I i hs pl j h;let(a,xs,rfl,k,l,q):=h;cases i;let(d,r,g,hz):=I.tuple k;let c:Jgc d.toArray.size:=by rwa[sAq]at r.length.symm
  apply("tuple",_,Jn2,g.typeIs,?_);apply HT.getItem_tuple_cut g hs pl j (c<|>l) ?_ (c<|>hz);rw[c];apply JsJ _ s.toks (λb w q=>UD q) _ ?_ Jjw;exact(Jiw (vN xs lo hi),_,(r.drop _).take _,fY.new _ _)
inductive rCatT (K:PySem.W.Frag):R2|m{x y H Q} a b xs ys:Jn0 (Nk y b->UR a->Jny b->xs≠[]->Jp8 ys.length->IA (ys=[]) a H->(ys≠[]->∀p,Jdu p p (Gb H p (xs++ys)))->rCatT K x y H Q)
def bc.nil_iff (r:UM xs):us=[]↔xs=[]:=by
  cases r with
  |nil=>simp
  |cons _ _=>simp
def AN:XJ X .Add (rCatT Gh):=by intro f s A H x y v u Q I j i h;let(a,b,xs,ys,rfl,rfl,t,r,p,hz,q1,k):=h;cases j;cases i;let(n,d,l,_):=I.tuple t;let(g,c,p2,_):=I.tuple r;apply HT.cat_tup l p2 (λz=>p (d.nil_iff.mp z)) (λz=>Wv a H I (q1 (c.nil_iff.mp z))) (λz=>?_) (by rwa[<-d.length,<-c.length]at hz);apply JsJ _ s.toks (λb B q=>UD q) _ ?_ (k (λw=>z (c.nil_iff.mpr w)) _ (Uq _));exact(lAq<|>hz,_,d.append c,fY.new _ _)
end
noncomputable def ixN (n:Nat)(i:Int):Option Nat:=if 0<=i then(if i<n then some i.toNat else none) else if -(n:Int)<=i then some (i+n).toNat else none
def atI {a:Type}(xs:List a)(i:Int):Option a:=(Jfj i).bind λj=>xs[j]?
def vO (h:Xa (ixN n i) j):seqIndex? i n=some j∧j<n∧-(n:Int)≤i∧i<n:=by
  unfold ixN at h;by_cases h0:0<=i
  . rw[if_pos h0]at h;by_cases a:i<n
    . rw[if_pos a]at h;let e:=Option.some.inj h;exact(by rw[Jj4 a,e],Jn,Jn,a)
    . erw[if_neg a]at h
  . rw[if_neg h0]at h;by_cases a:-(n:Int)≤i
    . rw[if_pos a]at h;let e:=Option.some.inj h;exact(by rw[Jdm a,e],Jn,a,Jn)
    . erw[if_neg a]at h
def qw (h:MY xs i v):∃j,seqIndex? i xs.length=some j∧xs[j]?=some v∧Ja0 j∧-(xs.length:Int)≤i∧Ja0 i:=by
  unfold atI at h;cases e:Jfj i with
  |none=>erw[e]at h
  | some j =>
    rw[e]at h;let(d,c,b,a):=vO e;exact(j,d,h,c,b,a)
def ay {a:Type}{xs:List a}{j:Nat}{v:a}(h:xs[j]?=some v):Jm3 (j:Int)=some v:=by
  let b:Ja0 j:=(gEq h).1;let e:Jfj (j:Int)=some j:=by unfold ixN;rw[if_pos (by lia),if_pos (by lia)];simp
  unfold atI;rwa[e]at h
def n_ (xs)(v:α):atI (xs++[v]) (-1)=some v:=by
  let a:(xs++[v]).length=JjE 1:=by simp
  let e:ixN (xs++[v]).length (-1)=some xs.length:=by unfold ixN;rw[a,if_neg (by decide),if_pos (by lia)];congr 1;lia
  unfold atI;rw[e];show(xs++[v])[Jb5]?=some v;simp
def AO (b:Expr):Prop:=∀o i,Jj5 b o i=Jix [o,i] o i
def IxR (X:Cx)(r:R2):Prop :=
  ∀c a b s (d:St) H x y v u Q,Jf4 b d->bn x v->QN y->r x y H Q->
    subscripted a false v u=Jix [v,u] v u->UH (subscriptTail c a v u) (EP X b d Q) s
def MtR (X:Cx)(id:String)(r:V→List V→Hp→VK→Prop):Prop :=
  ∀a s (b:St) H x xs v us Q,Jf5 b->bn x v->UM xs->r x xs H Q->
    wpAny Yz X.A (JQ id (v::us)) Mq JfD s
section
variable {X:Cx} {a b:Expr} {ta tb:TE} {pos:Pos}
def aI (i:IxR X r)(k:JfE a)(j:Yp b tb)(hs:AO b:=by exact λz z=>rfl):Yp (Jav a b) (tOp r ta tb):=by intro c s d H Q I h;exact Subscript_ (binT k j I h λv u e x y n l g f q=>i a b c e d n x y v u Q l g f q (hs _ _))
inductive hI (K:PySem.W.Frag):R2|m{x y H Q} p xs i v:Jd9 p (Je4 (JdP y i) p (MY xs i v->Q v H->hI K x y H Q))
inductive du (K:PySem.W.Frag):R2|m{x y H Q} p xs i v:Jd9 p (Jhb y i (UR p->MY xs i v->Q v H->du K x y H Q))
inductive rIxS:R2|m{x y H Q} z i c:x=.str z->Jhb y i (Qd z.length->MY z.cps.toList i c->Q (Jhp (#[c])) H->rIxS x y H Q)
def aM:IxR X (hI Gh):=by
  intro f g c s o H x y v u Q I C B h hs;let(p,xs,i,z,rfl,rfl,D,F,q):=h;cases C;let(t,rfl):=B;let(l,r,pl,hz):=I.list D;let(j,e,L,N,J,G):=qw F;let(w,A,k):=r.get L;let E:=Jqm;let M:=ky;let d:EP X c o Q w s:=(z,H,I,k,q);by_cases h0:0<=i
  . let n:i.toNat=j:=by rw[Jj4 G]at e;exact Option.some.inj e
    exact item_listR Gj h0 Jn (by rw[n];simpa using A) d hs
  . let n:(i+(l.toArray.size:Int)).toNat=j:=by rw[Jdm J]at e;rwa[sAq,←E]at Option.some.inj e
    exact subscriptTail_builtinR pl.isList.typeIs JrG
      (wpAny_getItem_list_neg Gj Jn (by rw[sAq]<;>simp_all) Jn (by rw[n];simpa using A) (WO d)) hs
def aQ:IxR X (du Gh):=by
  intro d e c s k H x y v u Q I n l h hs;let(p,xs,i,z,rfl,rfl,A,C,q):=h;cases n;let(t,rfl):=l;let(o,r,pl,hz):=I.tuple A;let(j,E,D,M,L,J):=qw C;let(w,F,f):=r.get D;let B:=Jqm;let G:=ky;let g:EP X c k Q w s:=(z,H,I,f,q);exact subscriptTail_builtinR pl.typeIs slot_tuple_getitem.lookup
    (getItem_tuple pl Jn Jn (by rwa[sAq,<-B]at E) (by simpa using F) (WO g)) hs
def vP:IxR X rIxS:=by
  intro d e f s C H x y v u Q I l k h hs;let(z,i,c,rfl,rfl,hz,o,q):=h;let(t,rfl):=l;let(t',rfl):=k;let(j,g,w,E,r,p):=qw o;let n:z.cps.toList.length=z.length:=by rfl
  rw[n]at g r p;let D:=ky;exact tail_any (typeIs_str s z t) slot_str_getitem.lookup (getItem_str Jn (by rw[g];simpa using w) (GI (Jhp (#[c])) H _ JeC q)) hs
def AQ (c:List Value)(n j)(u):Obj.mapSeq (·.setIfInBounds j u) { cls:=.type "list",data:=.seq Jfn n }={ cls:=.type "list",data:=.seq (c.set j u).toArray n }:=by simp [Obj.mapSeq]
def Inv.lst (I:Xm s)(h:VT p) :
    ∃c n,Jlo c/\s.heap.get? p=some { cls:=.type "list",data:=.seq c.toArray n }/\Qd xs.length:=by let(z,c,n,r,e):=VM p h;exact(c,n,r,e,z)
def Inv.lstUpd {c:List GM}{i:St}{H:Hp}{s:Shared}{p:Addr}{xs ys:List V}{d its':List Value}{n g:Nat}{f:Obj→Obj}(I:Jf4 c i)(h:VT p)
    (k:s.heap.get? p=some { cls:=.type "list",data:=.seq d.toArray n })(j:f { cls:=.type "list",data:=.seq d.toArray n }={ cls:=.type "list",data:=.seq its'.toArray g })(r:bc ys its')(hz:Qd JcW)(t):
    Inv X c i (N8 p ys) { s with heap:=s.heap.update p f,toks:=t }:=by
  let e:(s.heap.update p f).get? p=some { cls:=.type "list",data:=.seq its'.toArray g }:=by rw[Heap.get?_update_self f k (by rw[j]<;>rfl),j]
  apply I.write (by rw[h];trivial) (.inl rfl) (λb u l q=>(Heap.get?_update_other _ _ (Ne.symm l)).trans q) (Mr e) ?_;exact(hz,its',g,r,e)
inductive rSetL:V->V->V->Hp->(Hp->Prop)->Prop|m{o i v H Q} p xs k j:Nk o p->Jhb i k (VT p->Xa (Jfj k) j->Q (N8 p (xs.set j v))->rSetL o i v H Q)
def AR:PSet X rSetL:=by
  intro c s A H o i v F G u Q I C D B h;let(p,xs,k,j,rfl,rfl,w,E,q):=h;cases C;let(t,rfl):=D;let(d,n,r,f,hz):=I.lst w;let(e,K,y,x):=vO E;let g:=Jqm;let J:=ky;let z:=
    I.lstUpd w f (AQ d n j u) (r.set B j) (List.length_set<|>hz) s.toks
  by_cases h0:0<=k
  . let l:k.toNat=j:=by rw[Jj4 x]at e;exact Option.some.inj e
    exact PySem.W.ki_setAt f h0 Jn (by rwa[sAq,<-g]at x) (l<|>Q5 z q)
  . let l:(k+(d.toArray.size:Int)).toNat=j:=by rw[Jdm y]at e;rwa[sAq,←g]at Option.some.inj e
    exact PySem.W.ki_setBack f Jn (by rwa[sAq,<-g]at y) Jn (l<|>Q5 z q)
def AS (lo c)(n):(Jlt lo c n).1=(HT.sIx n 0 lo:Int)∧(Jlt lo c n).2.1=(HT.sIx n n c:Int)∧(Jlt lo c n).2.2=1:=by
  apply XA ?_ ?_
  . cases lo with
    |none=>rfl
    | some i =>
      simp only[sliceBounds,HT.sIx,Option.getD_none,show(1:Int)>0 by decide,if_true];exact lqU
  . cases c with
    |none=>rfl
    | some i =>
      simp only[sliceBounds,HT.sIx,Option.getD_none,show(1:Int)>0 by decide,if_true];exact lqU
def AU (c:List Value)(lo d):slicePick Jfn lo d none=((c.drop (HT.sIx Jri 0 lo)).take (HT.sIx Jri Jri d-HT.sIx Jri 0 lo)).toArray:=by let(g,f,e):=AS lo d c.toArray.size;unfold slicePick;rw[g,f,e];simp only[sliceRange_one,pick_run,sAq]<;>rfl
inductive rSlL (K:PySem.W.Frag):V->Option Int->Option Int->Hp->VK->Prop|m{x lo hi H Q} a xs:Jn0 (Je3 a ((∀p,Jdu p p (N8 p (eY xs lo hi)))->rSlL K x lo hi H Q))
def vQ:SlR X (rSlL Gh):=by intro e s l H x v p n lo d t Q I g hs pl i h;let(a,xs,rfl,k,q):=h;cases g;let(j,r,f,hz):=I.list k;let c:=Jqm;apply("list",_,JrG,f.isList.typeIs,?_);apply wpAny_getItem_list_slice f.isList hs pl i .none Js ?_ (by rw[sAq]<;>lia);rw[AU,<-c];apply JsJ _ s.toks (λb u q=>UD q) _ ?_ Jjw;exact(Jiw (vN xs lo d),_,0,(r.drop _).take _,Heap.get?_push_size _ rfl)
def AV (e:QN y)(f:bn x v)(g:JhA y)(i:JhA x):Jdn A u v (eqV y x):=λprog w E Q d=>by
  let b:=e.fv g;let c:=(rcF (A:=A) (s:=s) b (f.fv i)).1;apply wpAny_holding (wpAny_ite_split (λh=>?_) λ_=>?_)
  . cases eq_of_beq h;cases e.inj f;rw[show Vi (eqV y y) by cases b <;> first | rfl | exact beq_self_eq_true _]at d
    exact MO d
  . cases b<;>exact wpAny_bind (c prog w E _ (wpAny_truthy_bool d))
def eqU (x:V)(u:Value):Bool:=match u with
  |.none=>eqV .non x
  |.bool b=>eqV (.bl b) x
  |.int i _=>eqV (.int i) x
  |.str z _=>eqV (.str z) x
  |_=>false
def vR (r:QN y)(f:JhA y):eqU x u=eqV y x:=by
  cases y with
  |non=>cases r;rfl
  |bl b=>cases r;rfl
  |int i=>obtain⟨t,rfl⟩:=r;rfl
  |str z=>obtain⟨t,rfl⟩:=r;rfl
  |_=>exact Jbu (show Vi false from f)
theorem oa{xs:List V}{us:List Value}(h:UM xs)(f:JoP zeo):us.any (eqU x)=xs.any λy=>eqV y x:=by
  induction h with
  |nil=>rfl
  |cons r t o=>rw[List.all_cons,Bool.and_eq_true]at f;rw[List.any_cons,List.any_cons,vR r f.1,o f.2]
theorem l_ (d:bn x v)(e:JhA x):∀{xs:List V} {us:List Value},UM xs->JoP zeo->∀u∈us,Jdn A u v (eqU x u)
  |_,_,.nil,_=>λu c=>by cases c
  | y :: xs,u :: us,Jlp t,f=>λg c=>by
    rw[List.all_cons,Bool.and_eq_true]at f;rcases List.mem_cons.mp c with rfl|c
    . rwa[vR r f.1]at AV r d f.1 e
    . exact l_ d e t f.2 g c
def inV (x:V)(xs:List V):Bool:=xs.any λy=>eqV y x
inductive rIn (K:PySem.W.Frag)(neg:Bool):R2|m{x y H Q} p xs:Nk y p->(XR p\/UR p)->JhA x->JoP zeo->Jpa (if neg then !inV x xs else inV x xs) (rIn K neg x y H Q)
def vS:Gm X .In (rIn Gh false):=by
  intro i s l H x y v u Q I g k h;let(p,xs,rfl,d,j,e,q):=h;cases k;rcases d with d|d
  . let(c,r,pl,hz):=I.list d;apply SeqAt.in_listAt _ Gj (λw f=>l_ g j r e w (by simpa using f)) MB;rwa[show c.toArray.any _=c.any (eqU x) by simp,oa r e]at q
  . let(c,r,pl,hz):=I.tuple d;apply SeqAt.in_tupleAt _ pl (λw f=>l_ g j r e w (by simpa using f)) MB;rwa[show c.toArray.any _=c.any (eqU x) by simp,oa r e]at q
def kA:Gm X .NotIn (rIn Gh true):=by
  intro i s l H x y v u Q I g k h;let(p,xs,rfl,d,j,e,q):=h;cases k;rcases d with d|d
  . let(c,r,pl,hz):=I.list d;apply SeqAt.notIn_listAt _ Gj (λw f=>l_ g j r e w (by simpa using f)) MB;rwa[show c.toArray.any _=c.any (eqU x) by simp,oa r e]at q
  . let(c,r,pl,hz):=I.tuple d;apply SeqAt.notIn_tupleAt _ pl (λw f=>l_ g j r e w (by simpa using f)) MB;rwa[show c.toArray.any _=c.any (eqU x) by simp,oa r e]at q
inductive qx (K:PySem.W.Frag):List V->Hp->VK->Prop|m{xs H Q} p ys:xs=Vj p->(JmA p\/Jny p)->Mn ys.length H->qx K xs H Q
def ah:Ys X "len" (qx Gh):=by
  intro g s j H xs us Q I r h;let(p,ys,rfl,d,q):=h;let(u,rfl,i):=eX r;cases i;let k:=ky;rcases d with d|d
  . let(f,e,pl,hz):=I.list d;let c:=e.length;exact Calls.call_len_list Gj (by simp only[sAq]<;>lia -ac) (JaT JcW H _ (s.toks+1,by rw[sAq,c]) q)
  . let(f,e,pl,hz):=I.tuple d;let c:=e.length;exact len_tuple pl (by simp only[sAq]<;>lia -ac) (JaT JcW H _ (s.toks+1,by rw[sAq,c]) q)
def vT:Ys X "len" (λxs H Q=>∃z,xs=[.str z]/\Qd z.length/\Mn z.length H):=by intro c s d H xs us Q I r h;let(z,rfl,hz,q):=h;let(u,rfl,t,rfl):=eX r;let e:=ky;exact len_str Jn (Jf6 ML H _ _ q)
inductive rLsO (K:PySem.W.Frag):List V->Hp->VK->Prop|m{xs H Q} p ys:xs=Vj p->(JmA p\/Jny p)->(∀l,Jdu l l (N8 l ys))->rLsO K xs H Q
def og:Jc3 X "list" (rLsO Gh):=by
  intro g s z H xs us Q I r h;let(p,ys,rfl,j,q):=h;let(u,rfl,A):=eX r;cases A;let l:∀c,bc ys c->Qd JcW->∀h' f,(∀b y,s.heap.get? b=some y->h'.get? b=some y)->
      h'.get? V0=some { cls:=.type "list",dict:=none,data:=.seq Jfn f,slots:=#[] }->EP X g z Q _ { s with heap:=h' }:=λc d hz h' f i e=>
    (JsJ _ s.toks i _ (show JpR _ h' _ ys from(hz,c,f,d,e)) Jjw)
  rcases j with j|j
  . let(c,d,pl,hz):=I.list j;let k:=d.length;let(o,t,x,n,v):=Gj;exact call_list_seq p (.inl rfl) t x v (λh' f i e=>l c d hz h' f i e) (by simp only[sAq]<;>lia)
  . let(c,d,pl,hz):=I.tuple j;let k:=d.length;let(o,t,x,n,v):=pl;exact call_list_seq p (.inr rfl) t x v (λh' f i e=>l c d hz h' f i e) (by simp only[sAq]<;>lia)
inductive rTpO (K:PySem.W.Frag):List V->Hp->VK->Prop|m{xs H Q} p ys:xs=Vj p->((JmA p/\∀l,Jdu l l (Gb H l ys))\/(Jny p/\Mc p H))->rTpO K xs H Q
def jz:Jc3 X "tuple" (rTpO Gh):=by
  intro c s i H xs us Q I r h;let(p,ys,rfl,h):=h;let(u,rfl,l):=eX r;cases l;rcases h with ⟨g,q⟩|⟨g,q⟩
  . let(d,f,pl,hz):=I.list g;let j:=f.length;apply call_tuple_list Gj (λh' n=>?_) (by simp only[sAq] <;> lia);let k:=I.kept (t':=s.toks) n;let t:=
      k.laid (t':=s.toks) (λb o e=>UD e) Yd (show I0 _ _ _ (.tup ys) from(hz,d,f,fY.new _ _))
    exact Wv h'.objs.size _ t (q _ (k.hok.fresh Yd))
  . let(d,f,pl,hz):=I.tuple g;exact call_tuple_same pl (Wv p H I q)
def tyV (K:PySem.W.Frag)(T:String)(x:V)(H:Hp):Prop:=match x with
  |.str _=>T="str"
  |.int _=>T="int"
  |.ref p=>(T="list"/\∃xs,XR p)\/(T="tuple"/\∃o,XB p o/\o.cls=.type "tuple"/\Mf o.dict) \/
      (T="dict"/\((∃kvs,Jbo p)\/∃kvs,Ic p (.dT kvs)))\/(T="set"/\∃S n,Ic p (.set S n))\/(T="tuple"/\∃xs,UR p)
  |_=>False
def vU (I:Xm s)(r:bn x v)(ty:tyV Gh T x H) :
    s.TypeIs v T/\∀a,Nk v a->∃k,s.heap.get? a=some k/\Mf k.dict:=by
  cases x with
  | str z =>
    let(t,rfl):=r;cases (show T="str" from ty);exact(typeIs_str s z t,λy e=>nomatch e)
  | int i =>
    let(t,rfl):=r;cases (show T="int" from ty);exact(typeIs_int s i t,λy e=>nomatch e)
  | ref p =>
    cases r;rcases ty with ⟨rfl,xs,l⟩|⟨rfl,o,d,q,j⟩|⟨rfl,d⟩|⟨rfl,S,n,d⟩|⟨rfl,xs,d⟩
    . let(h,_,pl,_):=I.list l;apply(pl.isList.typeIs,λa e=>?_);cases e;let(o,n,e,c,j,_):=pl;exact Jmi j
    . apply JgE o (I.kIn p o d) q (λa e=>?_);cases e;exact Jmh (I.kIn _ o d) j
    . let z:∃o,s.heap.get? p=some o∧o.ExactDict:=by
        rcases d with ⟨kvs,d⟩|⟨kvs,d⟩
        . let(_,_,_,_,o,_,_,e,f,_):=VM p d;exact Jmi f
        . let(_,_,_,_,o,_,_,e,f,_):=VM p d;exact Jmi f
      let(o,e,f):=z;apply JgE o e f.1 (λa g=>?_);cases g;exact Jmi f.2.1
    . let(o,_,_,_,e,f,_):=VM p d;apply JgE o e f.1 (λa g=>?_);cases g;exact Jmi f.2.1
    . let(h,_,(o,e,c,_),_):=I.tupD d;apply JgE o e ((Prod.mk.inj c).1) (λa g=>?_);cases g;exact Jmi ((Prod.mk.inj c).2)
  |_=>exact False.elim ty
def tBM0 (K:PySem.W.Frag)(T:String)(r:V->List V->Hp->VK->Prop)(e:TE):TE:=λd H Q=>e d H λx c=>tyV K T x c/\r x [] c Q
def tBM (K:PySem.W.Frag)(T:String)(r:V->List V->Hp->VK->Prop)(e:TE)(t:TA):TE:=λc H Q=>e c H λx d=>tyV K T x d/\t c d λxs f=>r x xs f Q
variable {o e:Expr} {es:List Expr} {to:TE} {t:TA} {name:Str} {apos cpos:Pos} {T id:String} {r:V->List V->Hp->VK->Prop}
def oh (p:PlainAttrs T)(g:Slot T name id)(i:JdQ Jsf (.type "method_descriptor"))(u:MtR X id r)(q:Yp o to)
    (f:JjM o name o=eval o X.env:=by rfl)(d:Vi (apos.endLine==cpos.line):=by rfl):Yp (Jof o name []) (tBM0 Gh T r to):=by intro c s j H Q I h;apply wpAny_Call_method0_late f d (thn (q c s j H _ I h) λv n h_=>?_);let(x,z,l,k,ty,q1):=h_;let(y,w):=vU l k ty;exact(T,id,p,g,i,y,w,Calls.callWith_builtin rfl (PySem.evalArgs_none (u c n j z x [] v [] Q l k .nil q1)))
def cC (A:PlainAttrs T)(i:Slot T name id)(l:JdQ Jsf (.type "method_descriptor"))(C:MtR X id r)(B:Yp o to)(D:Jfc X e t)
    (g:JjM o name o=eval o X.env:=by rfl)
    (j:Vi ((Jby (QV e)).all (λx=>!x.1)&&(Jl0 []).all (λx=>x.1.isSome)
      && decide ((QV e).length+([]:List Keyword).length+(if([]:List Keyword).isEmpty then 0 else 1)<30)):=by rfl)
    (f:Vi (apos.endLine==cpos.line):=by rfl)(hs:Jdh e=(false,Jc e,)::starEach es X.env:=by rfl)(d:(Jby es).any Qn=false:=by rfl):
    PE X (Jof o name (QV e)) (tBM Gh T r to t):=by intro c s k H Q I h;apply Jc4 g j f (thn (B c s k H _ I h) λv w h_=>?_);let(x,L,q,n,ty,q1):=h_;let(F,E):=vU q n ty;apply(T,id,A,i,l,F,E,?_);let p:=D cpos c w k L _ q q1;rw[hs]at p⊢;apply Ws (by show Yw (false||(Jpe _).any _);rw[d]<;>rfl) ?_;exact thn p λus u h_=>by let(vs,J,G,y,z):=h_;exact C c u k J x vs v us Q G n y z
end
def MtM (X:Cx)(id:String)(r:V→List V→Hp→VK→Prop):Prop :=
  ∀a s (b:St) H x xs v us Q,Jf5 b->bn x v->UM xs->r x xs H Q->
    wpAny Yz X.A (JQ id (v::us)) Mq JfD s
def bc.one (h:UM [x]):∃u,us=[u]/\bn x u:=eX h
def bc.two (h:UM [x,y]):∃u v,us=[u,v]/\QN x/\bn y v:=iC h
def bc.zero:∀{us:List Value},UM []->us=[]
  |_,.nil=>rfl
def bc.dropLast (h:UM xs):bc xs.dropLast us.dropLast:=by
  induction h with
  |nil=>exact .nil
  | cons r t a =>
    cases t with
    |nil=>exact .nil
    |cons q t'=>exact Jlp a
def bc.reverse (h:UM xs):bc xs.reverse us.reverse:=by
  induction h with
  |nil=>exact .nil
  |cons r t a=>rwa[List.reverse_cons,List.reverse_cons]at bc.append a (JF r)
def AW (l:List α):l.eraseIdx (l.length-1)=l.dropLast:=by
  induction l with
  |nil=>rfl
  | cons a r c =>
    cases r with
    |nil=>rfl
    | cons b r =>
      let e:(a::b::r).length-1=((b::r).length-1)+1:=by rfl
      rw[e,List.eraseIdx_cons_succ,c]
      rfl
section
variable {X:Cx} {pins:List GM} {σ:St} {H:Hp} {s:Shared} {l b:Addr} {xs ys zs:List V}
def Inv.lset {a its':List Value}{n:Nat}{f:Array Value→Array Value}{t':Nat}(I:Xm s)(i:VT l)
    (e:s.heap.get? l=some { cls:=.type "list",data:=.seq Jc1 n })(g:f Jc1=its'.toArray)(c:bc ys its')(hz:Qd JcW):
    Inv X pins σ (N8 l ys) { s with heap:=s.heap.update l (Obj.mapSeq f),toks:=t' }:=by let q:=PySem.IsL.update e f;rw[g]at q;apply I.write (i<|>trivial) (.inl rfl) (λj u h d=>(Heap.get?_update_other Yq _ (Ne.symm h)).trans d) (Mr q) ?_;exact(hz,its',_,c,q)
def Inv.lnew (I:Xm s)(a:bc ys its)(hz:Qd JcW) :
    Inv X pins σ (N8 V0 ys) { s with heap:=s.heap.push { cls:=.type "list",data:=.seq its.toArray },toks:=t' } :=
  I.laid (λx x q=>UD q) Yd (hz,its,0,a,Heap.get?_push_size _ rfl)
def Inv.fresh (I:Xm s):Nf s.heap.objs.size:=Uq _
def Inv.lstM (I:Xm s)(c:VT l):Qd Jb5/\∃a n,Jlo a/\Xp a.length/\s.heap.get? l=some { cls:=.type "list",data:=.seq a.toArray n }:=by let(z,a,n,r,e):=VM l c;exact(z,a,n,r,Jqm,e)
def AX (h:Qd n):Yw (Builtin.List.listTooLong n):=by exact dFq Jn
end
section
variable {X:Cx}
inductive vV:V->List V->Hp->VK->Prop|m{x vs H Q} l xs y:Jd9 l (vs=[y]->VT l->IM xs.length->UQ (N8 l (xs++[y]))->vV x vs H Q)
def cR:MtM X "list.append" vV:=by intro b s i H x vs v us Q I d f h;let(l,xs,y,rfl,rfl,c,hz,q):=h;cases d;let(u,rfl,g):=f.one;let(z,a,n,r,j,e):=I.lstM c;apply Ji7 F.slot_list_append e F.entry_list_append (F.args_list_append_2 _ _) (PySem.list_append l Jc1 n u (by rw[sAq];simp_all)) (Qm e);apply Mh .non _ (I.lset (its':=a++[u]) c e Js (r.append (JF g)) ?_) q;rw[lAq,lS];lia
inductive vW:V->List V->Hp->VK->Prop|m{x vs H Q} l b xs zs:Jd9 l (vs=Vj b->VT l->Qr b zs->Jp8 zs.length->UQ (N8 l (xs++zs))->vW x vs H Q)
def vX:MtM X "list.extend" vW:=by
  intro f s A H x vs v us Q I i j h;let(l,b,xs,zs,rfl,rfl,g,w,hz,q):=h;cases i;let(u,rfl,k):=j.one;cases k;let(z,c,n,r,C,e):=I.lstM g;let(B,a,p,o,t,y):=I.lstM w;let hsz:Qd (c.toArray.size+Jnh):=by rw[sAq,sAq];lia
  let d:¬Vi (!c.toArray.isEmpty&&Builtin.List.listTooLong (c.toArray.size+Jnh)):=by rwa[AX hsz,Bool.and_false]at Jb3
  apply call_meets F.slot_list_extend (Ji6 e) F.entry_list_extend (F.args_list_extend_2 _ _)
    (AutoSeq1.list_extend_list_list_0 l Jfn n b Jc1 p d (by rw[sAq];simp_all) Jn) (Gc e y)
  apply Mh .non _ (I.lset (its':=c++a) g e Js (r.append o) ?_) q;rw[lAq];lia
inductive rPop:V->List V->Hp->VK->Prop|m{x vs H Q} l xs y:GN l->vs=[]->VT l->xs[xs.length-1]?=some y->Q y (N8 l xs.dropLast)->rPop x vs H Q
def qy:MtM X "list.pop" rPop:=by
  intro d s t H x vs v us Q I g i h;let(l,xs,y,rfl,rfl,f,k,q):=h;cases g;let c:=i.zero;subst c;let(z,a,n,r,p,e):=I.lstM f;let(u,o,j):=r.get k;let b:a.toArray[a.toArray.size-1]?=some u:=by show a.toArray[a.length-1]?=some u;rwa[<-Array.getElem?_toList,<-p]at o
  apply Ji7 F.slot_list_pop e F.entry_list_pop (F.args_list_pop_1 _) (MeetsSeq.list_pop_last l Jc1 n u b (by rw[sAq];lia)) (Qm e);apply(y,_,I.lset (its':=a.dropLast) f e ?_ r.dropLast ?_,j,q)
  . show a.toArray.eraseIdxIfInBounds _=a.dropLast.toArray;rw[sAq,List.eraseIdxIfInBounds_toArray,AW]
  . rw[List.length_dropLast];exact Nat.le_trans (JmU _) ‹_›
inductive vY:V->List V->Hp->VK->Prop|m{x vs H Q} l xs:Jd9 l (vs=[]->VT l->UQ (GB H l)->vY x vs H Q)
def AY:MtM X "list.clear" vY:=by intro c s i H x vs v us Q I f g h;let(l,xs,rfl,rfl,d,q):=h;cases f;let b:=g.zero;subst b;let(z,a,n,r,j,e):=I.lstM d;apply Ji7 F.slot_list_clear e F.entry_list_clear (F.args_list_clear_1 _) (AutoSeq1.list_clear_list_0 l Jc1 n (by rw[sAq];lia)) (Qm e);exact Mh .non _ (I.lset (its':=[]) d e rfl .nil Zq) q
inductive rCat:R2|m{x y H Q} l b xs zs:Jd9 l (Nk y b->VT l->Qr b zs->Jp8 zs.length->(∀p,Jdu p p (N8 p (xs++zs)))->rCat x y H Q)
def qz:XJ X .Add rCat:=by
  intro d s t H x y v u Q I g f h;let(l,b,xs,zs,rfl,rfl,k,o,hz,q):=h;cases g;cases f;let(z,c,n,r,B,e):=I.lstM k;let(w,a,A,i,j,p):=I.lstM o;apply PySem.P.add_list e p ?_ (by rw[sAq,sAq];lia);let ea:c.toArray++a.toArray=(c++a).toArray:=by simp
  rwa[ea]at Wv _ _ (I.lnew (t':=s.toks) (r.append i) (by rw[lAq];lia)) (q _ I.fresh)
end
end L2
namespace Att
open PySem PySem.W PySem.Calls PyProof.Rows
def AZ:∀ns vs,WellAll P h vs (ns.map WData.int)→IntsAre vs ns:=by
  intro ns
  induction ns with
  | nil =>
    intro vs w;erw[List.map_nil]at w;exact .nil
  | cons n ns c =>
    intro vs w;rw[List.map_cons]at w;cases w with
    | cons a b =>
      cases a;exact .cons _ _ (c _ b)
def A0 {l:OpenLaw}{n:Nat}(u:Jnt n){P:Params}{h:Heap}{args:List WData}{vals:List Value}
    (b:Vi (l.row.toRowW.claim.pre args))(i:WellAll P h vals args):
    ∃a vs ns,vals=[Value.ref a]/\args=[WData.list (ns.map WData.int)]/\h.get? a=some { cls:=.type "list",data:=.seq vs.toArray }/\JbN vs/\Jed n:=by
  let j:=(pre_splitW b).1;let k:=(pre_splitW b).2;let(d,r,rfl,x,w):=hasAllW_cons j;obtain rfl:=hasAllW_nil w;let(xs,rfl,v):=hasW_list x;let(ns,rfl):=items_int v;let c:Jed n:=by
    let g:(WTm.not (.lt (.lit (.int (n:Int))) (.len (.arg 0)))).holds [] { args:=[.list (ns.map .int)] }=true:=by let g:=(holds_andW k).1;rw[u]at g;exact g
    let f:=condW_of g (w_not (w_lt w_lit (w_len_list (w_arg rfl))));rw[lM]at f;simp_all
  cases i with
  | cons p o =>
    cases o;cases p with
    |list t e=>exact Jk6 _ _ ns t (AZ ns _ e) c
def A1 (l:OpenLaw)(args):Vi (l.row.toRowW.claim.post args (.bool true) args) :=
  postW_of
    (show Vi (WShape.has [] _ .bool) by rfl)
    (show(WTm.eq .res _).value [] { args:=args,res:=some _,after:=args }=some _ from w_eq_bool (w_res rfl) w_lit) rfl
def attach_call {l:OpenLaw}{n:Nat}{q:Program}{e:List Str}{F:(QT Str)→Heap→Prop}{E:World→Heap→Prop}{d:DefRec}
    (K:Jnt n)(z:Jiy [])
    (s:∀w c b mg v p o u t h a vs ns,
      Ground q e [] F w c mg v b.heap->E w b.heap->
      b.heap.get? p=some o->JjY (.func (docDef d.name d.params d.body d.scope u t h))->b.heap.CodeRec t d.name->mg d.name=Ja p->
      b.heap.get? a=some { cls:=.type "list",data:=.seq vs.toArray }->JbN vs->Jed n->b.gens=#[]->
      codeAny (JeS JqL) callerA (JbC p (JoZ a)) (λr s'=>r=XZ (.bool true)/\Jm4 b.heap/\s'.os=b.os/\AllBare s'.gens) b):
    WalkO q e F E l.row.toRowW d [] (λf vs=>Jlu f):=by intro w c b mg v G Y p o u t h S kV J O A C y N D vals T i B H x M;obtain rfl:S=.none:=Dflts.none C z;obtain rfl:kV=.none:=Dflts.noKw C;let(a,vs,ns,rfl,rfl,j,g,k):=A0 K i x;apply enter_call (codeAny_mono (s w c b mg v p o u t h a vs ns G Y J (fd_plain O) A y j g k N) λr s' I=>?_);let(rfl,R,Q,P):=I;exact(.inl (JS (.bool true) (.bool true) [] (λm=>rfl) (.bool true) (A1 l _) (λm=>(Jqp,λm L=>(nomatch L)))),R,Q,P)
section
variable {prog:Program} {w:World} {A:Around} {E:Value->Shared->Prop} {s:Shared} {K:Frag}
end
end Att
namespace L2
open PySem PySem.Spec PyProof.Rows
theorem qA{vs:List Value}{ns:List Int}(h:JbN vs):bc (ns.map V.int) vs:=by
  induction h with
  |nil=>exact .nil
  |cons n t h i=>exact .cons (Wf t) i
def Only (H:Hp):Prop:=∀b,Nf b\/∃o xs,Ic b (Jis (.lst xs))
def A3 {P:Program}{w:World}{K:PySem.W.Frag}{mg J:Str→Option Value}{CX:CXT}{k:Nat}{O a:Addr}{Z:FuncData}{x:Str}{sp:Sp}{c:Shared}{vs:List Value}{ns:List Int}
    (KX:K.In c.heap)(B:c.heap.Ns mainGlobals mg)(g:c.heap.Ns builtinsNs J)(M:∀x:Str,JcL x->J x=bootBuiltins x)(C:c.heap.NoLimit)(hg:c.gens=#[])
    (G:c.heap.get? a=some { cls:=.type "list",data:=.seq MQ })(U:JbN vs)(T:Qd ns.length)(hr:ag k callerA)
    (F:∀base:Heap,K.In base->V4 mg->Vb P w K mg CX k O Z [x] sp)(l:∀s u,Jgr s Z [u] [(x,u,)])
    (L:∀H:Hp,Only H->JnX H->sp (Vj a) H (λv _=>v=.bl true) λ_ _ _=>False)
    (N:∀H e s',CX [] H c (λ_ _ _=>False) e s'->False):
    codeAny (JeS P) callerA (JbC O (JoZ a)) (λr s'=>r=XZ (.bool true)/\Jm4 c.heap/\s'.os=c.os/\AllBare s'.gens) c:=by
  let S:=qA U;let t:=U.length;let j:∀H:Hp,Only H→JnX H→JdD c.heap→(∀b,Jm6 b→b=a)→(Jm6 a→Mf (K.lookup a)) →
      codeAny (JeS P) callerA (JbC O (JoZ a)) (λr s'=>r=XZ (.bool true)/\Jm4 c.heap/\s'.os=c.os/\AllBare s'.gens) c:=by
    intro H X hS A Y hK;let f:∀{b:Addr} {o:Obj},c.heap.get? b=some o->Nf b->(kc c.heap H).get? b=some o:=λe n=>Ab e n;let I:∀{b:Addr} {o:Obj} {es:Array DictEntry} {ep:Nat},c.heap.get? b=some o->JjZ ep->Nf b:=λ{b o es ep} e d=>by
      cases q:H b with
      |none=>rfl
      | some u =>
        let Q:=Y b (by rw[q];simp);lia
    let i:∀ {b:Addr} {m:Str→Option Value},c.heap.Ns b m→(kc c.heap H).Ns b m:=λ{b m} (o,es,ep,e,d,r)=>(o,es,ep,f e (I e d),d,r);let D:K.In _:=λb o e=>f (KX b o e) (by
      cases q:H b with
      |none=>rfl
      | some u =>
        let Q:=Y b (by rw[q];simp);lia)
    let hM:Mod K mg _:=(D,i B,(J,i g,M),(by let(mc,h1,h2):=C;exact (mc,i h1,h2)));let e0:jy P w K mg _ callerA [] c H:=(rfl,hM,λb o e=>Ac e,Nat.le_of_eq (Aa _ _),trivial,λb g=>Yn (show b∈([]:List Addr) from g),A,.of_eq hg);apply codeAny_mono ((F _ D (i B)).run callerA [] c H (JoZ a) (Vj a) (Vj a) _ _ hr e0 (l c (.ref a)) (JF rfl) (L H X hS)) λr s' h=>?_;cases r with
    |error e=>exact(N H e s' h).elim
    | ok fl =>
      cases fl with
      |next=>exact False.elim h
      |brk=>exact False.elim h
      |cont=>exact False.elim h
      | ret u =>
        let(v,H',os,E,R,y,r',q):=h;let q':=q;subst q';obtain rfl:u=Value.bool true:=r';apply(rfl,OldK.of_keep λb o e=>?_,os,E);cases q:H b with
        |none=>exact R.keep b o e q (by intro z;exact Yn (show b∈([]:List Addr) from z)) Js
        | some u =>
          rcases X b with z|⟨ob,xs,z⟩
          . erw[q]at z
          . let z2:=R.frzs b ob _ z;let⟨e1⟩:=A b _ z;let⟨e2⟩:=y b _ z2;erw[e]at e1;exact e2
  cases hk:K.lookup a with
  | some o =>
    let e:=KX a o hk;erw[G]at e;apply j (λ_=>none) (λ_=>.inl rfl) (.inr (JhL _ MQ _ hk rfl (by rwa[sAq,t]at T) (by simpa using S))) (λb u z=>by let p:=z;cases p) (λb z=>JC z) λz=>JC z
  | none =>
    apply j (λb=>if b=a then some _ else none) (λb=>?_) (JjK { cls:=.type "list",data:=.seq MQ } (if_pos rfl)) (λb u z=>?_) (λb z=>?_) λ_=>hk
    . by_cases g:b=a
      . exact .inr (Q5 _ (if_pos g))
      . exact .inl (if_neg g)
    . by_cases g:b=a
      . let p:=(if_pos g).symm.trans z;cases p;subst g;exact(G,by rwa[lM]at T,vs,_,S,G)
      lia
    lia
def walk_of {l:PySem.W.OpenLaw}{n k:Nat}{q:Program}{i:List Str}{Z:(QT Str)→Heap→Prop}{I:World→Heap→Prop}{d:DefRec}{K:Params→PySem.W.Frag}{CX:World→CXT}{sp:World→Sp}{x:Str}
    (M:Jnt n)(z:Qd n)(B:Jiy [])(L:ag k callerA)
    (Q:∀w h,I w h->(K w.params).In h)
    (F:∀w mg t h,(K w.params).In h->Jcy mg->mg d.name=Ja t->
      ∃D:FuncData,(∀s u,Jgr s D [u] [(x,u,)])/\
        ∀base:Heap,(K w.params).In base->V4 mg->Vb JqL w (K w.params) mg (CX w) k t D [x] (sp w))
    (y:∀w H a (ns:List Int),Jed n->Only H->SqL (K w.params) H a (ns.map V.int)->sp w (Vj a) H (λv m=>v=.bl true) λm m m=>False)
    (C:∀w H s e s',CX w [] H s (λm m m=>False) e s'->False):
    PySem.W.WalkO q i Z I l.row.toRowW d [] (λf vs=>Jlu f):=by apply Att.attach_call M B λw E p mg mb t o pm cd X a vs ns G Y ho hd O A r j c N=>?_;let J:=Q w _ Y;let(D,P,U):=F w mg t _ J G.T.g A;exact A3 J G.T.g G.T.b G.T.builtins G.T.nolimit N r j (Nat.le_trans c z) L U P (λH S R=>y w H a ns c S R) λH e s'=>C w H p e s'
noncomputable def zaR (s:Stmt)(j:Nat):Stmt:=match s with
  |.ClassDef _ _ _ a _ _ _ _ _ _ _=>a.getD j JdT
  |_=>Jch 0 0 0 0
noncomputable def zbv (s:Stmt):Arguments:=match s with
  |.FunctionDef _ a _ _ _ _ _ _ _ _=>a
  |_=>{ posonlyargs:=[],args:=[],vararg:=none,kwonlyargs:=[],kw_defaults:=[],kwarg:=none,defaults:=[] }
noncomputable def zas (s:Stmt):List Stmt:=match s with
  |.FunctionDef _ _ b _ _ _ _ _ _ _=>b
  |_=>[]
noncomputable def ai (s:Stmt):Scope:=match s with
  |.FunctionDef _ _ _ _ _ _ sc _ _ _=>sc
  |_=>{ kind:=.function,names:=[],isGenerator:=false,isCoroutine:=false }
abbrev CX0:CXT:=λx x x x x x=>False
abbrev E0:XK:=λx x x=>False
def aJ:iD CX0 X E0:=λx x x x x x x h=>h.elim
structure Fun (K:PySem.W.Frag)(x qual)(st)(f)(fd):Prop where
  ex:∃(oc:Value) (od:Option Addr) (kV doc pm:Value) (an:Option Addr) (cdv ct:Value) (osl:Jjp Value),
    fd=JdE x qual (zbv st) (zas st) (ai st) .none kV doc pm an ct/\Jd7 f oc od fd osl/\JfY K cdv qual
  kp:Vi (VY K f)
section
variable {P:Program} {w:World} {K:PySem.W.Frag} {mg:Str->Option Value} {base:Heap}
def Fun.ok {x a:Str}{st:Stmt}{f:Addr}{g:FuncData}{N ps:List Str}{k:Nat}{sp:Sp}(F:Fun K x a st f g)(S:Je N ps st)
    (b:∀cdv A outer s H vs Q E,Nr k (Yu a (ai st) f cdv)->sp vs H Q E->
      ∃t,Jjn (JmQ P w K mg N a st f A s H E).nox Jn5/\t { nx:=λy H'=>Q .non H',rt:=Q } (JhR N) H)(c:∀vs H Q E,sp vs H Q E->N1 vs.length:=by intro _ _ _ _ h;cases h;subst_vars;rfl):Vn (k+1) f g ps sp:=by let(p,od,kV,n,o,u,cdv,r,i,rfl,j,e):=F.ex;apply qu j e S c λA outer s H vs Q E l d=>?_;let(t,h,q):=b cdv A outer s H vs Q E l d;exact(t,h.nox,q)
def Fun.binds {x a:Str}{st:Stmt}{f:Addr}{g:FuncData}{ps:List Str}(F:Fun K x a st f g)
    (h:∀kV b c e cdv d us,N1 us.length->JpX (JcZ (JdE x a (zbv st) Jn5 (ai st) .none kV b c e d) us) us):Yj g ps:=by let(k,od,kV,b,c,e,cdv,d,i,rfl,l,j):=F.ex;exact .all (h kV b c e cdv d)
def vZ {x a:Str}{st:Stmt}{f:Addr}{i:Value}{od h:Option Addr}{d:Array Jf3}{kV b e cdv g:Value}(l:Jd7 f i od (JdE x a (zbv st) Jn5 (ai st) .none kV b e h g) d)
    (c:JfY K cdv a)(k:Vi (VY K f)):Fun K x a st f (JdE x a (zbv st) Jn5 (ai st) .none kV b e h g):=((i,od,kV,b,e,h,cdv,g,d,rfl,l,c),k)
end
def dc (a:ag k A):V6 1:=Nat.lt_of_le_of_lt (Nat.add_le_add_left (by decide:1<=64) _) a.units
def dV (h:Jr n):IM n:=Vk h
section
variable {X:Cx}
def pv (i){x:Str}{pos:Pos}(d:X.N[i]?=some x:=by rfl)(b:JaU x:=by first | exact Or.inl rfl | exact Or.inr (Or.inl rfl) | exact Or.inr (Or.inr rfl))(c:Yw (x == Xs):=by decide)
    (a:Yw (x==("__classdict__":Str)):=by decide):Yp JoG (jr i):=pe_var d b c a
end
def bq {A B:Prop}(h:B):if Vi false then A else B:=Jn
def aD {A B:Prop}(h:A):if Vi true then A else B:=by rwa[if_pos rfl]at h
def bo {c A B:Prop}[Decidable c](b:c->A)(a:¬c->B):if c then A else B:=by
  lia
def kB {c A B:Prop}[Decidable c](a:c)(h:B):if Vi (!decide c) then A else B:=by rwa[dTq a]at bq h
def ap (H H':Hp):Prop:=∀b o,Jik b o b o
def ap.refl (H):M9 H:=λx x h=>h
def ap.trans (a:M9 H1)(b:ap H1 H2):M9 H2:=λc o h=>b c o (a c o h)
def ap.free (e:Xd H){l:Addr}(h:Jef (H' l)):Jef (H l):=by
  cases q:H l with
  |none=>rfl
  | some o =>
    erw[e l o q]at h
def ap.seq {K:PySem.W.Frag}{H H':Hp}{a:Addr}{xs:List V}(e:Xd H)(h:XR a):Uv H' a:=by
  rcases h with (h|⟨o,h⟩)|h
  . exact Jca Jr4
  . exact JjK o Jr4
  . exact .inr h
end L2
def lS0:Jba 0:=by decide
def lS1:Jba 1:=by decide
def lS2:Jba 2:=by decide
def lS3:Jba 3:=by decide
def lS4:Jba 4:=by decide
namespace L2
open PySem PySem.Spec PyProof.Rows
section
variable {X:Cx} {e l:Expr} {te tl:TE} {pos:Pos} {tg:Expr}
noncomputable def Its (z:Str):It:=(λi y=>i<ML,λi H x H'=>H'=H/\∃c,z.cps[i]?=some c/\x=Jhp (#[c]),λi y=>z.length<=i)
def v_ {P:Program}{w:World}{K:W.Frag}{ty:String}(n:ty="str_ascii_iterator"\/ty="str_iterator")(it)(z)(t):gc P w K tg (Its z) [it] it (λi h=>h.IsStrIter it ty z t i) where
 mem:=by simp
 obj:=λi h st b a=>by
  let e:b=it:=by simpa using a
  subst e;let(o,e,c,d):=st;exact Jmi (λv z=>by erw[d]at z)
 keep:=λi h h' st k=>by let(o,e,r):=st;exact Jmh (Uw it o e) r
 item:=by
  intro X L D M J i g s B H E I p st G;subst L D M;let F:i<z.cps.size:=G;let j:z.cps[i]?=some z.cps[i]:=by simp [F]
  let(A,y,Q,x,u,q):=p it Js;rcases n with rfl|rfl
  .apply wpAny_pyNext_ascii_item st j λh' f C=>?_;let O:=JsI (s.toks+1) (λb o a e=>(C.2 b a).trans e) A y x u q;let(o,e,c,d):=id f;exact QD (I_ e c d (Jhp (#[z.cps[i]]),H,O,Wf _,(rfl,_,j,rfl),f,λb a=>(p b a).1))
  .apply wpAny_pyNext_wide_item st j λh' f C=>?_;let O:=JsI (s.toks+1) (λb o a e=>(C.2 b a).trans e) A y x u q;let(o,e,c,d):=id f;exact QD (I_ e c d (Jhp (#[z.cps[i]]),H,O,Wf _,(rfl,_,j,rfl),f,λb a=>(p b a).1))
 done:=by
  intro X L D M J i g s B H E I p st G;subst L D M;let F:z.cps.size<=i:=G;let j:z.cps[i]?=none:=by simp [F]
  let(A,y,Q,x,u,q):=p it Js;rcases n with rfl|rfl
  .exact wpAny_pyNext_ascii_end (I.ok.hd J) st j λh' N=>V8 (t':=s.toks) (λb o a e=>N b o a e) A y x u q
  .exact wpAny_pyNext_wide_end (I.ok.hd J) st j λh' N=>V8 (t':=s.toks) (λb o a e=>N b o a e) A y x u q
 self:=λm m m m m st h=>by
  rcases n with rfl|rfl
  .exact wpAny_pyIter_striter_ascii st h
  .exact wpAny_pyIter_striter_wide st h
def iStr (tl:TE):TI:=λa H R=>tl a H λx b=>∃z,x=.str z/\R (Its z) b
def A4 (k:Yp l tl):PI X tg l (iStr tl):=by
 intro c s i H R I h;apply thn (k c s i H _ I h) λv a h_=>?_;let(x,f,d,j,q1):=h_;let(z,e,q):=q1;subst e;let(t,rfl):=j;let g:∀b∈[JqM],df X c f b:=λb n=>by
  let e:b=a.heap.objs.size:=by simpa using n
  subst e;exact d.fpOk Yd (JbD _)
 cases ha:z.cps.all _ with
 |true=>
  apply wpAny_pyIter_ascii ha ?_;exact JO JqM [JqM] _ _ f (d.kept (t':=a.toks) λb o e=>UD e) (v_ (.inl rfl) _ z t) Jgd g q
 |false=>
  apply wpAny_pyIter_wide ha ?_;exact JO JqM [JqM] _ _ f (d.kept (t':=a.toks) λb o e=>UD e) (v_ (.inr rfl) _ z t) Jgd g q
def oj (J:Vi Gy):Ys X "all" (λxs H Q=>∃(p:Addr) (bs:List Bool),xs=Vj p∧JoO (JmN p (bs.map V.bl)) (bs.all id)):=by
 intro k s O H xs us Q I r h;let(p,bs,rfl,B,q):=h;let(u,rfl,w):=eX r;cases w;let(a,j,pl,hz):=I.list B;let F:=j.length;rw[lM]at F;let C:Jk p:=by let(o,D,_):=Gj;exact hLq D
 let g:=Nat.ne_of_lt C;apply call_all_walk (IZ Gj);apply(V0,Jlv p,[V0],Jnh,5,λi=>Jbg i,rfl,Walks.list (show Mf X.A.in1.handled from I.ok.hd J) _ p g Jc1,Jhq Jgd _,?_,λh' tk G=>?_)
 .intro i v s' R S z M;let c:a[i]?=some v:=by simpa using z
  let f:=(gEq c).1;let L:bs[i]?=some (Jbg i):=by rw[List.getD_eq_getElem?_getD,gG (by lia)];rfl
  let(P,t,N):=j.get (by rw[List.getElem?_map,L];rfl);erw[c]at t;cases (show Jgb v _ from N);exact wpAny_truthy_bool M
 .let e:(List.range Jnh).all (λi=>Jbg i)=bs.all id:=by
   rw[Bool.eq_iff_iff,List.all_eq_true,List.all_eq_true];constructor
   .intro h x y;let(i,f,rfl):=List.mem_iff_getElem.mp y;have:=h i (List.mem_range.mpr (by simp only[sAq];lia));rw[List.getD_eq_getElem?_getD,gG f]at this;exact this
   .intro h i f;let d:i<bs.length:=by have:=List.mem_range.mp f;simp only[sAq]at this;lia
    rwa[List.getD_eq_getElem?_getD,gG d]at h _ (List.getElem_mem d)
  apply(.bl _,H,I.kept (t':=tk) λb o n=>G b o ?_ (UD n),JkH Value.bool,q);intro E;have:Jd1 b:=by simpa using E
  exact JhS n (this<|>Nat.lt_irrefl _)
inductive rIs (K):List V->Hp->VK->Prop|m{xs H Q} x t n b:xs=[x,.ty n]->eM K H x t->Xa (Xz K t n) b->Jpa b (rIs K xs H Q)
def qB:Jbn X (rIs Gh):=by intro a s i H xs us Q I r h;let(x,t,n,b,rfl,ty,g,q):=h;let(u,c,rfl,f,d):=iC r;cases (show Jdl c n from d);exact AA I f ty g λtk=>VD b H Jsa q
end
structure Clo (X:Cx)(scope)(cl):Prop where
 eq:JdQ (closureFor scope Wc) cl
 sub:∀y c,JlH y c->Vf y c
 has:∀y,((Nj Wc).names.lookup y=some .cell\/(Nj Wc).names.lookup y=some .free)->∃c,JlH y c
def hJ (a:∀x∈scope.names,x.2≠.free)(b:∀x∈scope.names,Jj6 x.2):JnW []:=by
 apply(closureFor_none a,λy c h=>by simp at h,λy h=>?_);let e:(Nj Wc).names=scope.names:=by
  apply map_eq_self (λx d=>?_);let(n,k):=x;have:Yw (k==NameKind.free):=by simpa using a _ d
  simp [this]
 rw[e]at h;rcases h with h|h
 .exact JC (b _ UZ)
 .exact JC (a _ UZ)
noncomputable def zaf (X:Cx)(N':List Str)(b:Scope)(e:JcB Addr)(d:List Addr)(a:Shared)(c:Hp):Cx where
 prog:=Uh
 w:=X.w
 K:=Gh
 mg:=X.mg
 base:=Jdc
 A:=X.A
 N:=N'
 s₀:=a
 H₀:=c
 env:=compEnvC b e JqM Wc
 outer:=ID
 stack:=ID
 ex:=d
 calm:=Gy
 fn:=λx=>false
 pn:=[]
 xe:=λx x=>False
noncomputable def fvs (a:St)(ix:List Nat):St:=ix.map λi=>(a[i]?).join
def tLC (f:TI)(ix:List Nat)(g:TE):TE:=λb H Q=>f b H λJ e=>∀D,Mf (e D) →
 ∃W:Nat->Nat->List V->Hp->Prop,(∃m,W 0 m [] (GB e D))/\
  ∀i m ys H',W i m ys H'->Ji3 D/\
   ((Jo1 H' (Mc D H'))∨(JgD H'∧∀x a,Jlh a→g (JkB x b) a λy d =>
    d D=JhO ys/\IM JcW/\∃c,c<m/\W Xi c (ys++[y]) (Va d D (ys++[y]))))
section
variable {X:Cx} {N':List Str} {scope:Scope} {cl:List (Jiv Addr)} {fp:List Addr} {pins:List GM} {σ:St} {H:Hp} {s:Shared}
def qC (I:Xm s)(C:JnW cl)(a:U9 JbL)(e:∀b∈fp,Jff X H b)(f:∀b∈fp,Jk b):(JgZ cl fp s H).Ok where
 mod:=I.ok.mod
 kind:=a
 glob:=I.ok.glob
 blt:=I.ok.blt
 above:=nRq _
 inj:=λx y c i g=>I.ok.inj x y c (C.sub x c i) (C.sub y c g)
 has:=λx h=>C.has x h
 cab:=λx c h=>by cases (show Vi false from h)
 hd:=I.ok.hd
 frames:=JqW
 stk:=.inl rfl
 exf:=λb d=>(Nat.ne_of_lt (f b d),λx c h=>(e b d).2.2.2.2.1 x c JrW)
 bs:=λb o h=>I.bs b o h
 bsz:=Jal I.sz
 noex:=λb o h d=>by
  rcases(e b d).2.2.2.1 with z|z
  .exact I.ok.noex b o h z
  .exact Mu (Wh h (Jal z)) _
 exfs:=λb d hs=>by
  rcases List.mem_cons.mp (I.stkSub b hs) with z|z
  .exact(e b d).2.1 z
  .exact(e b d).2.2.1 z
 funs:=I.stack
 frf:=I.stkFree
def wa (I:Xm s)(J:Jg0 cl fp s H [] σ' H' s')(g:∀b∈fp,Jff X H b)(hs:Heap.SameBut V0 s'.heap h'):Ik H' { s' with heap:=h' }:=by
 let h:∀b o,s.heap.get? b=some o->Jcm b:=λb o e=>XM e;let eq:∀b,Jcm b->h'.get? b=s'.heap.get? b:=λb f=>hs.2 b f;let B:=J.base;let u:Jdj fp H H' h' :=
  (λb o e n d j=>(eq b (h b o e)).trans (B.keep b o e n d j),λb o e n d j=>by
   let(k,q):=B.slot b o e n d j;exact(k,(eq b (h b o e)).trans q),λb o e n d=>B.free b o e n d,λb o e d=>by let(p,q):=B.there b o e d;exact(p,(eq b (h b o e)).trans q),B.tups,B.frzs,B.tbls)
 let a:JaP s.heap.objs.size:=J.free;let i:Jn9 h':=λb l e=>by
  apply(J.hok b l e).stay (λc t r q=>(eq c ?_).trans q) (λx q=>q) λx x q=>q;lia
 exact I.call' (s':={ s' with heap:=h' }) (ch:=fp) J.os u i J.bare λb f=>((g b f).2.2.2.1,(g b f).2.1,(g b f).2.2.2.2.1,(g b f).2.2.2.2.2)
end
section
variable {X:Cx} {N':List Str} {scope:Scope} {cl:List (Jiv Addr)} {fp:List Addr} {pins:List GM} {σ:St} {H:Hp} {s:Shared}
def A5 (I:Xm s)(C:JnW cl)(f:U9 JbL)(U:∀b∈fp,Jff X H b)(d:∀b∈fp,Jk b)
  (n:Jeh (L+ix.length))(G:∀j i,ix[j]?=some i->∃y,X.N[i]?=some y/\N'[L+j]?=some y/\(JaH y\/JaG y)/\((Nj Wc).names.lookup y=some .cell\/(Nj Wc).names.lookup y=some .free))
  (S:h₁.Ns V0 m)(A:∀b o,s.heap.get? b=some o->h₁.get? b=some o):Jg0 cl fp s H [] (VF L++Jeg σ) H { s with heap:=h₁,toks:=t' }:=by
 let g:∀x c,JlH x c->∃v,h₁.IsCell c v:=λx c h=>by let(v,o,E,J):=JeR x JrW;exact(v,o,A c o E,J)
 apply Jb8 (qC I C f U d) rfl (Un.kept A) (m,S,λi y v Z r h3=>?_) g (Uq _) (λx c h=>Jcx c JrW) (λp Q=>Yn (show p∈([]:List _) from Q)) (I.hok.kept A) ?_
 .rcases Nat.lt_or_ge i L with d | T
  .rw[List.getElem?_append_left (by simp;exact d),List.getElem?_replicate,if_pos d]at r;lia
  .obtain⟨j,rfl⟩:∃j,i=L+j:=(i-L,by simp [*]);let a:(Jeg σ)[j]?=some (some v):=by rw[List.getElem?_append_right (by simp),List.length_replicate,Nat.add_sub_cancel_left]at r;exact r
   unfold fvs at a;rw[List.getElem?_map]at a;cases e:ix[j]? with
   |none=>erw[e]at a
   | some i =>
    rw[e]at a;let B:(σ[i]?).join=some v:=Option.some.inj a;let Y:σ[i]?=some (some v):=by
     cases e':σ[i]? with
     |none=>erw[e']at B
     |some q=>
      rw[e']at B;let W:q=some v:=B;rw[W]
    let(w,P,O,k1,k2):=G j i e;let ey:=Option.some.inj (O.symm.trans Z);subst ey;let(m0,R,F):=I.loc;let D:JaU w:=k1.elim (λz=>JhP z) λz=>JaL z;let(u,M,l):=F i w v P Y D;apply(u,M,Jl k2 ?_);rcases l with ⟨k,_⟩|⟨_,c,ec,o,E,J⟩
    .lia
    .let(K,t):=C.has w k2;have:K=c:=Option.some.inj ((C.sub _ _ t).symm.trans ec);subst this;exact(K,t,o,A K o E,J)
 .show(List.replicate L (none:Option V)++Jeg σ:St).length=N'.length;rw[n];simp [fvs]
end
noncomputable def tstA (env:Env):Je2 Expr (Sem Bool)
 |[]=>pure true
 |c::_=>isTrue c env (Jcg c)
def stpA (prog:Program)(w:World)(A:Around)(R:Result->Shared->Prop)(a:Expr)(acc:Value)(env:Env)(J:Nat->Shared->Prop)(n:Nat)(b:Bool)(c:Shared):Prop :=
 if Vi b then JnE (Jcg a) (λx f=>JnE (JQ "list.append" [acc,x]) (λy d=>∃m,m<n/\J m d) (notedBy Ud A env λe s'=>Jei e s') f) (notedBy Ud A env λe s'=>Jei e s') c
 else ∃m,m<n/\J m c
def A6 (a:Jj7 1)(J)
  (step:∀n s,J n s→JnE (pyNext it) (λr f=>match r with
   |none=>R (.ok .next) f
   |some v=>JnE (letOwnedTupleGo target it v) (λy i=>JnE (assign target env v) (λy h=>JnE (tstA env ifs) (stpA prog w A R elt acc env J n) (notedBy (Yi w) A env λe s'=>Jei e s') h) (notedBy (Yi w) A env λe s'=>Jei e s') i) (notedBy (Yi w) A env λe s'=>Jei e s') f) (notedBy (Yi w) A env λe s'=>Jei e s') s)
  (n)(h0:J n s):codeAny (Yi w) A (.compLoop (Jo9 target 0) 0 it acc env) R s:=by
 apply codeAny_loop rfl J (λn s l=>?_) n h0;show NK A _ s
 apply wpAny_noted ?_;rw[compTurn_list];apply QM (wpAny_bind (wpAny_mono (step n s l) (λr f k=>?_) λy y z=>z));cases r with
 |none=>exact wpAny_pure k
 | some v =>
  apply wpAny_bind (wpAny_mono k (λ_ i q=>?_) λy y z=>z);apply wpAny_bind (wpAny_mono q (λ_ h j=>?_) λy y z=>z);apply wpAny_bind (wpAny_mono (Q:=stpA prog w A R elt acc env J n) ?_ (λb g d=>?_) λy y z=>z)
  rotate_left
  .cases b with
   |false=>exact GD rfl d
   |true=>exact VC (wpAny_mono d (λx u p=>wpAny_bind (wpAny_mono p (λy t o=>Jt (WO o)) λy y z=>z)) λy y z=>z)
  .rcases ifs with _ | ⟨c,_ | _⟩
   .rwa[List.forIn_nil]at j
   .rw[List.forIn_cons];apply wpAny_bind ?_;rw[if_pos rfl];apply wpAny_bind (wpAny_mono j (λb g d=>wpAny_pure ?_) λy y z=>z);show NK A (forIn ([]:List Expr) b _) g;rwa[List.forIn_nil]at wpAny_pure d
   .exact Yn a
def lcB (L:Nat)(ix:List Nat)(g:TG)(tc:TT)(n:TE)(h:St)(Q:VK)(J:It)(l:Hp):Prop:=∀D,Mf (l D) →
 ∃W:Nat->Nat->List V->Hp->Prop,(∃m,W 0 m [] (GB l D))/\
  ∀i m ys H',W i m ys H'->Ji3 D/\
   ((Jo1 H' (Mc D H'))∨(JgD H'∧∀x f,Jlh f→∀d:St,d.length=L→g x (d++Jeg h) f λa o=>∃c:St,c.length=L∧a=c++Jeg h∧tc a o λb k =>
    if Vi b then n a k λy j=>Ia (j D) ys/\IM JcW/\∃e,e<m/\W Xi e (ys++[y]) (Va j D (ys++[y]))
    else ∃e,e<m/\W Xi e ys k))
def tTr:TT:=λx H Q=>Q true H
def lc_fin (f:Ik H3 s3)(c:Jg0 cl fp s3 H3 [] σ6 H5 s6)(e:∀b∈fp,Jff X H3 b)(q:Mc D H5):compPost (Vg X.w) X.A X.xe none (EP X pins σ Q) (.ref D) s3.heap.objs.size (.ok .next) s6:=by let(m,d,_):=c.loc;exact(m,d,λh' a=>Wv D H5 (wa f c e a) q)
def om (h:∀D,Mf (H1 D) →
 ∃W:Nat->Nat->List V->Hp->Prop,(∃m,W 0 m [] (GB H1 D))/\
  ∀i m ys H',W i m ys H'->Ji3 D/\((Jo1 H' (Mc D H'))\/(JgD H'/\∀x c,Jlh c->tc (JkB x σ) c λb g=>
    if Vi b then te (JkB x σ) g λy f=>Ia (f D) ys/\IM ys.length/\∃d,d<m/\W (i+1) d (ys++[y]) (Va f D (ys++[y]))
    else ∃d,d<m/\W (i+1) d ys g))):lcB 1 ix (jt 0) tc te σ Q J H1:=λD l=>by let(W,k,t):=h D l;apply(W,k,λi m ys H' w=>((t i m ys H' w).1,(t i m ys H' w).2.imp id λ(a,b)=>(a,λx c y j e=>?_)));let(z,rfl):=List.length_eq_one_iff.mp e;exact Jbj [some x] (b x c y)
section
variable {X:Cx} {N':List Str} {scope:Scope} {elt iter tg:Expr} {ifs:List Expr} {L:Nat} {pos:Pos} {wi:TI} {g:TG} {tc:TT} {te:TE} {ix:List Nat}
def we (hifs:Jj7 1)(hc:Vi Gy)(E:U9 JbL)(hcell:∀y∈scope.names,Jj6 y.2)(hnames:∀y∈scope.names,y.2=.local→Q2 y.1)
  (hclo:X.Ok->∃t,JnW t)(hlen:Jeh (L+ix.length))
  (hix:∀j i,ix[j]?=some i->∃y,X.N[i]?=some y/\N'[L+j]?=some y/\(JaH y\/JaG y)/\((Nj Wc).names.lookup y=some .cell\/(Nj Wc).names.lookup y=some .free))
  (hi:Joh X tg)(hg:∀t a l x,PG (JgZ t a l x) tg g)(ht:∀t a l x k s R H Q,Jg0 t a l x k R H s->tc R H Q->NA (tstA (JgZ t a l x).env ifs) (TP (JgZ t a l x) k R Q) (JgZ t a l x).xe s)(he:∀t a l x,JmS t a l x elt te)(hs:∀v,JdQ (Jgl v) v)
  {use:Option (Value->Sem Unit)}{Qf:Value->Shared->Prop}{k:List GM}{s:Shared}{R:St}{H:Hp}{Q:VK}{cp:Pos}{P:It->Hp->Prop}(I:Jf4 k R)(h:wi R H P)(hP:∀J H1,P J H1->lcB L ix g tc te R Q J H1)
  (fin:∀t a z s6 K H5 (σ6:St) D,Ir k R K z->Jg0 t a z K [] σ6 H5 s6->(∀b∈a,df X k K b)->Mc D H5->compPost Yz X.A JfD use Qf (.ref D) z.heap.objs.size (.ok .next) s6):
  wpAny Yz X.A (comprehension (Jo9 tg 0) scope Wc cp (newList []) false (Jc iter) use) Qf JfD s:=by
 let(t,C):=hclo I.ok;apply wpAny_comprehension_free rfl hs C.eq E hnames (thn (hi k s R H _ I h) λv s1 h1=>thn h1 λitv O h2=>?_);let(it,a,tn,J,H2,e,I2,T,st2,f2,q2):=h2;subst e;let hD:=I2.fresh;let(W,(m0,w0),turn):=hP _ _ q2 O.heap.objs.size hD;apply wpAny_newObj_type (wpAny_newFunctionEnv hcell (by intro y hy;simp at hy) (λS G F=>?_) E);let I3:Ir k R _ { O with heap:=O.heap.push { cls:=.type "list",data:=.seq ([]:List Value).toArray },toks:=O.toks }:=I2.lnew .nil Zq;generalize hs3:({ O with heap:=O.heap.push { cls:=.type "list",data:=.seq ([]:List Value).toArray },toks:=O.toks }:Shared)=z at I3;let e3:z.heap=O.heap.push { cls:=.type "list",data:=.seq ([]:List Value).toArray }:=by rw[<-hs3]
 generalize hDD:O.heap.objs.size=D at *;generalize hH3:JhQ H2 D=K at *;let lt2:∀b∈a,b<O.heap.objs.size:=λb B=>by let(o,ho,_):=T.obj 0 _ st2 b B;exact hLq ho
 let neD:∀b∈a,b≠D:=λb B=>by rwa[<-hDD]at Nat.ne_of_lt (lt2 b B)
 let f3:∀b∈a,df X k K b:=λb B=>(by rwa[<-hH3,aq (neD b B)]at(f2 b B).1,(f2 b B).2);let sz3:z.heap.objs.size=D+1:=by rw[e3,Heap.size_push,hDD]
 let Z:∀b∈a,b<z.heap.objs.size:=λb B=>by let q:=lt2 b B;lia
 let old:∀b o,z.heap.get? b=some o->S.get? b=some o:=λb o eb=>by
  let B:b<D+1:=by rwa[<-sz3]at hLq eb
  apply F.extBut b o ?_ (UD (by rwa[<-e3]at eb));lia
 let szC:(O.heap.push { cls:=.type "list",data:=.seq ([]:List Value).toArray }).objs.size=z.heap.objs.size:=by rw[e3]
 rw[szC]at G F;let I4:Inv _ [] _ K { z with heap:=S,toks:=O.toks+([]:JcB Value).length }:=A5 I3 C E f3 Z hlen hix G old;let st4:=T.keep 0 _ _ st2 λb B o eb=>old b o (e3<|>UD eb);let U:∀{H':Hp},(∀b∈a,JaP b)->∀b∈a,df _ [] H' b:=λhn b B=>
  (hn b B,Nat.ne_of_lt (Z b B),λhs'=>(qC (N':=N') I3 C E f3 Z).exfs b B hs',.inl B,λy c hy=>((qC (N':=N') I3 C E f3 Z).exf b B).2 y c hy,λp hp=>Yn (show p∈([]:List _) from hp))
 let loop:∀s4:Shared,s4={ z with heap:=S,toks:=O.toks+([]:JcB Value).length }->
   codeAny Yz X.A (.compLoop (Jo9 tg 0) 0 (.ref it) (.ref D) (compEnvC scope t z.heap.objs.size Wc))
    (compPost Yz X.A JfD use Qf (.ref D) z.heap.objs.size) s4:=by
  rintro s4 rfl;apply A6 hifs (λn s'=>∃i M H' ys,M.length=L/\Inv _ [] (M++Jeg R) H' s'/\tn i Jgy/\(∀b∈a,JaP b)/\W i n ys H') ?_ m0 (0,VF L,K,[],by simp,I4,st4,λb B=>(f3 b B).1,w0);rintro n s5 ⟨i,M,H5,ys,hl0,I5,st5,fr5,w5⟩;let(hD5,alt):=turn i n ys H5 w5;rcases alt with ⟨stop,q⟩|⟨go,step⟩
  .apply thn (T.done (JgZ t a z K) rfl rfl rfl hc i [] s5 _ H5 _ I5 (U fr5) st5 stop) λr s6 h_=>?_;let(hr,I6):=h_;subst hr;exact fin t a z s6 K H5 _ D I3 I6 f3 q
  .apply thn (T.item (JgZ t a z K) rfl rfl rfl hc i [] s5 _ H5 _ I5 (U fr5) st5 go) λr s6 h_=>?_;let(u,hr,h6):=h_;subst hr;apply thn h6 λ_ s7 h_=>?_;let(y7,H7,I7,r7,yl7,st7,fr7):=h_;let I7':=I7.pinned (U fr7) (T.obj _ _ st7);apply wpAny_mono (hg t a z K _ s7 _ H7 y7 u _ I7' r7 (step y7 H7 yl7 M hl0)) (λ_ s8 h8=>?_) λ_ _ f=>False.elim f;let(σ8',H8,I8,σ8,hl8,rfl,q8):=h8;let fin:∀ {H9:Hp} {s9:Shared} {zs:List V} {m':Nat},Jg0 t a z K _ _ H9 s9→m'<n→W _ m' zs H9→∃m,m<n∧∃i M H' ys,M.length=L∧Inv _ [] (M++Jeg R) H' s9∧tn i s9.heap∧(∀b∈a,JaP b)∧W i m ys H':=λ{H9 s9 zs m'} I9 Y w9=>by apply(m',Y,i+1,σ8,H9,zs,hl8,I9.unpinned,T.keep _ _ _ st7 λb B o eb=>(I9.pin _ (Xb (Xb (nX B eb)))).1,λb B=>?_,w9);let(o,eb,d):=T.obj _ _ st7 b B;exact(I9.pin _ (Xb (Xb (nX B eb)))).2.1
   apply wpAny_mono (ht t a z K _ s8 _ H8 _ I8 q8) (λb s9 h9=>?_) λ_ _ f=>False.elim f;let(H9,I9,q9):=h9;cases b with
   |false=>
    let(m',Y,w9):=q9;exact fin I9 Y w9
   |true=>
    apply wpAny_mono (he t a z K _ s9 _ H9 _ I9 q9) (λyv s10 h10=>?_) λ_ _ f=>False.elim f;let(y10,H10,I10,r10,hD10,hl10,m',Y,w10):=h10;apply wpAny_mono (cR (X:=JgZ t a z K) _ s10 _ H10 (.ref D) [y10] (.ref D) [yv] (λ_ H'=>H'=Va H10 D (ys++[y10])) I10 rfl (JF r10) (Jk6 D ys y10 hD10 hl10 rfl)) (λ_ s11 h11=>?_) λ_ _ f=>False.elim f;let(_,H11,I11,_,rfl):=h11;exact fin I11 Y w10
 subst hs3;let fin':=codeAny_compStart_list (loop _ rfl) (T.self X.A 0 _ _ _ st4 (loop _ rfl));exact fin'
def wh {P:St->VK->It->Hp->Prop}(p:Jj7 1)(F:Vi Gy)(l:U9 JbL)(n:∀y∈scope.names,Jj6 y.2)(f:∀y∈scope.names,y.2=.local->Q2 y.1)
  (r:X.Ok->∃e,JnW e)(o:Jeh (L+ix.length))
  (t:∀j i,ix[j]?=some i->∃y,X.N[i]?=some y/\N'[L+j]?=some y/\(JaH y\/JaG y)/\((Nj Wc).names.lookup y=some .cell\/(Nj Wc).names.lookup y=some .free))
  (B:Joh X tg)(C:∀e k a b,PG (JgZ e k a b) tg g)(z:∀e k a b d s c H Q,Jg0 e k a b d c H s->tc c H Q->NA (tstA (JgZ e k a b).env ifs) (TP (JgZ e k a b) d c Q) (JgZ e k a b).xe s)(E:∀e k a b,JmS e k a b elt te)(hs:∀v,JdQ (Jgl v) v)
  (G:∀c Q J u,P c Q J u->lcB L ix g tc te c Q J u):PE X (Jo9 tg 0) λc H Q=>wi c H (P c Q):=by intro d s c H Q I h;rw[eval_ListComp];exact we p F l n f r o t B C z E hs I h (G c Q) λe k S R U T x D O M K q=>lc_fin O M K q
def tst0 (e)(d)(a)(b)(c)(s)(f:St)(H)(Q)(I:Jg0 e d a b c f H s)(h:tTr f H Q):NA (tstA (JgZ e d a b).env []) (TP (JgZ e d a b) c f Q) (JgZ e d a b).xe s:=Jls H I h
def hix1 (h:∀j i,ix[j]?=some i->∃y,X.N[i]?=some y/\N'[j+1]?=some y/\(JaH y\/JaG y)/\((Nj Wc).names.lookup y=some .cell\/(Nj Wc).names.lookup y=some .free))(j i)(e:ix[j]?=some i):∃y,X.N[i]?=some y/\N'[1+j]?=some y/\(JaH y\/JaG y)/\((Nj Wc).names.lookup y=some .cell\/(Nj Wc).names.lookup y=some .free):=by rwa[Nat.add_comm]at h j i e
end
section
variable {X:Cx} {N':List Str} {scope:Scope} {elt iter:Expr} {x:Str} {px pos:Pos} {wi:TI} {te:TE} {ix:List Nat}
def dY (r:Vi Gy)(b:U9 JbL)(c:∀y∈scope.names,Jj6 y.2)(a:∀y∈scope.names,y.2=.local->Q2 y.1)(o:Q2 x)
  (f:X.Ok->∃n,JnW n)(s:N'.Nodup)(l:N'[0]?=some x)(e:Jeh (ix.length+1))
  (k:∀j i,ix[j]?=some i->∃y,X.N[i]?=some y/\N'[j+1]?=some y/\(JaH y\/JaG y)/\((Nj Wc).names.lookup y=some .cell\/(Nj Wc).names.lookup y=some .free))
  (p:Joh X (JL px))(q:∀n t d g,JmS n t d g elt te)(hs:∀v,Jgl v=pure v:=by intro _;rfl):
  PE X (Jl_ px [] 0) (tLC wi ix te) :=
 wh (by simp) r b c a f (e.trans (Jej _)) (hix1 k) p (λz z z z=>bb s l (GW o) (IW o)) tst0 q hs λz z z z h=>om h
end
theorem qD:∀(l:JcB NameKind) acc,(∀y∈l,y.2=.free->∃c,Jd2 y.1 c)->
  ∃b,JdQ (forIn l acc (λ y p=>if Vi (y.2==NameKind.free) then do let c <-cellOf env y.1;pure (ForInStep.yield ((y.1,c,)::p)) else pure (ForInStep.yield p)):Sem (JcB Addr)) b/\
   (∀y c,Xa (b.lookup y) c->Xa (acc.lookup y) c\/Jd2 y c)/\∀y,((y,NameKind.free,)∈l\/∃c,Xa (acc.lookup y) c)->∃c,Xa (b.lookup y) c
 |[],acc,_=>Ml acc (λx x h=>.inl h) (λy h=>h.elim (λz=>by cases z) λz=>z)
 | (n,k,) :: r,acc,f=>by
  by_cases e:k=.free
  .subst e;let(c,o):=f (n,.free,) VI rfl;let(b,j,i,g):=qD r ((n,c,) :: acc) λy a=>f y (Jb a);apply(b,?_,λy d h=>?_,λy h=>?_)
   .rw[List.forIn_cons];let s:cellOf env n=pure c:=by unfold cellOf;lia
    let t:Vi (NameKind.free==NameKind.free):=rfl;simp only[t,if_true,s,pure_bind];exact j
   .rcases i y d h with z | z
    .by_cases a:y=n
     .subst a;erw[List.lookup_cons,beq_self_eq_true]at z;exact .inr o
     .rw[List.lookup_cons,beq_eq_false_iff_ne.mpr a]at z;exact .inl z
    .exact .inr z
   .apply g y ?_;by_cases a:y=n
    .subst a;exact Jl c (by rw[List.lookup_cons,beq_self_eq_true])
    .rcases h with z | ⟨d,z⟩
     .rcases List.mem_cons.mp z with z | z
      .lia
      .exact .inl z
     .exact Jl d (by rwa[List.lookup_cons,beq_eq_false_iff_ne.mpr a]at z)
  .let(b,j,i,g):=qD r acc λy a=>f y (Jb a);apply(b,?_,i,λy h=>g y ?_)
   .rw[List.forIn_cons];let q:Yw (k == NameKind.free):=by simpa using e
    simp only[q,Bool.false_eq_true,if_false,pure_bind];exact j
   .rcases h with z | z
    .rcases List.mem_cons.mp z with z | z
     .lia
     .exact .inl z
    .exact .inr z
def de (o:X.Ok)(i:X.env.scope=sc)(a:∀x∈scope.names,Jj6 x.2)
  (r:∀y∈scope.names,y.2=.free->JlO y.1\/Xr y.1 .free):∃e,Clo X scope e:=by
 let(e,w,v,u):=qD (env:=Wc) scope.names [] λy p h=>o.has y.1 (by show X.env.scope.names.lookup y.1=_\/X.env.scope.names.lookup y.1=_;rwa[i]at r y p h)
 apply(e,?_,λy c h=>(v y c h).elim (λz=>by cases z) λz=>z,λy h=>u y (.inl ?_))
 .let A:=w
  show JdQ (forIn scope.names _ _>>=λz=>pure z) e;rwa[bind_pure]at A
 .let m:∃k,(k=.cell∨k=.free)∧(y,k,)∈(Nj Wc).names:=by
   rcases h with h|h
   .exact Q5 (.inl rfl) UZ
   .exact Q5 (.inr rfl) UZ
  let(k,q,l):=m;let((g,k0),h0,b):=List.mem_map.mp l;by_cases f:Vi (k0==NameKind.free&&X.env.scope.kind == .function&&X.env.kindOf g==some .cell)
  .lia
  .dsimp only at b;rw[if_neg f]at b;let j:g=y:=congrArg Yy b;let s:k0=k:=congrArg Jbr b;rw[j,s]at h0;rcases q with z | z
   .exact MS (a _ h0)
   .rw[z]at h0;exact h0
def tLCI (h:TI)(ix:List Nat)(tc:TT)(j:TE):TE:=λd H Q=>h d H λJ g=>∀D,Mf (g D) →
 ∃W:Nat->Nat->List V->Hp->Prop,(∃m,W 0 m [] (GB g D))/\
  ∀i m ys H',W i m ys H'->Ji3 D/\
   ((Jo1 H' (Mc D H'))∨(JgD H'∧∀x c,Jlh c→tc (JkB x d) c λb f =>
    if Vi b then j (JkB x d) f λy e=>Ia (e D) ys/\IM JcW/\∃a,a<m/\W Xi a (ys++[y]) (Va e D (ys++[y]))
    else ∃a,a<m/\W Xi a ys f))
def iE (u:Vi X.calm)(e:U9 JbL)(f:∀y∈scope.names,Jj6 y.2)(d:∀y∈scope.names,y.2=.local->Q2 y.1)(q:Q2 x)
  (k:X.Ok->∃l,JnW l)(w:N'.Nodup)(o:N'[0]?=some x)(g:Jeh (ix.length+1))
  (n:∀j i,ix[j]?=some i->∃y,X.N[i]?=some y/\N'[j+1]?=some y/\(JaH y\/JaG y)/\((Nj X.env).names.lookup y=some .cell\/(Nj X.env).names.lookup y=some .free))
  (s:Joh X (JL px))(r:∀l p a b,PT (JgZ l p a b) c tc)(t:∀l p a b,JmS l p a b elt te)(hs:∀v,Jgl v=pure v:=by intro _;rfl):
  PE X (Jl_ px [c] 0) (tLCI wi ix tc te) :=
 wh Js u e f d k (g.trans (Jej _)) (hix1 n) s (λz z z z=>bb w o (GW q) (IW q)) r t hs λz z z z h=>om h
def Inv.skip (I:Xm s)(hs:JpH C)(t:Nu C)(r:Gv C)(d:∀x c,JlM (c≠C))(l:∀p∈X.pn++pins,p.1≠C)(i:Nf C):
  Inv X pins σ H { s with heap:=h' }:=by
 let eq:∀b,b≠C->h'.get? b=s.heap.get? b:=λb f=>hs.2 b f;let nm:∀{b:Addr},b∉[C]->b≠C:=λh z=>h (z<|>VI);let u:Jdj [C] H H h':=(λb o e m m g=>(eq b (nm g)).trans e,λb o e m m g=>(o.slots,(eq b (nm g)).trans e),λb o e n m=>n,λb o e v=>(o,(eq b (nm v)).trans e),λm m q=>q,λm m m q=>q,λm ps q=>(#[],by rw[q];simp));let a:Jg2 H h':=λb j e=>by
  apply(JpY j).stay (λc y k q=>(eq c ?_).trans q) (λm q=>q) λm m q=>q;lia
 apply I.call' (s':={ s with heap:=h' }) (ch:=[C]) rfl u a I.bare λb f=>?_;let e:b=C:=mSq f;subst e;exact(.inr t,r,d,l)
def wj {P:St->VK->It->Hp->Prop}{i:Nat}{t:Str}{R r:Pos}(Y:X.N.Nodup)(U:X.N[i]?=some t)(hy:NO t)(K:Jj7 1)(hc:Vi X.calm)(u:U9 JbL)(B:∀y∈scope.names,Jj6 y.2)(n:∀y∈scope.names,y.2=.local->Q2 y.1)
  (M:X.Ok->∃l,JnW l)(G:Jeh (L+ix.length))
  (W:∀j i,ix[j]?=some i->∃y,X.N[i]?=some y/\N'[L+j]?=some y/\(JaH y\/JaG y)/\((Nj X.env).names.lookup y=some .cell\/(Nj X.env).names.lookup y=some .free))
  (hi:Joh X tg)(hg:∀l o b d,PG (JgZ l o b d) tg g)(ht:∀l o b d f s k H Q,Jg0 l o b d f k H s->tc k H Q->NA (tstA (JgZ l o b d).env ifs) (TP (JgZ l o b d) f k Q) (JgZ l o b d).xe s)(he:∀l o b d,JmS l o b d elt te)(S:JdQ (Jio (Jo9 tg 0) (.Name t R) r.line) true)
  (hf:V_ t\/JiU (X.env.scope.names.lookup t))(hs:∀v,JdQ (Jgl v) v)
  (hP:∀k Q J O,P k Q J O->lcB L ix g tc te k Q J O):PS X (Jga (.Name t R) (Jo9 tg 0) r) (JjX (λk H Q=>wi k H (P k Q)) i):=by
 intro f s k H Dn I h;rw[exec_Assign_Name_used _ _ _ _ S];apply QM (wpAny_bind ?_);rw[arm_evalThenUse_ListComp];apply wpAny_bind (wpAny_mono (we (use:=some _) K hc u B n M G W hi hg ht he hs I h (hP _ _) λl o s3 s6 H3 H5 σ6 D C I6 f3 q=>?_) (λE s' h'=>Jt h') λE E z=>z);let(m,hn,_):=I6.loc;let Io:=wa (h':=s6.heap) C I6 f3 (WO (λE E=>rfl));apply wpAny_assign_Name (vm (v:=.ref D) Io Y U hy rfl (λs7 I7 (a,sb,ha)=>?_) hf);let F:∀x c,JlM (c<s3.heap.objs.size):=λx c e=>by let(v,hv):=C.cell x c e;exact hv.lt
 let Z:s3.heap.objs.size≠a:=by
  rintro rfl;rcases ha with z|z
  .exact absurd C.lt (by rwa[<-z]at Nat.lt_irrefl _)
  .exact Mu (F _ _ z) _
 apply(m,hn.sameBut sb Z,λh' T=>(_,H5,?_,q));exact I7.skip T C.sz (Nat.ne_of_gt C.lt) (λx c e=>Nat.ne_of_lt (F x c e)) (λp hp=>XM (C.pin p hp).1) I6.free
def wm (o:X.N.Nodup)(l:X.N[i]?=some y0)(s:NO y0)(z:Vi X.calm)(b:U9 JbL)(c:∀y∈scope.names,Jj6 y.2)(a:∀y∈scope.names,y.2=.local->Q2 y.1)(r:Q2 x)
  (f:X.Ok->∃q,JnW q)(A:N'.Nodup)(p:N'[0]?=some x)(e:Jeh (ix.length+1))
  (n:∀j i,ix[j]?=some i->∃y,X.N[i]?=some y/\N'[j+1]?=some y/\(JaH y\/JaG y)/\((Nj X.env).names.lookup y=some .cell\/(Nj X.env).names.lookup y=some .free))
  (t:Joh X (JL px))(w:∀q B d g,JmS q B d g elt te)(k:Jio (Jl_ px [] 0) (.Name y0 py) spos.line=pure true:=by rfl)
  (u:V_ y0\/X.env.scope.names.lookup y0=some .local:=by first|exact .inl rfl|exact .inr rfl|assumption)(hs:∀v,Jgl v=pure v:=by intro _;rfl):
  PS X (Jga (.Name y0 py) (Jl_ px [] 0) spos) (JjX (tLC wi ix te) i) :=
 wj o l s Js z b c a f (e.trans (Jej _)) (hix1 n) t (λm m m m=>bb A p (GW r) (IW r)) tst0 w k u hs λm m m m h=>om h
def wo (q:X.N.Nodup)(o:X.N[i]?=some y0)(u:NO y0)(C:Vi X.calm)(e:U9 JbL)(f:∀y∈scope.names,Jj6 y.2)(d:∀y∈scope.names,y.2=.local->Q2 y.1)(t:Q2 x)
  (k:X.Ok->∃l,JnW l)(D:N'.Nodup)(r:N'[0]?=some x)(g:Jeh (ix.length+1))
  (p:∀j i,ix[j]?=some i->∃y,X.N[i]?=some y/\N'[j+1]?=some y/\(JaH y\/JaG y)/\((Nj X.env).names.lookup y=some .cell\/(Nj X.env).names.lookup y=some .free))
  (z:Joh X (JL px))(w:∀l s a b,PT (JgZ l s a b) c tc)(B:∀l s a b,JmS l s a b elt te)(n:Jio (Jl_ px [c] 0) (.Name y0 py) spos.line=pure true:=by rfl)
  (A:V_ y0\/X.env.scope.names.lookup y0=some .local:=by first|exact .inl rfl|exact .inr rfl|assumption)(hs:∀v,Jgl v=pure v:=by intro _;rfl):
  PS X (Jga (.Name y0 py) (Jl_ px [c] 0) spos) (JjX (tLCI wi ix tc te) i) :=
 wj q o u Js C e f d k (g.trans (Jej _)) (hix1 p) z (λm m m m=>bb D r (GW t) (IW t)) w B n A hs λm m m m h=>om h
inductive Dt where
 |non|bl (b:Bool)|int (i:Int)|str (x:Str)|tup (xs:List Dt)|lst (xs:List Dt)
mutual
def peq:Dt->Dt->Bool
 |.non,.non=>true
 |.bl a,.bl b=>a==b
 |.bl a,.int b=>(if a then 1 else 0)==b
 |.int a,.bl b=>a==(if b then 1 else 0)
 |.int a,.int b=>a==b
 |.str a,.str b=>a==b
 |.tup xs,.tup ys=>eQ xs ys
 |.lst xs,.lst ys=>eQ xs ys
 |_,_=>false
def eQ:Je2 Dt (Je2 Dt Bool)
 |[],[]=>true
 |x::xs,y::ys=>peq x y&&eQ xs ys
 |_,_=>false
end
mutual
def dep:Dt->Nat
 |.tup xs=>bx xs+1
 |.lst xs=>bx xs+1
 |.non=>0
 |.bl _=>0
 |.int _=>0
 |.str _=>0
def bx:Je2 Dt Nat
 |[]=>0
 |x::xs=>Jm7 (dep x) xs
end
mutual
def nob:Dt->Bool
 |.bl _=>false
 |.tup xs=>hO xs
 |.lst xs=>hO xs
 |.non=>true
 |.int _=>true
 |.str _=>true
def hO:Je2 Dt Bool
 |[]=>true
 |x::xs=>nob x&&hO xs
end
def qG (x y)(xs ys):eQ (x::xs) (y::ys)=(peq x y&&eQ xs ys):=rfl
mutual
theorem eR:∀d:Dt,U0 d d
 |.non=>rfl
 |.bl a=>beq_self_eq_true a
 |.int a=>beq_self_eq_true a
 |.str a=>beq_self_eq_true a
 |.tup xs=>oo xs
 |.lst xs=>oo xs
theorem oo:∀d:List Dt,Vi (eQ d d)
 |[]=>rfl
 |x::xs=>by rw[qG,eR x,oo xs];rfl
end
mutual
theorem qH:∀d e:Dt,JpC d->JpC e->U0 d e->d=e
 |.non,e,_,_,h=>by cases e<;>first|rfl|cases (show Vi false from h)
 |.bl _,e,h,_,_=>nomatch (show Vi false from h)
 |.int _,e,_,a,h=>by cases e<;>first|cases (show Vi false from a)|cases (show Vi false from h)|exact congrArg Ie (oDq h)
 |.str _,e,_,a,h=>by cases e<;>first|cases (show Vi false from h)|exact congrArg Dt.str (eq_of_beq h)
 |.tup xs,e,b,a,h=>by
  cases e with
  |tup ys=>rw[oq xs ys b a h]
  |_=>cases (show Vi false from h)
 |.lst xs,e,b,a,h=>by
  cases e with
  |lst ys=>rw[oq xs ys b a h]
  |_=>cases (show Vi false from h)
theorem oq:∀d e:List Dt,Vi (hO d)->Vi (hO e)->Vi (eQ d e)->d=e
 |[],e,_,_,h=>by cases e<;>first|rfl|cases (show Vi false from h)
 | x :: xs,e,b,a,h=>by
  cases e with
  |nil=>cases (show Vi false from h)
  |cons y ys=>
   rw[qG,Bool.and_eq_true]at h;simp only[hO,Bool.and_eq_true]at b a;rw[qH x y b.1 a.1 h.1,oq xs ys b.2 a.2 h.2]
end
mutual
def Has (K:W.Frag)(H:Hp):Dt->V->Prop
 |.non,v=>v=.non
 |.bl b,v=>v=.bl b
 |.int i,v=>JdP v i
 |.str x,v=>v=.str x
 |.tup c,v=>∃a xs,Nk v a/\UR a/\Wy c
 |.lst c,v=>∃a xs,Nk v a/\XR a/\Wy c
def ar (K:W.Frag)(H:Hp):List Dt->List V->Prop
 |[],vs=>vs=[]
 |d::a,vs=>∃v r,vs=v::r/\JlU d/\Vt a r
end
theorem ar.length {K:W.Frag}{H:Hp}:∀{a:List Dt} {vs:List V},Vt a vs->a.length=JrX
 |[],vs,h=>by simp only[ar]at h;rw[h];rfl
 |d::a,vs,h=>by simp only[ar]at h;let(v,r,rfl,_,b):=h;rw[List.length_cons,List.length_cons,ar.length b]
theorem ar.get {K:W.Frag}{H:Hp}:∀{a:List Dt} {vs:List V} {i:Nat} {v:V},Vt a vs->vs[i]?=some v->∃d,a[i]?=some d/\JlU d
 |[],vs,i,v,h,e=>by simp only[ar]at h;rw[h]at e;simp at e
 | d :: a,vs,i,v,h,e=>by
  simp only[ar]at h;let(j,r,rfl,c,b):=h;cases i with
  |zero=>simp at e;subst e;exact Nd d c
  |succ i=>
   let(d',g,f):=ar.get b (by simpa using e);exact(d',by simpa using g,f)
theorem ar.getD {K:W.Frag}{H:Hp}:∀{a:List Dt} {vs:List V} {i:Nat} {d:Dt},Vt a vs->a[i]?=some d->∃v,vs[i]?=some v/\JlU d
 |[],vs,i,d,h,e=>by simp at e
 | k :: a,vs,i,d,h,e=>by
  simp only[ar]at h;let(b,r,rfl,f,c):=h;cases i with
  |zero=>simp at e;subst e;exact Nd b f
  |succ i=>
   let(v,j,g):=ar.getD c (by simpa using e);exact(v,by simpa using j,g)
theorem ar.append {K:W.Frag}{H:Hp}:∀{b es:List Dt} {vs a:List V},Vt b vs->Vt es a->Vt (b++es) (vs++a)
 |[],es,vs,a,h,h'=>by simp only[ar]at h;rwa[h]at h'
 |d::b,es,vs,a,h,h'=>by simp only[ar]at h;let(v,r,rfl,e,c):=h;show Vt (d::(b++es)) (v::(r++a));simp only[ar];exact Qp v (r++a) e (ar.append c h')
def ar.one {K:W.Frag}{H:Hp}{d:Dt}{v:V}(h:JlU d):Vt [d] [v]:=by simp only[ar];exact Qp v [] h rfl
theorem ar.ints {K:W.Frag}{H:Hp}:∀ns:List Int,Vt (ns.map Ie) (ns.map V.int)
 |[]=>by rfl
 |n::ns=>by simp only[List.map_cons,ar];exact Qp _ _ (by rfl) (ar.ints ns)
mutual
def nol:Dt->Bool
 |.lst _=>false
 |.tup xs=>bX xs
 |.non=>true
 |.bl _=>true
 |.int _=>true
 |.str _=>true
def bX:Je2 Dt Bool
 |[]=>true
 |x::xs=>nol x&&bX xs
end
def bj (H H':Hp):Prop:=∀b xs,Rd H b (.tup xs)->Rd H' b (.tup xs)
def bj.sq {K:W.Frag}{H H':Hp}{a:Addr}{xs:List V}(k:JgF H')(h:UR a):Yf H' a xs:=h.elim (λz=>.inl (k a xs z)) .inr
def bj.trans (a:JgF H1)(b:bj H1 H2):JgF H2:=λc xs h=>b c xs (a c xs h)
def bj.of_same (e:Xd H):JgF H':=λb xs h=>by
 rcases h with h|⟨o,h⟩
 .exact .inl Jr4
 .exact Jl o Jr4
def bj.lst (h:VT l):Jjk l ys:=λb zs q=>by
 rcases q with q|⟨o,q⟩
 .exact .inl (Jow q h (λz=>by cases z)<|>q)
 .exact Jl o (Jow q h (λz=>by cases z)<|>q)
def bj.new (h:Nf l):JgF (Jm l o):=bj.of_same λb u q=>by rwa[NP q h]at q
mutual
theorem Has.keep {K:W.Frag}{H H':Hp}(k:JgF H'):∀{d:Dt} {v:V},Jcc d->JlU d->Has K H' d v
 |.non,v,_,h=>by simp only[Has]at h⊢;exact h
 |.bl _,v,_,h=>by simp only[Has]at h⊢;exact h
 |.int _,v,_,h=>by simp only[Has]at h⊢;exact h
 |.str _,v,_,h=>by simp only[Has]at h⊢;exact h
 |.tup f,v,n,h=>by simp only[Has]at h⊢;simp only[nol]at n;let(a,xs,e,c,b):=h;exact(a,xs,e,k.sq c,ar.keep k n b)
 |.lst _,v,n,h=>by simp [nol]at n
theorem ar.keep {K:W.Frag}{H H':Hp}(k:JgF H'):∀{a:List Dt} {vs:List V},MU a->Vt a vs->V3 a vs
 |[],vs,_,h=>by simp only[ar]at h⊢;exact h
 |d::a,vs,n,h=>by simp only[ar]at h⊢;simp only[bX,Bool.and_eq_true]at n;let(v,r,e,c,b):=h;exact(v,r,e,Has.keep k n.1 c,ar.keep k n.2 b)
end
def wq (I:Xm s){a:Addr}{xs ys:List V}(h:JmN a xs)(h':Jqa ys):False:=by let(g,_,p,_):=I.list h;let(f,_,q,_):=I.tuple h';let(o,e,c,_):=Jci;let(i,b,d,_):=q;lia
mutual
theorem Has.inj (I:Xm s):∀(d e:Dt) (v:V),Jk5 d v->Jk5 e v->d=e
 |.non,e,v,h,h' | .bl b,e,v,h,h' | .int b,e,v,h,h' | .str b,e,v,h,h'=>by simp only[Has]at h;subst h;cases e<;>simp only[Has]at h'<;>first|rfl|(cases h';done)|(cases h';rfl)|(let(_,_,z,_):=h';cases z)
 | .tup j,e,v,h,h'=>by
  simp only[Has]at h;let(a,xs,rfl,g,i):=h;cases e with
  |tup es=>
   simp only[Has]at h';let(k,ys,z,f,c):=h';cases z;rw[I.tuple_inj f g]at c;rw[ar.inj I j es xs i c]
  |lst es=>
   simp only[Has]at h';let(k,ys,z,f,c):=h';cases z;exact(wq I f g).elim
  |_=>simp only[Has]at h';cases h'
 | .lst j,e,v,h,h'=>by
  simp only[Has]at h;let(a,xs,rfl,g,i):=h;cases e with
  |lst es=>
   simp only[Has]at h';let(k,ys,z,f,c):=h';cases z;rw[I.list_inj f g]at c;rw[ar.inj I j es xs i c]
  |tup es=>
   simp only[Has]at h';let(k,ys,z,f,c):=h';cases z;exact(wq I g f).elim
  |_=>simp only[Has]at h';cases h'
theorem ar.inj (I:Xm s):∀(a es:List Dt) (vs:List V),JjR a vs->JjR es vs->a=es
 |[],es,vs,h,h'=>by
  simp only[ar]at h;subst h;cases es with
  |nil=>rfl
  |cons e es=>simp only[ar]at h';let(_,_,z,_):=h';cases z
 | d :: a,es,vs,h,h'=>by
  simp only[ar]at h;let(v,r,rfl,g,f):=h;cases es with
  |nil=>simp only[ar]at h';cases h'
  |cons e es=>
   simp only[ar]at h';let(i,j,z,c,b):=h';cases z;rw[Has.inj I d e v g c,ar.inj I a es r f b]
end
def jA (a es:List Dt)(j:Nat):Bool:=match a[j]?,es[j]? with
 |some d,some e=>Jm8 e
 |_,_=>true
def A7 (d e)(a es):jA (d::a) (QV e) 0=peq d e:=rfl
theorem ou:∀a es,((List.range (min a.length es.length)).all (jA a es)&&a.length==es.length)=eQ a es
 |[],[]=>rfl
 |[],e::es=>by rfl
 |d::a,[]=>by rfl
 |d::a,e::es=>by
  let b:=ou a es;let f:min (d::a).length (QV e).length=min a.length es.length+1:=by simp only[List.length_cons];exact Nat.add_min_add_right _ _ 1
  rw[f,List.range_succ_eq_map,List.all_cons,A7,List.all_map];let c:(jA (d::a) (QV e) ∘ Nat.succ)=jA a es:=by rfl
  rw[c,List.length_cons,List.length_cons,qG,<-b,Bool.and_assoc];congr 2;simp
def A8 (h:ds.length=es.length):(List.range ds.length).all (jA ds es)=eQ ds es:=by rw[<-ou,<-h,Nat.min_self];simp
def A9 (h:ds.length≠es.length):Yw (eQ ds es):=by
 rw[<-ou];lia
def qI (I:Xm s){a:Addr}{xs:List V}{c:List Dt}(h:Jqa xs)(g:JjR c xs):∃b:List Value,Jlo b/\V1 b.toArray/\Jnq c.length:=by let(b,r,p,_):=I.tuple h;exact(b,r,p,by rw[sAq,<-r.length,<-g.length])
def qJ (I:Xm s){a:Addr}{xs:List V}{c:List Dt}(h:JmN a xs)(g:JjR c xs):∃b:List Value,Jlo b/\s.heap.IsList a b.toArray/\Jnq c.length:=by let(b,r,p,_):=I.list h;exact(b,r,Jci,by rw[sAq,<-r.length,<-g.length])
def qK (s:Shared)(A:Around)(a es:List Dt)(xs ys:List V):Prop :=
 ∀us zs,UM xs->bc ys zs->∀j u z,us[j]?=some u->zs[j]?=some z->Jdn Jqt u z (jA a es j)
def rcTT (I:Xm s){A:Around}{a b:Addr}{xs ys:List V}{f es:List Dt}(v:Jqa xs)(x:JjR f xs)(u:JmL b ys)(w:JjR es ys)(l:Wx A.units)
  (t:qK s A f es xs ys):Jdk s (.ref a) (.ref b) (eQ f es)/\SeqAt.RcNeAt A s (.ref a) (.ref b) (!eQ f es):=by let(d,r,k,o):=qI I v x;let(c,p,i,n):=qI I u w;let q:∀j k1 (k2:j<c.toArray.size),SeqAt.EqAt Jqt s d.toArray[j] Jfn[j] _:=λj k1 k2=>t d c r p j _ _ (by simp at k1 ⊢) (by simp at k2 ⊢);let h:=SeqAt.RcAt.tuples k i l q;let g:=SeqAt.RcNeAt.tuples k i l q;rw[o,n,ou]at h g;exact(h,g)
def rcLL (I:Xm s){A:Around}{a b:Addr}{xs ys:List V}{f es:List Dt}(x:JmN a xs)(z:JjR f xs)(w:JmN b ys)(y:JjR es ys)(n:Wx A.units)
  (v:qK s A f es xs ys):Jdk s (.ref a) (.ref b) (eQ f es)/\SeqAt.RcNeAt A s (.ref a) (.ref b) (!eQ f es):=by
 let(d,u,l,i):=qJ I x z;let(c,t,k,o):=qJ I w y;by_cases h:f.length=es.length
 .let q:∀j k1 (k2:j<c.toArray.size),SeqAt.EqAt Jqt s d.toArray[j] Jfn[j] _:=λj k1 k2=>v d c u t j _ _ (by simp at k1 ⊢) (by simp at k2 ⊢);let r:=SeqAt.RcAt.lists l k (by rw[i,o,h]) n q;let p:=SeqAt.RcNeAt.lists l k (by rw[i,o,h]) n q;rw[i,A8 h]at r p;exact(r,p)
 .let g:Vi (d.toArray.size != c.toArray.size):=by rw[i,o];simpa using h
  rwa[A9 h]at(SeqAt.RcAt.lists_lengths l k g n,SeqAt.RcNeAt.lists_lengths l k g n)
def wu {A:Around}{d:Dt}(h:V6 (dep d)):Wx A.units:=Nat.lt_of_le_of_lt (N9 _) h
noncomputable def vwD:V->Dt
 |.bl b=>.bl b
 |.int i=>.int i
 |.str x=>.str x
 |_=>.non
inductive Vw (K:W.Frag)(H:Hp)(s:Shared):Dt->Value->Prop
 |fl {x u}:Fv x u->Vw K H s (vwD x) u
 |tup {ds a xs its}:UR a->Wy ds->V1 its->Vw K H s (.tup ds) (.ref a)
 |lst {ds a xs its}:Je3 a (Wy ds->s.heap.IsList a its->Vw K H s (.lst ds) (.ref a))
def Has.vw (I:Xm s){d:Dt}{v:V}{u:Value}(h:Jk5 d v)(r:QN v):Vw X.K H s d u:=by
 cases d with
 |tup e=>
  simp only[Has]at h;let(a,xs,rfl,c,b):=h;cases (show JlP a from r);let(_,_,p,_):=qI I c b;exact .tup c b p
 |lst e=>
  simp only[Has]at h;let(a,xs,rfl,c,b):=h;cases (show JlP a from r);let(_,_,p,_):=qJ I c b;exact .lst c b p
 |_=>simp only[Has]at h;subst h;exact .fl (r.fv rfl)
def wx (I:Xm s){A:Around}{d e:Dt}{v w:V}{u z:Value}(h:Jk5 d v)(h':Jk5 e w)(r:QN v)(c:bn w z)(q:Jdk s u z (Jm8 e)):Jdn A u z (Jm8 e):=λprog w E Q a=>by
 apply wpAny_holding (wpAny_ite_split (λb=>?_) λ_=>?_)
 .cases eq_of_beq b;cases r.inj c;cases Has.inj I _ _ _ h h';rw[eR]at a;exact MO a
 .obtain f | _ | _:=h.vw I r;cases f
  all_goals exact wpAny_bind (q prog w E _ (wpAny_truthy_bool a))
def rc_V (I:Xm s){A:Around}{d e:Dt}{u z:Value}(a:Vw X.K H s d u)(b:Vw X.K H s e z)(c:Wx A.units)
  (i:∀h es xs ys,(d=.tup h\/d=.lst h)->JjR h xs->JjR es ys->qK s A h es xs ys):Jdk s u z (Jm8 e)/\SeqAt.RcNeAt A s u z (!Jm8 e):=by
 obtain f|_|_:=a<;>obtain g|_|_:=b
 .let k:=rcF (A:=A) (s:=s) f g;cases f<;>cases g<;>exact k
 .cases f;exact(.none_tuple ‹_› c,.none_tuple ‹_› c);exact(.bool_tuple _ ‹_› c,.bool_tuple _ ‹_› c);exact(.int_tuple _ _ ‹_› c,.int_tuple _ _ ‹_› c);exact(.str_tuple _ _ ‹_› c,.str_tuple _ _ ‹_› c)
 .cases f;exact(.none_list ‹_› c,.none_list ‹_› c);exact(.bool_list _ ‹_› c,.bool_list _ ‹_› c);exact(.int_list _ _ ‹_› c,.int_list _ _ ‹_› c);exact(.str_list _ _ ‹_› c,.str_list _ _ ‹_› c)
 .cases g;exact(.tuple_none ‹_› c,.tuple_none ‹_› c);exact(.tuple_bool _ ‹_› c,.tuple_bool _ ‹_› c);exact(.tuple_int _ _ ‹_› c,.tuple_int _ _ ‹_› c);exact(.tuple_str _ _ ‹_› c,.tuple_str _ _ ‹_› c)
 .exact rcTT I ‹_› ‹_› ‹_› ‹_› c (i _ _ _ _ (.inl rfl) ‹_› ‹_›)
 .exact(.tuple_list ‹_› ‹_› c,.tuple_list ‹_› ‹_› c)
 .cases g;exact(.list_none ‹_› c,.list_none ‹_› c);exact(.list_bool _ ‹_› c,.list_bool _ ‹_› c);exact(.list_int _ _ ‹_› c,.list_int _ _ ‹_› c);exact(.list_str _ _ ‹_› c,.list_str _ _ ‹_› c)
 .exact(.list_tuple ‹_› ‹_› c,.list_tuple ‹_› ‹_› c)
 .exact rcLL I ‹_› ‹_› ‹_› ‹_› c (i _ _ _ _ (.inr rfl) ‹_› ‹_›)
mutual
theorem rc_D (I:Xm s)(A:Around):∀(d e:Dt) (v w:V) (u z:Value),Jk5 d v->Jk5 e w->QN v->bn w z->V6 (dep d)->Jdk s u z (Jm8 e)/\SeqAt.RcNeAt A s u z (!Jm8 e)
 |.tup c,e,v,w,u,z,h,h',r,b,a | .lst c,e,v,w,u,z,h,h',r,b,a=>rc_V I (h.vw I r) (h'.vw I b) (wu a) λes k xs ys q g g' us zs i f j u z n l=>by rcases q with q|q<;>cases q;exact wy I c k xs ys us zs Jqt g g' i f (by simp only[dep]at a;rw[Around.in1_units];lia) j u z n l
 |.non,e,v,w,u,z,h,h',r,b,a | .bl _,e,v,w,u,z,h,h',r,b,a | .int _,e,v,w,u,z,h,h',r,b,a | .str _,e,v,w,u,z,h,h',r,b,a=>rc_V I (h.vw I r) (h'.vw I b) (wu a) λx x x x q=>by rcases q with q|q<;>cases q
theorem wy (I:Xm s):∀(c es:List Dt) (vs f:List V) (us zs:List Value) (A:Around),JjR c vs->JjR es f->UM vs->bc f zs->V6 (bx c)->
  ∀(j:Nat) (u z:Value),us[j]?=some u->zs[j]?=some z->Jdn A u z (jA c es j)
 |[],es,vs,f,us,zs,A,h,h',r,g,l,j,u,z,b,a=>by simp only[ar]at h;subst h;cases r;simp at b
 | d :: c,es,vs,f,us,zs,A,h,h',r,g,l,j,u,z,b,a=>by
  simp only[ar]at h;let(v,rs,rfl,o,y):=h;cases r with
  | cons k t =>
   cases es with
   |nil=>
    simp only[ar]at h';subst h';cases g;simp at a
   | cons e es =>
    simp only[ar]at h';let(w,p,rfl,n,x):=h';simp only[bx]at l;cases g with
    | cons i q =>
     cases j with
     |zero=>
      simp at b a;subst b a;exact wx I o n k i (rc_D I A d e v w _ _ o n k i Jn).1
     |succ j=>exact wy I c es rs p _ _ A y x t q Jn j u z (by simpa using b) (by simpa using a)
end
section
inductive rEqD (K):R2|m{x y H Q} d e:JlT d x->JlT e y->dep d<=60->Jpa (Jm8 e) (rEqD K x y H Q)
inductive rNeD (K):R2|m{x y H Q} d e:JlT d x->JlT e y->dep d<=60->Jpa (!Jm8 e) (rNeD K x y H Q)
def gD (g:Jbq 64):Gm X .Eq (rEqD X.K):=by intro pins s σ H x y v u Q I b a h;let(d,e,f,c,i,q):=h;exact(rc_D I X.A d e x y v u f c b a Jn).1 _ _ _ _ Jsq
def qM (g:Jbq 64):Gm X .NotEq (rNeD X.K):=by intro pins s σ H x y v u Q I b a h;let(d,e,f,c,i,q):=h;exact(rc_D I X.A d e x y v u f c b a Jn).2 _ _ _ _ Jsq
open Classical in
noncomputable def hitD (K:W.Frag) (H:Hp) (d:Dt) (u:Value):Bool:=decide (∃(v:V) (d':Dt),QN v/\JlU d'/\U0 d' d)
open Classical in
def qO (I:Xm s){d d':Dt}{v:V}{u:Value}(r:QN v)(h:Jk5 d' v):hitD X.K H d u=peq d' d:=by
 unfold hitD;cases e:Jlw d' with
 |true=>exact dTq (v,d',r,h,e)
 |false=>
  apply dFq λh_=>?_;let(c,f,b,h',a):=h_;rw[b.inj r]at h';erw[Has.inj I _ _ _ h' h,e]at a
theorem ma (I:Xm s){d:Dt}:∀{a:List Dt} {vs:List V} {us:List Value},JjR a vs->UM vs->us.any (Jj8 H d)=a.any λd'=>Jlw d'
 |[],vs,us,h,r=>by simp only[ar]at h;subst h;cases r;rfl
 |d'::a,vs,us,h,r=>by
  simp only[ar]at h;let(v,rs,rfl,f,e):=h;cases r with
  |cons c b=>rw[List.any_cons,List.any_cons,qO I c f,ma I e b]
theorem kC (I:Xm s){A:Around}{d:Dt}{x:V}{i:Value}(e:Jk5 d x)(b:bn x i):∀{g:List Dt} {vs:List V} {us:List Value},JjR g vs->UM vs->V6 (bx g)->∀u∈us,Jdn A u i (hitD X.K H d u)
 |[],vs,us,h,r,j,u,a=>by simp only[ar]at h;subst h;cases r;cases a
 | d' :: g,vs,us,h,r,j,u,a=>by
  simp only[ar]at h;let(v,rs,rfl,f,l):=h;simp only[bx]at j;cases r with
  |cons c k=>
   rcases List.mem_cons.mp a with rfl|a
   .rwa[qO I c f]at wx I f e c b (rc_D I A d' d v x _ _ f e c b Jn).1
   .exact kC I e b l k Jn u a
inductive rInD (K)(neg:Bool):R2|m{x y H Q} p xs ds d:Nk y p->(XR p\/UR p)->Wy ds->JlT d x->JiR ds 60->Jpa (if neg then !(ds.any λd'=>Jlw d') else ds.any λd'=>Jlw d') (rInD K neg x y H Q)
def wz (k:Jbq 64):Gm X .In (rInD X.K false):=by
 intro pins s σ H x y v u Q I f i h;let(p,xs,j,d,rfl,b,hs,g,l,q):=h;cases i;let c:Wx (Jpw (bx j)):=by rw[Around.in1_units];lia
 rcases b with b|b
 .let(a,r,pl,hz):=I.list b;apply SeqAt.in_listAt _ Gj Vm MB;rwa[show a.toArray.any _=a.any (Jj8 H d) by simp,ma I hs r]at q
 .let(a,r,pl,hz):=I.tuple b;apply SeqAt.in_tupleAt _ pl Vm MB;rwa[show a.toArray.any _=a.any (Jj8 H d) by simp,ma I hs r]at q
def A_ (k:Jbq 64):Gm X .NotIn (rInD X.K true):=by
 intro pins s σ H x y v u Q I f i h;let(p,xs,j,d,rfl,b,hs,g,l,q):=h;cases i;let c:Wx (Jpw (bx j)):=by rw[Around.in1_units];lia
 rcases b with b|b
 .let(a,r,pl,hz):=I.list b;apply SeqAt.notIn_listAt _ Gj Vm MB;rwa[show a.toArray.any _=a.any (Jj8 H d) by simp,ma I hs r]at q
 .let(a,r,pl,hz):=I.tuple b;apply SeqAt.notIn_tupleAt _ pl Vm MB;rwa[show a.toArray.any _=a.any (Jj8 H d) by simp,ma I hs r]at q
inductive wA (K):V->List V->Hp->VK->Prop|m{x vs H Q} l xs ds y d j:Jd9 l (vs=[y]->VT l->Wy ds->JlT d y->JiR ds 60->(∃dj,ds[j]?=some dj/\U0 dj d)->(∀m dm,m<j->ds[m]?=some dm->Yw (Jlw dm))->Mn (j:Nat) H->wA K x vs H Q)
def wB (Y:Jbq 64):MtM X "list.index" (wA X.K):=by
 intro pins s σ H x vs v us Q I J L h;let(l,xs,p,y,d,j,rfl,rfl,S,hs,N,hd,(dj,G,R),B,q):=h;cases J;let(u,rfl,M):=L.one;let(z,a,n,r,Z,e):=I.lstM S;let E:=JrZ;let P:j<p.length:=(gEq G).1;let D:Wx (Jpw (bx p)):=by rw[Around.in1_units];lia
 let o:∀m (b:m<Jnh),∃k,p[m]?=some k/\hitD Gh H d Jc1[m]=peq k d:=λm b=>by
  let f:m<p.length:=by rw[sAq]at b;simp [*]
  let(w,c,i):=hs.getD (gG f);let(wv,W,U):=r.get c;let T:a.toArray[m]=wv:=by have:a[m]?=some wv:=W;simp only[List.getElem_toArray];rw[gG (by rw[sAq]at b;exact b)]at this;exact Option.some.inj this
  exact Q5 (gG f) (T<|>qO I U i)
 let g:j<a.toArray.size:=by rw[sAq];simp_all
 let t:(j:Int)<2^63-1:=by have:=sizeLine_eq;lia -ac
 apply Ji7 F.slot_list_index e F.entry_list_index (F.args_list_index_2 _ _) (SeqAt.list_indexAt l a.toArray n none #[] u (Jj8 H d) j g t ?_ ?_) (Gc e ?_)
 .let(k,c,i):=o j g;erw[G]at c;rw[i,R]
 .intro m b C;let(k,c,i):=o m b;rw[i,B m k C c]
 .intro w O;exact kC I N M hs r D w (by simpa using O)
 .exact Jf6 (j:Nat) H _ _ q
end
structure FB (P)(w)(K)(mg)(base)(CX:CXT)(k)(x)(f)(fd)(ps)(sp):Prop where
 ok:Vb P w K mg CX k f fd ps sp
 b:Yj fd ps
 kp:JkA f
 m:mg x=Ja f
def bsz (n)(h:Jr n):Qd n:=MW h
def hln (h:n<=200000):IM n:=by rw[sizeLine_eq];lia
def iZ:PSs X ss (λx x x=>False):=λx x x x x x h=>h.elim
def gi (a:ag k A):V6 64:=a.units
def jB (K:W.Frag)(n:String):Jbz K n n=some true:=by unfold W.kitOne;rw[if_pos (by simp)]
def qP {ns:List Int}{i:Nat}{n:Int}(h:ns[i]?=some n):atI (ns.map V.int) (i:Int)=some (.int n):=ay (by rw[List.getElem?_map,h];rfl)
def a_ {a:Type}{xs:List a}{i:Nat}{x:a}(h:xs[i]?=some x):xs.take Xi=xs.take i++[x]:=by rw[List.take_add_one,h];rfl
def aW (h:Nf p)(o):M9 (Jm p o):=λb u q=>by rwa[NP q h]at q
def ap.upd (s:ap H0 H)(h:Jc_ l):ap H0 (Jm l o):=λb u q=>by rwa[NP q h]at s b u q
def ap.kt (s:Xd H):JgF H':=bj.of_same s
def ap.tup {K:W.Frag}{H H':Hp}{a:Addr}{xs:List V}(s:Xd H)(h:UR a):Yf H' a xs:=s.kt.sq h
structure Wk (J:It)(n)(Ok:Hp->Prop):Prop where
 stop:∀i H,Ok H->n<=i->Jbe H
 go:∀i H,Ok H->i<n->JgD H
def wC {lo:Int}{n:Nat}:Wk (Itr lo n) n (λx=>True):=(λx x x h=>h,λx x x h=>h)
def dv {K:W.Frag}{a:Addr}{xs:List V}:JbO (Itl K a) (λH=>XR a):=(λx x h b=>(xs,h,b),λi x h b=>(xs,xs[i],h,by simp [b]))
def cS {K:W.Frag}{a:Addr}{xs:List V}:JbO (Itt K a) (λH=>UR a):=(λx x h b=>(xs,h,b),λi x h b=>(xs,xs[i],h,by simp [b]))
def LcW (n:Nat)(D:Addr)(a:Nat->List V->Hp->Prop)(i m:Nat)(ys:List V)(H:Hp):Prop:=m=n-i/\i<=n/\Jee i/\Qr D ys/\a i ys H
def ov (n:Nat)(D:Addr)(c:Nat->List V->Hp->Prop)(i:Nat)(ys:List V):VK:=λy b=>Ia (b D) ys/\IM JcW/\∃a,a<n-i/\LcW n D c Xi a (ys++[y]) (Va b D (ys++[y]))
def wD (n:Nat)(D:Addr)(b:Nat->List V->Hp->Prop)(i:Nat)(ys:List V)(c:Hp):Prop:=∃a,a<n-i/\LcW n D b Xi a ys c
def cv (c:Qd n)(a:i<n)(d:Jee i)(b:Ia (H3 D) ys)(p:Pv (i+1) (ys++[y]) (Va H3 D (ys++[y]))):ov n D Pv i ys y H3 :=
 (JeW b Jn (n-Xi) Jn a (by rw[lAq,lS];lia) ao p)
def gj (a:i<n)(c:Jee i)(b:Ia (H3 D) ys)(p:Pv (i+1) ys H3):wD n D Pv i ys H3 :=
 (n-Xi,Jan n a,rfl,a,Jn,b,p)
def dw {J:It}{n:Nat}{k:Hp->Prop}{g:TE}{j:St}{o:Hp}{D:Addr}{R:Hp->Prop}(W:Wk J n k)(b)(c:∀i ys H,b i ys H->k H)(h0:b 0 [] (GB o D))
  (hs:∀i ys H' x a,i<n->Jee i->Ji3 D->b i ys H'->Jlh a->g (Ja8 x j) a (ov n D b i ys))(r:∀ys H',Ji3 D->b n ys H'->R H'):
  ∃W:Nat->Nat->List V->Hp->Prop,(∃m,W 0 m [] (GB o D))/\∀i m ys H',W i m ys H'->Ji3 D/\
   ((Jo1 H' (R H'))\/(JgD H'/\∀x a,Jlh a->g (Ja8 x j) a λy l=>Ia (l D) ys/\IM ys.length/\∃h,h<m/\W (i+1) h (ys++[y]) (Va l D (ys++[y])))):=by
 apply Gc (LcW n D b) (Im n Zq Zq ao h0);rintro i m ys H' ⟨rfl,s,q,f,p⟩;apply Qm f;by_cases d:i<n
 .exact Jl (W.go i H' (c _ _ _ p) d) (λx a y=>hs i ys H' x a d q f p y)
 .let e:i=n:=Jn
  subst e;exact Qk (W.stop i H' (c _ _ _ p) Yd) (r ys H' f p)
def gH {J:It}{n:Nat}{o:Hp→Prop}{tc:TT}{l:TE}{j:St}{r:Hp}{D:Addr}{R:Hp→Prop}(W:Wk J n o)(c)(f:∀i ys H,c i ys H→o H)(h0:c 0 [] (GB r D))
  (hs:∀i ys H' x a,i<n->Jee i->Ji3 D->c i ys H'->Jlh a->tc (Ja8 x j) a λb h=>if Vi b then l (Ja8 x j) h (ov n D c i ys) else wD n D c i ys h)
  (t:∀ys H',Ji3 D->c n ys H'->R H'):
  ∃W:Nat->Nat->List V->Hp->Prop,(∃m,W 0 m [] (GB r D))/\∀i m ys H',W i m ys H'->Ji3 D/\
   ((Jo1 H' (R H'))∨(JgD H'∧∀x a,Jlh a→tc (Ja8 x j) a λb h =>
    if Vi b then l (Ja8 x j) h λy q=>Ia (q D) ys/\IM ys.length/\∃d,d<m/\W (i+1) d (ys++[y]) (Va q D (ys++[y]))
    else ∃d,d<m/\W (i+1) d ys h)):=by
 apply Gc (LcW n D c) (Im n Zq Zq ao h0);rintro i m ys H' ⟨rfl,u,s,k,p⟩;apply Qm k;by_cases g:i<n
 .exact Jl (W.go i H' (f _ _ _ p) g) (λx a y=>hs i ys H' x a g s k p y)
 .let e:i=n:=Jn
  subst e;exact Qk (W.stop i H' (f _ _ _ p) Yd) (t ys H' k p)
def cK {J:It}{n:Nat}{o:Hp->Prop}{g:TG}{k:TS}{D:g_}{a:St}{H:Hp}(W:Wk J n o)(b:Nat->St->Hp->Prop)(h:∀i a H,b i a H->o H)(h0:b 0 a H)
  (hs:∀i a H x H',i<n->b i a H->Jlg H H'->g x a H' λc j=>k { D with nx:=b (i+1),ct:=b (i+1),bk:=D.nx } c j)(r:∀a H,b n a H->JmY H):
  ∃W:Nat->Nat->St->Hp->Prop,(∃m,W 0 m a H)/\∀i m a H,W i m a H->
   (Jo1 H (JmY H))\/(JgD H/\∃N:St->Hp->Prop,(∀d H',N d H'->∃l,l<m/\W (i+1) l d H')/\∀x H',Jlg H H'->g x a H' λc j=>k { D with nx:=N,ct:=N,bk:=D.nx } c j):=by
 apply Gc (λi m a H=>m=n-i/\i<=n/\b i a H) (JjW n _ h0);rintro i m a H ⟨rfl,s,p⟩;by_cases f:i<n
 .exact WM (W.go i H (h _ _ _ p) f) (b _) (λd H' q=>Qp (n-Xi) (Jan n f) f q) (λx H' y=>hs i a H x H' f p y)
 .let e:i=n:=Jn
  subst e;exact Qk (W.stop i H (h _ _ _ p) Yd) (r a H p)
def Has.int {K:W.Frag}{H:Hp}{i:Int}:JlT (.int i) (.int i):=by rfl
def ar.nil {K:W.Frag}{H:Hp}:Vt [] []:=by rfl
def ar.cons {K:W.Frag}{H:Hp}{d:Dt}{a:List Dt}{v:V}{vs:List V}(h:JlU d)(r:Vt a vs):Vt (d::a) (v::vs):=by simp only[ar];exact Qp v vs h r
def Has.tup' {K:W.Frag}{H:Hp}{b:List Dt}{a:Addr}{xs:List V}(h:UR a)(r:Wy b):Qx K H (.tup b) a:=by simp only[Has];exact Qp a xs h r
def Has.lst' {K:W.Frag}{H:Hp}{b:List Dt}{a:Addr}{xs:List V}(h:XR a)(r:Wy b):Qx K H (.lst b) a:=by simp only[Has];exact Qp a xs h r
theorem iF {K:W.Frag}{H:Hp}:∀{ns:List Int} {vs:List V},Vt (ns.map Ie) vs->vs=ns.map V.int
 |[],vs,h=>by simp only[List.map_nil,ar]at h;rw[h];rfl
 |n::ns,vs,h=>by simp only[List.map_cons,ar]at h;let(v,r,rfl,a,b):=h;simp only[Has]at a;rw[a,iF b];rfl
noncomputable def dP (t:WC Int):Dt:=QQ t.1 t.2
def has_dP {K:W.Frag}{H:Hp}{t:Int×Int}{v:V}(h:JlU (dP t)):∃p,Nk v p/\SqT K H p (Xw t.1 t.2):=by unfold dP at h;simp only[Has]at h;let(a,xs,rfl,hs,b):=h;let e:=iF (ns:=[t.1,t.2]) b;rw[e]at hs;exact Nd a hs
def of_dP {K:W.Frag}{H:Hp}{t:Int×Int}{p:Addr}(h:Vo p (Xw t.1 t.2)):Qx K H (dP t) p:=Jbd h .int .int
theorem cA:∀ts:Mm Int,MU (ts.map dP)
 |[]=>by rfl
 |t::ts=>by simp only[List.map_cons,bX,dP,nol,Bool.true_and];exact cA ts
def hU {K:W.Frag}{H:Hp}{ts:List We}{xs:List V}{i:Nat}{x:V}(h:VZ dP)(e:xs[i]?=some x):∃t p,ts[i]?=some t/\GN p/\SqT K H p (Xw t.1 t.2):=by
 let(d,a,c):=h.get e;rw[List.getElem?_map]at a;cases q:ts[i]? with
 |none=>erw[q]at a
 |some t=>
  erw[q]at a;let(p,rfl,b):=has_dP c;exact JgT t p b
end L2
namespace PySem
open Sem (wp)
namespace F
def entry_dict_update_loop:entryFor table "dict.update.loop"=some Builtin.«dict.update.loop»:=entryFor_of_tree (by rfl)
def plain_dict_update_loop:Vi (plainId "dict.update.loop"):=by decide +kernel
def miss_list_keys:XH "list" "keys"=pure none:=by rfl
end F
theorem Ba
  (hx:s.heap.get? a=some o)(hc:o.cls=.type "list")(hdat:Jj0 xs k)(hd:Mf o.dict)(hmiss:JdQ (XH "list" name) none)(hname:(["__module__","__name__","__qualname__","__doc__","__annotations__"]:List Str).contains name=false)(hA:Mf A.handled)
  (h:∀h' tk e,Heap.NewExcOf s.heap h' e "AttributeError"->Q none { s with heap:=h',toks:=tk })(hsz:Qd (name.length+100):=by size_fits):
  wpAny (Yi w) A (getAttr? (.ref a) name) Q E s:=by
 let(c,dct,dat,sl):=o;simp only at hc hdat hd;subst hc hdat hd;let(hp,g,d,tk,os):=s;let hT:∀tk',((hp,g,d,tk',os):Shared).TypeIs (.ref a) "list":=λx=>Ji6 hx;let f1:=sub_AttributeError;let f3:=F.slot_list_getattribute.lookup;let f4:=F.slot_list_getattribute.bind (.ref a);let f5:=am_list_getattr_none;unfold getAttr? getAttrBy? getAttrBy
 repeat (any_goals (first|assumption|exact hT _|((with_reducible show wpAny _ _ (call (Value.builtin "list.__getattribute__") _ _) _ _ _);apply call_meets F.slot_list_getattribute (hT _) am_entry_list_getattribute (F.args_list_getattribute_2 _ _) (meets_getattribute_miss_list a xs k sl name _ hmiss hname hsz) (hx,hA,λh' tk' e hx'=>?_))|wp_step))
 let(t',u',he):=hx'.there;unfold getattributeRaised
 repeat (any_goals (first|assumption|wp_step))
 exact h _ _ _ hx'.of
section
variable {prog:Program} {w:World} {K:Type} [DecidableEq K] {knd:KeyKind prog w K} {A:Around}
noncomputable def zcH (ks:Nat->K)(vals:Nat->Value)(n:Nat):Nb K Value:=(List.range n).foldl (λacc j=>stored acc (ks j) (vals j)) []
def qR (ks:Nat->K)(vals)(n):Jlj (n+1)=stored (Jlj n) (ks n) (vals n):=by unfold zcH;rw[List.range_succ,List.foldl_append];rfl
def Bb (kvs)(k:K)(v):(stored kvs k v).length<=Jcp 1:=by
 unfold stored;split
 .rw[lM];lia
 .rw[lAq];simp
theorem qS (ks:Nat->K)(vals):∀n,(Jlj n).length<=n
 |0=>nRq _
 |n+1=>by rw[qR];have:=Bb (Jlj n) (ks n) (vals n);have:=qS ks vals n;exact Nat.le_trans ‹_› (Nat.succ_le_succ ‹_›)
def Bc {R:Result->Shared->Prop}{h0:Heap}{l it d:Addr}{items:Array Value}{Ts:Nat->Addr}{keys vals:Nat->Value}{ks:Nat->K}{q:Value}(T:Mf NL)(Q:h0.IsList l items)(C:l≠it)(D:l≠d)(g:d≠it)(hsz:Qd Uo)
  (S:∀i,i<items.size->items[i]?=Ja (Ts i)/\h0.IsTuple (Ts i) #[keys i,vals i]/\Vi (knd.is (ks i) (keys i))/\Ts i≠it/\Ts i≠d):
  ∀k i s,items.size-i=k->i<=items.size->s.heap.IsListIter it l i->(∀b o,b≠it->b≠d->h0.get? b=some o->s.heap.get? b=some o)->s.heap.DictOf knd d (Jlj i)->
   (∀h' tk,(∀b o,b≠it->b≠d->h0.get? b=some o->h'.get? b=some o)->h'.DictOf knd d (Jlj Uo)->JpQ q { s with heap:=h',toks:=tk })->
   codeAny Ud A (QK "dict.update.loop" [.ref d,.ref it,rawInt i,q] []) R s:=by
 let lst:∀h:Heap,(∀b o,b≠it->b≠d->h0.get? b=some o->h.get? b=some o)->h.IsList l items:=λh E=>by let(o,z,r):=Q;exact Jmh (E _ _ C D z) r
 intro k
 induction k with
 |zero=>
  intro i s E G f a L H;let e:i=items.size:=Jn
  subst e;apply Vr JrL;rw[Iq F.plain_dict_update_loop];apply wpAny_bind (wpAny_pyNext_list_end (by simpa using T) f (lst _ a) Js λh' N=>?_);apply Gf Ih;exact H h' s.toks (λb o p n j=>N b o p (a b o p n j)) (L.extBut N g)
 |succ k O=>
  intro i s E G f a L H;let B:i<items.size:=Nat.lt_of_sub_eq_succ E
  let(e1,e2,e3,e4,Z):=S i B;apply Vr JrL;rw[Iq F.plain_dict_update_loop];apply wpAny_bind (wpAny_pyNext_list_item f (lst _ a) e1 λh' v hs'=>?_);let c:∀b o,b≠it->b≠d->h0.get? b=some o->h'.get? b=some o:=λb o p n j=>(hs'.2 b p).trans (a b o p n j);let J:=L.sameBut hs' g;let(ot,P,y,nt,x):=id e2;let t:=c _ _ e4 Z P;let U:({ s with heap:=h' }:Shared).TypeIs (.ref (Ts i)) "tuple":=Q5 t y;apply Xl (NW ?_);apply Uy U ?_;rw[if_pos (by decide)];apply Gk t x Ih;let M:=qS ks vals i;apply wpAny_holding (wpAny_dictSet_pairs e3 J (λn I u=>?_) Jn);apply Jic Jq2;let Y:rawInt ((i:Int)+1)=rawInt (i+1:Int):=by rfl
  rw[Y];apply O _ _ (lqA E) Jn ?_ ?_ ?_ ?_
  .let(o,z,r):=v;exact Jmh ((u.2 it g.symm).trans z) r
  .exact λb o p n j=>(u.2 b n).trans (c b o p n j)
  .rwa[qR]at I
  .exact λj tk X W=>H j tk X W
def Be {E:Value->Shared->Prop}{s:Shared}{l:Addr}{o:Obj}{items:Array Value}{n:Nat}{Ts:Nat->Addr}{keys vals:Nat->Value}{ks:Nat->K}{Q:Value->Shared->Prop}(D:Mf NL)
  (x:s.heap.get? l=some o)(y:o.cls=.type "list")(N:Mf o.dict)(j:Jj0 items n)(hsz:Qd Uo)
  (M:∀i,i<items.size->items[i]?=Ja (Ts i)/\s.heap.IsTuple (Ts i) #[keys i,vals i]/\Vi (knd.is (ks i) (keys i)))
  (h:∀h' tk,(∀b o,s.heap.get? b=some o->h'.get? b=some o)->Jf1 (h'.DictOf knd V0 (Jlj Uo)) { s with heap:=h',toks:=tk }):
  wpAny Ud A (JhT "dict" (Vj l)) Q E s:=by
 apply callType_codes (Q₁:=λu k=>Nk u V0/\k={ s with heap:=s.heap.push { cls:=.type "dict",data:=.dict #[] } }) F.kt_called_dict (F.kt_typeCall_dict_1 _) F.entry_dict_init (kt_code_dict_new _ (Wf rfl)) ?_;rintro u k ⟨rfl,rfl⟩;let g:(s.heap.push { cls:=.type "dict",data:=.dict #[] }).DictOf knd V0 []:=Heap.DictOf.new Yq;let q:(s.heap.push { cls:=.type "dict",data:=.dict #[] }).get? l=some o:=UD x;let O:({ s with heap:=s.heap.push { cls:=.type "dict",data:=.dict #[] } }:Shared).TypeIs (.ref l) "list":=Q5 q y;apply Gc g.typeIs (F.args_dict_init_2 _ _);apply wpAny_bind ?_;apply wpAny_bind (wpAny_notOrdered_dict g.typeIs ?_);apply wpAny_pure ?_;show JlX (Builtin.Dict.updateFrom "dict.__init__" V0 (.ref l) [] .none);apply Uy O ?_;rw[if_pos (by decide)];apply wpAny_bind (Ba q y j N F.miss_list_keys (by rfl) (by simpa using D) λp G e J=>?_);rw[if_pos (show(none:Option Value).isNone=true from rfl)];let k1:=J.keeps;apply Mj ?_;let B:p.IsList l items:=(o,k1 _ _ q,y,n,j);apply wpAny_bind (IZ B);apply Jic Jq2;let t:=hLq (k1 _ _ VN);let C:p.DictOf knd V0 []:=by let(I,es,ep,v,r):=g;exact(I,es,ep,k1 _ _ v,r)
 let f:∀b c,s.heap.get? b=some c->(p.push { cls:=.type "list_iterator",data:=.fields #[.ref l,JkK 0] }).get? b=some c:=λb c e=>UD (k1 _ _ (UD e));let a:∀b c,s.heap.get? b=some c->b≠p.objs.size/\Jcm b:=λb c e=>by have:=hLq e;lia
 apply Bc (knd:=knd) (items:=items) (Ts:=Ts) (keys:=keys) (vals:=vals) (ks:=ks) (by simpa using D) ?_ (a _ _ x).1 (a _ _ x).2 (Nat.ne_of_lt t) hsz ?_ Uo 0 _ Jn Zq ?_ (λm m m m e=>e) (C.push _) ?_
 .exact(o,f _ _ x,y,n,j)
 .intro i z;let(S,(H,v,r),R):=M i z;exact(S,(H,f _ _ v,r),R,(a _ _ v).1,(a _ _ v).2)
 .exact Jgt VN
 .intro h' tk L P;exact WO (h h' tk (λb c e=>L b c (a _ _ e).1 (a _ _ e).2 (f _ _ e)) P)
end
end PySem
namespace L2
open PySem PySem.Spec PyProof.Rows
section
variable [DecidableEq κ]
noncomputable def br (kvs:Nb κ V)(k:κ):Option V:=(kvs.find? λa=>decide (a.1=k)).map (·.2)
noncomputable def zaz (kvs:Nb κ V)(k:κ)(v:V):Nb κ V :=
 if Vi (kvs.any λa=>decide (a.1=k)) then kvs.map (λa=>if a.1=k then(a.1,v,) else a) else kvs++[(k,v,)]
noncomputable def zbP (kvs:Nb κ V)(k:κ):Nb κ V:=kvs.filter λa=>decide (a.1≠k)
def eZ {p:κ×V}{r:List (κ×V)}{k:κ}(e:p.1=k):br (p::r) k=some p.2:=by simp [br,List.find?_cons,e]
def eS {p:κ×V}{r:List (κ×V)}{k:κ}(e:¬p.1=k):br (p::r) k=br r k:=by simp [br,List.find?_cons,e]
theorem hV (k:κ):∀kvs:Nb κ V,(kvs.any λa=>decide (a.1=k))=(Jcz k).isSome
 |[]=>rfl
 |p::r=>by
  rw[List.any_cons];by_cases e:p.1=k
  .simp only[eZ e,dTq e,Bool.true_or,Option.isSome_some]
  .rwa[eS e,dFq e,Bool.false_or]at hV k r
theorem wF (k j:κ)(y):∀kvs:Nb κ V,br (kvs.map λa=>if a.1=k then(a.1,y,) else a) j=(Jcz j).map λx=>if j=k then y else x
 |[]=>rfl
 | p :: r=>by
  let b:=wF k j y r;rw[List.map_cons];by_cases h:p.1=k
  .rw[if_pos h];by_cases e:p.1=j
   .rw[eZ (p:=(p.1,y,)) e,eZ e,Option.map_some,if_pos (e.symm.trans h)]
   .rw[eS (p:=(p.1,y,)) e,eS e,b]
  .rw[if_neg h];by_cases e:p.1=j
   .rw[eZ e,eZ e,Option.map_some,if_neg (λz=>h (e.trans z))]
   .rw[eS e,eS e,b]
theorem wG (k j:κ)(y):∀kvs:Nb κ V,Mf (Jcz k)->br (kvs++[(k,y,)]) j=if j=k then some y else Jcz j
 |[],_=>by
  by_cases e:k=j
  .rwa[if_pos e.symm]at eZ e
  .rwa[if_neg (λz=>e z.symm)]at eS e
 |p::r,a=>by
  rw[List.cons_append];let b:¬p.1=k:=λz=>by erw[eZ z]at a
  rw[eS b]at a;let c:=wG k j y r a;by_cases e:p.1=j
  .rw[eZ e,eZ e,if_neg (λz=>b (e.trans z))]
  .rw[eS e,eS e,c]
def hX (kvs)(k j:κ)(y):br (XU k y) j=if j=k then some y else br kvs j:=by
 unfold zaz;by_cases a:Vi (kvs.any λb=>decide (b.1=k))
 .rw[if_pos a,wF];rw[hV]at a;by_cases e:j=k
  .let(x,c):=Option.isSome_iff_exists.mp a;rw[if_pos e,e,c,Option.map_some,if_pos rfl]
  .rw[if_neg e];cases br kvs j with
   |none=>rfl
   |some x=>rw[Option.map_some,if_neg e]
 .rw[if_neg a];apply wG k j y kvs ?_;rw[hV]at a;cases q:Jcz k with
  |none=>rfl
  |some x=>rw[q]at a;exact(a rfl).elim
def me (kvs)(k:κ)(v):(XU k v).length<=Jcp 1:=by
 unfold zaz;split
 .rw[lM];lia
 .rw[lAq,List.length_cons,List.length_nil];lia
def dk.isSome_eq (r:dk o u):o.isSome=u.isSome:=by
 cases o with
 |none=>cases u with
  |none=>rfl
  |some _=>exact(show False from r).elim
 |some _=>cases u with
  |none=>exact(show False from r).elim
  |some _=>rfl
def dk.getD (r:dk o u)(a:bn d d'):bn (o.getD d) (u.getD d'):=by
 cases o with
 |none=>cases u with
  |none=>exact a
  |some _=>exact(show False from r).elim
 |some _=>cases u with
  |none=>exact(show False from r).elim
  |some _=>exact r
def KV.val {kvs:List (κ×V)}{vs:List (JcI κ)}(r:Jd_ vs)(k:κ):dk (Jcz k) (Jm9 vs):=by
 induction r with
 |nil=>exact IK
 | @cons p q ps a h t f =>
  let(d,g):=h;by_cases e:p.1=k
  .let c:=d.symm.trans e;let b:Jm9 (q :: a)=some q.2:=by simp [valueAt,List.find?_cons,c]
   rwa[eZ e,b]at g
  .let c:¬q.1=k:=λz=>e (d.trans z);let b:Jm9 (q :: a)=valueAt a k:=by simp [valueAt,List.find?_cons,c]
   rwa[eS e,b]at f
def KV.any (r:Jd_ vs)(k:κ):(kvs.any λa=>decide (a.1=k))=vs.any λa=>decide (a.1=k):=by
 induction r with
 |nil=>rfl
 |cons h t b=>rw[List.any_cons,List.any_cons,b,h.1]
def KV.repl (r:Jd_ vs)(k:κ){y:V}{u:Value}(c:QN y):
  KV (kvs.map λa=>if a.1=k then(a.1,y,) else a) (vs.map λa=>if a.1=k then(a.1,u,) else a):=by
 induction r with
 |nil=>exact .nil
 | @cons p q ps g h t d=>
  rw[List.map_cons,List.map_cons];apply Jlx d;(split<;>simp_all)
def KV.put (r:Jd_ vs)(k:κ){y:V}{u:Value}(a:QN y):KV (XU k y) (stored vs k u):=by
 unfold zaz stored;rw[r.any k];by_cases e:Vi (vs.any λb=>decide (b.1=k))
 .rwa[if_pos e,if_pos e]at r.repl k a
 .rwa[if_neg e,if_neg e]at Paired.snoc r (WO a)
def KV.drop (r:Jd_ vs)(k:κ):KV (Jpf k) (without vs k):=by
 unfold zbP without
 induction r with
 |nil=>exact .nil
 | @cons p q ps i h t d =>
  let(c,f):=h;rw[List.filter_cons,List.filter_cons];by_cases e:p.1=k
  .simp_all
  .let g:¬q.1=k:=λz=>e (c.trans z);let a:decide (p.1≠k)=true:=by simp [e]
   let b:decide (q.1≠k)=true:=by simp [g]
   rwa[if_pos a,if_pos b]at .cons (c,f) d
def KV.keys {kvs:List (κ×V)}{vs:List (JcI κ)}(r:Jd_ vs):kvs.map Qn=vs.map (·.1):=by
 induction r with
 |nil=>rfl
 |cons h t a=>rw[List.map_cons,List.map_cons,a,h.1]
def KV.length (r:Jd_ vs):kvs.length=vs.length:=Paired.length r
def Bf (kvs)(k:κ):(Jpf k).length<=kvs.length:=GC _
end
def ic (r:QN (kV k)):(JmW P).is k u=true:=by
 cases k with
 |inl i=>obtain⟨t,e⟩:=(show ∃t,u=UU i from r);subst e;exact z_ P w i t
 |inr x=>obtain⟨t,e⟩:=(show ∃t,u=Jcf x from r);subst e;exact nV P w x t
theorem qT:∀{ks:List Key} {us:List Value},UM (ks.map kV)->ItemsAre (JmW P) ks us
 |[],_,r=>by erw[List.map_nil]at r;exact .nil
 |k::ks,_,r=>by
  rw[List.map_cons]at r;cases r with
  |cons h t=>exact .cons (ic h) (qT t)
abbrev KT (H:Hp):Nb Jru V->Nb Jru (QP Value)->Prop:=Paired λp q=>p.1=q.1/\Jcs q.2.1 (p.1.map kV)/\bn p.2 q.2.2
def KT.val {H:Hp}{kvs:List (Je5 Key V)}{xs:List (Je5 Key (QP Value))}(r:KT H kvs xs)(k):dk (Jcz k) ((JaW xs).map (·.2)):=by
 induction r with
 |nil=>exact IK
 | @cons p q ps a h t f =>
  let(d,_,g):=h;by_cases e:p.1=k
  .let c:=d.symm.trans e;let b:JaW (q :: a)=some q.2:=by simp [atKey,List.find?_cons,c]
   rwa[eZ e,b]at g
  .let c:¬q.1=k:=λz=>e (d.trans z);let b:JaW (q :: a)=atKey a k:=by simp [atKey,List.find?_cons,c]
   rwa[eS e,b]at f
def KT.repl (r:KT H kvs xs)(k){y:V}{u:Value}(d:QN y):
  KT H (kvs.map λb=>if b.1=k then(b.1,y,) else b) (xs.map (putAt k u)):=by
 induction r with
 |nil=>exact .nil
 | @cons p q ps i h t f=>
  rw[List.map_cons,List.map_cons];apply Jlx f;let(a,c,g):=h;unfold putAt;(split<;>simp_all)
def KT.put (r:KT H kvs xs)(k){b:Addr}{y:V}{u:Value}(d:Jcs b (k.map kV))(a:QN y):
  KT H (XU k y) (storedH xs k b u):=by
 let e:(kvs.any λc=>decide (c.1=k))=(JaW xs).isSome:=by rw[hV,(r.val k).isSome_eq,Option.isSome_map]
 unfold zaz storedH;rw[e];by_cases q:(JaW xs).isSome=true
 .rwa[if_pos q,if_pos q]at r.repl k a
 .rwa[if_neg q,if_neg q]at Paired.snoc r (rfl,d,a)
def KT.keeps (r:KT H kvs xs)(a:∀b ys,Jil b ys (Vy b ys)):KT H' kvs xs :=
 Paired.mapP r λx x z=>(z.1,a _ _ z.2.1,z.2.2)
def rd_of (b:JdD h)(e:Rd H a u):bV P w H h a u:=e.ok b
def jC (b:JdD h)(e:Rd H a (.dK kvs)):Qd Jj1/\Yw (a==sysModules)/\∃vs,Jd_ vs/\h.DictOf (JmW P) a vs :=
 show bV P w H h a _ from rd_of b e
def iG (b:JdD h)(e:Jbo a):Qd Jj1/\Yw (a==sysModules)/\∃vs,Jd_ vs/\h.DictOf (JmW P) a vs:=jC b (.inl e)
def kD (d:JdD h)(e:Jcs a (ks.map kV)):(Jaj P w).is h ks a:=by let(_,b,r,o,g,c,n,f):=(show bV P w H h a _ from d a _ e);replace c:=(Prod.mk.inj c).1;exact(o,b.toArray,n,g,c,f,by simpa using qT r)
def jD (d:JdD h)(e:Rd H a (.dT kvs)):Qd Jj1/\Yw (a==sysModules)/\
  ∃xs,KT H kvs xs/\h.DictOfH (Jaj P w) a xs:=by
 let(z,y,xs,r,o,es,ep,s,n,k,j,i):=(show bV P w H h a (.dT kvs) from rd_of d e);apply(z,y,xs,r,o,es,ep,s,n,k,j,λx b=>?_,i);let c:∀{l:List _} {m:List _},KT H l m->∀x∈m,(Jaj P w).is h x.1 x.2.1:=by
  intro l m q
  induction q with
  |nil=>intro x b;exact nomatch b
  | @cons p q ps u f t g=>
   intro x b;rcases List.mem_cons.mp b with e|b
   .subst e;exact kD d (by rwa[<-f.1]at f.2.1)
   .exact g x b
 exact c r x b
def dt_of (b:JdD h)(e:Ic a (.dT kvs)):Qd Jj1/\Yw (a==sysModules)/\
  ∃xs,KT H kvs xs/\h.DictOfH (Jaj P w) a xs:=jD b (.inl e)
def cg (H:Hp)(a:Addr)(y:V)(r:Option V):Prop :=
 (∃kvs k,Rd H a (.dK kvs)/\y=kV k/\r=Jcz k)\/∃kvs k b,Rd H a (.dT kvs)/\Nk y b/\Jcs b (k.map kV)/\r=Jcz k
def fj (H:Hp)(a:Addr)(y v:V)(H':Hp):Prop :=
 (∃kvs k,Jbo a/\y=kV k/\IM Jj1/\H'=Vc H a (XU k v)) \/
 ∃kvs k b,Ic a (.dT kvs)/\Nk y b/\Jcs b (k.map kV)/\IM Jj1/\H'=JhD (.dT (XU k v))
def cg.k {H:Hp}{a:Addr}{kvs:List (JeY V)}{k:Key}(e:Jbo a):cg H a (kV k) (Jcz k):=.inl (Mh kvs k (.inl e) rfl)
def fj.k {H:Hp}{a:Addr}{kvs:List (JeY V)}{k:Key}{v:V}(e:Jbo a)(b:IM Jj1):fj H a (kV k) v (Vc H a (XU k v)):=.inl (kvs,k,e,rfl,b,rfl)
def Inv.big (I:Xm s):Jk sysModules:=by let h:=(I.mod.glob.keeps I.bk).lt;exact Nat.lt_trans Jp h
def Bj (t:V6 1)(I:Xm s)(g:cg H a y (some v))(q:QN y)(h:∀f s',Xm s'->bn v f->Q f s'):
  wpAny (Vg X.w) A (Jlr a u) Q E s:=by
 rcases g with ⟨kvs,k,e,n,l⟩|⟨kvs,k,b,e,n,C,l⟩
 .subst n;let(z,B,vs,d,dd):=JhU e;let(f,i,c):=dk.some_of (v:=v) (o:=Jm9 vs) (l<|>d.val k);exact wpAny_getItem_of (ic q) dd.mapOf i (Jpd f _ _ c)
 .subst n;cases (show JlP b from q);let(z,B,xs,d,dd):=JhV e;let(f,i,c):=dk.some_of (v:=v) (o:=(JaW xs).map (·.2)) (l<|>d.val k);let(p,x,j):=Option.map_eq_some_iff.mp i;apply wpAny_getItem_heap (tupleKind_room_in1 t) (Jly C) dd x ?_;rwa[j]at Jpd f _ _ c
def d_in (j:V6 1)(I:Xm s)(g:cg H a y o)(i:QN y)(h:∀s',Xm s'->Jj2 o.isSome s'):
  wpAny (Vg X.w) A (compareOp .In u (.ref a)) Q E s:=by
 rcases g with ⟨kvs,k,e,f,l⟩|⟨kvs,k,b,e,f,n,l⟩
 .subst f;let(z,d,vs,c,dd):=JhU e;apply wpAny_in_of (ic i) d dd.mapOf ?_;rwa[<-(c.val k).isSome_eq,<-l]at Jpg _ _
 .subst f;cases (show JlP b from i);let(z,d,xs,c,dd):=JhV e;apply wpAny_in_heap Jsg (Jly n) d dd ?_;let q:=(c.val k).isSome_eq;rw[Option.isSome_map]at q;rwa[<-q,<-l]at Jpg _ _
def Bk (j:V6 1)(I:Xm s)(g:cg H a y o)(i:QN y)(h:∀s',Xm s'->Jj2 (!o.isSome) s'):
  wpAny (Vg X.w) A (compareOp .NotIn u (.ref a)) Q E s:=by
 rcases g with ⟨kvs,k,e,f,l⟩|⟨kvs,k,b,e,f,n,l⟩
 .subst f;let(z,d,vs,c,dd):=JhU e;apply wpAny_notIn_of (ic i) d dd.mapOf ?_;rwa[<-(c.val k).isSome_eq,<-l]at Jpg _ _
 .subst f;cases (show JlP b from i);let(z,d,xs,c,dd):=JhV e;apply wpAny_notIn_heap Jsg (Jly n) d dd ?_;let q:=(c.val k).isSome_eq;rw[Option.isSome_map]at q;rwa[<-q,<-l]at Jpg _ _
def jE (I:Xm s)(d:Joq a)(hs:JpH a)(f:∃q,h'.get? a=some q)(c:I0 (JhD ob) h' a ob):
  Inv X pins σ (JhD ob) { s with heap:=h',toks:=t' } :=
 I.write d (.inl rfl) (λb q g z=>(hs.2 b g).trans z) f c
def kE (z:Qd Jj1)(c:Yw (a==sysModules))(b:Jd_ vs)(dd:h'.DictOf (JmW P) a vs):
  bV P w H' h' a (.dK kvs):=(z,c,vs,b,dd)
def Bl (F:V6 1)(I:Xm s)(g:fj H a y v H')(x:QN y)(B:bn v r)(h:∀s',Ik H' s'->Q () s'):
  wpAny (Vg X.w) A (setItem (.ref a) u r) Q E s:=by
 rcases g with ⟨kvs,k,e,p,l,t⟩|⟨kvs,k,b,e,p,D,l,t⟩
 .subst p t;let(z,n,vs,d,dd):=Jfk e;let hz:Qd vs.length:=by rwa[←d.length]at z
  let j:(XU k v).length<=sizeLine:=by have:=me kvs k v;lia
  apply wpAny_setItem_pairs (hsz:=hz) (ic x) dd λh' f hs=>h _ ?_;let G:∃q,h'.get? a=some q:=(by let(q,_,_,i,_):=f;exact (q,i));exact jE I (e<|>IK) hs G (kE j n (d.put k B) f)
 .subst p t;cases (show JlP b from x);let(z,n,xs,d,dd):=dt_of I.hok e;let hz:Qd xs.length:=by rwa[←Paired.length d]at z
  let j:(XU k v).length<=sizeLine:=by have:=me kvs k v;lia
  apply wpAny_setItem_heap (hsz:=hz) (tupleKind_room_in1 F) (Jly D) dd λh' f hs=>h _ ?_;let(q,es,ep,i,M,L,K,_,J):=f;apply jE I (e<|>IK) hs (q,i) (j,n,_,(d.put k D B).keeps λc ys C=>?_,q,es,ep,i,M,L,K,J);rwa[Jow C e (λz=>nomatch z)]at C
def d_pop (I:Xm s)(e:Jbo a)(f:QN (kV k))(l:Xa (Jcz k) v)(j:more=[]\/∃x,more=[x])
  (h:∀c s',Ik (Vc H a (Jpf k)) s'->bn v c->Q c s'):Yx A (JQ "dict.pop" (Jaz a (u::more))) Q E s:=by
 let(z,y,vs,b,dd):=Jfk e;let(c,n,g):=dk.some_of (by rwa[<-l]at b.val k);let p:(keyPart u).isSome=true:=by
  cases k with
  |inl i=>obtain⟨t,q⟩:=(show ∃t,u=UU i from f);subst q;rfl
  |inr x=>obtain⟨t,q⟩:=(show ∃t,u=Jcf x from f);subst q;rfl
 let B:argsOk "dict.pop" (WY (Jaz a (u::more))):=by
  rcases j with q|⟨x,q⟩
  .subst q;rfl
  .subst q;rfl
 apply call_meetsIn PySem.F.slot_dict_pop Jpk PySem.F.entry_dict_pop B (meets_dict_pop_there JqS a (ic f) more j p)
  (vs,c,dd,by rwa[<-b.length]at z,n,λh' d hs=>h c _ ?_ g)
 let r:∃q,h'.get? a=some q:=(by let(q,_,_,hq,_):=d;exact (q,hq));exact jE I (e<|>IK) hs r (kE (Nat.le_trans (Bf kvs k) z) y (b.drop k) d)
def NoSl (i:Expr):Prop:=∀a b,Jj5 i a b=Jix [a,b] a b
def Bo {prog:Program}{w:World}{A:Around}{E:Value->Shared->Prop}{s:Shared}{env:Env}{b a:Expr}{pos:Pos}{T id:String}{Q:Value->Shared->Prop}
  (n:JdQ (XH T "__getitem__") (Gn id))(hs:NoSl a)
  (h:JnF (Jcg b) (λo f=>JnF (Jcg a) (λi c=>c.TypeIs o T/\JnG (getItem o i) c) f) s):
  wpAny Ud A (Jcg (Jav b a)) Q E s:=by
 apply Subscript_ (wpAny_mono h (λo f k=>wpAny_mono k (λi c d=>?_) λy y x=>x) λy y x=>x);let(l,d):=d;unfold subscriptTail;apply wpAny_bind ?_;rw[getitemInPython_of_ne l.not_modules];apply Yv l n ?_;let g:JnF (Jj5 a o i) (λr e=>JnG (letTemporaryGo b o r>>=λy=>pure r) e) c:=by rwa[hs o i]at wpAny_operating (wpAny_mono d (λr e j=>wpAny_bind (wpAny_letTemporaryGo (wpAny_pure j))) λy y x=>x)
 first
  |exact wpAny_pure (wpAny_bind g)
  |exact Gf (wpAny_bind g)
  |exact wpAny_bind g
def Bq (I:Xm s)(g:cg H a y o):XQ a "dict":=by
 rcases g with ⟨kvs,k,e,_,_⟩|⟨kvs,k,b,e,_,_,_⟩
 .let(_,_,vs,_,dd):=JhU e;exact Jpk
 .let(_,_,xs,_,dd):=JhV e;exact Jpk
def tDGet (d ty:TE):TE:=λb H Q=>d b H λx e=>ty b e λy c=>∃a v,GN a/\cg c a y (some v)/\Q v c
def tDIn (ty d:TE):TE:=λb H Q=>ty b H λy e=>d b e λx c=>∃a o,GN a/\cg c a y o/\Ji o.isSome c
def Br (ty d:TE):TE:=λb H Q=>ty b H λy e=>d b e λx c=>∃a o,GN a/\cg c a y o/\Ji (!o.isSome) c
def sDPut (e ty d:TE):TS:=λD b H=>d b H λv h=>e b h λx g=>ty b g λy f=>∃a c,GN a/\fj f a y v c/\D.nx b c
def i_ (p:Jbq 1)(q:Yp o td)(r:Yp i ty)(hs:NoSl i):Yp (Jav o i) (tDGet td ty):=by intro b s d H Q I h;apply Bo PySem.F.slot_dict_getitem.lookup hs (thn (q b s d H _ I h) λu j h_=>?_);let(x,C,z,l,q1):=h_;apply thn (r b j d C _ z q1) λJ G h_=>?_;let(y,B,f,k,a,v,t,g,n):=h_;subst t;obtain rfl:u=Value.ref a:=l;exact(Bq f g,Bj p f g k λD E w c=>(v,B,w,c,n))
def jF (n:Jbq 1)(q:Yp i ty)(p:Yp o td):PC X .In i o (tDIn ty td):=by intro b s c H Q I h;apply thn Jqu λE d h_=>?_;let(y,B,w,f,q1):=h_;apply thn (p b d c B _ w q1) λu D h_=>?_;let(x,z,v,j,a,l,r,g,k):=h_;subst r;obtain rfl:u=Value.ref a:=j;exact d_in n v g f λC t=>VD l.isSome z t k
def ie (n:Jbq 1)(q:Yp i ty)(p:Yp o td):PC X .NotIn i o (Br ty td):=by intro b s c H Q I h;apply thn Jqu λE d h_=>?_;let(y,B,w,f,q1):=h_;apply thn (p b d c B _ w q1) λu D h_=>?_;let(x,z,v,j,a,l,r,g,k):=h_;subst r;obtain rfl:u=Value.ref a:=j;exact Bk n v g f λC t=>VD _ z t k
def gp (t:Jbq 1)(w:Yp o td)(z:Yp i ty)(q:Yp value tv)(hs:JdQ (Jio value (.Subscript o i pos') pos.line) false):
  PS X (Jga (.Subscript o i pos') value pos) (sDPut td ty tv):=by intro b s c H D I h;apply wpAny_Assign_Subscript (thn Jqu λr f h_=>?_) hs;let(v,L,G,l,q1):=h_;apply thn (w b f c L _ G q1) λu d h_=>?_;let(x,K,F,k,p):=h_;apply thn (z b d c K _ F p) λO N h_=>?_;let(y,P,E,j,a,J,B,g,n):=h_;subst B;obtain rfl:u=Value.ref a:=k;exact Bl t E g j l λM C=>(c,J,C,n)
def wH (h:Heap)(a:JdS sysModules):bV P w H (h.push { cls:=.type "dict",data:=.dict #[] }) JqU (.dK []) :=
 (Nat.zero_le _,beq_eq_false_iff_ne.mpr (Ne.symm (Nat.ne_of_lt a)),[],.nil,Heap.DictOf.new h)
def tDNewK:TE:=λx H Q=>∀p,Jdu p p (JgR H p)
def gJ:Yp (.Dict [] [] pos) tDNewK:=λb s c H Q I h=>
 wpAny_Dict_empty (JsJ _ s.toks (λx x q=>UD q) _ (wH Yq I.big) (h _ (Uq _)))
def bE (kvs a:QX V):QX V:=a.foldl (λacc b=>zaz acc b.1 b.2) kvs
def KV.merge:∀{a:List (JeY V)} {rs:List (JcI Key)} {kvs:List (JeY V)} {vs:List (JcI Key)},KV a rs->Jd_ vs->KV (Jfl a) (merged vs rs):=by
 intro a rs kvs vs r;unfold KV at r
 induction r generalizing kvs vs with
 |nil=>intro q;exact q
 | @cons p q ps d h t c=>
  intro b;let e:KV (XU p.1 p.2) (stored vs q.1 q.2):=by have:=b.put p.1 h.2;rwa[<-h.1]at this
  exact c e
theorem qU:∀a kvs,(Jfl a).length<=Jcp a.length
 |[],kvs=>by show GQ (Jcp 0);lia
 |p::r,kvs=>by let c:=qU r (XU p.1 p.2);let b:=me kvs p.1 p.2;show(bE _ r).length<=_;rw[List.length_cons];lia
structure M1 (X:Cx)(o)(m)(apos:Pos)(e)(cpos):Prop where
 base:JjM o m o=Jc o
 few:Vi ((Jby [e]).all (λx=>!x.1)&&(Jl0 []).all (λx=>x.1.isSome)
  && decide (([e]:List Expr).length+([]:List Keyword).length+(if([]:List Keyword).isEmpty then 0 else 1)<30))
 line:Vi (apos.endLine==cpos.line)
 trees:Jby [e]=[(false,Jc e,)]
structure M2 (X:Cx)(o)(m)(apos:Pos)(e f)(cpos):Prop where
 base:JjM o m o=Jc o
 few:Vi ((Jby [e,f]).all (λx=>!x.1)&&(Jl0 []).all (λx=>x.1.isSome)
  && decide (([e,f]:List Expr).length+([]:List Keyword).length+(if([]:List Keyword).isEmpty then 0 else 1)<30))
 line:Vi (apos.endLine==cpos.line)
 trees:Jby [e,f]=[(false,Jc e,),(false,Jc f,)]
def IsD (H:Hp)(a:Addr):Prop:=(∃kvs,Rd H a (.dK kvs))\/∃kvs,Rd H a (.dT kvs)
def qV (I:Xm s)(d:IsD H a):
  s.TypeIs (.ref a) "dict"/\(∀b,Nk (Value.ref a) b->∃c,s.heap.get? b=some c/\Mf c.dict)/\Yw (a==sysModules):=by
 rcases d with ⟨kvs,e⟩|⟨kvs,e⟩
 .let(_,f,vs,_,dd):=JhU e;apply(Jpk,λb q=>?_,f);cases q;let(c,_,_,h,g,_):=dd;exact(c,h,g.2.1)
 .let(_,f,xs,_,dd):=JhV e;apply(Jpk,λb q=>?_,f);cases q;let(c,_,_,h,g,_):=dd;exact(c,h,g.2.1)
def d_get2 (q:V6 1)(I:Xm s)(g:cg H a y o)(n:QN y)(p:bn d r)(h:∀j s',Xm s'->bn (o.getD d) j->Q j s'):
  wpAny (Vg X.w) A (JQ "dict.get" [.ref a,u,r]) Q E s:=by
 rcases g with ⟨kvs,k,e,i,l⟩|⟨kvs,k,b,e,i,t,l⟩
 .subst i;let(z,f,vs,c,dd):=JhU e;apply Jhr Jl9 Jsc JqF (meets_dict_get_default JqS a (ic n) f r) (Q5 dd.mapOf (Jpd _ _ _ ?_));rwa[l]at(c.val k).getD p
 .subst i;cases (show JlP b from n);let(z,f,xs,c,dd):=JhV e;apply Jhr Jl9 Jsc JqF (meetsH_dict_get_default (Jaj Uh X.w) a b f r) (tupleKind_room_in1 q,k,xs,Jly t,dd,Jpd _ _ _ ?_);rwa[l]at(c.val k).getD p
def tDGet2 (f ty e:TE):TE:=λb H Q=>f b H λx d=>∃a,GN a/\IsD d a/\ty b d λy g=>e b g λz c=>∃o,cg c a y o/\Q (o.getD z) c
def tDPop1 (e ty:TE):TE:=λb H Q=>e b H λx d=>∃a,GN a/\IsD d a/\ty b d λy c=>∃kvs k v,Xa (c a) (.dK kvs)/\y=kV k/\Xa (Jcz k) v/\Q v (Vc c a (Jpf k))
def kF (B:Jbq 1)(C:Yp o td)(E:Yp e ty)(D:Yp f tx)(m:M2 X o "get" apos e f cpos):Yp (Jof o "get" [e,f]) (tDGet2 td ty tx):=by
 intro b s c H Q I h;apply wpAny_Call_method m.base m.few m.line Mi Jl9 PySem.F.type_dict_get (thn (C b s c H _ I h) λu p h_=>?_);let(x,O,j,t,a,G,d,q1):=h_;subst G;obtain rfl:u=Value.ref a:=t;let(l,k,_):=qV j d;apply Gc l k;rw[m.trees];apply Ws rfl (Calls.spliced_cons (thn (E b p c O _ j q1) λU n h_=>?_));let(y,N,L,r,w):=h_;apply Calls.spliced_cons (thn (D b n c N _ L w) λW S h_=>?_);let(z,M,K,q,T,g,v):=h_;apply Calls.spliced_nil ?_
 exact d_get2 B K g r q λP R J i=>(_,M,J,i,v)
def wI (w:Yp o td)(z:Yp e ty)(m:M1 X o "pop" apos e cpos):Yp (Jof o "pop" [e]) (tDPop1 td ty):=by intro b s g H Q I h;apply wpAny_Call_method m.base m.few m.line Mi PySem.F.slot_dict_pop PySem.F.type_dict_pop (thn (w b s g H _ I h) λu p h_=>?_);let(x,E,i,r,a,B,d,q1):=h_;subst B;obtain rfl:u=Value.ref a:=r;let(n,j,_):=qV i d;apply Gc n j;rw[m.trees];apply Ws rfl (Calls.spliced_cons (thn (z b p g E _ i q1) λL K h_=>?_));let(y,M,D,q,kvs,k,v,ea,A,l,t):=h_;apply Calls.spliced_nil ?_;subst A;exact d_pop D ea q l (.inl rfl) λG J C c=>(v,_,C,c,t)
def Bu (kvs a)(b):Jfl (a++[b])=zaz (Jfl a) b.1 b.2:=by unfold bE;rw[List.foldl_append];rfl
theorem wJ {kvs:List (JeY V)}{ks:Nat->Key}{vals:Nat->Value}:∀n,n<=kvs.length->(∀i a,i<n->kvs[i]?=some a->a.1=ks i/\bn a.2 (vals i))->KV (bE [] (kvs.take n)) (Jlj n)
 |0,_,_=>.nil
 |n+1,c,h=>by let b:=gG c;let(e,d):=h n _ (Nat.lt_succ_self n) b;rwa[qR,a_ b,Bu,<-e]at KV.put (wJ n Jn λi a f=>h i a Jn) _ d
def qW (hc:Vi X.calm):Jc3 X "dict" (λxs H Q=>∃p ys kvs,xs=Vj p/\JmN p ys/\JbE Jj1/\(∀(i:Nat) y c,ys[i]?=some y->kvs[i]?=some c->∃a,Nk y a/\Jqa [kV c.1,c.2])/\
  ∀d,Jdu d d (Vc H d (bE [] kvs))):=by
 intro G s σ H xs us Q I r h;let(p,ys,kvs,rfl,Z,k,hT,q):=h;let(u,rfl,R):=eX r;cases (show JlP p from R);let(b,v,(o,n,ho,F,E,l),hz):=I.list Z;let hl:b.length=kvs.length:=by rw[<-k,v.length]
 let ex:∀i:Nat,∃t:QP (JeY (JcI Value)),Jkf i->b[i]?=Ja t.1/\s.heap.IsTuple t.1 #[t.2.2.1,t.2.2.2]/\(Jdo X.w).is t.2.1 t.2.2.1=true/\∀c,kvs[i]?=some c->c.1=t.2.1/\bn c.2 t.2.2.2:=λi=>by
  by_cases x:Jkf i
  .let C:ys[i]?=some ys[i]:=gG (by have:=v.length;exact (‹_›:_=_)▸‹_›);let J:kvs[i]?=some kvs[i]:=gG (by omega);let(a,ea,ha):=hT i _ _ C J;rw[ea]at C;let(N,B,A):=v.get C;cases (show Vs N a from A);let(Y,S,W,_):=I.tuple ha;let(P,O,rfl,U,T):=iC S;exact((a,kvs[i].1,P,O,),λm=>(B,W,ic U,λc e=>by simp_all))
  .exact((0,.inl 0,.none,.none,),λz=>MS x)
 let(f,L):=Classical.axiomOfChoice ex;apply Be (knd:=Jdo X.w) (Ts:=λi=>(f i).1) (keys:=λi=>(f i).2.2.1) (vals:=λi=>(f i).2.2.2) (ks:=λi=>(f i).2.1) (I.ok.hd hc) ho F E l ?_ (λi x=>?_) λh' tk j M=>?_
 .have:=v.length;simp only[sAq];lia
 .let D:Jkf i:=by simpa using x
  let(B,A,e3,_):=L i D;exact(by simpa using B,A,e3)
 .let g:=wJ (kvs:=kvs) (vals:=λi=>(f i).2.2.2) Jj1 Yd λi c x e=>(L i (by simp_all)).2.2.2 c e;rw[NF _]at g;let es:Jnq kvs.length:=by simp only[sAq];exact hl
  rw[es]at M;let z:(bE [] kvs).length<=sizeLine:=by let B:=g.length;let A:=qS (λi=>(f i).2.1) (λi=>(f i).2.2.2) Jj1;lia
  exact JsJ (Jm V0 _) tk j _ (kE z (beq_eq_false_iff_ne.mpr (Ne.symm (Nat.ne_of_lt I.big))) g M) Jjw
def wK (J:Vi X.calm):Ys X "any" (λxs H Q=>∃(p:Addr) (bs:List Bool),xs=Vj p∧JoO (JmN p (bs.map V.bl)) (bs.any id)):=by
 intro l s N H xs us Q I r h;let(p,bs,rfl,B,q):=h;let(u,rfl,w):=eX r;cases (show JlP p from w);let(a,k,pl,hz):=I.list B;let F:=k.length;rw[lM]at F;let C:Jk p:=by let(o,D,_):=Gj;exact hLq D
 let j:=Nat.ne_of_lt C;apply call_any_walk (IZ Gj);apply(V0,Jlv p,[V0],Jnh,5,λi=>Jbg i,rfl,Walks.list (show Mf X.A.in1.handled from I.ok.hd J) _ p j Jc1,Jhq Jgd _,?_,λh' tk G=>?_)
 .intro i v s' P R z L;let d:a[i]?=some v:=by simpa using z
  let g:=(gEq d).1;let c:bs[i]?=some (Jbg i):=by rw[List.getD_eq_getElem?_getD,gG (by lia)];rfl
  let(O,t,M):=k.get (by rw[List.getElem?_map,c];rfl);erw[d]at t;cases (show Jgb v _ from M);exact wpAny_truthy_bool L
 .let e:(List.range Jnh).any (λi=>Jbg i)=bs.any id:=by
   rw[Bool.eq_iff_iff,List.any_eq_true,List.any_eq_true];constructor
   .rintro ⟨i,g,c⟩;let f:i<bs.length:=by have:=List.mem_range.mp g;simp only[sAq]at this;lia
    rw[List.getD_eq_getElem?_getD,gG f]at c;exact(bs[i],List.getElem_mem f,c)
   .rintro ⟨x,y,c⟩;let(i,g,rfl):=List.mem_iff_getElem.mp y;apply JcS i (by simp only[sAq];lia);rwa[List.getD_eq_getElem?_getD,gG g]at c
  apply(.bl _,H,I.kept (t':=tk) λb o n=>G b o ?_ (UD n),JkH Value.bool,q);intro E;have:Jd1 b:=by simpa using E
  exact JhS n (this<|>Nat.lt_irrefl _)
noncomputable def zcM (r:List Int):Dt:=.tup (r.map Ie)
theorem jG:∀ns:List Int,MU (ns.map Ie)
 |[]=>by rfl
 |n::ns=>by simp only[List.map_cons,bX,nol,Bool.true_and];exact jG ns
def Bv (r):Jcc (zcM r):=by simp only[zcM,nol,jG]
theorem cN:∀Rs:Xg Int,MU Jss
 |[]=>by rfl
 |t::T=>by simp only[List.map_cons,bX,Bv,Bool.true_and];exact cN T
def wL {K:W.Frag}{H:Hp}{r:List Int}{x:V}(h:JlT (zcM r) x):∃q,GN q/\SqT K H q (r.map V.int):=by unfold zcM at h;simp only[Has]at h;let(a,xs,rfl,hs,b):=h;rw[iF b]at hs;exact Nd a hs
def kG {K:W.Frag}{H:Hp}{r:List Int}{q:Addr}(h:Vo q (r.map V.int)):Qx K H (zcM r) q:=Has.tup' h (ar.ints r)
def Bx {K:W.Frag}{H:Hp}{Rs:List Yk}{xs:List V}{i:Nat}{x:V}(h:W_ zcM)(e:xs[i]?=some x):∃r q,Rs[i]?=some r/\GN q/\SqT K H q (r.map V.int):=by
 let(d,a,c):=h.get e;rw[List.getElem?_map]at a;cases q:Rs[i]? with
 |none=>erw[q]at a
 |some t=>
  erw[q]at a;let(p,rfl,b):=wL c;exact JgT t p b
def wM {K:W.Frag}{H:Hp}{Rs:List Yk}{xs:List V}{i:Nat}{r:List Int}(h:W_ zcM)(e:Rs[i]?=some r):∃q,xs[i]?=Ja q/\SqT K H q (r.map V.int):=by let(v,c,b):=h.getD (by rw[List.getElem?_map,e];rfl);let(p,rfl,a):=wL b;exact(p,c,a)
def ox (K:W.Frag)(H:Hp)(q:Addr)(ps:List Int):Prop:=Jha H q\/WI q
def ck {ps:List Int}{i:Nat}{x:V}(h:(ps.map V.int)[i]?=some x):∃k,ps[i]?=some k/\x=.int k:=by
 rw[List.getElem?_map]at h;cases e:ps[i]? with
 |none=>erw[e]at h
 |some k=>
  rw[e]at h;exact Nd k ((Option.some.inj h).symm)
theorem jH (n):∀ps:List Int,Jjl n=decide (n∈ps)
 |[]=>by rfl
 |p::ps=>by
  let a:=jH n ps;unfold inV at a⊢;rw[List.map_cons,List.any_cons,a];show(p==n||decide _)=decide _;by_cases e:p=n
  .subst e;simp
  .let b:¬n=p:=λz=>e z.symm;simp [e,b]
def kH (ps:List Int):(ps.map V.int).all zeo=true:=by rw[List.all_eq_true];intro x a;let(n,_,rfl):=List.mem_map.mp a;rfl
noncomputable def bp:Je2 Int (Je2 Int Yk)
 |acc,[]=>acc
 |acc,p::ps=>Jm_ (if p∈acc then acc else acc++[p])
theorem qX:∀(ps acc:List Int),(Jm_ acc).length<=acc.length+JrY
 |[],acc=>by simp [bp]
 |p::ps,acc=>by
  unfold bp;let h:=qX ps (if p∈acc then acc else acc++[p])
  split at h<;>simp only[lAq,List.length_cons,lS,List.length_nil]at h ⊢ <;> split<;>simp_all<;>lia
def By {ps:List Int}{i:Nat}{k:Int}:∀{acc:List Int},ps[i]?=some k->WL acc Xi=if k∈WL acc i then WL acc i else WL acc i++[k]:=by
 induction ps generalizing i with
 |nil=>intro acc h;simp at h
 | cons p ps a =>
  intro acc h;cases i with
  |zero=>
   simp at h;subst h;rfl
  |succ i=>
   simp only[List.take_succ_cons,bp];exact a (by simpa using h)
theorem wN:∀(ps acc:List Int),n∈Jm_ acc↔n∈acc\/n∈ps
 |[],acc=>by simp [bp]
 | p :: ps,acc=>by
  unfold bp;rw[wN ps];by_cases e:p∈acc
  .rw[if_pos e];constructor
   .rintro (h | h)
    .exact .inl h
    .exact .inr (Jb h)
   .rintro (h | h)
    .exact .inl h
    .rcases List.mem_cons.mp h with rfl | h
     .exact .inl e
     .exact .inr h
  .rw[if_neg e];simp only[List.mem_append,List.mem_cons,List.not_mem_nil,or_false];exact or_assoc
theorem wO:∀(ps acc:List Int),(acc++ps).Nodup->Jm_ acc=acc++ps
 |[],acc,_=>by simp [bp]
 |p::ps,acc,h=>by
  let a:p∉acc:=λb=>by have:=(List.nodup_append.mp h).2.2 p b p VI;exact this rfl
  unfold bp;rw[if_neg a,wO ps (acc++[p]) (by simpa using h)];simp
structure fk (H:Hp)(d)(hs:List Int):Prop where
 ex:∃kvs:QX V,Jbo d/\(∀n:Int,(Q_ n).isSome=decide (n∈hs))/\GQ JrZ
def mf (kvs)(k:Key)(v):(XU k v).length<=Jcp 1:=by
 unfold zaz;split
 .rw[lM];lia
 .rw[lAq];simp
def wQ (kvs:QX V)(n m)(v):(Vh (II kvs n v) m).isSome=(decide (m=n)||(Q_ m).isSome):=by
 rw[hX];by_cases e:m=n
 .rw[if_pos (by rw[e]),dTq e];rfl
 simp_all
def fk.put (a:∀n:Int,(Q_ n).isSome=decide (n∈hs))(b:GQ hs.length):fk (Vc H d (II kvs n v)) d (hs++[n]):=by
 apply Jhm _ ao (λm=>?_)
 .rw[wQ,a];by_cases e:m=n
  .subst e;simp
  .simp [e]
 .have:=Jj9 kvs n v;rw[lAq];simp only[lS];exact Nat.le_trans ‹_› (Nat.succ_le_succ ‹_›)
noncomputable def tkv (ps:List Int):QX V:=ps.map λp=>(Sum.inl p,V.bl true,)
def kJ:∀ps:List Int,(∀n:Int,(Vh (Jb0 ps) n).isSome=decide (n∈ps))/\(Jb0 ps).length<=ps.length:=by
 intro ps
 suffices h:∀kvs hs,(∀n:Int,(Q_ n).isSome=decide (n∈hs))->GQ JrZ->(∀n:Int,(Vh (Iy kvs ps) n).isSome=decide (n∈hs++ps))/\(Jfl _).length<=(hs++ps).length by have:=h [] [] (λn=>by rfl) Yd;simpa using this
 induction ps with
 |nil=>intro kvs hs a b;simpa [tkv,bE] using (a,b)
 | cons p ps c =>
  intro kvs hs a b;let e:Iy kvs (p::ps)=bE _ _:=rfl;rw[e,show hs++p::ps=hs++[p]++ps by simp];apply c _ _ (λn=>?_) ?_
  .rw[wQ,a];by_cases e:n=p
   .subst e;simp
   .simp [e]
  .have:=Jj9 kvs p (.bl true);rw[lAq];simp only[lS];exact Nat.le_trans ‹_› (Nat.succ_le_succ ‹_›)
def fk.of:fk (Jb1 H d ps) d ps:=(_,ao,(kJ ps).1,(kJ ps).2)
def fk.same (h:fk H d hs)(s:Xd H):fk H' d hs:=by let(kvs,c,b,a):=h.ex;exact(kvs,s _ _ c,b,a)
def nf (b a:List Int):List Int:=bp [] (b.filter λp=>decide (-p∉a))
noncomputable def aY (Rs:Xg Int)(h:Int):List Int:=Rs.getD h.toNat []
theorem qZ (a:Nat->Int):∀k,Jiz (λi j=>decide (a i<a j))<=k/\∀i,i<=k->a (Jiz (λi j=>decide (a i<a j)))<=a i
 | 0=>(nRq _,λi c=>by
   let e:i=0:=Jn
   subst e;exact Int.le_refl _)
 | k+1=>by
  let(f,d):=qZ a k;unfold argBest;by_cases e:a (k+1)<a (Jiz (λi j=>decide (a i<a j)))
  .rw[Jah e];apply(nRq _,λi c=>?_);by_cases b:i=k+1
   .rwa[b]at Int.le_refl _
   .have:=d i Jn;exact Int.le_of_lt (Int.lt_of_lt_of_le e this)
  .rw[if_neg (λz=>e (oDq z))];apply W4 (λi c=>?_);by_cases b:i=k+1
   .rw[b];simp_all
   .exact d i Jn
theorem wR (a:Nat->Int)(k:Nat):Jiz (λi j=>decide (a i>a j))<=k/\∀i,i<=k->a i<=a (Jiz (λi j=>decide (a i>a j))):=by rw[show(λi j=>decide (a i>a j))=λi j=>decide (-a i < -a j) from funext λi=>funext λj=>by simp];exact(qZ (λi=>-a i) k).imp id λh i b=>Int.neg_le_neg_iff.mp (h i b)
def q_ {ns:List Int}{i:Nat}(h:Jmm i):GG i∈ns:=by rwa[List.getD_eq_getElem?_getD,gG h]at List.getElem_mem h
def rg {ns:List Int}{n:Int}(h:n∈ns):∃i,Jmm i/\GG i=n:=by let(i,a,e):=List.mem_iff_getElem.mp h;exact(i,a,by rwa[List.getD_eq_getElem?_getD,gG a]at e)
def Bz:Gm X .IsNot (λx y H Q=>∃a b,x=.bl a/\JoO (y=.bl b) (a != b)):=by intro c s f H x y v u Q I e d h;let(a,b,rfl,rfl,q):=h;cases e;cases d;exact isnot_bool (ku I q rfl)
def wU {ns:List Int}{a:List Value}(c:bc (ns.map V.int) a):∀i (v:Value),a.toArray[i]?=some v->∃t,v=.int (GG i) t:=λi v e=>by
 let b:a[i]?=some v:=by simpa using e
 let k:i<a.length:=(gEq b).1;let f:=Jri;rw[lM]at f;let g:ns[i]?=some (GG i):=by rw[List.getD_eq_getElem?_getD,gG (by simp_all)];rfl
 let(j,d,h):=c.get (by rw[List.getElem?_map,g];rfl);erw[b]at d;exact h
def ri (I:Xm s)(l:ox X.K H p ns)(y:Mf A.handled)
  (h:∀J B u P St a,Walks X.prog X.w A J B u ns.length P St->St 0 a.heap->(∀b∈B,b<a.heap.objs.size)->(∀i v,P i v->∃t,v=IS (GG i))->IA (∀h' tk,(∀b o,b∉u->a.heap.get? b=some o->h'.get? b=some o)->Xm { a with heap:=h',toks:=tk }) J a):
  wpAny (Vg X.w) A (Je6 p) Q E s:=by
 let j:∀{o n:Obj},s.heap.get? p=some o->∀b∈Jlv p,b<(s.heap.push n).objs.size:=λf b x=>by
  rw[Heap.size_push];simp only[List.mem_cons,List.not_mem_nil,or_false]at x;rcases x with rfl|rfl
  .exact Nat.lt_succ_self _
  .exact Nat.lt_succ_of_lt (hLq f)
 let d:∀(n:Obj) h' tk,(∀b o,b∉[V0]->(s.heap.push n).get? b=some o->h'.get? b=some o)->Inv X pins σ H { s with heap:=h',toks:=tk }:=λn h' tk k=>I.kept (t':=tk) λb o e=>k b o (λz=>by rw[mSq z]at e;exact Mu (hLq e) _) (UD e)
 rcases l with l|l
 .let(c,g,pl,hz):=I.list l;let r:c.toArray.size=ns.length:=by rw[sAq,←g.length,lM]
  let(o,f,_):=Gj;exact wpAny_pyIter_list Gj (h _ _ _ _ _ _ (r▸Walks.list y _ p (XM f) Jfn) (Jhq Jgd _) (j f) (wU g) (d _))
 .let(c,g,pl,hz):=I.tuple l;let r:c.toArray.size=ns.length:=by rw[sAq,←g.length,lM]
  let q:s.heap.IsTuple p c.toArray:=pl;let(o,f,_):=id q;exact wpAny_pyIter_tuple q (h _ _ _ _ _ _ (r▸Walks.tuple y _ p (XM f) Jfn) (Jgt VN,q.push _) (j f) (wU g) (d _))
def wV (x:Vi X.calm):Ys X "min" (λxs H Q=>∃(p:Addr) (ns:List Int),xs=Vj p/\ox X.K H p ns/\ns≠[]/\∀m,m∈ns->(∀n∈ns,m<=n)->Mn m H):=by
 intro d s B H xs us Q I r h;let(p,ns,rfl,l,c,q):=h;let(u,rfl,g):=eX r;cases (show JlP p from g);let k:Jmm 0:=List.length_pos_iff.mpr c;apply call_min_walk (ri I l (I.ok.hd x) λJ z f P St C W st b e a=>(J,z,f,_,P,St,λi j=>decide (GG i<GG j),rfl,W,st,b,k,CmpOf.ints_lt (λi=>GG i) e,λv h' tk y w=>?_));let(t,rfl):=e _ _ y;let(E,A):=qZ (λi=>GG i) JrM;exact(.int _,H,a h' tk w,Wf t,q _ (q_ (Nat.lt_of_le_pred k E)) λn o=>by let(i,D,rfl):=rg o;exact A i (Nat.le_pred_of_lt ‹_›))
def wW (x:Vi X.calm):Ys X "max" (λxs H Q=>∃(p:Addr) (ns:List Int),xs=Vj p/\ox X.K H p ns/\ns≠[]/\∀m,m∈ns->(∀n∈ns,n<=m)->Mn m H):=by
 intro d s B H xs us Q I r h;let(p,ns,rfl,l,c,q):=h;let(u,rfl,g):=eX r;cases (show JlP p from g);let k:Jmm 0:=List.length_pos_iff.mpr c;apply call_max_walk (ri I l (I.ok.hd x) λJ z f P St C W st b e a=>(J,z,f,_,P,St,λi j=>decide (GG i>GG j),rfl,W,st,b,k,CmpOf.ints_gt (λi=>GG i) e,λv h' tk y w=>?_));let(t,rfl):=e _ _ y;let(E,A):=wR (λi=>GG i) JrM;exact(.int _,H,a h' tk w,Wf t,q _ (q_ Jn) λn o=>by let(i,D,rfl):=rg o;exact A i (Nat.le_pred_of_lt ‹_›))
def Inv.turnedN {X:Cx}{a:List GM}{j:St}{H:Hp}{s:Shared}{h':Heap}{i:List Addr}{t':Nat}(I:Jf5 j)(g:∀b∈i,df X a H b)(k:∀b u,b∉i->s.heap.get? b=some u->h'.get? b=some u):
  Inv X a j H { s with heap:=h',toks:=t' }:=by
 let d:∀b u,QG b u (b∉i):=λb u e z=>by erw[(g b z).1]at e
 exact I.call (g':=s.gens) (d':=s.drawn) (ch:=i) (λb u q x x f=>k b u f q,λb u q x x f=>Jor (k b u f q),λx x x n x=>n,λb u q f=>(u,k b u f q),λx x q=>q,λx x x q=>q,λx ps q=>(#[],by rw[q];simp))
  (λb u e=>(JpY u).stay (λc v l q=>k c v (l.elim (λz=>z▸d b u e) (d c _)) q) (λx q=>q) λx x q=>q) I.bare λb h=>((g b h).2.2.2.1,(g b h).2.1,(g b h).2.2.2.2.1,(g b h).2.2.2.2.2)
def Inv.turnedLaid {X:Cx}{d:List GM}{t:St}{H:Hp}{s:Shared}{h':Heap}{l:List Addr}{a:Addr}{o:HO}{t':Nat}(I:Jf4 d t)(j:∀b∈l,df X d H b)(k:∀b u,b∉l->s.heap.get? b=some u->h'.get? b=some u)(x:Jak a)(p:I0 JdL h' a o):
  Inv X d t JdL { s with heap:=h',toks:=t' }:=by
 let i:=I.hok.fresh x;let g:∀b u,QG b u (b∉l):=λb u e z=>by erw[(j b z).1]at e
 let y:Jdj l H JdL h':=(λb u q m m h=>k b u h q,λb u q m m h=>Jor (k b u h q),λb u q n m=>by rwa[aq (Nz q x)]at n,λb u q h=>(u,k b u h q),λb xs q=>by rwa[NP q i]at q,λb u xs q=>by rwa[NP q i]at q,λb ps q=>(#[],by rw[NP q i,q];simp))
 let r:Jg2 JdL h':=λb u e=>by
  by_cases f:b=a
  .subst f;erw[ao]at e;exact p
  .rw[aq f]at e;apply(JpY u).stay (λc v A q=>k c v ?_ q) (λc q=>by rwa[NP q i]at q) λc xs q=>by rwa[NP q i]at q
   rcases A with z|z
   .rwa[z]at g b u e
   .exact g c _ z
 exact I.call (g':=s.gens) (d':=s.drawn) y r I.bare λb f=>((j b f).2.2.2.1,(j b f).2.1,(j b f).2.2.2.2.1,(j b f).2.2.2.2.2)
def Ite (K:W.Frag)(a:Addr):It :=
 (λi H=>∃xs x,XR a/\xs[i]?=some x,λi H x H'=>∃p y,GN p/\Nf p/\H'=Gb H p (Jw i y)/\∀xs,XR a->xs[i]?=some y,λi H=>∃xs,XR a/\Jam i)
def mi {K:W.Frag}{a:Addr}{xs:List V}:JbO (Ite K a) (λH=>XR a):=(λx x h b=>(xs,h,b),λi x h b=>(xs,xs[i],h,by simp [b]))
def BA {P:Program}{w:World}{K:W.Frag}{A:List Expr}{x1:Nat}{pos:Pos}(a e it:Addr)(r:e≠it):gc P w K (Jm0 A x1) (Ite K a) [e,it] e (λi h=>(∃c,IsEnum h e it ((i:Nat):Int) c)∧Jfh it a) where
 mem:=by simp
 obj:=λi h st b d=>by
  let((c,g),o,Q,U,hd):=st;rcases List.mem_cons.mp d with rfl|d
  .exact Q5 g (λv z=>Jn)
  .let e':=mSq d;subst e';exact Jmh Q (λv z=>by erw[hd]at z)
 keep:=λi h h' st k=>(by let(c,g):=st.1;exact(c,Uw e _ g),st.2.at λo q=>Uw it o q)
 item:=by
  intro X hP N hK U i l s σ H E I C st S;subst hP N hK;let(xs,x,B,M):=S;let(L,G,p,hz):=I.list B;let(u,hu,ru):=G.get M;let((c,g),j):=st;let(oi,O,hci,hdi):=id j;apply wpAny_pyNext_enum_item g j Jci (x:=u) (by simpa using hu) r λh' Q F hT hsz hk=>?_;apply QD (wpAny_letOwnedTupleGo_enum Q λD T f=>?_);replace f:Heap.SameBut e h' D:=f;let t:Jk e:=hLq g;let R:Jk it:=hLq O;let Z:D.get? V0=some { cls:=.type "tuple",data:=.seq #[JeU i,u] }:=(f.2 _ (Nat.ne_of_gt t)).trans hT;let kk:∀b o,b∉[e,it]->s.heap.get? b=some o->D.get? b=some o:=λb o d q=>by let y:b≠e:=λz=>d (by simp [z]);let Y:b≠it:=λz=>d (by simp [z]);exact(f.2 b y).trans (hk b o y Y q)
  let J:I0 (Gb H V0 (Jw i x)) D V0 (Nw i x):=by
   apply(?_,[JeU i,u],MG JeC ru,_,Z,?_)
   .exact MW (show Jr 2 by decide)
   lia
  apply W8 (.ref V0) _ (I.turnedLaid (t':=s.toks+1) C kk Yd J) (VV _ x I.fresh rfl (λys hy=>by rwa[I.list_inj hy B]at M)) (Qm (u,by simpa using T)) ?_
  .exact F.at λo q=>(f.2 it (Ne.symm r)).trans q
  .intro b d;let n:Jk b:=by
    rcases List.mem_cons.mp d with rfl|d
    .exact t
    .rwa[mSq d]at R
   rwa[aq (Nat.ne_of_lt n)]at(C b d).1
 done:=by intro X hP N hK U i l s σ H E I C st S;subst hP N hK;let(xs,B,M):=S;let(L,G,p,hz):=I.list B;let((c,g),j):=st;let(f0,f1,f2,f3,f4,f5):=Jph it;let hl:=G.length;exact wpAny_pyNext_enum_end (I.ok.hd U) g j Jci Vl λh' eb=>V8 (t':=s.toks) (λb o d q=>eb b o d q) f0 f1 f3 f4 f5
 self:=λm m m m m st h=>by let((c,g),_):=st;exact wpAny_pyIter_enum g h
def iEnum (K:W.Frag)(d:TA):TI:=λc H R=>d c H λvs b=>∃a,vs=Vj a/\(∃xs,Uv b a)/\R (Ite K a) b
def mj {g:List Expr}{t:Nat}{x:Pos}{a:Expr}{n:TA}{p pos:Pos}(D:Jit "enumerate")(C:UG "enumerate")(E:PA X [a] n)(hs:Ib [a]=[(false,Jc a,)]:=by rfl):PI X (.Tuple g t x) (JfS "enumerate" [a]) (iEnum X.K n):=by
 intro c s l H R I h;apply Jbi I D C boot_enumerate (thn (E pos c s l H _ I h) λus d h_=>?_) hs rfl;let(vs,r,i,w,q1):=h_;let(a,e,(xs,B),q):=q1;subst e;let(u,rfl,v):=w.one;cases v;let(z,G,p,hz):=i.list B;apply call_enumerate_list Jci λh' o j A y=>?_;apply wpAny_pyIter_enum o ?_;let F:Ir c l r { d with heap:=h' }:=i.kept (t':=d.toks) y;apply JO _ [d.heap.objs.size+1,d.heap.objs.size] _ (Ite Gh a) r F (BA a (d.heap.objs.size+1) d.heap.objs.size (Nat.succ_ne_self _)) (Mr o,j) (λb k=>?_) q;let f:d.heap.objs.size<=b:=by
  rcases List.mem_cons.mp k with rfl|k
  .lia
  .rwa[mSq k]at nRq _
 exact i.fpOk f (i.hok.fresh f)
inductive rIsT (K):List V->Hp->VK->Prop|m{xs H Q} p ys n b:xs=Gw p (.ty n)->Jny p->JmM K "tuple" n b->Jpa b (rIsT K xs H Q)
def mn:Jbn X (rIsT X.K):=by intro a s l H xs us Q I r h;let(p,ys,n,b,rfl,g,i,q):=h;let(u,c,rfl,e,d):=iC r;cases (show Jdl c n from d);cases e;let(f,t,(o,k,j,_),hz):=I.tuple g;exact W.kia_one W.kitx_tuple Jjr (Jmh k j) i Jx λtk=>VD b H Jsa q
def rj:Jbn X (λxs H Q=>∃p ys n b,xs=Gw p (.ty n)/\JmN p ys/\JoO (JmM X.K "list" n b) b):=by intro a s l H xs us Q I r h;let(p,ys,n,b,rfl,g,i,q):=h;let(u,c,rfl,e,d):=iC r;cases (show Jdl c n from d);cases e;let(f,t,pp,hz):=I.list g;let(o,k,j,_):=pp.isList;exact W.kia_one W.kitx_list Jjr (Jmh k j) i Jx λtk=>VD b H Jsa q
end L2
namespace L2
open PySem
def opn (a hs:List Int):List Int:=bp [] (a.filter λp=>decide (p∉hs)&&decide (-p∉hs))
def wX:a∈opn row hs↔a∈row/\a∉hs/\-a∉hs:=by unfold opn;rw[wN,List.mem_filter];simp
noncomputable def dQT (p:Int):Dt:=Nw p (.bl true)
theorem rn:∀ps:List Int,MU (ps.map dQT)
 |[]=>by rfl
 |t::ts=>by simp only[List.map_cons,bX,dQT,nol,Bool.true_and];exact rn ts
def BD (h:JlU (dQT p)):∃a,Nk v a/\SqT K H a (JeD p):=by unfold dQT at h;simp only[Has,ar]at h;let(a,xs,rfl,hs,c,r,rfl,rfl,b,d,rfl,rfl,rfl):=h;exact Nd a hs
def wY (h:Vo a (JeD p)):Qx K H (dQT p) a:=Jbd h .int (by rfl)
def wZ (h:Vt (ps.map dQT) ys):ys.length=(tkv ps).length/\∀(i:Nat) y c,ys[i]?=some y->(tkv ps)[i]?=some c->∃a,Nk y a/\SqT K H a [kV c.1,c.2]:=by
 let f:N1 ys.length:=by rw[<-h.length,lM]
 apply(by rw[f];simp [tkv],λi y c j b=>?_);let(d,e,g):=h.get j;unfold tkv at b;rw[List.getElem?_map]at b e;cases q:ps[i]? with
 |none=>erw[q]at b
 |some p=>
  rw[q]at b e;cases b;cases e;exact BD g
def cL (d:Addr)(H H':Hp):Prop:=∀b o,b≠d->Jik b o b o
def cL.refl (d)(H):cL d H H:=λx x x h=>h
def cL.trans (a:cL d H H1)(b:cL d H1 H2):cL d H H2:=λc o n h=>b c o n (a c o n h)
def ap.x (s:Xd H)(d):cL d H H':=λb o y h=>s b o h
def cL.put (H)(o):cL d H (Jm d o):=λb u n h=>by rwa[aq n]at h
def cL.kt (s:cL d H H')(h:Jbo d):JgF H':=λb us z=>by
 let a:b≠d:=λe=>by
  rw[e]at z;rcases z with z|⟨o,z⟩
  .erw[h]at z
  .erw[h]at z
 rcases z with z|⟨o,z⟩
 .exact .inl (s _ _ a z)
 .exact Jl o (s _ _ a z)
end L2
namespace L2
open PySem PySem.Spec PyProof.Rows
noncomputable def Itv (K:W.Frag)(a:Addr)(n:Nat):It :=
 (λi H=>i<n/\∃xs,XR a/\Xp n,λi H x H'=>H'=H/\∀xs,XR a->xs[n-1-i]?=some x,λi H=>n<=i)
def rq {K:W.Frag}{a:Addr}{xs:List V}:JbO (Jox K a) (λH=>XR a):=(λx x x b=>b,λx x h b=>(b,xs,h,rfl))
def BI {P:Program}{w:World}{K:W.Frag}{O:Expr}(a it)(n):gc P w K O (Itv K a n) [it] it (λi h=>i<=n/\h.IsRevIter it a ((n:Int)-1-(i:Int))) where
 mem:=by simp
 obj:=λi h st b j=>by
  let e:b=it:=by simpa using j
  subst e;let(_,o,e,c,d):=st;exact Jmi (λv z=>by erw[d]at z)
 keep:=λi h h' st k=>(st.1,st.2.at λo e=>Uw it o e)
 item:=by
  intro X A t B N i g s L H E I r st y;subst A t B;let(Z,xs,M,hl):=y;let(T,R,p,hz):=I.list M;let q:Ja0 (n-1-i):=Jn
  let(u,Y,S):=R.get (gG q);let(J,G,f2,F,D,C):=r it Js;let e:(n:Int)-1-(i:Int)=((n-1-i:Nat):Int):=by rw[Int.ofNat_sub (Nat.le_sub_one_of_lt Z),Int.ofNat_sub (Nat.zero_lt_of_lt Z)];rfl
  let f:=st.2;rw[e]at f;apply wpAny_pyNext_rev_item f Jci (by simpa using Y) λh' l Q=>?_;let I1:=JsI s.toks (λb o j e=>(Q.2 b j).trans e) J G F D C;let(o,e1,c,d):=id l;apply Nd u (I_ e1 c d (xs[n-1-i],H,I1,S,WO (λys U=>by rwa[I.list_inj U M]at gG q),Qm Jn,λb j=>(r b j).1));let e2:(n:Int)-1-((i+1:Nat):Int)=((n-1-i:Nat):Int)-1:=Jn
  rwa[e2]at l
 done:=by
  intro X A t B N i g s L H E I r st y;subst A t B;let(J,G,f2,F,D,C):=r it Js;let Z:i=n:=Nat.le_antisymm st.1 y;let f:=st.2;let e:(n:Int)-1-(i:Int)=-1:=Jn
  rw[e]at f;exact wpAny_pyNext_rev_end (I.ok.hd N) f λh' eb=>V8 (t':=s.toks) (λb o j e=>eb b o j e) J G F D C
 self:=λx x x x x st h=>wpAny_pyIter_revIter st.2 h
def Itz (K:W.Frag)(a b:Addr):It :=
 (λi H=>∃xs ys x y,XR a∧JmA b∧xs[i]?=some x∧ys[i]?=some y,λi H x H'=>∃p y z,GN p∧Nf p∧H'=Gb H p [y,z]∧(∀xs,XR a→xs[i]?=some y)∧∀ys,JmA b→ys[i]?=some z,
  λi H=>∃xs ys,XR a/\JmA b/\(Jam i\/Jee i))
def BJ {K:W.Frag}{a b:Addr}{xs ys:List V}(h:Xp JcW):JbO (Itz K a b) (λH=>XR a/\JmA b) :=
 (λx x q c=>(xs,ys,q.1,q.2,.inl c),λi x q c=>(xs,ys,xs[i],ys[i]' Jn,q.1,q.2,by simp [c],by simp))
def BN {P:Program}{w:World}{K:W.Frag}{N:List Expr}{x1:Nat}{pos:Pos}(a b z TI TO l j:Addr)(D:ZipApart z TI TO l j a b):gc P w K (Jm0 N x1) (Itz K a b) [z,TI,TO,l,j] z
  (λi h=>IsZip h z TI TO .none/\IsPair h TI (.ref l) (.ref j)/\(∃u v,JiA h u v)/\Jfh l a/\Jfh j b) where
 mem:=by simp
 obj:=λi h st c d=>by
  let(A,g,(u,v,t),(o4,r,c4,d4),(o5,n,c5,d5)):=st;simp only[List.mem_cons,List.not_mem_nil,or_false]at d;rcases d with rfl|rfl|rfl|rfl|rfl
  .exact Q5 A (λv q=>Jn)
  .exact Q5 g (λv q=>Jn)
  .exact Q5 t (λv q=>Jn)
  .exact(o4,r,λv q=>by erw[d4]at q)
  .exact(o5,n,λv q=>by erw[d5]at q)
 keep:=λi h h' st k=>by let(A,g,(u,v,t),r,n):=st;exact(Uw z _ A,Uw TI _ g,(u,v,Uw TO _ t),r.at λo q=>Uw l o q,n.at λo q=>Uw j o q)
 item:=by
  intro X hP hw hK d i G s σ H E I R st hg;subst hP hw hK;let(xs,ys,x,y,Q,f,O,hy):=hg;let(its,U,p,hz):=I.list Q;let(J,B,Y,hz2):=I.list f;let(u,hu,ru):=U.get O;let(v,hv,T):=B.get hy;let(A,g,(u0,v0,t),r,n):=st;let lz:Jk z:=hLq A;let lTI:Jk TI:=hLq g;let lTO:Jk TO:=hLq t;let l1:Jk l:=by let(o,e,_):=id r;exact hLq e
  let l2:Jk j:=by let(o,e,_):=id n;exact hLq e
  apply wpAny_pyNext_zip_item D A g t r n Jci Y.isList (x:=u) (y:=v) (by simpa using hu) (by simpa using hv) λh' g1 g3 g4 g5 gT gz S=>?_;apply QD (wpAny_letOwnedTupleGo_zip g1 λM g6 hs=>?_);replace hs:Heap.SameBut z h' M:=hs;let hT:M.get? V0=some { cls:=.type "tuple",data:=.seq #[u,v] }:=(hs.2 _ (Nat.ne_of_gt lz)).trans gT;let kk:∀c o,c∉[z,TI,TO,l,j]->s.heap.get? c=some o->M.get? c=some o:=λc o d q=>(hs.2 c λe=>d (by simp [e])).trans (S c o Xo Xo Xo Xo q);let Z:I0 (Gb H V0 [x,y]) M V0 (Wl x y) :=
   (MW (show Jr 2 by decide),[u,v],MG ru T,_,hT,rfl,2)
  let gTI:M.get? TI=some _:=(hs.2 TI D.TIz).trans (S TI _ D.TIz D.TITO D.TIi1 D.TIi2 g);apply W8 (.ref V0) _ (I.turnedLaid (t':=s.toks) R kk Yd Z) (JS _ x y I.fresh rfl (λzs C=>by rwa[I.list_inj C Q]at O) (λzs C=>by rwa[I.list_inj C f]at hy)) (g6,gTI,Q5 _ ((hs.2 TO D.TOz).trans g3),g4.at λo q=>(hs.2 l D.i1z).trans q,g5.at λo q=>(hs.2 j D.i2z).trans q) (λc d=>?_);let lc:Jk c:=by let L:=d;simp only[List.mem_cons,List.not_mem_nil,or_false]at L;rcases L with rfl|rfl|rfl|rfl|rfl<;>assumption
  rwa[aq (Nat.ne_of_lt lc)]at(R c d).1
 done:=by intro X hP hw hK d i G s σ H E I R st hg;subst hP hw hK;let(xs,ys,Q,f,O):=hg;let(its,U,p,hz):=I.list Q;let(J,B,Y,hz2):=I.list f;let(A,g,(u0,v0,t),r,n):=st;let hl:=U.length;let hl2:=Jqs;apply wpAny_pyNext_zip_end (I.ok.hd d) D A g t r n Jci Y.isList (O.elim (λq=>.inl Vl) λq=>.inr Vl) λh' S=>Qm rfl;exact I.turnedN (t':=s.toks) R λc o d q=>S c o Xo Xo Xo Xo q
 self:=λm m m m m st h=>wpAny_pyIter_zip st.1 h
def Inv.freeze (I:Xm s)(h:Jbo d)(k:s.heap.get? d=some o):Ik (Jm d (JfL o)) s:=by
 let f:∀b u,QG b u (u≠.dK kvs->b≠d):=λb u e n z=>Jn
 let u:JaV X.fs [] H (Jm d JeX) s.heap:=(λb a q x x x=>q,λb a q x x x=>(a.slots,q),λb a q n x=>by rwa[aq (λz=>by erw[z,h]at n)]at n,λb a q x=>(a,q),λb xs q=>by rwa[aq (UY b _ q)]at q,λb a xs q=>by rwa[aq (UY b _ q)]at q,λb ps q=>(#[],by rw[aq (UY b _ q),q];simp))
 let g:Jg2 (Jm d JeX) s.heap:=λb j e=>by
  by_cases i:b=d
  .subst i;erw[ao]at e;exact(k,VM b h)
  .rw[aq i]at e;exact(JpY j).stay (λc l x q=>q) (λc q=>by rwa[aq (UY c _ q)]at q) λc xs q=>by rwa[aq (UY c _ q)]at q
 exact I.un (t':=s.toks) (h':=Yq) u g
def Inv.thaw (I:Xm s)(h:Ic d (JfL o))(h0:∀o u,X.H₀ d≠some (Jis u)):Ik (Vc H d kvs) s:=by
 let a:∀b u,QG b u (u≠Jis _->b≠d):=λb u e n z=>by erw[z,h]at e;exact n rfl
 let g:∀b,Ms b (b≠d):=λb e z=>by erw[z,h]at e
 apply Jb8 I.ok I.os (I.base.keep,I.base.slot,λb f q n i=>by rwa[aq (g b (Jb7 f q n i))]at Jb7 f q n i,I.base.there,λb xs q=>by rwa[JoX b _ (Jmj b q)]at Jmj b q,λb f u q=>?_,λb ps q=>?_) I.loc I.cell (aq (g _ I.free)<|>I.free) (λx c e=>by rwa[aq (g _ (Jcx c e))]at Jcx c e) (λp v=>?_) (λb r e=>?_) I.len
 .let t:b≠d:=λz=>h0 f u (by rwa[<-z]at q);rwa[aq t]at I.base.frzs b f u q
 .let(m,e):=I.base.tbls b ps q;exact(m,by rwa[JoX b _ e]at e)
 .let(y,k,w):=Jbs v;exact(y,by rwa[aq (g _ k)]at k,w)
 .by_cases j:b=d
  .subst j;erw[ao]at e;let q:=VM b h;exact q.2.stay (λc l A q=>q) (λc q=>by rwa[JoX c _ q]at q) λc xs q=>by rwa[JoX c _ q]at q
  .rw[aq j]at e;exact(JpY r).stay (λc l A q=>q) (λc q=>by rwa[JoX c _ q]at q) λc xs q=>by rwa[JoX c _ q]at q
def Itd (d:Addr)(o:Obj)(kvs:QX V):It :=
 (λi H=>i<kvs.length/\Ic d JeX,λi H x H'=>H'=H/\∃k v,kvs[i]?=some (k,v,)/\x=kV k,λi H=>GQ i/\Ic d JeX)
def BQ:Wk (Itd d o kvs) Jj1 (λH=>Ic d (JfL o)):=(λx x h a=>(a,h),λx x h a=>(a,h))
def w_ (h:Ji2 k u):QN (kV k):=by
 rcases gZ h with ⟨i,t,rfl,rfl⟩|⟨x,t,rfl,rfl⟩
 .exact Wf t
 .exact Wf t
def BU {P:Program}{w:World}{K:W.Frag}{tg:Expr}(d it)(o)(kvs)(ep)(y:∃es,JjZ ep):gc P w K tg (Itd d o kvs) [it] it (λi h=>h.IsKeyIter it d i Jj1 ep) where
 mem:=by simp
 obj:=λi h st b n=>by
  let e:b=it:=by simpa using n
  subst e;let(f,e,c,dd):=st;exact(f,e,λv z=>by erw[dd]at z)
 keep:=λi h h' st k=>st.at λf e=>Uw it f e
 item:=by
  intro X M F N hc i j s σ H E I C st L;subst M F N;let(hi,G):=L;let(J,zl,t,vs,g,dd):=(show JfQ H d JeX from VM d G);let(p,B):=dd.dictAt;let(f,es,Z,e2,A,e4):=id B;let(U,l):=y;let Y:=Option.some.inj (Z.symm.trans J);subst Y;let q:p=ep:=by erw[l]at A;rfl
  subst q;let a:=g.length;let(T,S,f2,R,Q,O):=Jph it;let hk:=g.keys;let hv:vs[i]?=some vs[i]:=gG Jn;let u:=gG hi;let ek:kvs[i].1=(vs[i]' Jn).1:=by
   let h1:(kvs.map Qn)[i]?=some kvs[i].1:=by rw[List.getElem?_map,u];rfl
   let h2:(vs.map Qn)[i]?=some (vs[i]' Jn).1:=by rw[List.getElem?_map,hv];rfl
   simp_all
  rw[a]at st;apply wpAny_pyNext_dict_item st B hv λD h' x r sb=>?_;let I1:=JsI s.toks (λb f n e=>(sb.2 b n).trans e) T S R Q O;let(oi,q1,q2,q3):=id r;apply Nd D (I_ q1 q2 q3 (kV kvs[i].1,H,I1,?_,(rfl,kvs[i].1,kvs[i].2,u,rfl),by rwa[a]at r,λb n=>(C b n).1));rwa[ek]at w_ x
 done:=by
  intro X M F N hc i j s σ H E I C st L;subst M F N;let(hi,G):=L;let(J,zl,t,vs,g,dd):=(show JfQ H d JeX from VM d G);let(p,B):=dd.dictAt;let(f,es,Z,e2,A,e4):=id B;let(U,l):=y;let Y:=Option.some.inj (Z.symm.trans J);subst Y;let q:p=ep:=by erw[l]at A;rfl
  subst q;let a:=g.length;rw[a]at st;let(T,S,f2,R,Q,O):=Jph it;exact wpAny_pyNext_dict_end (I.ok.hd hc) st B (List.getElem?_eq_none Jn) λh' eb=>V8 (t':=s.toks) (λb f n e=>eb b f n e) T S R Q O
 self:=λm m m m m st h=>wpAny_pyIter_keyiter st h
def iRev (K:W.Frag)(d:TA):TI:=λc H R=>d c H λvs b=>∃a xs,vs=Vj a/\Uv b a/\R (Jox K a) b
def rz {a:Expr}{k:TA}{p pos:Pos}(x:Jit "reversed")(w:UG "reversed")(z:PA X [a] k)(hs:Ib [a]=[(false,Jc a,)]:=by rfl):PI X tg (JfS "reversed" [a]) (iRev X.K k):=by
 intro d s j H R I h;apply Jbi I x w boot_reversed (thn (z pos d s j H _ I h) λus f h_=>?_) hs rfl;let(vs,l,i,t,q1):=h_;let(a,xs,e,v,q):=q1;subst e;let(u,rfl,r):=t.one;cases r;let(c,n,pl,hz):=i.list v;let B:=n.length;apply call_reversed_list Gj ?_;let g:Heap.IsRevIter (f.heap.push (revObj a ((c.toArray.size:Int)-1))) JiX a ((c.toArray.size:Int)-1):=Jgt VN;apply wpAny_pyIter_revIter g ?_;let A:Ir d j l { f with heap:=f.heap.push (revObj a ((c.toArray.size:Int)-1)) }:=i.kept (t':=f.toks) λb o e=>UD e;apply JO _ [JiX] _ (Jox Gh a) l A (BI a JiX Jb5) (Qm Zq) (λb y=>?_) q
 .let e:((xs.length:Nat):Int)-1-((0:Nat):Int)=(c.toArray.size:Int)-1:=by simp;lia
  rwa[e]at g
 .rwa[mSq y]at i.fpOk Yd i.fresh
def iZip (K:W.Frag)(e:TA):TI:=λd H R=>e d H λvs c=>∃a b,vs=Iw a b/\(∃xs,Uv c a)/\(∃ys,Jmz c b)/\R (Itz K a b) c
def BV {k:List Expr}{B:Nat}{F:Pos}{a b:Expr}{w:TA}{p pos:Pos}(Q:Jit "zip")(P:UG "zip")(S:PA X [a,b] w)(hs:Ib [a,b]=[(false,Jc a,),(false,Jc b,)]:=by rfl)(i:Ib [b]=[(false,Jc b,)]:=by rfl):PI X (.Tuple k B F) (JfT [a,b]) (iZip X.K w):=by
 intro d s t H R I h;apply Jbi I Q P boot_zip (thn (S pos d s t H _ I h) λus f h_=>?_) (by rw[hs,i]) (by rw[i];rfl);let(vs,A,l,E,q1):=h_;let(a,b,e,(xs,O),(ys,r),q):=q1;subst e;let(u,v,rfl,D,n):=E.two;cases D;cases n;let(L,rv,pl,hz):=l.list O;let(x,C,g,M):=l.list r;let la:Jhz a:=by let(o,e,_):=Gj;exact hLq e
 let G:Jhz b:=by let(o,e,_):=g.isList;exact hLq e
 apply call_zip_2 Gj g.isList λh' z Y W U T N J=>?_;apply wpAny_pyIter_zip z ?_;let Z:Ir d t A { f with heap:=h' }:=l.kept (t':=f.toks) J;apply JO _ _ _ (Itz Gh a b) A Z (BN a b _ _ _ _ _ (zipApart_new la G)) (z,Y,Q5 _ W,U,T) (λc y=>?_) q;let j:f.heap.objs.size<=c:=by
  simp only[List.mem_cons,List.not_mem_nil,or_false]at y;lia
 exact l.fpOk j (l.hok.fresh j)
def iDict (c:TE):TI:=λb H R=>c b H λx a=>∃d kvs,GN d/\Xa (a d) (.dK kvs)/\∀o,R (Itd d o kvs) (upd a d JeX)
def BY (u:Yp l tl):PI X tg l (iDict tl):=by
 intro a s k H R I h;apply thn (u a s k H _ I h) λv c h_=>?_;let(x,B,r,t,q1):=h_;let(d,kvs,e,n,q):=q1;subst e;cases t;let(C,f,vs,i,dd):=iG r.hok n;let(ep,p):=dd.dictAt;let(o,es,z,F,y,E):=id p;let g:=i.length;let j:=r.freeze n z;apply wpAny_pyIter_dict f p ?_;let A:Ir a k _ { c with heap:=c.heap.push { cls:=.type "dict_keyiterator",data:=.fields #[.ref d,JkK 0,JkK JrX,JkK ep] } }:=j.kept (t':=c.toks) λb D e=>UD e;apply JO _ [WX] _ (Itd d o kvs) _ A (BU d WX o kvs ep (es,y)) ?_ (λb w=>?_) (q o)
 .exact Gz _ VN (by rw[g];rfl)
 .rwa[mSq w]at j.fpOk Yd j.fresh
def BZ (h:JnA e):Yp e (λb H Q=>te b H λx c=>∃d o kvs,Xa (c d) (JfL o)/\(∀o u,X.H₀ d≠some (Jis u))/\Q x (Vc c d kvs)):=by intro a s b H Q I g;apply thn (h a s b H _ I g) λv l h_=>?_;let(x,c,k,f,d,o,kvs,j,i,q):=h_;exact(x,_,k.thaw j i,f,q)
inductive xa:V->List V->Hp->VK->Prop|m{x vs H Q} d b kvs more:Jd9 d (vs=Vj b->d≠b->Jbo d->Jz b more->Qd (Jcp more.length)->UQ (Vc H d (Jfl more))->xa x vs H Q)
def B0:MtR X "dict.update" xa:=by intro p s D H x vs v us Q I y z h;let(d,b,kvs,e,rfl,rfl,n,r,C,hz,q):=h;cases y;let(u,rfl,A):=z.one;cases A;let(G,k,i,c,f):=Jfk r;let(E,j,g,a,o):=Jfk C;let l1:=Jri;let l2:=a.length;apply call_meetsIn JrJ f.typeIs PySem.F.entry_dict_update (PySem.F.args_dict_update_2 _ _) (meets_dict_update JqS d b n j) (i,g,f,o,by simp_all,λh' t K hs=>?_);let J:=qU e kvs;let l:=kE (H':=Vc H d (Jfl e)) (h':=h') Jn k (a.merge c) t;let B:∃q,h'.get? d=some q:=(by let(q,_,_,hq,_):=t;exact (q,hq));exact Mh .non _ (jE I (r<|>IK) hs B l) q
set_option maxRecDepth 100000
def B1:XH "list_reverseiterator" "__len__"=pure none:=by rfl
def B2:XH "list_reverseiterator" "__length_hint__"=pure (Gn "list_reverseiterator.__length_hint__"):=by rfl
section
variable {prog:Program} {w:World} {A:Around} {E:Value->Shared->Prop} {s:Shared} {J:Addr} {fp wr:List Addr} {G:Array GenState->Array GenState->Prop} {n:Nat} {P:Nat->Value->Prop} {St:Nat->Shared->Prop}
def B3 (W:WalksS prog w Jqt J fp wr G n P St)(ty:∀i u,St i u->Jaf (.ref J))(l:St 0 s)(r:∀b∈fp,Jk b)(p:J∈fp)
  (q:∀s' acc,Moved wr G s s'->Jc5 P n->Q Jku s')(fits:Qd n):JnH (collect (.ref J)):=by
 let out:s.heap.objs.size∉fp:=λz=>JiB (r _ z);let g:Jhy J:=λe=>out (e<|>p);apply wpAny_bind (wpAny_runValue (Vr PySem.F.entry_proto_collect));rw[Iq PySem.F.plain_proto_collect];apply wpAny_bind Jse;apply JhE PySem.F.plain_list_iadd (Vr PySem.F.entry_list_iadd);rw[Iq PySem.F.plain_list_iadd];let d:=W.frame 0 s (s.heap.push { cls:=.type "list",data:=.seq ([]:List Value).toArray }) s.toks l Yd λb x o e=>UD e;let j:Heap.get? (s.heap.push { cls:=.type "list",data:=.seq ([]:List Value).toArray }) V0=some { cls:=.type "list",data:=.seq ([]:List Value).toArray }:=Heap.get?_push_size _ rfl;let f:Yw (Builtin.List.listSameRef (.ref V0) (.ref J)):=by simp [Builtin.List.listSameRef,g]
 show Jb4 (Jac V0 (.ref J) (.ref V0)) _;apply Uy Jrm ?_;rw[if_neg (by rw[f];decide)];apply wpAny_bind (W.self 0 _ _ _ d (Xl ?_));apply Yv Jrm B1 ?_;apply Yv Jrm B2 ?_;generalize k:("list_reverseiterator.__length_hint__":String)=v
 wp_delta
 rw[show Xa (splitId v) ("list_reverseiterator","__length_hint__",) from by subst k;rfl];subst k;apply wpAny_bind (wpAny_isInstance (b:=true) Jrm (by rfl) Ih);rw[if_neg (by decide)];apply JhE JrB (codeAny_extend_loopS W fits _ out _ n 0 _ _ _ rfl Zq d j (ItemsOf.nil P) λs' acc c m h t=>?_);apply wpAny_bind (wpAny_load h (wpAny_pure (q s' acc (Moved.drop_new m Yd) t)))
def B4 (W:WalksS prog w A.in1.in1 J fp wr G n P St)(ty:∀i u,St i u->Jaf (.ref J))(a:St 0 s)(e:∀b∈fp,Jk b)(d:J∈fp)
  (q:∀s' acc,Moved wr G s s'->Jc5 P n->Q₁ (.ref s'.heap.objs.size) { s' with heap:=s'.heap.push { cls:=.type "tuple",data:=.seq acc } })(fits:Qd n):
  codeAny Ud A (.call (.builtin "tuple.__new__") (WY [.type "tuple",.ref J])) (wants Q₁ E) s:=by
 apply codeAny_of_tree ?_;show Jb4 _ s
 apply wpAny_bind (wpAny_of_eq (PySem.F.newCall_tuple_1 _) (JhE PySem.F.plain_tuple_new (Vr PySem.F.entry_tuple_new)));rw[Iq PySem.F.plain_tuple_new];let j:=sub_tuple_self;let h:=init_tuple_lookup;let g:=madeHere_tuple;let f:=ty 0 s a
 wp_walk using wpAny_typeOf f,B3 (fits:=fits) W ty a e d
 intro s' acc m c;show JlX (Builtin.Tuple.tupleExact acc.toList.toArray>>=λu=>ret u);apply Jas Ih (by show Qd acc.toList.toArray.size;simp only[Array.toArray_toList];rwa[c.1]at fits);rwa[show acc.toList.toArray=acc by simp]at q s' acc m c
def B5 (W:WalksS prog w A.in1.in1.in1 J fp wr G n P St)(ty:∀i u,St i u->Jaf (.ref J))(c:St 0 s)(e:∀b∈fp,Jk b)(d:J∈fp)
  (q:∀s' acc,Moved wr G s s'->IA (Jc5 P n) s'.heap.objs.size { s' with heap:=s'.heap.push { cls:=.type "tuple",data:=.seq acc } })(fits:Qd n):JnH (JhT "tuple" (Vj J)):=by
 apply callType_codes (Q₁:=λa u=>u.TypeIs a "tuple"/\Q a u) PySem.F.called_tuple (PySem.F.typeCall_tuple_1 _) PySem.F.entry_object_init
  (B4 (fits:=fits) W ty c e d λs' acc m f=>(Ji6 VN,q s' acc m f)) λa u z=>?_
 exact(z.1,PySem.F.args_object_init_2 a _,object_init_meets PySem.F.called_tuple.init.lookup PySem.F.called_tuple.made Jp prog w Jqt _ u (Nd z.1 z.2))
end
set_option maxRecDepth 100000
def B6 (a v):argsOk "max" ([a],[(Str.ofString "default",v,)]):=by rfl
section
variable {prog:Program} {w:World} {A:Around} {R:Result->Shared->Prop} {J:Addr} {fp wr:List Addr} {n:Nat} {P:Nat->Value->Prop} {St:Nat->Heap->Prop} {kw:List JpJ}
def oy:(toString "max"++toString ".loop":String)="max.loop":=by decide
def BestL (P:Nat->Value->Prop)(a:Nat->Nat->Bool)(j:Nat)(L:List Value):Prop:=(j=0/\L=[])\/∃i v,j=i+1/\L=[v,v]/\P (argBest a i) v
def B7 (W:Walks prog w Jqt J fp wr n P St)(D)(O:CmpOf prog w Jqt .Gt P D)(B)(out:B∉fp){nm:Str}{d:Value} :
  ∀k j s L c,n-j=k->j<=n->St j s.heap->BestL P D j L->
  s.heap.get? B=some { cls:=.type "list",dict:=none,data:=.seq L.toArray c,slots:=#[] }->
  (∀v h' tk,(n=0/\v=d\/0<n/\P (argBest D (n-1)) v)->(∀b o,b∉wr->b≠B->s.heap.get? b=some o->h'.get? b=some o)->JpQ v { s with heap:=h',toks:=tk })->
  codeAny Ud A (QK "max.loop" (JmH J .none B) [(nm,d,)]) R s:=by
 let y:B∉wr:=λz=>out (W.sub _ z);intro k
 induction k with
 |zero=>
  intro j s L c U X st M p q;let S:j=n:=Jn
  apply Vr Jsb;rw[Iq PySem.F.plain_max_loop];show Jb4 (seqItems? (.ref B)>>=_) s;apply Gk p rfl ?_;show Jb4 (tryCatch (V5 J) _>>=_) s;apply NW (W.done s _ _ (S▸st) λh' tk a=>?_);rcases M with ⟨T,rfl⟩|⟨i,v,N,rfl,H⟩
  .apply MO ?_;exact q d h' tk (JaO Jn) λb o r m e=>a b o r e
  .show Jb4 (updateSeq B (λm=>#[])>>=_) _;apply WK (a B _ y p) rfl (Jig ?_);exact q v _ tk (Jl Jn (by rwa[<-S,N]at H)) λb o r x e=>(Heap.get?_update_other _ _ (Ne.symm x)).trans (a b o r e)
 | succ k K =>
  intro j s L c U X st M p q;let I:j<n:=Nat.lt_of_sub_eq_succ U
  apply Vr Jsb;rw[Iq PySem.F.plain_max_loop];show Jb4 (seqItems? (.ref B)>>=_) s;apply Gk p rfl ?_;show Jb4 (tryCatch (V5 J) _>>=_) s;apply NW (W.item j s _ _ I st λv h' tk pv C a=>?_);let h:=a B _ y p;let put:∀b o f,b≠B->h'.get? b=some o->(h'.update B f).get? b=some o:=λb o f x e=>(Heap.get?_update_other _ _ (Ne.symm x)).trans e;rcases M with ⟨T,rfl⟩|⟨i,E,N,rfl,H⟩
  .subst T;show Jb4 (updateSeq B (λm=>#[v,v])>>=_) _;apply WK h rfl ?_;rw[oy];apply JhF (K _ _ [v,v] _ (Nat.sub_eq_of_eq_add ‹_›) I (W.frame _ _ _ C λb Q o e=>put _ _ _ (λz=>out (z▸Q)) e) (.inr (JgT 0 v pv)) JqJ λG u l t g=>?_);exact q G u l t λb o r x e=>g b o r x JrC
  .subst N;show Jb4 (tryCatch (holding [v,v] (richCompare .Gt v E >>= _)) _ >>= _) _;apply NW (wpAny_holding (wpAny_bind (O Xi (argBest D i) v E _ _ _ pv H ?_)));apply Xl (wpAny_truthy_bool (Jig ?_));cases eb:D Xi (argBest D i) with
   |true=>
    simp only[if_true];apply WK h rfl (QA ?_);rw[oy];apply JhF (K _ _ [v,v] _ (lqA U) I (W.frame _ _ _ C λb Q o e=>put _ _ _ (λz=>out (z▸Q)) e) (.inr (JgT _ v (by simp only[argBest,eb,if_true];exact pv))) JqJ λG u l t g=>?_);exact q G u l t λb o r x e=>g b o r x JrC
   |false=>
    simp only[Bool.false_eq_true,if_false];apply QA ?_;rw[oy];apply JhF (K _ _ [E,E] c (lqA U) I C (.inr (JgT _ E (by simp only[argBest,eb,Bool.false_eq_true,if_false];exact H))) h λG u l t g=>?_);exact q G u l t λb o r x e=>g b o r x (a b o r e)
end
section
variable {prog:Program} {w:World} {A:Around} {E:Value->Shared->Prop} {s:Shared}
theorem B8
  (h:JnD Jqt (pyIter x) (λit s₂=>∃J fp wr n P St bt,Nk it J/\Walks prog w Jqt J fp wr n P St/\St 0 s₂.heap/\(∀b∈fp,b<s₂.heap.objs.size)/\CmpOf prog w Jqt .Gt P bt/\(∀v h' tk,(n=0/\v=d\/0<n/\P (argBest bt (n-1)) v)->(∀b o,b∉wr->s₂.heap.get? b=some o->h'.get? b=some o)->Q v { s₂ with heap:=h',toks:=tk })) E s):
  wpAny Ud A (call (.builtin "max") [x] [(Str.ofString "default",d,)]) Q E s:=by apply PyProof.Rows.kmk_tree PySem.F.kind_max PySem.F.plain_max PySem.F.entry_max (B6 _ _) ?_;show Jb4 (Builtin.Builtins.bindParams "max" ["key","default"] 0 ([],[(Str.ofString "default",d,)])>>=_) s;apply wpAny_bind (wpAny_of_eq (show JdQ (Builtin.Builtins.bindParams "max" ["key","default"] 0 ([],[(Str.ofString "default",d,)])) [none,some d] from rfl) (Gf ?_));apply wpAny_bind (wpAny_mono h (λit s₂ h₂=>?_) λy y e=>e);let(J,fp,wr,n,P,St,bt,rfl,W,st,low,cmp,q):=h₂;apply wpAny_bind Jse;let out:s₂.heap.objs.size∉fp:=λz=>JiB (low _ z);rw[oy];let st':=W.frame _ _ (s₂.heap.push { cls:=.type "list",data:=.seq ([]:List Value).toArray }) st λb y o e=>UD e;exact JhF (B7 W bt cmp s₂.heap.objs.size out _ 0 _ [] _ rfl Zq st' (JaO rfl) VN λv h' tk pv kept=>q v h' tk pv λb o bw e=>kept b o bw (XM e) (UD e))
end
section
variable {X:Cx}
def tMaxd (K:W.Frag)(d tk:TA):TE:=λb H Q=>d b H λvs e=>tk b e λzs a=>∃p ns c,vs=Vj p/\zs=X3 c/\ox K a p ns/\(ns=[]->Mn c a)/\∀m∈ns,(∀n∈ns,n<=m)->Mn m a
def B9 (U:Vi Gy)(S:Jit "max")(R:UG "max")(Y:PA X [e] ta)(f:PK X [(some "default",d,kp)] tk)
  (T:Ib [e]=(false,Jc e,)::[]:=by rfl)(k:(JgW [e]).any Qn=false:=by rfl)(o:(JlZ [(some "default",d,kp)]).any (·.1.isNone)=false:=by rfl)
  (c:(JlZ [(some "default",d,kp)]).all (·.1.isSome)=true:=by rfl)(l:(JlZ [(some "default",d,kp)]).filterMap Qn=[Str.ofString "default"]:=by rfl):
  PE X (X6 "max" p [e] [(some "default",d,kp)]) (tMaxd Gh ta tk):=by
 intro a s r H Q I h;apply wpAny_Call_Name_kw (fg I S R PyProof.Rows.Boot.max ?_);apply PyProof.Rows.callWith_builtin_kwB k o ?_;let x:=Y pos a s r H _ I h;rw[T]at x⊢;apply evalArgs_kw c (thn x λus E h_=>?_);let(vs,H1,I1,L,q1):=h_;apply thn (f pos a E r H1 _ I1 q1) λws D h_=>?_;let(zs,B,A,G,pp,ns,y,ev,ez,N,M,q):=h_;subst ev ez;let(u,rfl,F):=L.one;cases F;let(v,rfl,t,rfl):=G.one;rw[l];show UW (call (.builtin "max") [Value.ref pp] [(Str.ofString "default",UU y,)]) D;apply B8 (ri A N (A.ok.hd U) λJ fp C P St s3 W st g w b=>(J,fp,C,_,P,St,λi j=>decide (GG i>GG j),rfl,W,st,g,CmpOf.ints_gt (λi=>GG i) w,λv h' tk z f=>?_))
 rcases z with ⟨z,rfl⟩|⟨z,Z⟩
 .exact(.int y,B,b h' tk f,Wf t,M (List.length_eq_zero_iff.mp z))
 let(t,rfl):=w _ _ Z;let(b1,b2):=wR (λi=>GG i) JrM;exact(.int _,B,b h' tk f,Wf t,q _ (q_ Jn) λn O=>by let(i,hi,rfl):=rg O;exact b2 i (Nat.le_pred_of_lt ‹_›))
def B_ (K:W.Frag)(d:TA):TE:=λc H Q=>d c H λvs b=>∃a xs,vs=Vj a/\Uv b a/\∀l,IA (JpB l) l (Gb b l xs.reverse)
def Ca (Y:Vi Gy)(U:Jit "tuple")(T:UG "tuple")(D:Jit "reversed")(B:UG "reversed")(x:PA X [a] ta)(hs:Ib [a]=[(false,Jc a,)]:=by rfl)
  (v:Ib [JkY p2 [a] [] pos2]=[(false,Jc (JkY p2 [a] [] pos2),)]:=by rfl):
  PE X (JfS "tuple" [JkY p2 [a] [] pos2]) (B_ Gh ta):=by
 intro k s y H Q I h;apply wpAny_Call_Name_kw (Ij I U T PyProof.Rows.Boot.tuple ?_ v rfl);rw[v];show JnP (spliced [(false,Jc (JkY p2 [a] [] pos2),)]);apply Calls.spliced_cons (Jbi I D B boot_reversed (thn (x pos2 k s y H _ I h) λus f h_=>?_) hs rfl);let(vs,N,E,P,q1):=h_;let(a,xs,e,S,q):=q1;subst e;let(u,rfl,O):=P.one;cases O;let(c,F,pl,hz):=E.list S;let hl:=F.length;let la:Jhz a:=by let(o,v,_):=Gj;exact hLq v
 apply call_reversed_list Gj (Calls.spliced_nil ?_);let W:=Walks.listRev (prog:=Uh) (w:=X.w) (A:=X.A.in1.in1.in1) (E.ok.hd Y) JiX a (Nat.ne_of_lt la) Jfn;let C:Heap.IsRevIter (f.heap.push (revObj a ((c.toArray.size:Int)-1))) JiX a ((c.toArray.size:Int)-1):=Jgt VN;apply B5 W.toS (λi u st=>st.2.1.typeIs) (Nat.zero_le _,by simpa using C,pl.isList.push _) (λb L=>?_) Js (λs' acc r its'=>?_) (by simp only[sAq];lia)
 .show b<(f.heap.push _).objs.size;rw[Heap.size_push];simp only[List.mem_cons,List.not_mem_nil,or_false]at L;lia
 .let l:∀b o,f.heap.get? b=some o→s'.heap.get? b=some o:=λb o e=>r.heap b o (λz=>by
   have:b=f.heap.objs.size:=by simpa using z
   exact JhS e (this<|>Nat.lt_irrefl _)) (UD e)
  let Z:s'={ f with heap:=Jgy,toks:=s'.toks }:=by let(J,g,d,t,R):=s';let a1:=r.gens;let a2:=r.drawn;let a3:=r.os;subst a1 a2 a3;rfl
  let n:acc=c.reverse.toArray:=by
   apply Array.ext' ?_;apply List.ext_getElem? ?_;intro j;let hsz:=its'.1;simp only[sAq]at hsz;rcases Nat.lt_or_ge j Jri with G|G
   .let x:acc[j]?=some (acc[j]'(by simp [*])):=Array.getElem?_eq_getElem (by simp [*]);let J:=its'.2 j _ x;rw[Array.getElem?_toList,x,<-J];simp only[sAq];rw[List.getElem?_toArray,List.getElem?_reverse G]
   .rw[List.getElem?_eq_none (by simp;simp [*]),List.getElem?_eq_none (by simp;lia)]
  let M:Ir k y N s':=by rw[Z];exact E.kept (t':=s'.toks) l
  let I3:Ir k y (Gb N s'.heap.objs.size xs.reverse) { s' with heap:=s'.heap.push { cls:=.type "tuple",data:=.seq acc } } :=
   M.laid (t':=s'.toks) (λb o e=>UD e) Yd (show I0 _ _ _ (.tup xs.reverse) from(by rwa[List.length_reverse]at hz,c.reverse,F.reverse,by rwa[n]at fY.new _ _))
  exact Wv s'.heap.objs.size _ I3 (q _ M.fresh)
end
end L2
namespace HT
open PySem PyProof.Rows
def getItem_tuple_whole {t c:Addr}{items:Array Value}{i g:Value}{lo b:Option Int}{Q:Value->Shared->Prop}(a:Jay t items)(hs:JaA c i g)(pl:Jm1 i)(k:IsPart g b)
  (j:JnJ 0=0/\WB Uo b=Uo)(h:Mc t s):JnH (Jlr t (.ref c)):=by
 let(l,d,e,n):=id hs;let f:XQ c "slice":=(l,d,e);unfold getItem
 try with_reducible refine wpAny_holding ?_
 first|refine Gf ?_|skip
 apply wpAny_bind (wpAny_sequenceKey a.typeIs Jp ?_);apply wpAny_bind (wpAny_callSpecial?_slot (name:=Str.ofString "__getitem__") a.typeIs IQ (Jag IQ a.typeIs entry_tuple_getitem JrO))
 show JnP (M_ t>>=_);apply wpAny_bind (tupleItemsOf_ a ?_);apply Uy f ?_;rw[if_pos (by decide)];apply wpAny_bind (vM hs pl k ?_);let yes:Vi ((sIx Uo 0 lo:Int)==0&&(1:Int)==1&&(sIx Uo Uo b-JnJ 0)==Uo):=by rw[j.1,j.2];simp
 show JnP (if Vi Xx then _ else _)
 rw[if_pos yes];apply wpAny_bind ?_;apply Uy a.typeIs Ih;rwa[if_pos (by decide)]at MO (Jih h)
end HT
namespace L2
open PySem PySem.Spec PyProof.Rows
inductive rA (K):V->Option Int->Option Int->Hp->VK->Prop|m{x lo hi H Q} a xs:Jn0 (UR a->W5 0 lo=0/\Jgc (W5 xs.length hi)->Mc a H->rA K x lo hi H Q)
def Cb:SlR X (rA X.K):=by
 intro d s k H x v n l lo p o Q I f hs pl g h;let(a,xs,rfl,i,j,q):=h;cases f;let(c,r,e,hz):=I.tuple i;let b:Jgc c.toArray.size:=by rwa[sAq]at r.length.symm
 apply("tuple",_,Jn2,e.typeIs,?_);exact HT.getItem_tuple_whole e hs pl g (b<|>j) (Wv a H I q)
def xb (K:W.Frag):V->Option Int->Option Int->Hp->VK->Prop:=λx lo a H Q=>rSlT K x lo a H Q\/rA K x lo a H Q
def xf:SlR X (xb X.K):=lZ.or Cb
end L2
namespace L2
open PySem
noncomputable def zaS (t:WC Int):Int:=if t.2=-1 then 1 else 0
def cnt:Mm Int->Int
 |[]=>0
 |t::ts=>zaS t+cnt ts
theorem gq:∀b bs,cnt (b++bs)=cnt b+cnt bs
 |[],bs=>by simp [cnt]
 |a::b,bs=>by simp only[List.cons_append,cnt,gq b bs];lia
def kK {ts:List We}{i:Nat}{t:Int×Int}(h:ts[i]?=some t):Mo Xi=Mo i+zaS t:=by rw[a_ h,gq];simp [cnt]
theorem iH:∀ts:Mm Int,Jjq 0 ts
 |[]=>Int.le_refl _
 |t::ts=>by have:=iH ts;simp only[cnt,zaS];split<;>lia
def gu (ts:Mm Int)(n:Nat):List Int:=(List.range n).map λi=>Mo Xi
def Cc (ts)(n):gu ts (n+1)=gu ts n++[Mo (n+1)]:=by unfold gu;rw[List.range_succ,mAq];rfl
def xg (ts)(n):(gu ts n).length=n:=by simp [gu]
def Cd (ts){n i:Nat}(h:i<n):(gu ts n)[i]?=some (Mo Xi):=by unfold gu;rw[List.getElem?_map,List.getElem?_range h];rfl
noncomputable def negs (ts:Mm Int):List Int:=ts.map λt=>-t.1
def kL {ts:List We}{i:Nat}{t:Int×Int}(h:ts[i]?=some t):(negs ts)[i]?=some (-t.1):=by unfold negs;rw[List.getElem?_map,h];rfl
def ig (ts):(negs ts).length=ts.length:=lM _
def rB:Jok p↔-p∈ts.map Prod.fst:=by
 unfold negs;rw[List.mem_map,List.mem_map];constructor
 .rintro ⟨t,a,e⟩;exact JhW t a
 .rintro ⟨t,a,e⟩;exact(t,a,by simp_all)
def lvF (ts:Mm Int)(p:Int):Int:=Mo ((negs ts).idxOf p+1)
def dZ {ts:List We}{i:Nat}{t:Int×Int}(a:(negs ts).Nodup)(h:ts[i]?=some t):Yr X1=cnt (ts.take Xi):=by let c:=kL h;let(b,e):=gEq c;unfold lvF;rw[<-e,List.Nodup.idxOf_getElem a i b]
def Lev (H:Hp)(d:Addr)(ts:Mm Int):Prop:=∃kvs:List _,Jbo d/\∀p:Int,Q_ p=if Jok p then Ya (Yr p) else none
def Lev.same (h:JiC H d)(s:Xd H):JiC H' d:=by let(kvs,b,a):=h;exact(kvs,s _ _ b,a)
def Kst (H:Hp)(d:Addr)(ks:List Int)(n:Nat):Prop:=∃kvs:List _,Jbo d/\(∀m:Int,(Q_ m).isSome=decide (m∈ks))/\GQ n/\∀a∈kvs,∃m:Int,XV a.1 m
def Kst.same (h:Kst H d ks n)(s:Xd H):Kst H' d ks n:=by let(kvs,b,a):=h;exact(kvs,s _ _ b,a)
def xh (kvs)(k j:Key):br (Jpf k) j=if j=k then none else br kvs j:=by
 unfold zbP
 induction kvs with
 |nil=>simp [br]
 | cons c kvs d =>
  rw[List.filter_cons];by_cases e:c.1=k
  .rw[if_neg (by simp [e]),d];by_cases a:j=k
   .rw[if_pos a,if_pos a]
   .rw[if_neg a,if_neg a,eS (λz=>a (z.symm.trans e))]
  .rw[if_pos (by simp [e])];by_cases a:c.1=j
   .have:j≠k:=λz=>e (a.trans z);rw[eZ a,if_neg this,eZ a]
   .rw[eS a,d];by_cases b:j=k
    .rw[if_pos b,if_pos b]
    .rw[if_neg b,if_neg b,eS a]
def Kst.pop {H:Hp}{d:Addr}{ks:List Int}{n:Nat}{kvs:List (JeY V)}{p:Int}(g:∀m:Int,(Q_ m).isSome=decide (m∈ks))(f:GQ n)(c:∀a∈kvs,∃m:Int,XV a.1 m):Kst (Joc H d p) d (ks.filter λm=>decide (m≠p)) n:=by
 apply(_,ao,λm=>?_,Jcv _ f,λa b=>c a ((List.mem_filter.mp b).1));rw[xh];by_cases e:m=p
 .subst e;rw[if_pos rfl];simp
 .rw[if_neg (λz=>e (by cases z;rfl)),g];simp [e]
def Ce:∀ps kvs m,(Vh (Jfl (Jb0 ps)) m).isSome=((Q_ m).isSome||decide (m∈ps)):=by
 let c:∀a kvs m,(Vh (Jfl a) m).isSome=((Q_ m).isSome||(Vh a m).isSome):=by
  intro a
  induction a with
  |nil=>intro kvs m;simp [bE,br]
  |cons b a d=>
   intro kvs m;show(br (bE (XU b.1 b.2) a) _).isSome=_;rw[d,hX];by_cases e:XV b.1 m
   .rw[if_pos e.symm,eZ e];simp
   .rw[if_neg (Ne.symm e),eS e]
 intro ps kvs m;rw[c,(kJ ps).1]
def Cg (a kvs:QX V):(Jfl a).length<=Jcp a.length:=qU a kvs
def Ci {kvs:List (JeY V)}{k:Key}{v:V}(h:∀b∈kvs,∃m:Int,XV b.1 m)(d:∃m:Int,XV k m):∀b∈XU k v,∃m:Int,b.1=Sum.inl m:=by
 unfold zaz;split
 .intro b a;let(q,c,e):=List.mem_map.mp a;split at e
  .rwa[<-e]at h q c
  .rwa[<-e]at h q c
 .intro b a;rcases mPq a with q | q
  .exact h b q
  .rwa[mSq q]at d
def xi {a:List (JeY V)}(c:∀b∈a,∃m:Int,XV b.1 m):∀{kvs:List (JeY V)},(∀b∈kvs,∃m:Int,XV b.1 m)->∀b∈Jfl a,∃m:Int,b.1=Sum.inl m:=by
 induction a with
 |nil=>exact λh=>h
 |cons b a d=>
  intro kvs h;exact d (λq e=>c q (Jb e)) (Ci h (c b VI))
def xm (ps):∀b∈Jb0 ps,∃m:Int,b.1=Sum.inl m :=
 xi (λb a=>by let(p,_,e):=List.mem_map.mp a;exact(p,by rw[<-e])) (λx h=>Yn h)
def Kst.of:Kst (Jb1 H d ps) d ps ps.length:=(_,ao,(kJ ps).1,(kJ ps).2,xm ps)
def cG (ts:Mm Int)(ks:List Int)(a p y:Int):Bool:=decide (p∈ks)&&(decide (y≠-1)&&(decide (Yr p=0)||(decide (Yr p=a)&&ks.any λo=>decide (o≠p)&&decide (Yr o=a))))
def e_ (Rs:Xg Int)(ts:Mm Int)(a:Int)(st:Je5 Int Yk)(t:WC Int):List Int×List Int :=
 if Vi (cG ts st.1 a X1 t.2) then((st.1.filter λm=>decide (m≠-t.1))++(Jy t.2).filter (λm=>decide (m≠t.1)),st.2++[t.2],) else st
def lrn (Rs:Xg Int)(ts:Mm Int)(f:Int)(i:Nat):List Int×List Int:=(ts.reverse.take i).foldl (e_ Rs ts (cnt ts)) (Jy f,[f],)
def jI (h:ts.reverse[i]?=some t):MN (i+1)=e_ Rs ts (cnt ts) (MN i) t:=by unfold lrn;rw[a_ h,List.foldl_append];rfl
def gK (Rs:Xg Int)(ts:Mm Int)(f:Int):List Int:=(MN Wm).1
def bM (Rs:Xg Int)(ts:Mm Int)(f:Int):List Int:=(MN Wm).2
def aZ (Rs:Xg Int)(ts:Mm Int)(f:Int):List Int:=(negs ts).reverse.filter λp=>decide (p∈gK Rs ts f)
def jJ (l:List Int)(m:Int):Prop:=(l=[]->m=0)/\(l≠[]->m∈l/\∀n∈l,n<=m)
structure eF (Rs:Xg Int)(ts)(f:Int):Prop where
 nd:(negs ts).Nodup
 f0:0<=f
 f1:f<Vd
 fp:∀p∈Jy f,Jok p
 why:∀t∈ts,t.2≠-1->0<=t.2/\t.2<(Rs.length:Int)/\∀p∈Jy t.2,p≠t.1->Jok p
set_option tactic.hygienic true in
def mq (c:JgH f):∀i,∀p∈(MN i).1,p∈negs ts:=by
 intro i
 induction i with
 |zero=>exact c.fp
 | succ i b =>
  rcases Nat.lt_or_ge i ts.reverse.length with a|a
  .rw[jI (gG a)];let d:=List.mem_reverse.mp (List.getElem_mem a);unfold e_;split
   .rename_i e;intro p g;rcases mPq g with q | q
    .exact b p ((List.mem_filter.mp q).1)
    .let y:ts.reverse[i].2≠-1:=by unfold cG at e;lia
     have:=List.mem_filter.mp q;exact(c.why _ d y).2.2 p this.1 (oDq this.2)
   .exact b
  .let e:MN Xi=lrn Rs ts f i:=by unfold lrn;rw[tO (by lia),tO a]
   rwa[e]at b
def Cj (Rs)(ts)(f):∀i,(MN i).2.length<=1+i:=by
 intro i
 induction i with
 |zero=>exact nRq _
 | succ i b =>
  rcases Nat.lt_or_ge i ts.reverse.length with a|a
  .rw[jI (gG a)];unfold e_;split
   .rw[lAq];simp only[lS];lia
   .lia
  .let e:MN Xi=lrn Rs ts f i:=by unfold lrn;rw[tO (by lia),tO a]
   rw[e];lia
def Ck {K:W.Frag}{H:Hp}{a:Addr}{ps:List Int}{Q:VK}(h:WI a)(q:∀H' t,JmG (Yf H' t ((ps.drop 1).map V.int)) t):xb K (.ref a) (some 1) none H Q:=by
 let b:JhX (ps.map VG).length 0 1=min 1 (ps.map VG).length:=HT.sIx_nat _ _ 1;let f:HT.sIx (ps.map VG).length (ps.map VG).length none=(ps.map VG).length:=HT.sIx_none _ _;cases ps with
 |nil=>exact .inr (VV a _ h (Wf rfl) (q H a JqY h))
 | cons p ps =>
  apply .inl (VV a _ h (λz=>?_) (λt d=>q _ t (Nn d) ?_))
  .let c:=z.1;rw[b,lM,List.length_cons]at c;lia
  .let e:eY ((p :: ps).map VG) (some 1) none=((p :: ps).drop 1).map V.int:=by unfold eY;rw[b,f,lM,List.length_cons,Nat.min_eq_left (by lia),←List.map_drop,tO (by rwa[lM,List.length_drop,List.length_cons]at nRq _)]
   rwa[e]at SqT.of ao
def ja {ts:List We}{i:Nat}(h:Iz i):ts.reverse[i]?=ts[Gp 1-i]?:=by rw[List.getElem?_reverse h]
def xn (ts):(negs ts).reverse=ts.reverse.map λt=>-t.1:=by unfold negs;rw[List.map_reverse]
def Lev.ne (h:JiC H d)(a:VT l):l≠d:=λe=>by let(kvs,b,_):=h;erw[e,b]at a
def TOk (Rs:Xg Int)(ts:Mm Int):Prop:=∀i t,ts[i]?=some t->
 t.1≠0/\(-60<=t.1/\t.1<=60)/\t.1∉(ts.take i).map Yy/\-t.1∉(ts.take i).map Yy/\
 (t.2=-1\/∃(k:Nat) (r:List Int),t.2=(k:Int)/\Rs[k]?=some r/\t.1∈r/\∀p∈r,p≠t.1->-p∈(ts.take i).map Yy)
def TOk.nil (Rs):TOk Rs []:=λi t h=>by cases h
def oz {a:Type}{xs ys:List a}{i:Nat}(h:Jhn i):(xs++ys).take i=xs.take i:=by rw[List.take_append,show i-xs.length=0 by simp_all];simp
def TOk.snoc {Rs:List Yk}{ts:List We}{t:Int×Int}(h:My Rs)(h0:t.1≠0)(c:-60<=t.1/\t.1<=60)(b:t.1∉ts.map Yy)(a:-t.1∉ts.map Yy)
  (y:t.2=-1\/∃(k:Nat) (r:List Int),t.2=(k:Int)/\Rs[k]?=some r/\t.1∈r/\∀p∈r,p≠t.1->-p∈ts.map Yy):TOk Rs (ts++[t]):=λi u e=>by
 rcases Nat.lt_or_ge i Wm with q|q
 .rw[List.getElem?_append_left q]at e;rwa[oz (Nat.le_of_lt q)]at h i u e
 .rw[List.getElem?_append_right q]at e;let f:i-ts.length=0:=by let⟨z⟩:=gEq e;simp only[lS]at z;lia
  erw[f]at e;let d:i=ts.length:=Nat.le_antisymm (Nat.le_of_sub_eq_zero f) q
  subst d;rwa[oz (nRq _),List.take_length]at(h0,c,b,a,y)
def TOk.nd (h:My Rs):∀i j:Nat,i<j->∀t u:WC Int,ts[i]?=some t->ts[j]?=some u->t.1≠u.1/\t.1≠-u.1:=λi j a t u d c=>by
 let q:=h j u c;let b:t.1∈(ts.take j).map Prod.fst:=by apply JfB t ?_;apply JsK i ?_;rwa[List.getElem?_take,if_pos a]at d
 exact(λe=>q.2.2.1 (by rwa[<-e]at b),λe=>q.2.2.2.1 (by rwa[<-e]at b))
def TOk.negs (h:My Rs):(L2.negs ts).Nodup:=by rw[List.nodup_iff_pairwise_ne,List.pairwise_iff_getElem];intro i j b a c e;rw[ig]at b a;let q:=(h.nd i j c _ _ (gG b) (gG a)).1;let k:=kL (gG b);let g:=kL (gG a);rw[gG (ig<|>b)]at k;rw[gG (ig<|>a)]at g;simp_all
def TOk.atoms (h:My Rs):(ts.map λt=>t.1.natAbs).Nodup:=by rw[List.nodup_iff_pairwise_ne,List.pairwise_iff_getElem];intro i j c b a e;rw[lM]at c b;let q:=h.nd i j a _ _ (gG c) (gG b);rw[List.getElem_map,List.getElem_map]at e;exact(lqJ e).elim q.1 q.2
theorem jK:∀n {xs:List Nat},xs.Nodup->(∀x∈xs,x<n)->Jam n
 |0,[],_,_=>nRq _
 |0,x::xs,_,h=>NH (IH x) _
 |n+1,xs,a,h=>by
  let q:=jK n (a.erase n) (λx b=>by let z:=(List.Nodup.mem_erase_iff a).mp b;have:=h x z.2;have:=z.1;exact Nat.lt_of_le_of_ne (Nat.le_of_lt_succ ‹_›) ‹_›)
  rw[List.length_erase]at q;split at q<;>lia
def TOk.len (h:My Rs):Jmn 61:=by
 let q:=jK 61 h.atoms (λx a=>by let(t,b,e):=List.mem_map.mp a;let(k,c):=List.mem_iff_getElem?.mp b;have:=(h k t c).2.1;exact e▸Nat.lt_succ_of_le (lqW this))
 rw[lM]at q;exact q
def Fails (Rs:Xg Int)(ts:Mm Int)(f:Nat):Prop:=∃r,Rs[f]?=some r/\∀p∈r,-p∈ts.map Yy
def mr {Rs:List Yk}{k:Nat}{r:List Int}(h:Rs[k]?=some r):Jy (k:Int)=r:=by unfold aY;rw[Int.toNat_natCast,List.getD_eq_getElem?_getD,h];rfl
def TOk.ln {Rs:List Yk}{ts:List We}{f:Nat}(h:My Rs)(l:Fails Rs ts f):JgH (f:Int):=by
 let(r,c,g):=l;let fl:f<Rs.length:=(gEq c).1;apply(h.negs,Jn,Jn,λp q=>?_,λt e y=>?_)
 .rw[mr c]at q;exact rB.mpr (g p q)
 .let(i,j):=List.mem_iff_getElem?.mp e;rcases(h i t j).2.2.2.2 with z | ⟨k,r',e1,e2,e3,e4⟩
  .exact MS y
  .let kl:k<Rs.length:=(gEq e2).1;apply(by simp_all,by simp_all,λp a b=>?_);rw[e1,mr e2]at a;let q:=e4 p a b;apply rB.mpr ?_;let(u,d,n):=List.mem_map.mp q;exact Md u (List.mem_of_mem_take d) n
def TOk.more (h:My Rs):My (Rs++Qs):=λi t e=>by
 let(g,f,d,c,b):=h i t e;apply(g,f,d,c,?_);rcases b with z|⟨k,r,l,a,j⟩
 .exact .inl z
 .exact Jat k r l (List.getElem?_append_left (gEq a).1<|>a) j
noncomputable def zaW (i:Int):Int:=if i<0 then -i else i
def oA:Mo i<=cnt ts:=by
 let e:cnt ts=Mo i+cnt (ts.drop i):=by rw[<-gq,List.take_append_drop]
 have:=iH (ts.drop i);lia
def mv (p):Yr p<=cnt ts:=oA
def kM (p):0<=lvF ts p:=iH _
def jb (h0:0<=y)(a:y<Vd):Rs[y.toNat]?=some (Jy y):=by unfold aY;rw[List.getD_eq_getElem?_getD,gG (by lia)];rfl
def iI {ts:List We}{i j:Nat}(h:i<=j):Mo i<=cnt (ts.take j):=by
 let e:ts.take j=ts.take i++(ts.take j).drop i:=by have:=N_ Ue;rw[List.take_take,Nat.min_eq_left h]at this;exact JqK
 rw[e,gq];have:=iH ((ts.take j).drop i);exact Int.le_add_of_nonneg_right this
def mw (h:Jok q):∃(i:Nat) (t:WC Int),ts[i]?=some t/\q=-t.1:=by let(t,a,e):=List.mem_map.mp h;let(i,b):=List.mem_iff_getElem?.mp a;exact(i,t,b,Jkm)
def TOk.same_ix (a:My Rs){i j:Nat}{t u:Int×Int}(c:ts[i]?=some t)(b:ts[j]?=some u)(e:t.1=u.1):i=j:=by
 rcases Nat.lt_trichotomy i j with h|h|h
 .exact JlA (a.nd i j h t u c b).1
 .exact h
 .exact absurd Jkm (a.nd j i h u t b c).1
def kN (h:Vi (cG ts ks last p y)):p∈ks/\y≠-1/\(Yr p=0\/(Yr p=last/\∃o∈ks,o≠p/\Yr o=last)):=by
 unfold cG at h;rw[Bool.and_eq_true,Bool.and_eq_true,Bool.or_eq_true,Bool.and_eq_true,List.any_eq_true]at h;apply Gc (oDq h.1) (oDq h.2.1);rcases h.2.2 with z|⟨b,o,c,a⟩
 .exact .inl (oDq z)
 .rw[Bool.and_eq_true]at a;exact Jat (oDq b) o c (oDq a.1) (oDq a.2)
def xo (g:p∈ks)(f:y≠-1)(e:Yr p=0\/(Yr p=last/\∃o∈ks,o≠p/\Yr o=last)):Vi (cG ts ks last p y):=by
 unfold cG;rw[Bool.and_eq_true,Bool.and_eq_true,Bool.or_eq_true,Bool.and_eq_true,List.any_eq_true];apply Gc (dTq g) (dTq f);rcases e with z|⟨c,o,d,b,a⟩
 .exact .inl Jrb
 .exact WM (dTq c) o d (by rw[dTq b,dTq a];rfl)
def jL (d:My Rs){i:Nat}(x:Iz i):∃t:WC Int,ts[Gp 1-i]?=some t∧MN Xi=e_ Rs ts (cnt ts) (MN i) t ∧
  ∀q:Int,q∈(MN Xi).1->q∈(MN i).1\/∃j u,j<Gp 1-i/\ts[j]?=some u/\q=-u.1/\Jg6 (MN i).1 (-t.1) t.2/\q∈aY Rs t.2:=by
 obtain⟨t,g⟩:∃t,ts[Gp 1-i]?=some t:=Jbm Jn;let n:=ja x;rw[g]at n;let e:=jI (Rs:=Rs) (f:=f) n;apply(t,g,e,λq a=>?_);rw[e]at a;unfold e_ at a;by_cases r:Jg6 (MN i).1 X1 t.2
 .rw[if_pos r]at a;rcases mPq a with z | z
  .exact .inl (List.mem_filter.mp z).1
  .let(l,p):=List.mem_filter.mp z;let o:=oDq p;let s:=(kN r).2.1;rcases(d _ t g).2.2.2.2 with w | ⟨k,row,e1,e2,_,e4⟩
   .exact absurd w s
   .let b:=l;rw[e1,mr e2]at b;let w:=e4 q b o;let(u,v,y):=List.mem_map.mp w;let(j,h):=List.mem_iff_getElem?.mp v;let c:j<Gp 1-i:=by have:=(gEq h).1;rw[List.length_take]at this;exact UL this _ _
    rw[List.getElem?_take,if_pos c]at h;exact .inr (j,u,c,h,Jn,r,l)
 rw[if_neg r]at a;exact .inl a
def oB (a:My Rs){i j:Nat}{u:Int×Int}(g:Iz i)(d:ts[j]?=some u)(h:Gp 1-i<=j)(c:-u.1∈(MN Xi).1):-u.1∈(MN i).1:=by
 let(t,o,e,b):=jL a g;rcases b _ c with z|⟨n,l,q,k,p,_⟩
 .exact z
 .have:=a.same_ix d k Jn;lia
def rC (b:My Rs){i:Nat}{t:Int×Int}(n:Iz i)(d:ts[Gp 1-i]?=some t)(r:Jg6 (MN i).1 X1 t.2):-t.1∉(MN Xi).1:=λl=>by
 let(t',c,e,o):=jL b n;erw[d]at c;let a:=l;rw[e]at a;unfold e_ at a;rw[if_pos r]at a;rcases mPq a with z|z
 .exact(oDq (List.mem_filter.mp z).2) rfl
 .let(g,h):=List.mem_filter.mp z;let j:=(kN r).2.1;rcases(b _ t d).2.2.2.2 with w | ⟨k,row,e1,e2,_,e4⟩
  .exact j w
  .rw[e1,mr e2]at g;let w:=e4 _ g (oDq h);rw[Int.neg_neg]at w;exact(b _ t d).2.2.1 w
def oC (b:My Rs){i:Nat}{t:Int×Int}{q:Int}(g:Iz i)(d:ts[Gp 1-i]?=some t)(c:q∈(MN i).1)(n:q≠-t.1\/Yw (VS ts (MN i).1 ts X1 t.2)):q∈(MN Xi).1:=by
 let(t',a,e,_):=jL b g;erw[d]at a;rw[e];unfold e_;by_cases r:Jg6 (MN i).1 X1 t.2
 .rw[if_pos r];rcases n with n | n
  .exact Ma (Jnx c n)
  .erw[n]at r
 .rwa[if_neg r]at c
def Cm (a:My Rs):∀i,WN i->∀j t,ts[j]?=some t->Gp i<=j->-t.1∈(MN i).1->Yr (-t.1)≠0:=by
 intro i
 induction i with
 |zero=>
  intro _ j t b h;have:=(gEq b).1;exact absurd ‹_› (Nat.not_lt.mpr ‹_›)
 | succ i e =>
  intro k j t b h d;let c:=oB a Jn b Jn d;rcases Nat.lt_or_ge j (Gp i) with q|q
  .let g:j=Gp 1-i:=lqD h q
   subst g;intro z;let r:Jg6 (MN i).1 X1 t.2:=by apply xo c (λy=>?_) (.inl z);rw[Jao b,kK b]at z;have:=iH (ts.take (Gp 1-i));unfold zaS at z;rw[if_pos y]at z;lia
   exact rC a Jn b r d
  .exact e Jn j t b q c
def Cn {Rs:List Yk}{ts:List We}{f:Int}(a:My Rs)(M:JgH f)(hL:Jjq 1 ts)(h0:∃q∈Jy f,Yr q=cnt ts):∀i,WN i→(∃q∈(MN i).1,Yr q=cnt ts) ∧
  ∀(j:Nat) (t:WC Int),ts[j]?=some t->Gp i<=j->-t.1∈(MN i).1->Yr X1=cnt ts->∀q∈(MN i).1,Yr q=cnt ts->q=-t.1:=by
 intro i
 induction i with
 |zero=>
  intro _;apply(h0,λj t b h=>?_);have:=(gEq b).1;exact absurd ‹_› (Nat.not_lt.mpr ‹_›)
 | succ i R =>
  intro hi;let((H,x,l0),D):=R Jn;let(t,g,e,A):=jL (Rs:=Rs) (f:=f) a (show Iz i by lia);let d:Iz i:=Jn
  let N:=Jao g;by_cases r:Jg6 (MN i).1 X1 t.2
  .let(L,Y,K):=kN r;let B:=rC a d g r;rcases K with z | ⟨z,o,S,no,lo⟩
   .apply JgE H (oC a d g x (.inl (λw=>by rw[w]at l0;lia))) l0 (λj u b h k l q n s=>?_);let p:=oB a d b Jn k;rcases Nat.lt_or_ge j (Gp i) with w | w
    .let C:j=Gp 1-i:=lqD h w
     subst C;erw[g]at b;lia
    .rcases A q n with v | ⟨Q,X,h1,U,T,_⟩
     .exact D j u b w p l q v s
     .let P:=Jao U;rw[<-T]at P;have:=iI (ts:=ts) (show Q+1<=Gp 1-i+1 by lia);let w:=Int.le_trans hL (JZ (s.symm.trans P) (Int.le_trans this (Int.le_of_eq (N.symm.trans z))));exact XC w
   .apply JgE o (oC a d g S (.inl no)) lo (λj u b h k l q n s=>?_);let p:=oB a d b Jn k;rcases Nat.lt_or_ge j (Gp i) with w | w
    .let C:j=Gp 1-i:=lqD h w
     lia
    .let I:=D j u b w p l X1 L z;have:=a.same_ix g b Jn;lia
  .let Z:Yw (VS ts (MN i).1 ts X1 t.2):=by
    lia
   let W:(MN Xi).1=(MN i).1:=by rw[e];unfold e_;rw[if_neg r]
   rw[W];apply JgE H x l0 (λj u b h k l q n s=>?_);rcases Nat.lt_or_ge j (Gp i) with w|w
   .let C:j=Gp 1-i:=lqD h w
    subst C;erw[g]at b;apply Decidable.byContradiction ?_;intro F;by_cases y:t.2=-1
    .let(G,u,E,eq):=mw (mq M i q n);subst eq;let O:=Jao E;rcases Nat.lt_trichotomy G (Gp 1-i) with c | c | c
     .let c1:=iI (ts:=ts) (show G+1<=Gp 1-i by lia);let J:=kK g;unfold zaS at J;rw[if_pos y]at J;let z:=N.symm.trans (l.trans (s.symm.trans O));rw[J]at z;exact Int.lt_irrefl _ (Int.lt_of_lt_of_le (Int.lt_succ _) (z▸c1))
     .simp_all
     .let I:=D G u E (by rw[lqS]at c;exact Nat.le_of_pred_lt c) n s X1 k l;exact F I.symm
    .exact r (xo k y (Jat l q n F s))
   .exact D j u b w k l q n s
def kO (h:q∈JJ f):Jok q/\q∈(MN ts.length).1:=by let(b,a):=List.mem_filter.mp h;exact(List.mem_reverse.mp b,oDq a)
def rD (a:My Rs)(h:q∈JJ f):Yr q≠0:=by let(d,c):=kO h;let(j,t,b,e):=mw d;subst e;exact Cm a Wm Yd j t b Jn c
def xp (a:My Rs)(h:cnt ts=0):JJ f=[]:=by rw[List.eq_nil_iff_forall_not_mem];intro q b;let e:=rD a b;let d:=mv (ts:=ts) q;let c:=kM (ts:=ts) q;lia
def Co {Rs:List Yk}{ts:List We}{f:Int}(c:My Rs)(w:JgH f)(D:Jjq 1 ts)(h0:∃q∈Jy f,Yr q=cnt ts):∃a rest,JJ f=Nx a/\Yr a=cnt ts/\∀r∈rest,Yr r≠cnt ts:=by
 let((q,s,x),B):=Cn c w D h0 Wm Yd;let y:=mq w Wm q s;let n:q∈aZ Rs ts f:=JbW y (dTq s);let only:∀r∈JJ f,Yr r=cnt ts->r=q:=λr g p=>by let(j,t,d,e):=mw y;subst e;exact B j t d Jn s x r (kO g).2 p
 let k:(JJ f).Pairwise λa b=>Yr b<=lvF ts a:=by apply List.Pairwise.filter _ ?_;rw[List.pairwise_reverse,List.pairwise_iff_getElem];intro i j o d C;rw[ig]at o d;let A:=kL (gG o);let z:=kL (gG d);rw[gG (ig<|>o)]at A;rw[gG (ig<|>d)]at z;let v:=Option.some.inj A;let u:=Option.some.inj z;rwa[v,u,dZ c.negs (gG o),dZ c.negs (gG d)]at iI Jn
 let l:(JJ f).Nodup:=List.Pairwise.filter _ (List.pairwise_reverse<|>List.Pairwise.imp (λh=>Ne.symm h) c.negs);generalize JJ f=ps at n only k l
 rcases ps with _|⟨a,rest⟩
 .cases n
 .let la:Yr a=cnt ts:=by
   rcases List.mem_cons.mp n with e|e
   .rwa[<-e]at x
   .let H:=(List.pairwise_cons.mp k).1 q e;let G:=mv (ts:=ts) a;lia
  apply Qp a rest la (λr g p=>?_);let F:=only r (Jb g) p;let E:=only a VI la;rw[F,<-E]at g;exact(List.nodup_cons.mp l).1 g
theorem xq {Rs:List Yk}{hs:List Int}:∀{es:List We},(∀t∈es,t.2≠-1)->cnt es=0
 |[],_=>rfl
 |t::es,h=>by let c:=xq (Rs:=Rs) (hs:=hs) λu a=>h u (Jb a);let b:=IH t;simp only[cnt,zaS,if_neg b,c];rfl
def bO (Rs:Xg Int)(ts:Mm Int)(f:Int):Nat->Mm Int
 |0=>[]
 |i+1=>match ts.reverse[i]? with
  |some t=>if Jg6 (MN i).1 (-t.1) t.2 then JiF i++[t] else JiF i
  |none=>JiF i
def oD (h:ts.reverse[i]?=some t):JiF (i+1)=if Jg6 (MN i).1 (-t.1) t.2 then JiF i++[t] else bO Rs ts f i:=by
 show(match ts.reverse[i]? with|some t=>_|none=>_)=_
 rw[h]
def Cp:∀i,WN i->(MN i).2=f::(JiF i).map Prod.snd:=by
 intro i
 induction i with
 |zero=>intro _;rfl
 |succ i a=>
  intro c;obtain⟨t,b⟩:∃t,ts.reverse[i]?=some t:=Jbm (by rw[List.length_reverse];lia);rw[jI b,oD b];unfold e_;split
  .show(MN i).2++[t.2]=_;rw[a (by lia),mAq];rfl
  .exact a Jn
def Cq:∀{i j:Nat},i<=j->WN j->∃a,JiF j=JiF i++a:=by
 intro i j h
 induction h with
 |refl=>exact λx=>([],(List.append_nil _).symm)
 | @step j _ b=>
  intro d;let(a,e):=b Jn;obtain⟨t,c⟩:∃t,ts.reverse[j]?=some t:=Jbm (by rw[List.length_reverse];lia);rw[oD c];split
  .exact(a++[t],by rw[e,List.append_assoc])
  .exact(a,e)
def rE:∀(n:Nat),WN n→∀(l:Nat) (t:WC Int),(JiF n)[l]?=some t→∃i,i<n∧ts[Gp 1-i]?=some t∧Jg6 (MN i).1 X1 t.2∧(JiF (i+1)).length=l+1:=by
 intro n
 induction n with
 |zero=>intro _ l t h;cases h
 | succ n e =>
  intro o l t h;obtain⟨u,g⟩:∃u,ts.reverse[n]?=some u:=Jbm (by rw[List.length_reverse];lia);let a:=oD (Rs:=Rs) (f:=f) g;by_cases r:Jg6 (MN n).1 (-u.1) u.2
  .rw[if_pos r]at a;rw[a]at h;rcases Nat.lt_or_ge l (JiF n).length with q | q
   .rw[List.getElem?_append_left q]at h;let(i,j,d,c,b):=e Jn l t h;exact(i,Jn,d,c,b)
   .rw[List.getElem?_append_right q]at h;let k:l - (JiF n).length=0:=by have:=(gEq h).1;simp only[lS]at this;lia
    erw[k]at h;apply(n,Jn,?_,r,by rw[a,lAq];simp only[lS];rw[Nat.le_antisymm q (Nat.le_of_sub_eq_zero k)]);rwa[<-ja (by lia)]at g
  .rw[if_neg r]at a;rw[a]at h;let(i,j,d,c,b):=e Jn l t h;exact(i,Jn,d,c,b)
def Cr (h:t∈J4 f):t∈ts:=by let(l,a):=List.mem_iff_getElem?.mp h;let(i,_,b,_):=rE Wm Yd l t a;exact mO b
def xr (b:My Rs)(v:JgH f):∀(d i:Nat),i+d=ts.length→∀q∈(MN i).1,q∈JJ f∨-q∈((J4 f).drop (JiF i).length).map Prod.fst:=by
 intro d
 induction d with
 |zero=>
  intro i e q c;let x:i=ts.length:=Jn
  subst x;exact .inl (JbW (mq v _ q c) (dTq c))
 | succ d n =>
  intro i e q c;let g:Iz i:=Jn
  let(t,k,_,_):=jL (Rs:=Rs) (f:=f) b g;let o:=ja g;rw[k]at o;let j:=oD (Rs:=Rs) (f:=f) o;let(a,p):=Cq (Rs:=Rs) (ts:=ts) (f:=f) (show WN Xi by lia) Yd;by_cases r:Jg6 (MN i).1 X1 t.2
  .rw[if_pos r]at j;let s:(J4 f).drop (JiF i).length=t :: a:=by rw[p,j,List.append_assoc,List.drop_left];rfl
   by_cases z:q=-t.1
   .right;rwa[s,z,Int.neg_neg]at JfB t VI
   .rcases n Xi Jn q (oC b g k c (.inl z)) with w | w
    .exact .inl w
    .right;let l:(J4 f).drop (JiF Xi).length=a:=by rw[p,List.drop_left]
     rw[l]at w;rw[s];rwa[List.map_cons]at Jb w
  .let u:Yw (VS ts (MN i).1 ts X1 t.2):=by
    lia
   rw[if_neg r]at j;have:=n Xi Jn q (oC b g k c (.inr u));rw[j]at this;exact this
def Cs (a:My Rs){i:Nat}{t:Int×Int}(g:Iz i)(b:ts[Gp 1-i]?=some t)(r:Jg6 (MN i).1 X1 t.2):∀d,WN (i+1+d)->-t.1∉(MN (i+1+d)).1:=by
 intro d
 induction d with
 |zero=>exact λx=>rC a g b r
 |succ d c=>
  intro h e;exact c Jn (oB a (i:=i+1+d) Jn b (Nat.sub_le_sub_left (Nat.le_trans JeF (N9 _)) _) e)
def fm (Rs:Xg Int)(ts:Mm Int)(f:Int)(k:Nat):List Int:=(JJ f).map (λp=>-p)++((J4 f).reverse.take k).map Yy
def TOk.cons (a:My Rs){q:Int}(h:q∈ts.map Yy)(g:-q∈ts.map Yy):False:=by
 let(u,f,n):=List.mem_map.mp h;let(v,e,l):=List.mem_map.mp g;let(i,d):=List.mem_iff_getElem?.mp f;let(j,b):=List.mem_iff_getElem?.mp e;let k:=(a i u d).1;rcases Nat.lt_trichotomy i j with c|c|c
 .exact(a.nd i j c u v d b).2 Jn
 .subst c;erw[d]at b;lia
 .exact(a.nd j i c v u b d).2 Jn
def my (h:q∈fm Rs ts f k):q∈ts.map Prod.fst:=by
 rcases mPq h with z|z
 .let(p,b,e):=List.mem_map.mp z;rwa[<-e]at rB.mp (kO b).1
 .let(t,a,e):=List.mem_map.mp z;exact Md t (Cr (List.mem_reverse.mp JrS)) e
theorem xt:∀l:List Int,(∀x∈l,x=a)->bp [a] l=[a]
 |[],_=>rfl
 |x::l,h=>by
  let e:=IH x;subst e;have:bp [x] (x::l)=bp [x] l:=by simp [bp]
  rw[this];exact xt l λy b=>h y (Jb b)
def Ct (o:a∈row)(k:a∉hs)(j:-a∉hs)(i:∀q∈row,q≠a->-q∈hs):opn row hs=[a]:=by
 unfold opn;let d:a∈row.filter λp=>decide (p∉hs)&&decide (-p∉hs):=Ni o (by simp [k,j]);let b:∀x∈row.filter (λp=>decide (p∉hs)&&decide (-p∉hs)),x=a:=λx h=>by let(f,c):=List.mem_filter.mp h;rw[Bool.and_eq_true]at c;apply Decidable.byContradiction ?_;intro n;exact(oDq c.2) (i x f n)
 generalize (row.filter λp=>decide (p∉hs)&&decide (-p∉hs))=l at d b
 rcases l with _|⟨x,l⟩
 .cases d
 .let e:=b x VI;subst e;have:bp [] (x :: l)=bp [x] l:=by rfl
  rw[this];exact xt l λy g=>b y (Jb g)
def opn_no (h:∀q∈row,-q∈hs):opn row hs=[]:=by rw[List.eq_nil_iff_forall_not_mem];intro q a;let(c,_,b):=wX.mp a;exact b (h q c)
def xu (b:k<=(J4 f).length){q:Int}(h:q∈JJ f\/-q∈((J4 f).drop ((J4 f).length-k)).map Yy):-q∈fm Rs ts f k:=by
 rcases h with z|z
 .exact Ma (JfB q z)
 .apply Xb ?_;let(t,a,e):=List.mem_map.mp z;apply Md t ?_ e;have:(J4 f).reverse.take k=((J4 f).drop ((J4 f).length - k)).reverse:=by rw[List.take_reverse]
  rwa[this]at List.mem_reverse.mpr a
def Cu (a:My Rs)(H:JgH f){k:Nat}{t:Int×Int}(h:(J4 f).reverse[k]?=some t):(0<=t.2/\t.2<Vd)/\Yw ((Jy t.2).any λq=>decide (q∈fm Rs ts f k))/\opn (Jy t.2) (fm Rs ts f k)=[t.1]/\fm Rs ts f (k+1)=fm Rs ts f k++[t.1]:=by
 let Y:k<(J4 f).length:=by have:=(gEq h).1;rw[List.length_reverse]at this;exact this
 let P:(J4 f)[(J4 f).length-1-k]?=some t:=by rwa[<-List.getElem?_reverse (by lia)]at h
 let(i,K,s,E,Q):=rE Wm Yd _ t P;let l:t∈ts:=mO s;let I:=(kN E).2.1;let L:=H.why t l I;let b:-t.1∉ts.map Prod.fst:=λz=>a.cons (JfB t l) z;obtain⟨X,c,U,T,S,e4⟩:∃(k:Nat) (r:List Int),t.2=(k:Int)/\Rs[k]?=some r/\t.1∈r/\∀p∈r,p≠t.1->-p∈(ts.take (Gp 1-i)).map Prod.fst:=by
  rcases(a _ t s).2.2.2.2 with w|w
  .exact absurd w I
  .exact w
 let F:Jy t.2=c:=by rw[U,mr T]
 let d:∀q∈c,q≠t.1->-q∈fm Rs ts f k:=λq y n=>by
  apply xu Jn ?_;let D:q∈(MN Xi).1:=by let(t',o,e,_):=jL (Rs:=Rs) (f:=f) a K;erw[s]at o;rw[e];unfold e_;rwa[if_pos E]at Xb (Jnx (by rw[F];exact y) n)
  have:=xr a H (Gp Xi) Xi (Nat.add_sub_of_le K) q D;rw[Q]at this;rwa[show(J4 f).length-k=(J4 f).length-1-k+1 by exact(lqG Y).symm]at this
 let G:t.1∉fm Rs ts f k:=λz=>by
  rcases mPq z with z|z
  .let(p,J,e):=List.mem_map.mp z;let ep:p=-t.1:=(Int.neg_eq_comm.mp e).symm
   rw[ep]at J;let g:=Cs a K s E (Gp Xi) (Nat.le_of_eq (Nat.add_sub_of_le K));rw[show i+1+Gp (i+1)=ts.length by exact Nat.add_sub_of_le K]at g;exact g (kO J).2
  .let(u,O,R):=List.mem_map.mp z;let(j,C):=List.mem_iff_getElem?.mp O;let A:j<k:=by have:=(gEq C).1;rw[List.length_take]at this;exact UL this _ _
   rw[List.getElem?_take,if_pos A]at C;let B:(J4 f)[(J4 f).length-1-j]?=some u:=by rwa[<-List.getElem?_reverse (Jj_ Y)]at C
   let(N,_,M,_,W):=rE Wm Yd _ u B;let Z:=a.same_ix s M R.symm;have:i=N:=lqH K ‹_› Z
   subst this;let z:=Nat.sub_lt_sub_left (Jj_ Y) A;rw[<-lqG Y,<-lqG (Jj_ Y),<-Q,<-W]at z;exact JiB z
 let x:-t.1∉fm Rs ts f k:=λz=>b (my z);apply Jhm (L.1,L.2.1) ?_ ?_
 .rw[F,List.any_eq_false];intro q y z;let v:=oDq z;by_cases n:q=t.1
  .rw[n]at v;exact G v
  .exact a.cons (my v) (my (d q y n))
 .rwa[F]at Ct S G x d
 .unfold fm;rw[a_ h,mAq,List.append_assoc];rfl
def Cv (a:My Rs)(d:JgH f):Yw ((Jy f).any λq=>decide (q∈fm Rs ts f (J4 f).length))/\opn (Jy f) (fm Rs ts f (J4 f).length)=[]:=by
 let b:∀q∈Jy f,-q∈fm Rs ts f (J4 f).length:=λq c=>by apply xu Yd ?_;have:=xr a d Wm 0 Jn q c;rwa[Nat.sub_self]at this
 apply(?_,opn_no b);rw[List.any_eq_false];intro q c z;exact a.cons (my (oDq z)) (my (b q c))
def Cw:(Jjs f).reverse=(J4 f).reverse.map Jbr++[f]:=by unfold bM;rw[Cp _ (nRq _),List.reverse_cons,List.map_reverse]
def Cy (h:y<Vd):aY (Rs++Qs) y=Jy y\/y<0:=by
 by_cases h0:y<0
 .exact .inr h0
 .left;unfold aY;rw[List.getD_eq_getElem?_getD,List.getD_eq_getElem?_getD,List.getElem?_append_left (by simp_all)]
end L2
namespace L2
open PySem PySem.Spec PyProof.Rows
set_option maxRecDepth 100000
end L2
namespace L2
open PySem
def TOk.take (h:My Rs)(j):TOk Rs (ts.take j):=λi t e=>by
 let a:i<j:=by have:=(gEq e).1;rw[List.length_take]at this;exact UL this _ _
 rw[List.getElem?_take,if_pos a]at e;rwa[List.take_take,Nat.min_eq_left (Nat.le_of_lt a)]at h i t e
def Cz:∀ts,Jjq 1 ts->∃i t,ts[i]?=some t/\t.2=-1/\Mo i+1=cnt ts:=by
 intro ts;generalize a:ts.length=n
 induction n generalizing ts with
 |zero=>
  intro h;rw[List.length_eq_zero_iff.mp a]at h;exact XC h
 | succ n g =>
  intro h;obtain⟨xs,t,rfl⟩:∃xs t,ts=xs++[t]:=(ts.dropLast,ts.getLast (by intro e;erw[e]at a),(List.dropLast_concat_getLast _).symm);rw[lAq]at a;simp only[lS]at a;let f:cnt (xs++[t])=cnt xs+zaS t:=by rw[gq];simp [cnt]
  by_cases y:t.2=-1
  .apply(Jb5,t,by rw[List.getElem?_append_right (nRq _),Nat.sub_self];rfl,y,?_);rw[oz (nRq _),List.take_length,f];unfold zaS;rw[if_pos y]
  .let d:cnt (xs++[t])=cnt xs:=by rw[f];unfold zaS;rw[if_neg y];lia
   rw[d]at h;let(i,u,c,k,j):=g xs Jn h;let b:=(gEq c).1;exact(i,u,by rwa[List.getElem?_append_left b]at c,k,by rwa[oz (Nat.le_of_lt b),d]at j)
structure fq (ts:Mm Int)(lv)(j):Prop where
 le:WN j
 low:∀m,m<j->Mo (m+1)<=lv
 high:Iz j->lv<Mo (j+1)
def fq.inj (a:fq ts lv j)(b:fq ts lv k):j=k:=by
 rcases Nat.lt_trichotomy j k with h|h|h
 .let d:=b.low j h;let c:=a.high (by have:=b.le;lia);lia
 .exact h
 .let d:=a.low k h;let c:=b.high (by have:=a.le;lia);lia
structure mD (Rs)(ts)(f n)(j):Prop where
 tok:My Rs
 ok:JgH f
 last:Jjq 1 ts->∃q∈Jy f,Yr q=cnt ts
 mx:jJ (((JJ f).drop 1).map (lvF ts)) n
 cut:fq ts n j
def mD.n0 (R:mD Rs ts f n j):0<=n:=by
 by_cases e:((JJ f).drop 1).map Jem=[]
 .rw[R.mx.1 e];decide
 .let(a,_,b):=List.mem_map.mp (R.mx.2 e).1;rwa[<-b]at kM a
def mD.split (R:mD Rs ts f n j)(k:JJ f≠[]):∃a rest,JJ f=Nx a/\Yr a=cnt ts/\n<cnt ts/\(∀r∈rest,Yr r<=n)/\(1<=n->∃r∈rest,Yr r=n):=by
 let h:1<=cnt ts:=by apply Decidable.byContradiction ?_;intro z;have:=iH ts;exact k (xp R.tok Jn)
 let(a,rest,e,la,l):=Co R.tok R.ok h (R.last h);let g:=R.mx;rw[e]at g;let b:=g;apply(a,rest,e,la,?_,λr d=>?_,λo=>?_)
 .by_cases z:rest.map Jem=[]
  .rw[b.1 z];lia
  .let(r,c,i):=List.mem_map.mp (b.2 z).1;let o:=l r c;let p:=mv (ts:=ts) r;lia
 .let z:rest.map Jem≠[]:=λz=>by rw[List.map_eq_nil_iff]at z;erw[z]at d
  exact(b.2 z).2 _ (JfB r d)
 .let z:rest.map _≠[]:=λz=>by have:=b.1 z;lia
  let(r,c,i):=List.mem_map.mp (b.2 z).1;exact(r,c,i)
def ih (a:My Rs)(h:q∈JJ f):∃i t,ts[i]?=some t/\q=-t.1/\Yr q=cnt (ts.take (i+1)):=by let(i,t,b,e):=mw (kO h).1;exact(i,t,b,e,by rwa[e]at Jao b)
def CA (b:My Rs){i m:Nat}{t:Int×Int}(d:ts[i]?=some t):t.1∈(ts.take m).map Yy↔i<m:=by
 constructor
 .intro h;let(u,e,f):=List.mem_map.mp h;let(k,c):=List.mem_iff_getElem?.mp e;let a:k<m:=by have:=(gEq c).1;rw[List.length_take]at this;exact UL this _ _
  rw[List.getElem?_take,if_pos a]at c;rwa[b.same_ix d c f.symm]at a
 .intro h;apply JfB t (JsK i ?_);rwa[List.getElem?_take,if_pos h]at d
end L2
namespace L2
open PySem PySem.Spec PyProof.Rows
set_option maxRecDepth 100000
def CB (c:TA):TE:=λb H Q=>c b H λvs a=>∃j:Int,vs=X3 j/\∀r,IA (Mf (a r)) r (upd a r (.rng 0 j))
def xv (n:Jit "range")(l:UG "range")(u:PA X [a] ta)(hs:Ib [a]=[(false,Jc a,)]:=by rfl):Yp (Jp1 [a]) (CB ta):=by
 intro c s f H Q I h;apply Jbi I n l boot_range (thn (u pos c s f H _ I h) λus g h_=>?_) hs rfl;let(vs,w,d,k,q1):=h_;let(j,e,q):=q1;subst e;cases k with
 |cons r i=>
  cases i;let(t,rfl):=r;apply call_range_1 ?_;apply Wv g.heap.objs.size _ (d.laid (λb v e=>UD e) Yd ?_) (q _ (JbD _));exact(8,Heap.get?_push_size _ rfl)
def xw (D:Vi X.calm):Jc3 X "list" (λxs H Q=>∃r j,xs=Vj r∧Ic r (.rng 0 j)∧0≤j∧JbP j∧∀l,Jdu l l (N8 l (((List.range j.toNat).map λi:Nat=>(i:Int)).map V.int))):=by
 intro k s J H xs us Q I r h;let(z,j,rfl,C,P,O,q):=h;let(u,rfl,y):=eX r;cases y;let(N,M,K,e):=VM z C;let E:Builtin.Range.rangeSize 0 j 1=(j.toNat:Int):=by rw[rangeSize_one];split<;>lia
 apply call_list_range (I.ok.hd D) e Jr2 E Jn λh' tk acc c A F a=>?_;let G:Jc8 j.toNat:=by rwa[Array.length_toList]at a.1
 let d:bc (((List.range Jkd).map λi:Nat=>(i:Int)).map VG) acc.toList:=by
  let f:∀n L o,L.length=n->(∀i v,L[i]?=some v->∃t,v=UU (0+(((o+i:Nat):Nat):Int)*1))->bc (((List.range' o n).map λi:Nat=>(i:Int)).map VG) L:=by
   intro n
   induction n with
   |zero=>
    intro L o b _;cases L with
    |nil=>exact .nil
    |cons _ _=>cases b
   |succ n B=>
    intro L o b p;rcases L with _|⟨x,L⟩
    .cases b
    apply Jlx (B L _ (by simpa using b) λi v e=>?_)
    .let(t,e):=p 0 x rfl;exact(t,Jn)
    .let(t,g):=p Xi v e;exact(t,by rw[g];congr 1;lia)
  have:=f Jkd Jku 0 G λi v e=>by let(t,g):=a.2 i v (by rwa[<-Array.getElem?_toList]at e);exact(t,by rw[g,Nat.zero_add])
  rwa[List.range_eq_range']at this
 apply JsJ _ tk A _ (show JpR _ h' _ (((List.range Jkd).map λi:Nat=>(i:Int)).map VG) from(?_,Jku,c,d,by rwa[Array.toArray_toList]at F)) Jjw;rw[lM,lM,List.length_range,sizeLine_eq];lia
end L2
namespace L2
open PySem
noncomputable def loF (x y:Int):Int:=if y<x then y else x
noncomputable def hiF (x y:Int):Int:=if y>x then y else x
def mrg (c:GV Int)(a b:Int):GV Int:=λt=>if c t=hiF (c a) (c b) then loF (c a) (c b) else c t
structure Hd (N:Nat)(hd:GV Int):Prop where
 idem:∀t,hd (hd t)=hd t
 le:∀t,hd t<=t
 rng:∀t,hd t≠t->0<=hd t/\t<(N)
def Hd.zero (N):Hd N (λt=>t):=(λx=>rfl,λx=>Int.le_refl _,λx h=>JC h)
def lohi (x y):loF x y<=hiF x y/\((loF x y=x/\hiF x y=y)\/(loF x y=y/\hiF x y=x)):=by unfold loF hiF;split<;>split<;>lia
def Hd.in' (h:Hd N hd){a:Int}(b:0<=a/\a<(N:Int)):0<=hd a/\hd a<(N:Int):=by
 let c:=h.le a;by_cases e:hd a=a
 .rwa[e]at b
 .have:=h.rng a e;exact(this.1,Int.lt_of_le_of_lt c this.2)
def Hd.lo_id (h:Hd N hd)(a b):hd (JeO a b)=loF (hd a) (hd b):=by rcases(lohi _ _).2 with ⟨e,_⟩|⟨e,_⟩<;>rw[e]<;>exact h.idem _
def Hd.hi_id (h:Hd N hd)(a b):hd (JeP a b)=hiF (hd a) (hd b):=by rcases(lohi _ _).2 with ⟨_,e⟩|⟨_,e⟩<;>rw[e]<;>exact h.idem _
def xx (e:JeO a b=JeP a b):mrg hd a b=hd:=by
 funext t;unfold mrg;lia
def Hd.mrg (h:Hd N hd){a b:Int}(f:0<=a/\a<(N:Int))(d:0<=b/\b<(N:Int)):Hd N (mrg hd a b):=by
 let g:=lohi (hd a) (hd b);let la:=h.in' f;let i:=h.in' d;apply(λt=>?_,λt=>?_,λt=>?_)
 .by_cases e:JeO a b=JeP a b
  .rwa[xx e]at h.idem t
  .unfold L2.mrg;by_cases c:hd t=JeP a b
   .rw[if_pos c,h.lo_id,if_neg e]
   .rw[if_neg c,h.idem,if_neg c]
 .unfold L2.mrg;have:=h.le t;split<;>omega
 .unfold L2.mrg;intro z;by_cases c:hd t=JeP a b
  .rw[if_pos c]at z ⊢;apply Qm (lqM (P:=(0≤·)) g.2 la.1 i.1);by_cases w:hd t=t
   .exact w▸c▸lqL (P:=(·<(N:Int))) g.2 la.2 i.2
   .exact(Jpi w).2
  .rw[if_neg c]at z⊢;exact Jpi z
def oE:mrg hd a b t=mrg hd a b u↔hd t=hd u\/(hd t=hd a/\hd u=hd b)\/(hd t=hd b/\hd u=hd a):=by
 let g:=(lohi (hd a) (hd b)).2;unfold mrg;rcases g with g|g<;>lia
abbrev Lk:=WC We
def hdL (ls:List Lk):GV Int:=ls.foldl (λa l=>mrg a l.1 l.2.1) λt=>t
def ik (ls)(l):hdL (ls++[l])=mrg (hdL ls) l.1 l.2.1:=by unfold hdL;rw[List.foldl_append];rfl
def InN (N:Nat)(ls:List Lk):Prop:=∀l∈ls,(0<=l.1/\l.1<(N:Int))/\0<=l.2.1/\l.2.1<(N:Int)
def xy (h:InN N ls):∀i,i<=ls.length->Hd N (Jcb i):=by
 intro i
 induction i with
 |zero=>exact λx=>Hd.zero N
 |succ i b=>
  intro c;obtain⟨l,a⟩:∃l,ls[i]?=some l:=Jbm Jn;rw[a_ a,ik];have:=h l (mO a);exact(b Jn).mrg this.1 this.2
def CC (h:InN N ls):Hd N (hdL ls):=by have:=xy h JiW Yd;rw[List.take_length]at this;exact this
def mE {b:Type}{P:List b->Prop}(h0:P [])(f:∀xs x,P xs->P (xs++[x])):∀xs,P xs:=by
 intro xs;generalize a:xs.length=n
 induction n generalizing xs with
 |zero=>rwa[List.length_eq_zero_iff.mp a]at h0
 |succ n d=>
  let c:xs≠[]:=λe=>by erw[e]at a
  rw[<-List.dropLast_concat_getLast c];apply f _ _ (d _ ?_);rw[List.length_dropLast];lia
def xA (S:Int->Prop):∀ls:List Lk,(∀l∈ls,S l.1↔S l.2.1)->∀t u,Jdp t=Jdp u->(S t↔S u):=by
 apply mE ?_ ?_
 .intro _ t u e;let i:t=u:=e;rw[i]
 .intro ls l f h t u e;rw[ik,oE]at e;let a:=f λk g=>h k (Ma g);let d:=h l (Xb VI);rcases e with e | ⟨c,b⟩ | ⟨c,b⟩
  .exact a t u e
  .exact(a t l.1 c).trans (d.trans (a u l.2.1 b).symm)
  .exact(a t l.2.1 c).trans (d.symm.trans (a u l.1 b).symm)
def oF:∀ls:List Lk,∀l∈ls,Jdp l.1=hdL ls l.2.1:=by
 apply mE (λl h=>Yn h) ?_;intro ls k a l b;rw[ik,oE];rcases mPq b with z|z
 .exact .inl (a l z)
 .cases mSq z;simp
def CD (h:Jdp t=Jdp u):hdL (ls++[l]) t=hdL (ls++[l]) u:=by rwa[ik,oE]at .inl h
def oG {ls:List Lk}{t u:Int}:∀a:List Lk,Jdp t=Jdp u->hdL (ls++a) t=hdL (ls++a) u:=by apply mE (λh=>by rwa[List.append_nil]at h) ?_;intro a l b h;rwa[<-List.append_assoc]at CD (b h)
theorem ip:∀(n:Nat) {xs:List Int},xs.Nodup->(∀x∈xs,0<=x/\x<(n:Int))->Jam n
 |0,[],_,_=>nRq _
 |0,x::xs,_,h=>by have:=IH x;lia
 |n+1,xs,a,h=>by
  let q:=ip n (a.erase (n:Int)) (λx b=>by let z:=(List.Nodup.mem_erase_iff a).mp b;have:=h x z.2;have:=z.1;lia)
  rw[List.length_erase]at q;split at q<;>lia
noncomputable def dL (l:Lk):Dt:=JkZ l.1 l.2.1 l.2.2
def has_dL (h:JlU (dL l)):∃p,Nk v p/\SqT K H p (Gu l.1 l.2.1 l.2.2):=by let(a,xs,rfl,b,c):=h;let e:=iF (ns:=[l.1,l.2.1,l.2.2]) c;rw[e]at b;exact Nd a b
def oH (h:Vo p (Gu l.1 l.2.1 l.2.2)):Qx K H (dL l) p:=Has.tup' h (.cons Jgz Jr8)
theorem cT:∀ls:List Lk,MU (ls.map dL)
 |[]=>by rfl
 |l::ls=>by simp only[List.map_cons,bX,dL,nol,Bool.true_and];exact cT ls
theorem xB:∀ls:List Lk,JiR (ls.map dL) 1
 |[]=>by simp [bx]
 |l::ls=>by let h:=xB ls;simp only[List.map_cons,bx,dL,dep];simp_all
def iJ {K:W.Frag}{H:Hp}{ls:List Lk}{xs:List V}{i:Nat}{x:V}(h:JaQ dL)(e:xs[i]?=some x):∃l p,ls[i]?=some l/\GN p/\SqT K H p (Gu l.1 l.2.1 l.2.2):=by let(d,b,a):=h.get e;rw[List.getElem?_map]at b;let(l,j,g):=Option.map_eq_some_iff.mp b;rw[<-g]at a;let(p,f,c):=has_dL a;exact(l,p,j,f,c)
def Mem (H:Hp)(kg:QX V)(c:GV Int)(d:List Addr)(x:Int)(b:List Int):Prop:=b.Nodup/\(∀t,t∈b↔c t=x)/\((Mf (Vh kg x)/\b=[x])\/∃a,Vh kg x=Ja a/\Qr a (b.map VG)/\a∉d)
structure GO (H:Hp)(C g ld gd)(N b)(hd)(av):Prop where
 h:Hd N hd
 ne:ld≠gd
 ex:∃dx kl kg,Jc0 g [("least",.ref ld,),("gathered",.ref gd,)]/\Jz ld kl/\Jz gd kg/\(∀t:Int,(Vh kl t).getD (.int t)=.int (hd t))/\(∀x:Int,hd x=x->∃ms:List Int,Mem H kg hd av x ms)/\kl.length<=b*N/\kg.length<=b
def GO.same (G:Jhg C)(s:Xd H):Jhf H' C:=by
 let(dx,kl,kg,t,r,q,p,o,n,l):=G.ex;apply(G.h,G.ne,dx,kl,kg,s _ _ t,s _ _ r,s _ _ q,p,λx k=>?_,n,l);let(e,j,i,c):=o x k;apply Jhm e j i;rcases c with c|⟨a,f,d⟩
 .exact .inl c
 .exact WM a f (s _ _ d.1) d.2
def GO.mono (G:Jhg C)(h:b<=b'):Jhe H C b':=by let(dx,kl,kg,j,i,f,e,d,c,a):=G.ex;exact(G.h,G.ne,dx,kl,kg,j,i,f,e,d,Nat.le_trans c (Nat.mul_le_mul_right _ h),Nat.le_trans a h)
def bU (ld gd:Addr)(H H':Hp):Prop:=∀b o,b≠ld->b≠gd->Jik b o b o
def bU.trans (a:Jck H1)(b:Jcj H1 H2):Jck H2:=λc o e d h=>b c o e d (a c o e d h)
def ap.g (s:Xd H):Jck H':=λb o x x h=>s b o h
def ap.ofG (s:M9 H1)(d:Nf ld)(c:Nf gd)(x:Jcj H1 H2):M9 H2:=λb o a=>x b o (λe=>by erw[e,d]at a) (λe=>by erw[e,c]at a) (s b o a)
def bU.put1 (H)(o):Jck (Jm ld o):=λb u a x h=>by rwa[aq a]at h
def bU.put2 (H)(o):Jck (Jm gd o):=λb u x a h=>by rwa[aq a]at h
def xC (h:Hd N hd){x:Int}(g:0<=x/\x<(N:Int)){a:List Int}(b:a.Nodup)(f:∀t,t∈a↔hd t=x):Jps N:=by
 apply ip N b λt d=>?_;let e:=(f t).mp d;have:=h.le t;by_cases c:hd t=t
 .simp_all
 .have:=Jpi c;exact(Int.le_trans this.1 (h.le t),this.2)
def GO.merged (h:Hd N hd)(q:ld≠gd)(G:0<=a/\a<(N:Int))(F:0<=c/\c<(N:Int))(f:JeO a c≠JeP a c){dx:Addr}{kl kg:List (JeY V)}{p:Addr}{ml mh:List Int}
  (P:Jc0 g [("least",.ref ld,),("gathered",.ref gd,)])(O:Jz ld kl)(M:Jz gd (II kg (JeO a c) (.ref p)))(L:∀t:Int,(Vh kl t).getD (.int t)=.int (if t∈mh then JeO a c else hd t))
  (K:∀x:Int,hd x=x->∃i:List Int,Mem H kg hd av x i)(l1:ml.Nodup)(l2:∀t,t∈ml↔hd t=JeO a c)(k1:mh.Nodup)(k2:∀t,t∈mh↔hd t=JeP a c)(E:Qr p ((ml++mh).map V.int))(J:kl.length<=b*N)(I:kg.length+1<=b)(j:p∉av):Jf2 H C g N b (mrg hd a c):=by
 apply(h.mrg G F,q,dx,kl,_,P,O,M,λt=>?_,λx d=>?_,J,Nat.le_trans (mf _ _ _) I)
 .rw[L];unfold mrg;by_cases z:hd t=JeP a c
  .rw[if_pos ((k2 t).mpr z),if_pos z]
  .rw[if_neg (λw=>z ((k2 t).mp w)),if_neg z]
 .by_cases z:x=JeO a c
  .subst z;apply(ml++mh,Vp l1 k1 (λu D v B e=>?_),λt=>?_,WM p (by rw[hX,if_pos rfl]) E j)
   .subst e;let o:=(l2 u).mp D;let n:=(k2 u).mp B;exact f (o.symm.trans n)
   .rw[List.mem_append,l2,k2];unfold mrg;lia
  .let k:hd x≠hiF _ _:=λw=>by unfold mrg at d;rw[if_pos w]at d;exact z d.symm
   let l:hd x=x:=by unfold mrg at d;rw[if_neg k]at d;exact d
   let(i,A,s,r):=K x l;apply Jhm i A (λt=>?_)
   .rw[s];unfold mrg;lia
   .rwa[hX,if_neg (λy=>z (by injection y))]at r
def GO.avoid (G:Jhg C)(n:Nf l):VL H C g N b hd (l::av):=by
 let(dx,kl,kg,v,u,t,s,r,q,p):=G.ex;apply(G.h,G.ne,dx,kl,kg,v,u,t,s,λx o=>?_,q,p);let(e,k,j,d):=r x o;apply Jhm e k j;rcases d with d|⟨a,i,c,f⟩
 .exact .inl d
 .exact .inr (a,i,c,λz=>by
   rcases List.mem_cons.mp z with z|z
   .erw[z,n]at c
   .exact f z)
def GO.sub (G:Jhg C)(h:∀a∈av',a∈av):VL H C g N b hd av':=by
 let(dx,kl,kg,t,s,r,q,p,o,n):=G.ex;apply(G.h,G.ne,dx,kl,kg,t,s,r,q,λx l=>?_,o,n);let(d,k,j,c):=p x l;apply Jhm d k j;rcases c with c|⟨a,i,f,e⟩
 .exact .inl c
 .exact WM a i f (λz=>e (h a z))
def GO.put (G:Jhg C)(c:l∈av\/∀xs,H l≠JhO xs)(j:l≠g)(n:l≠ld)(k:l≠gd):Jhf (Jm l o) C:=by
 let(dx,kl,kg,B,A,z,y,w,v,u):=G.ex;apply(G.h,G.ne,dx,kl,kg,by rwa[UK j]at B,by rwa[UK n]at A,by rwa[UK k]at z,y,λx t=>?_,v,u);let(p,s,r,d):=w x t;apply Jhm p s r;rcases d with d|⟨a,q,i,f⟩
 .exact .inl d
 .apply WM a q ?_ f;rw[aq (λe=>by
   rcases c with c|c
   .exact f (e▸c)
   .exact c _ (e▸i))]
  exact i
def kP {kvs:List (JeY V)}{F:List Int}(h:Jpl Qn)(n):(Q_ n).isSome=decide (n∈F):=by
 rw[<-hV,Bool.eq_iff_iff,List.any_eq_true,decide_eq_true_iff];constructor
 .rintro ⟨a,d,c⟩;let e:=oDq c;let m:a.1∈F.map Sum.inl:=by rwa[←h]at JfB a d
  let(k,g,b):=List.mem_map.mp m;rw[e]at b;injection b with b;rwa[<-b]at g
 .intro f;let m:(Sum.inl n:Key)∈kvs.map (·.1):=by rwa[h]at JfB n f
  let(a,d,c):=List.mem_map.mp m;exact(a,d,dTq c)
noncomputable def addK (F:List Int)(n:Int):List Int:=if n∈F then F else F++[n]
def xD {kvs:List (JeY V)}{F:List Int}(h:Jpl Qn)(n)(v):(II kvs n v).map Qn=(addK F n).map Sum.inl:=by
 unfold zaz addK;by_cases c:n∈F
 .let a:Vi (kvs.any λb=>decide (XV b.1 n)):=by rwa[hV,kP h]at dTq c
  rw[if_pos a,if_pos c,List.map_map,<-h];apply List.map_congr_left ?_;intro b _;show(if XV b.1 n then(b.1,v,) else b).1=b.1
  split<;>rfl
 .let a:¬Vi (kvs.any λb=>decide (XV b.1 n)):=by rwa[hV,kP h,dFq c]at Jb3
  rw[if_neg a,if_neg c,mAq,mAq,h];rfl
def xE {kvs:List (JeY V)}{F:List Int}(h:Jpl Qn):kvs.length=F.length:=by have:=Mt h;rw[lM,lM]at this;exact this
def CH {kvs:List (JeY V)}{F:List Int}(h:Jpl Qn):(kvs.map λa=>kV a.1)=F.map V.int:=by
 let e:(kvs.map λa=>kV a.1)=(kvs.map Qn).map kV:=by rw[List.map_map];rfl
 rw[e,h,List.map_map];rfl
def CI {ls:List Lk}{n:Nat}{k:Int}(f:GV Int)(h0:0<=k)(a:k<(n:Int)):atI (((List.range n).map λi:Nat=>f (i:Int)).map V.int) k=some (.int (f k)):=by
 let e:k=(k.toNat:Int):=Jn
 have:=qP (ns:=(List.range n).map λi:Nat=>f (i:Int)) (i:=k.toNat) (by rw[List.getElem?_map,List.getElem?_range ((Int.toNat_lt ‹_›).mpr ‹_›)];show Xa (some (f (k.toNat:Int))) (f k);rw[<-e])
 rw[<-e]at this;exact this
noncomputable def zaT (v:GV Bool)(p:Int):Bool:=if 0<p then v p else !v (-p)
def CJ (h:p≠0):zaT v (-p)=!zaT v p:=by
 unfold zaT;rcases Int.lt_trichotomy p 0 with z|z|z;rwa[if_pos (Int.neg_pos_of_neg z),if_neg (Int.not_lt.mpr (Int.le_of_lt z)),Bool.not_not]at MS h;rw[if_neg (Int.not_lt.mpr (Int.neg_nonpos_of_nonneg (Int.le_of_lt z))),if_pos z,Int.neg_neg]
def SatR (v:GV Bool)(r:List Int):Prop:=∃p∈r,Vi (zaT v p)
def gL (v:GV Bool)(rs:Xg Int):Prop:=∀r∈rs,SatR v r
def oJ (h0:0<=f)(a:f<(rs.length:Int)):aY rs f∈rs:=by have:=jb h0 a;exact mO this
def CK (d:My rs)(g:JgG rs f){v:Int→Bool}(h:gL v rs):∀i,WN i→SatR v (Nl rs f i).1:=by
 intro i
 induction i with
 |zero=>exact λm=>h _ (oJ g.f0 g.f1)
 | succ i s =>
  intro B;let(q,n,b):=s Jn;let l:ts.reverse[i]?=some (ts[Gp 1-i]' Jn):=by rwa[ja (by lia)]at gG _
  generalize u:ts[Gp 1-i]' Jn=t at l;let j:t∈ts:=by rwa[<-u]at List.getElem_mem _
  rw[jI l];unfold e_;by_cases c:Jg6 (Nl rs f i).1 X1 t.2
  .rw[if_pos c];by_cases e:q=-t.1
   .let y:=(kN c).2.1;let w:=g.why t j y;let(p,x,a):=h _ (oJ w.1 w.2.1);let r:p≠t.1:=λz=>by let(k,A):=List.getElem?_of_mem j;let o:=(d _ _ A).1;erw[e,CJ o,←z,a]at b
    exact(p,Xb (Jnx x r),a)
   .exact(q,Ma (Jnx n e),b)
  lia
def xF (a:My rs)(b:JgG rs f){v:Int->Bool}(h:gL v rs):SatR v (MI rs f):=by let(q,c,d):=CK a b h _ Yd;apply(q,?_,d);exact JbW (mq b _ q c) (dTq c)
noncomputable def wgt (n:Nat):Nat->Mm Int->Nat
 |_,[]=>0
 |i,t::r=>(if t.2=-1 then 1 else 2^(n-i))+WP (i+1) r
theorem mJ (n):∀b bs i,WP i (b++bs)=WP i b+WP (Jna i) bs
 |[],bs,i=>by simp [wgt]
 |a::b,bs,i=>by show _+WP (i+1) (b++bs)=_+WP (i+1) b+_;rwa[mJ n b bs (i+1),List.length_cons,show Jna (i+1)=i+(b.length+1) by lia]at (Nat.add_assoc _ _ _).symm
theorem mK (n):∀b i,Jna i<=n->WP i b+2<=2^(n-i+1)
 |[],i,h=>by have:1<=2^(n-i):=Nat.one_le_two_pow;show 0+2<=_;rwa[Nat.pow_succ]at Nat.le_mul_of_pos_left (0+2) this
 |a::b,i,h=>by
  rw[List.length_cons]at h;let c:=mK n b Xi Jn;let e:n-(i+1)+1=n-i:=lqC (Nat.lt_of_lt_of_le (Nat.lt_add_of_pos_right (Nat.succ_pos _)) h)
  rw[e]at c;have:1<=2^(n-i):=Nat.one_le_two_pow;show(if a.2=-1 then 1 else 2^(n-i))+WP _ b+2<=_
  rw[Nat.pow_succ];split<;>lia
def CM (n)(ts)(t):WP 0 ts<wgt n 0 (ts++[t]):=by
 have:1<=2^(n-Wm):=Nat.one_le_two_pow;rw[mJ,Nat.zero_add];show _<_+((if t.2=-1 then 1 else 2^(n-Wm))+0)
 split<;>lia
def CN (i:Jmn n)(h:ts[j]?=some t)(d:t.2=-1)(f:k≠-1):WP 0 ts<wgt n 0 (ts.take j++[(p,k,)]):=by
 let b:=(gEq h).1;let e:ts=ts.take j++t::ts.drop (j+1):=by
  have:=List.take_append_drop j ts;rw[List.drop_eq_getElem_cons b]at this;let g:ts[j]=t:=by have:=gG b;lia
  rw[g]at this;exact JqK
 let a:(ts.take j).length=j:=by rwa[List.length_take]at Nat.min_eq_left (Nat.le_of_lt ‹_›)
 let l1:WP 0 ts=WP 0 Ue+(1+WP (j+1) (ts.drop (j+1))):=by
  conv=>lhs;rw[e]
  rw[mJ,a,Nat.zero_add];show _+((if t.2=-1 then 1 else _)+_)=_
  rw[if_pos d]
 let l2:WP 0 (ts.take j++[(p,k,)])=WP 0 Ue+2^(n-j):=by
  rw[mJ,a,Nat.zero_add];show _+((if k=-1 then 1 else _)+0)=_
  rw[if_neg f];rfl
 let c:=mK n (ts.drop (j+1)) (j+1) (List.length_drop<|>Nat.le_trans (Nat.le_of_eq (Nat.add_sub_of_le b)) i);rw[show n-(j+1)+1=n-j by exact lqC (Nat.lt_of_lt_of_le b i)]at c;lia
noncomputable def bsF:Nat->Mm Int->List Int
 |_,[]=>[]
 |i,t::r=>if t.2=-1 then(i:Int)::bsF Xi r else bsF Xi r
theorem rF:∀b bs i,bsF i (b++bs)=bsF i b++bsF (Jna i) bs
 |[],bs,i=>rfl
 |a::b,bs,i=>by
  let c:=rF b bs Xi;rw[show Jna (i+1)=i+(a::b).length by rw[List.length_cons];lia]at c;show(if a.2=-1 then(i:Int)::bsF _ (b++bs) else bsF _ (b++bs))=(if a.2=-1 then(i:Int)::bsF _ b else bsF _ b)++_
  split<;>rw[c]<;>rfl
def oK (ts)(t):Jnb (ts++[t])=if t.2=-1 then Jnb ts++[(ts.length:Int)] else bsF 0 ts:=by
 rw[rF,Nat.zero_add];show Jnb ts++(if t.2=-1 then(ts.length:Int)::[] else [])=_
 split
 .rfl
 .rw[List.append_nil]
def oM:∀ts:Mm Int,((Jnb ts).length:Int)=cnt ts:=by
 apply mE rfl ?_;intro ts t a;rw[oK,gq];let e:cnt [t]=if t.2=-1 then 1 else 0:=by show zaS t+0=_;unfold zaS;rw[Int.add_zero]
 rw[e];split
 .rw[lAq];show((_+1:Nat):Int)=_;lia
 .lia
def CO:∀ts:Mm Int,Jnb ts≠[]->∃j t,ts[j]?=some t/\t.2=-1/\Jnb ts=Jnb (ts.take j)++[(j:Int)]/\Mo j+1=cnt ts:=by
 apply mE (λh=>JC h) ?_;intro ts t b h;rw[oK]at h⊢;by_cases c:t.2=-1
 .rw[if_pos c];apply(Wm,t,by rw[List.getElem?_append_right (nRq _),Nat.sub_self];rfl,c,9)
  .rw[XL _,List.take_length]
  .rw[XL _,List.take_length,gq];show _=_+(zaS t+0);unfold zaS;rw[if_pos c,Int.add_zero]
 .rw[if_neg c]at h ⊢;let(j,u,a,g,f,e):=b h;let d:=(gEq a).1;apply(j,u,by rwa[List.getElem?_append_left d]at a,g,9)
  .rwa[List.take_append_of_le_length (by lia)]at f
  .rw[List.take_append_of_le_length (by lia),gq,e];show _=_+(zaS t+0);unfold zaS;simp_all
structure HS where
 rs:Xg Int
 pp:List Dt
 ts:Mm Int
 lk:Nat
 bs:List Int
 wt:JfF We
 wg:GV Yk
 od:List Int
 la:JfF Int
abbrev HS.hs (S:HS):List Int:=S.ts.map Yy
noncomputable def HS.hold (S:HS)(p y:Int):HS:={ S with ts:=S.ts++[(p,y,)] }
noncomputable def HS.setW (S:HS)(r a b:Int):HS:={ S with wt:=λx=>if x=r then some (a,b,) else S.wt x }
noncomputable def HS.addG (S:HS)(c r:Int):HS:={ S with wg:=λx=>if x=c then S.wg x++[r] else S.wg x }
noncomputable def HS.setG (S:HS)(c:Int)(ns:List Int):HS:={ S with wg:=λx=>if x=c then ns else S.wg x }
def HS.watch (S:HS)(r a b:Int):HS:=((JgI a b).addG a r).addG b r
def fu (a:List Int)(o:Int)(hs:List Int):Option Int:=a.find? λq=>decide (q≠o)&&decide (-q∉hs)
def CQ (h:Xa (fu row o hs) q):q∈row/\q≠o/\-q∉hs:=by let b:=List.mem_of_find?_eq_some h;let a:=List.find?_some h;lia
def xG (h:Mf (fu row o hs))(b:q∈row)(a:q≠o):-q∈hs:=by have:=List.find?_eq_none.mp h q b;lia
noncomputable def zat (S:HS)(c r:Int):Int:=let p:=(S.wt r).getD (0,0,);if p.1=c then p.2 else p.1
abbrev LkS:=HS×Je5 Int (Option Int)
def stepK (c:Int)(st:LkS)(r:Int):LkS :=
 if UT st.1∈st.1.hs then(st.1,st.2.1++[r],st.2.2,)
 else match fu (aY st.1.rs r) (UT st.1) st.1.hs with
  |some q=>((st.1.setW r (UT st.1) q).addG q r,st.2.1,st.2.2,)
  |none=>if -(UT st.1)∈st.1.hs then(st.1,st.2.1++[r],some r,) else(st.1.hold (UT st.1) r,st.2.1++[r],st.2.2,)
def di (S:HS)(c:Int)(i:Nat):LkS:=((S.wg c).take i).foldl (stepK c) (S,[],none,)
def xH (h:(S.wg c)[i]?=some r):di S c (i+1)=stepK c (di S c i) r:=by unfold di;rw[a_ h,List.foldl_append];rfl
def Wp (ts:Mm Int)(k:Nat)(a b:Int):Prop:=∀i t,i<k->ts[i]?=some t->t.1=-a->∃j u,ts[j]?=some u/\u.1=b/\Mo (j+1)<=Mo Xi
structure WOk (S:HS)(g:GV Yk)(k):Prop where
 has:∀(r:Nat) (row),S.rs[r]?=some row->2<=row.length->∃a b,N4 r (a,b,)
 is:∀(r a b),N4 r (a,b,)->a∈U8 r/\b∈U8 r/\a≠b/\0<=r/\r<Xh
 gw:∀r c,r∈g c↔∃a b,N4 r (a,b,)/\(c=a\/c=b)
 nd:∀c,(g c).Nodup
 wp:∀r a b,N4 r (a,b,)->Wp IR k a b/\Wp IR k b a
 one:∀a,[a]∈S.rs->∃(j:Nat) (u:WC Int),S.ts[j]?=some u/\u.1=a/\NI (j+1)=0
 nil:[]∉Jqf
def fb {ts es:List We}{i:Nat}{t:Int×Int}(h:ts[i]?=some t):(ts++es)[i]?=some t/\cnt ((ts++es).take Xi)=cnt (ts.take Xi):=by let a:=(gEq h).1;exact(List.getElem?_append_left a<|>h,by rw[List.take_append_of_le_length (by lia)])
def Wp.more {ts:List We}{k:Nat}{a b:Int}(h:Wp ts k a b)(n:WN k)(es):Wp (ts++es) k a b:=by intro i t f c e;rw[List.getElem?_append_left (by lia)]at c;let(j,u,d,l,g):=h i t f c e;apply(j,u,(fb d).1,l,?_);rwa[(fb d).2,(fb c).2]at g
def jc {ts:List We}{p:Int}(h:p∈ts.map Yy):∃(i:Nat) (t:WC Int),ts[i]?=some t/\t.1=p:=by let(t,c,b):=List.mem_map.mp h;let(i,a):=List.getElem?_of_mem c;exact(i,t,a,b)
def eG {ts:List We}{i:Nat}{t:Int×Int}(h:ts[i]?=some t):t.1∈ts.map Prod.fst:=JfB t (mO h)
structure LkI (n k)(c)(S0:HS)(L:List Int)(i)(st:LkS):Prop where
 rs:st.1.rs=S0.rs
 eq:st.1.pp=S0.pp/\st.1.lk=S0.lk/\st.1.bs=S0.bs/\st.1.od=S0.od/\st.1.la=S0.la
 ex:∃es,st.1.ts=S0.ts++es/\∀t∈es,t.2≠-1
 tok:TOk st.1.rs st.1.ts
 rng:∀t∈st.1.ts,t.1.natAbs<=n
 w:WOk st.1 (λx=>if x=c then M4 st.2.1 i else st.1.wg x) k
 wc:st.1.wg c=L
 ol:Mf st.2.2->∀r∈st.2.1,∃a b,Xa (st.1.wt r) (a,b,)/\((a=c/\b∈st.1.hs)\/(b=c/\a∈st.1.hs))
 fl:∀f,Xa st.2.2 f->0<=f/\f<(S0.rs.length:Int)/\c∈aY S0.rs f/\∀p∈aY S0.rs f,-p∈st.1.hs
def xI (W:WOk S g k){c r:Int}(h:r∈g c):(N4 r (c,UT S,)\/N4 r (UT S,c,))/\UT S≠c/\UT S∈U8 r/\c∈U8 r/\0<=r/\r<(S.rs.length:Int):=by
 let(a,b,e,f):=(W.gw r c).mp h;let d:=W.is r a b e;unfold zat;rw[e];show(Xa (some _) (c,if a=c then b else a,)\/Xa (some _) (if a=c then b else a,c,))/\(if a=c then b else a)≠c/\(if a=c then b else a)∈_/\_
 lia
def jM (h:∀t∈es,t.2≠-1):cnt es=0:=xq (Rs:=[]) (hs:=[]) h
def mid_nd (h:(as++x::bs).Nodup):x∉as++bs/\(as++bs).Nodup:=by let a:=(List.perm_middle.nodup_iff).mp h;exact List.nodup_cons.mp a
def LkI.step (I:LkI n k c S0 L i st){r:Int}(hr:L[i]?=some r)(hk:k≤S0.ts.length)(hc:-c∈S0.hs)(n60:n≤60)
  (hrow:∀U∈S0.rs,∀p∈U,Joj 0):LkI n k c S0 L (i+1) (stepK c st r):=by
 let(S,o,fl):=st;let hi:Jaw i:=(gEq hr).1;let ed:L.drop i=r::L.drop (i+1):=by rw[List.drop_eq_getElem_cons hi];have:=gG hi;lia
 let(C,K,(es,J,P),s,w,g,G,N,O):=I;dsimp only at C K J s w g G N O;let R:S.rs=S0.rs:=C;let H:S.ts=S0.ts++es:=J;let hk':Jpu k:=by rwa[H,lAq]at Nat.le_add_right_of_le hk
 let hc':-c∈S.hs:=by show -c∈S.ts.map Yy;rwa[H,mAq]at Ma hc
 let hrc:r∈(λx=>if x=c then M4 o i else S.wg x) c:=by
  show r∈if c=c then M4 o i else S.wg c
  rwa[if_pos rfl,ed]at Xb VI
 let(ow,oc,E,crow,r0,r1):=xI g hrc;let gE:(λx=>if x=c then M4 o i else S.wg x)=λx=>if x=c then M4 (o++[r]) Xi else S.wg x:=by funext x;rw[ed,List.append_assoc];rfl
 let hol:∀d∈o++[r],d∈o\/d=r:=λd h=>(mPq h).imp id mSq;let wE:∃a b,N4 r (a,b,)/\((a=c/\b=UT S)\/(b=c/\a=UT S)):=ow.elim (λz=>(5,z,JaO rfl)) λz=>(5,z,Je9 rfl);unfold stepK;show LkI n k c S0 L Xi (if Jnc JiE then(S,o++[r],fl,) else _)
 by_cases c1:Jnc JiE
 .rw[if_pos c1];apply(C,K,(es,J,P),s,w,gE ▸ g,G,λX d h'=>?_,O);rcases hol d h' with z | rfl
  .exact N X d z
  .let(a,b,v,y):=wE;exact(a,b,v,y.imp (λ(z:a=c/\b=_)=>(z.1,by rwa[z.2]at c1)) λ(z:b=c/\a=_)=>(z.1,by rwa[z.2]at c1))
 rw[if_neg c1];show LkI n k c S0 L Xi (match fu (U8 r) JiE S.hs with|some q=>((JgI JiE q).addG q r,o,fl,)|none=>if -(UT S)∈S.hs then(S,o++[r],some r,) else(JcY S r,o++[r],fl,))
 cases hf:fu (U8 r) JiE S.hs with
 | some q =>
  let(q1,q2,q3):=CQ hf;let qc:q≠c:=λz=>q3 (z▸hc');let ndc:=g.nd c;let Q:(M4 o i).Nodup:=by
   lia
  rw[ed]at Q;let md:=mid_nd Q;let wtE:∀x a b,((JgI JiE q).addG q r).wt x=some (a,b,)->(x=r/\a=UT S/\b=q)\/(x≠r/\N4 x (a,b,)):=λx a b h=>by
   let h':(if x=r then some (UT S,q,) else S.wt x)=some (a,b,):=h
   by_cases z:x=r;erw[if_pos z]at h';exact .inl (Nd z rfl);rw[if_neg z]at h';exact Jl z h'
  let T:∀x,x≠r->((JgI JiE q).addG q r).wt x=S.wt x:=λx e=>if_neg e;let Z:((JgI JiE q).addG q r).wt r=some (UT S,q,):=if_pos rfl;let old:∀x,x≠c->(r∈S.wg x↔x=UT S):=λx hx=>by
   have:=g.gw r x;let this:(r∈if x=c then M4 o i else S.wg x)↔_:=this
   rw[if_neg hx]at this;rw[this];let(a,b,v,y):=wE;constructor
   .lia
   .intro e;apply Jhm a b v;lia
  apply(C,K,(es,J,P),s,w,(λx U hx hl=>?_,λx a b h=>?_,λd x=>?_,λx=>?_,λx a b h=>?_,g.one,g.nil),?_,λX d h'=>?_,O)
  .by_cases e:(x:Int)=r
   .rwa[e]at Q5 _ Z
   .rwa[T _ e]at g.has x U hx hl
  .rcases wtE x a b h with ⟨rfl,rfl,rfl⟩ | ⟨_,h⟩
   .exact(E,q1,Ne.symm q2,r0,r1)
   .exact g.is x a b h
  .show(d∈if x=c then M4 o Xi else if x=q then Jhs x [r] else S.wg x)↔_
   by_cases e:d=r
   .subst e;let rhs:(∃a b,((S.setW d (Xy S d) q).addG q d).wt d=some (a,b,)∧(x=a∨x=b))↔(x=Xy S d∨x=q):=by
     rwa[Z]at(λ(_,_,e,h)=>by cases e;exact h,λh=>Gz _ _ h)
    rw[rhs];by_cases B:x=c
    .lia
    .rw[if_neg B];by_cases eq:x=q
     .rwa[if_pos eq]at(λm=>.inr eq,λm=>Xb VI)
     .rw[if_neg eq,old x B];simp_all
   .rw[T _ e];have:=g.gw d x;rw[←this];show _↔(d∈if x=c then M4 o i else S.wg x)
    by_cases B:x=c
    .rw[if_pos B,if_pos B,ed,List.mem_append,List.mem_append,List.mem_cons];rw[or_iff_right e]
    .rw[if_neg B,if_neg B];by_cases eq:x=q
     .rw[if_pos eq,List.mem_append,List.mem_singleton];lia
     .rw[if_neg eq]
  .show(if x=c then M4 o Xi else if x=q then Jhs x [r] else S.wg x).Nodup
   by_cases B:x=c
   .rwa[if_pos B]at md.2
   .rw[if_neg B];let nx:=g.nd x;let nx:(if x=c then M4 o i else S.wg x).Nodup:=nx
    rw[if_neg B]at nx;by_cases eq:x=q
    .rw[if_pos eq];apply JbY nx (λa ha b hb e=>?_);let hb:=mSq hb;rw[e,hb]at ha;exact q2 (eq.symm.trans ((old x B).mp ha))
    .rwa[if_neg eq]at nx
  .rcases wtE x a b h with ⟨rfl,rfl,rfl⟩ | ⟨_,h⟩
   .apply(λj t hj A e=>?_,λj t hj A e=>?_)
    .let wpc:Wp IR k (Xy S x) c:=ow.elim (λz=>(g.wp _ _ _ z).2) λz=>(g.wp _ _ _ z).1;let(l,u,v,y,_):=wpc j t hj A e;exact absurd (s.cons (y▸eG v) hc') id
    .exact absurd (e▸eG A) q3
   .exact g.wp x a b h
  .show(if c=q then Jhs c [r] else S.wg c)=L
   lia
  .let hne:d≠r:=λe=>md.1 (Ma (e▸h'));let(a,b,v,y):=N X d h';exact(a,b,(T _ hne).trans v,y)
 | none =>
  by_cases c2:-(UT S)∈S.hs
  .show LkI n k c S0 L Xi (if -(UT S)∈S.hs then(S,o++[r],some r,) else _)
   rw[if_pos c2];apply(C,K,(es,J,P),s,w,gE▸g,G,λX=>?_,λf F=>?_)
   .cases X
   .injection F with F;subst F;rw[←R];apply(r0,r1,crow,λp hp=>?_);by_cases e:p=UT S
    .rwa[e]at c2
    .exact xG hf hp e
  .show LkI n k c S0 L Xi (if -(UT S)∈S.hs then _ else(JcY S r,o++[r],fl,))
   rw[if_neg c2];let hro:=hrow _ (R▸oJ r0 r1) _ E;let W:(JcY S r).hs=S.hs++[UT S]:=by show(S.ts++[(UT S,r,)]).map Yy=_;rw[mAq];rfl
   apply(C,K,(es++[(UT S,r,)],?_,λt A=>?_),?_,λt A=>?_,?_,G,λX d h'=>?_,λf F=>?_)
   .show S.ts++[(UT S,r,)]=S0.ts++(es++[(UT S,r,)]);rw[H,List.append_assoc]
   .rcases mPq A with A | A
    .exact P t A
    .rw[mSq A];show r≠-1;lia
   .apply TOk.snoc s (t:=(UT S,r,)) hro.1 (lqR (Nat.le_trans hro.2 n60)) c1 c2 (.inr (r.toNat,U8 r,?_,jb r0 r1,E,λp hp ne=>xG hf hp ne));show r=(r.toNat:Int);lia
   .rcases mPq A with A | A
    .exact w t A
    .rwa[mSq A]at hro.2
   .apply(g.has,g.is,9,λx a b h=>((g.wp x a b h).1.more hk' _,(g.wp x a b h).2.more hk' _),λa h=>?_,g.nil)
    .exact(gE▸g:WOk S (λx=>if x=c then M4 (o++[r]) Xi else S.wg x) k).gw
    .exact(gE▸g:WOk S (λx=>if x=c then M4 (o++[r]) Xi else S.wg x) k).nd
    .let(j,u,v,y,M):=g.one a h;exact(j,u,(fb v).1,y,(fb v).2.trans M)
   .rcases hol d h' with z | rfl
    .let(a,b,v,y):=N X d z;apply Jhm a b v;show(a=c/\b∈(JcY S r).hs)\/(b=c/\a∈(JcY S r).hs);rw[W];exact y.imp (λz=>(z.1,Ma z.2)) λz=>(z.1,Ma z.2)
    .let(a,b,v,y):=wE;apply Jhm a b v;show(a=c/\b∈(S.hold (Xy S d) d).hs)\/(b=c/\a∈(S.hold (Xy S d) d).hs);rw[W];exact y.imp (λ(z:a=c/\b=_)=>(z.1,by rwa[z.2]at Xb VI)) λ(z:b=c/\a=_)=>(z.1,by rwa[z.2]at Xb VI)
   .have:=O f F;apply(this.1,this.2.1,this.2.2.1,λp hp=>?_);show -p∈(JcY S r).hs;rwa[W]at Ma (this.2.2.2 p hp)
def kQ (E:List Int->Prop)(v:GV Bool):Prop:=∀r,E r->SatR v r
def CF (E:List Int->Prop)(ts:Mm Int):Prop:=∀j t,ts[j]?=some t->t.2=-1->∀r,E r->∃p∈r,-p∉(ts.take j).map Yy
def CF.more (h:CF E ts)(d:∀t∈es,t.2≠-1):CF E (ts++es):=λj t a b=>by
 rcases Nat.lt_or_ge j Wm with c|c
 .rw[List.getElem?_append_left c]at a;rwa[List.take_append_of_le_length (by lia)]at h j t a b
 .rw[List.getElem?_append_right c]at a;exact absurd b (d t (mO a))
def CF.take (h:CF E ts)(m):CF E (ts.take m):=λj t a b=>by
 rw[List.getElem?_take]at a;split at a
 .rwa[List.take_take,Nat.min_eq_left (by lia)]at h j t a b
 .cases a
noncomputable def putW (r:Int)(lat:List Int)(c:JfF We):Int->Option (WC Int):=match lat with
 |a::b::_=>λx=>if x=r then some (a,b,) else c x
 |_=>c
noncomputable def putG (r:Int)(lat:List Int)(wg:GV Yk):Int->List Int:=match lat with
 |a::b::_=>λx=>if x=b then(if x=a then wg x++[r] else wg x)++[r] else if x=a then wg x++[r] else wg x
 |_=>wg
def HS.put (S:HS)(l:Dt)(ps lat:List Int):HS:={ S with rs:=S.rs++[ps],pp:=S.pp++[l],wt:=putW Xh lat S.wt,wg:=putG Xh lat S.wg }
inductive rG (S0)(f):HS->Prop
 |same:rG S0 f S0
 |put (l) (ps):f=(S0.rs.length:Int)->ps.Nodup->rG S0 f (S0.put l ps ((negs S0.ts).reverse.filter λp=>decide (p∈ps)))
structure HB (n)(B)(E)(S:HS):Prop where
 tok:JhY Jqf
 rng:∀t∈IR,t.1.natAbs<=n
 row:∀r∈Jqf,r.Nodup/\∀p∈r,Joj 0
 snd:∀v,kQ E v->gL v B->gL v Jqf
 sub:∀r∈B,r∈Jqf
 len:S.rs.length=B.length+S.pp.length
 bs:S.bs=Jnb IR
 od:∀a:Int,a∈S.od↔1<=a/\a<=n
 odn:S.od.Nodup
 la:∀a x,Xa (S.la a) x->x=a\/x=-a
 cf:CF E IR
structure cB (n)(B)(E)(S):Prop where
 b:HB n B E S
 w:WOk S S.wg S.lk
 lk:Jpu S.lk
 lv:∀i,S.lk<=i->JdU i->NI (i+1)=cnt S.ts
structure dy (n)(B)(E)(S)(f):Prop where
 b:HB n B E S
 ln:eF S.rs S.ts f
 last:Jjq 1 S.ts->∃q∈U8 f,JlB q=cnt S.ts
 w:Jjq 1 S.ts->∃S0 k,WOk S0 S0.wg k/\(∀i,JdU i->NI (i+1)<cnt S.ts->i<k)/\rG S0 f S
structure fz (S S':HS):Prop where
 rs:S'.rs=Jqf
 pp:S'.pp=S.pp
 ts:∃es,S'.ts=S.ts++es/\∀t∈es,t.2≠-1
def fz.refl (S):fz S S:=(6,[],by rw[List.append_nil],λx h=>nomatch h)
def fz.trans (a:fz S T)(b:fz T U):fz S U:=by let(es,g,f):=a.ts;let(h,e,d):=b.ts;exact(b.rs.trans a.rs,b.pp.trans a.pp,es++h,by rw[e,g,List.append_assoc],λt c=>(mPq c).elim (f t) (d t))
def fz.wgt (a:fz S T)(n):Jjc 0<=wgt n 0 T.ts:=by let(es,b,_):=a.ts;rw[b,mJ];lia
def HB.tlen (h:HB n B E S):S.ts.length<=n:=by
 let l:=h.tok.atoms;let d:=jK n (xs:=S.ts.map λt=>t.1.natAbs-1) ?_ ?_
 .rw[lM]at d;exact d
 .rw[show(S.ts.map λt=>t.1.natAbs-1)=(S.ts.map λt=>t.1.natAbs).map (· - 1) by rw[List.map_map];rfl];apply List.pairwise_map.mpr (l.imp_of_mem λ{x y} b f e z=>e ?_);let(t,a,rfl):=List.mem_map.mp b;let(u,g,rfl):=List.mem_map.mp f;let(i,c):=List.getElem?_of_mem a;let(j,k):=List.getElem?_of_mem g;exact Nat.sub_one_cancel (Int.natAbs_pos.mpr (h.tok _ _ c).1) (Int.natAbs_pos.mpr (h.tok _ _ k).1) z
 .intro x b;let(t,a,rfl):=List.mem_map.mp b;let(i,c):=List.getElem?_of_mem a;have:=(h.tok _ _ c).1;have:=Jpi a;exact Nat.lt_of_lt_of_le (Nat.sub_lt (Int.natAbs_pos.mpr ‹_›) Nat.one_pos) this
def HB.rlen (h:HB n B E S)(b:n<=40):∀r∈S.rs,NJ r.length:=λr a=>by
 let f:=ip 81 (xs:=r.map λp=>p+40) ?_ ?_
 .rw[lM]at f;lia
 .apply List.pairwise_map.mpr ((h.row r a).1.imp λ{x y} e z=>e Jn)
 .intro x c;let(p,d,rfl):=List.mem_map.mp c;have:=((h.row r a).2 p d).2;lia
theorem rH:∀es i,(∀t∈es,t.2≠-1)->bsF i es=[]
 |[],_,_=>rfl
 |e::es,i,h=>by
  show(if e.2=-1 then _ else bsF (i+1) es)=[]
  rw[if_neg (IH e)];exact rH es _ λt a=>h t (Jb a)
def eH (S:HS)(c:Int):HS×Option Int:=((di S c (S.wg c).length).1.setG c (di S c (S.wg c).length).2.1,(di S c (S.wg c).length).2.2,)
def LkI.zero (M:cB n B E S)(c):LkI n S.lk c S (S.wg c) 0 (S,[],none,):=by
 apply(rfl,JgT rfl rfl rfl,([],(List.append_nil _).symm,λy h=>nomatch h),M.b.tok,M.b.rng,?_,rfl,λy r h=>(nomatch h),λf h=>(nomatch h));let e:(λx=>if x=c then([]:List Int)++(S.wg c).drop 0 else S.wg x)=S.wg:=by
  funext x;by_cases h:x=c
  .rw[if_pos h,h];rfl
  .rw[if_neg h]
 rwa[e]at M.w
def LkI.all (M:cB n B E S)(d:n<=60){c:Int}(g:-c∈S.hs):∀i,i<=(S.wg c).length->LkI n S.lk c S (S.wg c) i (di S c i):=by
 intro i
 induction i with
 |zero=>exact λx=>LkI.zero M c
 |succ i f=>
  intro j;obtain⟨r,e⟩:∃r,(S.wg c)[i]?=some r:=Jbm Jn;rw[xH e];exact(f Jn).step e M.lk g d λa h=>(M.b.row a h).2
def cB.look (M:cB n B E S)(Z:n≤60){s:Int × Int}(W:S.ts[S.lk]?=some s) :
  fz S (eH S (-s.1)).1/\((eH S (-s.1)).2=none->cB n B E { (eH S (-s.1)).1 with lk:=S.lk+1 })/\∀f,(eH S (-s.1)).2=some f->dy n B E { (eH S (-s.1)).1 with lk:=S.lk+1 } f:=by
 let hc:- -s.1∈S.hs:=by rwa[Int.neg_neg]at eG W
 let I:=LkI.all M Z hc _ Yd;let ec:s.1=- -s.1:=(Int.neg_neg _).symm;unfold eH;generalize -s.1=c at hc I ec;generalize di S c (S.wg c).length=st at I;let(d,G,fl):=st;let(g,o,(es,l,w),p,C,k,Iwc,R,F):=I;let gE:(λx=>if x=c then G++(S.wg c).drop (S.wg c).length else d.wg x)=(d.setG c G).wg:=by funext x;rw[List.drop_length,List.append_nil];rfl
 rw[gE]at k;let hk:=(gEq W).1;let ce:=jM w;let cE:cnt Jrh=cnt S.ts:=by rw[l,gq,ce,Int.add_zero]
 let P:d.ts[S.lk]?=some s:=by rwa[l]at(fb W).1
 let N:Jc6 (S.lk+1)=cnt d.ts:=by rwa[cE,l,(fb W).2]at M.lv _ Yd hk
 let L:∀i,S.lk<=i->i<d.ts.length->Jc6 Xi=cnt d.ts:=λi A H=>by let h3:=JsG Jrh (S.lk+1) (i+1);let h4:=oA (ts:=Jrh) (i:=i+1);lia
 let hb:HB n B E { d.setG c G with lk:=S.lk+1 }:=by
  apply(p,C,9,9,9,9,by show CF E Jrh;rwa[l]at M.b.cf.more w)
  .show ∀r∈d.rs,_;rwa[g]at M.b.row
  .show ∀v,kQ E v->gL v B->gL v d.rs;rwa[g]at M.b.snd
  .show ∀r∈B,r∈d.rs;rwa[g]at M.b.sub
  .show d.rs.length=B.length+d.pp.length;rwa[g,o.1]at M.b.len
  .show d.bs=Jnb Jrh;rwa[o.2.2.1,l,rF,rH es _ w,List.append_nil]at M.b.bs
  .show ∀a:Int,a∈d.od↔_;rwa[o.2.2.2.1]at M.b.od
  .show d.od.Nodup;rwa[o.2.2.2.1]at M.b.odn
  .show ∀a x,Xa (d.la a) x->_;rwa[o.2.2.2.2]at M.b.la
 apply((g,o.1,es,l,w),λhn=>(hb,(k.has,k.is,k.gw,k.nd,?_,k.one,k.nil),?_,λi A H=>L i (by have:S.lk+1<=i:=A;lia) H),λf hf=>(hb,?_,λm=>Gc c ?_,λm=>({ d.setG c G with lk:=S.lk+1 },S.lk,(k.has,k.is,k.gw,k.nd,k.wp,k.one,k.nil),λi A H=>?_,.same)))
 .intro r a b h;let h':d.wt r=some _:=h;let J:=k.wp r a b h;let ab:=(k.is r a b h).2.2.1;let K:∀x y,(x=a∧y=b)∨(x=b∧y=a)→Wp Jrh S.lk x y→Wp Jrh (S.lk+1) x y:=by
   intro x y O wp i t hi q e;by_cases c1:i<S.lk
   .exact wp i t c1 q e
   let ei:i=S.lk:=Nat.eq_of_lt_succ_of_not_lt hi c1
   rw[ei]at q⊢;rw[P]at q;injection q with q;let T:x=c:=by rw[<-q,ec]at e;simp_all
   let hr:=(k.gw r c).mpr (a,b,h,O.elim (λz=>.inl (T.symm.trans z.1)) λz=>.inr (T.symm.trans z.1));let Q:r∈if c=c then G else d.wg c:=hr
   rw[if_pos rfl]at Q;let(a',b',U,w2):=R hn r Q;rw[h']at U;injection U with U;injection U with e1 e2;let yh:y∈d.hs:=by
    lia
   let(j,u,hj,hu):=jc yh;exact(j,u,hj,hu,by rwa[N]at oA)
  exact(K a b (JaO rfl) J.1,K b a (Je9 rfl) J.2)
 .show S.lk+1<=d.ts.length;rwa[l,lAq]at Nat.le_add_right_of_le hk
 .let A:=F f hf;let H:Fails d.rs Jrh f.toNat:=(aY d.rs f,by rwa[g]at jb A.1 A.2.1,by rwa[g]at A.2.2.2);let h3:=p.ln H;rw[show(f.toNat:Int)=f by exact Int.toNat_of_nonneg (And.left ‹_›)]at h3;exact h3
 .show c∈aY d.rs f;rwa[g]at(F f hf).2.2.1
 .show N6 c=cnt Jrh;rwa[show c=-s.1 by lia,dZ p.negs P]at N
 .let h2':Jc6 Xi<cnt d.ts:=H;rcases Nat.lt_or_ge i S.lk with z | z
  .exact z
  .rw[L i z A]at h2';lia
noncomputable def HS.pick (S:HS)(a:Int):HS:={ S with ts:=S.ts++[((S.la a).getD (-a),-1,)],bs:=S.bs++[(S.ts.length:Int)] }
def cB.pick (M:cB n B E S)(G:n<=60)(O:NV S.lk){a:Int}(L:a∈S.od)(v:a∉S.hs)(s:-a∉S.hs)(F:∀r,E r->∃p∈r,-p∉S.hs):cB n B E (S.pick a):=by
 let l:(S.la a).getD (-a)=a\/(S.la a).getD (-a)=-a:=by
  cases e:S.la a with
  |none=>exact .inr rfl
  |some x=>exact M.b.la a x e
 let N:=(M.b.od a).mp L;generalize K:(S.la a).getD _=p at l;let d:(S.pick a).ts=S.ts++[(p,-1,)]:=by show S.ts++[((S.la a).getD (-a),-1,)]=_;rw[K]
 let I:=l.elim (λz=>z▸v) λz=>z▸s;let H:=l.elim (λz=>z▸s) λz=>by rwa[z,Int.neg_neg]at v
 let q:Joj 0:=lqN N l
 apply Jhm (9,M.b.row,M.b.snd,M.b.sub,M.b.len,?_,M.b.od,M.b.odn,M.b.la,?_) (M.w.has,M.w.is,M.w.gw,M.w.nd,9,M.w.nil) ?_
 .rwa[d]at TOk.snoc M.b.tok q.1 Jn I H (.inl rfl)
 .rw[d];intro t f;rcases mPq f with f | f
  .exact M.b.rng t f
  .rwa[mSq f]at q.2
 .rw[d,oK,if_pos rfl];show S.bs++[(S.ts.length:Int)]=_;rw[M.b.bs]
 .rw[d];intro j t o f;rcases Nat.lt_or_ge j Jb6 with c | c
  .rw[List.getElem?_append_left c]at o;rwa[List.take_append_of_le_length (by lia)]at M.b.cf j t o f
  .have:=(gEq o).1;rw[lAq]at this;let this:j<S.ts.length+1:=this;rwa[show NV j by lia,List.take_left]at F
 .rw[d];intro r x y h;exact((M.w.wp r x y h).1.more M.lk _,(M.w.wp r x y h).2.more M.lk _)
 .rw[d];intro x J;let(j,u,k,g,A):=M.w.one x J;exact(j,u,(fb k).1,g,(fb k).2.trans A)
 .rw[d,lAq];show S.lk<=_;lia
 .rw[d];intro i k g;let D:S.lk<=i:=k;rw[lAq]at g;rw[tO (by rw[lAq];show S.ts.length+1<=_;lia)]
def cB.yes (M:cB n B E S)(D:NV S.lk)(h:∀a∈S.od,Jnc a\/-a∈S.hs):∀r∈B,∃p∈r,Jnc p:=by
 intro r d;let d:=M.b.sub r d;let g:∀p∈r,Jnc p\/-p∈S.hs:=λp C=>by
  let f:=(M.b.row r d).2 p C;rcases Int.lt_or_gt_of_ne f.1 with c|c
  .have:=h (-p) ((M.b.od _).mpr ((Int.neg_pos_of_neg c,Int.neg_le_of_neg_le (lqR f.2).1)));lia
  .exact h p ((M.b.od _).mpr ((c,(lqR f.2).2)))
 rcases r with _|⟨a,_|⟨b,l⟩⟩
 .exact absurd d M.w.nil
 .let(j,u,f,o,_):=M.w.one a d;exact(a,VI,o▸eG f)
 .let(k,s):=List.getElem?_of_mem d;let(x,y,q):=M.w.has k _ s (by simp only[List.length_cons];lia);let f:=M.w.is _ _ _ q;let e:U8 (k:Int)=a :: b :: l:=by have:=jb f.2.2.2.1 f.2.2.2.2;rw[Int.toNat_natCast,s]at this;lia
  rw[e]at f;rcases g x f.1 with z|z
  .exact(x,f.1,z)
  .let(i,t,v,A):=jc z;let(j,u,o,F,_):=(M.w.wp _ _ _ q).1 i t (D<|>(gEq v).1) v A;exact(y,f.2.1,F▸eG o)
def HS.cut (S:HS)(j:Nat)(la:JfF Int):HS:={ S with ts:=S.ts.take j,bs:=bsF 0 Yl,lk:=j,la:=la }
def xJ (h0:0<=r)(a:r<(rs.length:Int)):aY (rs++[ps]) r=aY rs r:=by
 rcases Cy a with h|h
 .exact h
 .lia
def rJ (rs)(ps):aY (rs++[ps]) (rs.length:Int)=ps:=by unfold aY;rw[Int.toNat_natCast,List.getD_eq_getElem?_getD,List.getElem?_append_right (nRq _),Nat.sub_self];rfl
def WOk.put (W:WOk S S.wg k){l:Dt}{ps lat:List Int}(D:lat.Nodup)(t:∀p,p∈lat↔p∈ps)(n:N1 lat.length)(L:ps≠[])(J:∀a,lat=[a]→∃j u,S.ts[j]?=some u∧u.1=a∧NI (j+1)=0)
  (I:∀a b d,lat=a::b::d->Wp S.ts k a b/\Wp S.ts k b a):WOk (JpV lat) (JpV lat).wg k:=by
 let E:∀x a b,N4 x _->x≠(S.rs.length:Int):=λx a b h=>by have:=(W.is x a b h).2.2.2.2;exact Int.ne_of_lt ‹_›
 rcases lat with _|⟨a,_|⟨b,d⟩⟩
 .exact absurd (List.length_eq_zero_iff.mp n.symm) L
 .obtain⟨b,rfl⟩:∃b,ps=[b]:=List.length_eq_one_iff.mp n.symm;obtain rfl:b=a:=mSq ((t b).mpr VI);apply(λr g H B=>?_,λr x y h=>?_,W.gw,W.nd,W.wp,λx G=>?_,λh=>?_)
  .let f:(Jne [b])[r]?=some g:=H;rcases Nat.lt_or_ge r S.rs.length with c | c
   .rw[List.getElem?_append_left c]at f;exact W.has r g f B
   .have:=mO (by rw[List.getElem?_append_right c]at f;exact f);rw[mSq this]at B;exact Yn B
  .have:=W.is r x y h;show x∈Jom [b] r/\y∈Jom [b] r/\x≠y/\0<=r/\r<((Jne [b]).length:Int);rwa[xJ this.2.2.2.1 this.2.2.2.2,lAq]at(this.1,this.2.1,this.2.2.1,this.2.2.2.1,Int.lt_of_lt_of_le this.2.2.2.2 (Int.ofNat_le.mpr (N9 _)))
  .let s:=G;rcases mPq s with h | h
   .exact W.one x h
   .have:=mSq h;injection this with this;rwa[this]at J _ rfl
  .let h':=h;rcases mPq h' with h | h
   .exact W.nil h
   .cases mSq h
 .let ab:a≠b:=λe=>by rw[e]at D;exact(List.nodup_cons.mp D).1 VI
  let A:∀x y z,(JpV (a::b::d)).wt x=some (y,z,)->(x=(S.rs.length:Int)/\y=a/\z=b)\/(x≠(S.rs.length:Int)/\N4 x _):=λx y z h=>by
   let h':(if x=(S.rs.length:Int) then some _ else S.wt x)=some _:=h
   by_cases e:x=Xh
   .erw[if_pos e]at h';exact .inl (Nd e rfl)
   .rw[if_neg e]at h';exact Jl e h'
  let v:(JpV (a::b::d)).wt _=some _:=if_pos rfl;let w:∀x,x≠(S.rs.length:Int)->(JpV (a::b::d)).wt x=S.wt x:=λx e=>if_neg e;let O:∀x,(JpV (a::b::d)).wg x=if x=a\/x=b then Jhs x [Xh] else S.wg x:=λx=>by
   show(if x=b then(if x=a then Jhs x [_] else S.wg x)++[_] else if x=a then Jhs x [_] else S.wg x)=_
   lia
  let K:∀x,(S.rs.length:Int)∉S.wg x:=λx h=>by let(y,z,C,_):=(W.gw _ x).mp h;exact E _ _ _ C rfl
  apply(λr g H B=>?_,λr x y h=>?_,λr x=>?_,λx=>?_,λr x y h=>?_,λx G=>?_,λh=>?_)
  .let f:(Jne ps)[r]?=some g:=H;rcases Nat.lt_or_ge r S.rs.length with c | c
   .rw[List.getElem?_append_left c]at f;rwa[w _ (by lia)]at W.has r g f B
   .have:=(gEq f).1;rw[lAq]at this;let this:r<S.rs.length+1:=this;rwa[show r=S.rs.length by exact Nat.le_antisymm (Nat.le_of_lt_succ ‹_›) ‹_›]at(a,b,v)
  .show x∈Jom ps r∧y∈Jom ps r∧x≠y∧0≤r∧r<((Jne ps).length:Int);rw[lAq];show _∧_∧_∧_∧r<(S.rs.length+1:Int);rcases A r x y h with ⟨rfl,rfl,rfl⟩ | ⟨_,h⟩
   .rwa[rJ]at Jmo ((t _).mp VI) ((t _).mp (Jb VI)) ab Jn
   .have:=W.is r x y h;rwa[xJ this.2.2.2.1 this.2.2.2.2]at(this.1,this.2.1,this.2.2.1,this.2.2.2.1,Int.lt_add_one_of_le (Int.le_of_lt this.2.2.2.2))
  .rw[O x];by_cases e:r=Xh
   .rw[e,v];by_cases z:x=a∨x=b
    .rwa[if_pos z]at(λq=>Gz a b z,λq=>Xb VI)
    .rw[if_neg z];apply(λh=>absurd h (K x),λh_=>?_);let(y,P,C,N):=h_;lia
   .rw[w r e,←W.gw r x];by_cases z:x=a∨x=b
    .rw[if_pos z,List.mem_append,List.mem_singleton];lia
    .rw[if_neg z]
  .rw[O x];by_cases z:x=a∨x=b
   .rw[if_pos z];apply JbY (W.nd x) (λy M P F e=>?_);rw[e,mSq F]at M;exact K x M
   .rwa[if_neg z]at W.nd x
  .rcases A r x y h with ⟨rfl,rfl,rfl⟩ | ⟨_,h⟩
   .exact I x y d rfl
   .exact W.wp r x y h
  .let s:=G;rcases mPq s with h | h
   .exact W.one x h
   .have:=mSq h;erw[<-this]at n
  .let h':=h;rcases mPq h' with h | h
   .exact W.nil h
   .exact absurd (mSq h).symm L
def jN {ts:List We}{i j:Nat}{t:Int×Int}(a:i<j)(h:ts[i]?=some t):(ts.take j)[i]?=some t/\cnt ((ts.take j).take Xi)=cnt (ts.take Xi):=by apply Qm (by rwa[List.getElem?_take,if_pos a]at h);rw[List.take_take,Nat.min_eq_left (by lia)]
def iK {ts:List We}{i j:Nat}{t:Int×Int}(h:(ts.take j)[i]?=some t):i<j/\ts[i]?=some t:=by
 rw[List.getElem?_take]at h;simp_all
def fq.ix (c:fq ts m j)(h:ts[i]?=some t):Mo (i+1)<=m↔i<j:=by
 let a:Iz i:=(gEq h).1;constructor
 .intro e;rcases Nat.lt_or_ge i j with z | z
  .exact z
  .let d:=c.high (Nat.lt_of_le_of_lt z a);let b:=JsG ts (j+1) (i+1);lia
 .exact c.low i
def WOk.cut {S:HS}{g:Int->List Int}{k:Nat}(W:WOk S g k){m:Int}{j:Nat}(c:JkL m j)(B:0<=m)(E:m<cnt IR)(A:∀i,JdU i->NI (i+1)<cnt IR->i<k){la:Int->Option Int}{a y:Int}{od:List Int}:
  WOk { (JaE j).hold a y with od:=od } g j:=by
 let D:(S.ts.take j).length=j:=by rw[List.length_take];have:=c.le;lia
 let p:∀x y,Wp IR k x y->Wp Yl j x y:=by intro x y h i t q w e;let b:=iK w;let s:=(gEq b.2).1;let C:=(c.ix b.2).mpr q;let(l,u,f,o,d):=h i t (A i s (Int.lt_of_le_of_lt C E)) b.2 e;let n:=(c.ix f).mp (Int.le_trans d C);apply(l,u,(jN n f).1,o,?_);rwa[(jN n f).2,(jN q b.2).2]at d
 apply(W.has,W.is,W.gw,W.nd,λr x z h=>((p _ _ (W.wp r x z h).1).more Jn _,(p _ _ (W.wp r x z h).2).more Jn _),λx v=>?_,W.nil);let(l,u,b,f,o):=W.one x v;let n:=(c.ix b).mp Jn;let d:=jN n b;exact(l,u,(fb d.1).1,f,(fb d.1).2.trans (d.2.trans o))
def xK (a:My Rs):(negs ts).Pairwise λx y=>Yr x<=lvF ts y:=by rw[List.pairwise_iff_getElem];intro i j c b d;rw[ig]at c b;let f:=gG c;let e:=gG b;let h:(negs ts)[i]=-ts[i].1:=List.getElem_map _;let g:(negs ts)[j]=-ts[j].1:=List.getElem_map _;rwa[h,g,Jao f,Jao e]at iI Jn
def CS (a:My Rs):(JJ f).Pairwise λx y=>Yr y<=lvF ts x:=by exact(List.pairwise_reverse.mpr (xK a)).filter _
def mM (a:My Rs):(JJ f).Nodup:=by exact(List.pairwise_reverse.mpr (a.negs.imp Ne.symm)).filter _
def CT (Rs)(ts)(f):((negs ts).reverse.filter λp=>decide (p∈JJ f))=aZ Rs ts f:=by unfold aZ;apply List.filter_congr λp a=>decide_eq_decide.mpr ?_;rw[List.mem_filter,decide_eq_true_eq];lia
def CU:∀i,WN i->1<=(MN i).2.length/\((MN i).2.length=1->MN i=(Jy f,[f],)):=by
 intro i
 induction i with
 |zero=>exact λx=>(nRq _,λx=>rfl)
 |succ i a=>
  intro e;let(d,c):=a Jn;let b:ts.reverse[i]?=some (ts[Gp 1-i]'(Nat.sub_one_sub_lt_of_lt e)):=by rwa[ja (by lia)]at gG _
  rw[jI b];unfold e_;split
  .simp only[lAq,List.length_cons,List.length_nil];exact(Nat.le_add_left _ _,λz=>MS (Nat.ne_of_gt (Nat.succ_lt_succ d)))
  .exact(d,c)
def xM (a:JgH f)(h:(Jjs f).length=1){q:Int}:q∈JJ f↔q∈aY Rs f:=by let e:=(CU _ (nRq Wm)).2 h;unfold aZ gK;rwa[e,List.mem_filter,decide_eq_true_eq]at(λh=>h.2,λh=>(List.mem_reverse.mpr (a.fp q h),h))
def dy.no (C:dy n B E S f)(h:GA f=[])(v)(c:kQ E v):¬gL v B:=λz=>by let(p,a,_):=xF C.b.tok C.ln (C.b.snd v c z);erw[h]at a
def dy.zero (C:dy n B E S f)(h:GA f≠[]):1<=cnt S.ts:=by
 have:=iH IR;by_cases e:cnt IR=0
 .exact absurd (xp C.b.tok e) h
 .lia
def CV (a:My Rs)(v:Jjq 1 ts)(u:∀q∈Jy f,Yr q=cnt ts->q=q0):∀i,WN i->∀q∈(MN i).1,(Yr q=cnt ts->q=q0)/\(q∈Jy f\/Yr q=0):=by
 intro i
 induction i with
 |zero=>exact λy q c=>(u q c,.inl c)
 |succ i b=>
  intro s q c;let b:=b Jn;let(t,k,_,h):=jL a (show Iz i by lia);rcases h q c with h|⟨j,x,p,g,rfl,r,_⟩
  .exact b q h
  let(e,_,d):=kN r;let l0:=d.resolve_right (λh_=>by let(z,o,l,no,lo):=h_;exact no (((b o l).1 lo).trans ((b _ e).1 z).symm));rw[Jao k]at l0;let l1:=Jao g;let l2:=JsG ts (j+1) (Gp 1-i+1);let n:=kM (ts:=ts) (-x.1);let e:=Int.le_antisymm (JZ l1 (Int.le_trans l2 (Int.le_of_eq l0))) n;exact(λz=>absurd (z.symm.trans e) (Int.ne_of_gt v),.inr e)
def dy.wk (C:dy n B E S f)(D:JkL m j)(m0:0≤m)(mL:m<cnt S.ts){a:Int}{rest:List Int}(eP:GA f=Nx a)(lA:JlB a=cnt S.ts)(l1:1≤m→∃r∈rest,JlB r=m){la:Int→Option Int}{y:Int}(hy:y≠-1){od:List Int} :
  WOk { (JaE j).hold a y with od:=od } S.wg j:=by
 let hL:1<=cnt S.ts:=Jn
 let tok:=C.b.tok;let cl:=C.last hL;let lf:=C.ln.fp;let(d,k,W,hk,po):=C.w hL;let cj:NI j<=m:=by
  rcases Nat.eq_zero_or_pos j with z|z
  .rwa[z]at m0
  .have:=D.low (j-1) JrQ;rw[show j-1+1=j by exact Nat.sub_add_cancel z]at this;exact this
 let O:(S.ts.take j).length=j:=by rw[List.length_take];have:=D.le;lia
 cases po with
 |same=>exact W.cut D m0 mL hk
 | put l ps ef nd =>
  let rf:aY (d.rs++[ps]) f=ps:=by rwa[ef]at rJ _ _
  let L:∃q∈aY (d.rs++[ps]) f,N6 q=cnt d.ts:=cl;let T:∀p∈aY (d.rs++[ps]) f,p∈negs d.ts:=lf;let g:TOk (d.rs++[ps]) d.ts:=tok;let Y:aZ (d.rs++[ps]) Jrh f=Nx a:=eP;let lA':N6 a=cnt d.ts:=lA;let hL':1<=cnt d.ts:=hL;let mL':m<cnt d.ts:=mL;let G:fq Jrh m j:=D;let cj':Jc6 j<=m:=cj;let P:(d.ts.take j).length=j:=O;let U:1<=m->∃r∈rest,N6 r=m:=l1;rw[rf]at L T;generalize el:((negs Jrh).reverse.filter λp=>decide (p∈ps))=lat;let M:∀p,p∈lat↔p∈ps:=λp=>by rwa[<-el,List.mem_filter,List.mem_reverse,decide_eq_true_eq]at(λh=>h.2,λh=>(T p h,h))
  let pw:lat.Pairwise λx y=>N6 y<=lvF Jrh x:=by rwa[<-el]at(List.pairwise_reverse.mpr (xK g)).filter _
  let ln:lat.Nodup:=by rwa[<-el]at(List.pairwise_reverse.mpr (g.negs.imp Ne.symm)).filter _
  let le:N1 lat.length:=(List.perm_ext_iff_of_nodup ln nd |>.mpr M).length_eq;let Q:∀q0∈ps,(∀q∈ps,N6 q=cnt Jrh->q=q0)->a=q0/\∀r∈rest,r∈ps/\r≠q0:=λq0 V u=>by
   let h:=CV (f:=f) g hL' (rf<|>u) _ (nRq d.ts.length);let hp:∀q∈Nx a,q∈(lrn (d.rs++[ps]) Jrh f d.ts.length).1/\N6 q≠0:=λq o=>by rw[<-Y]at o;exact((kO o).2,rD g o)
   let ea:=(h a (hp a VI).1).1 lA';let R:=mM (f:=f) g;rw[Y]at R;apply(ea,λr K=>?_);let F:=hp r (Jb K);apply(?_,λe=>(List.nodup_cons.mp R).1 (by rwa[ea,<-e]at K));have:=(h r F.1).2.resolve_right F.2;rw[rf]at this;exact this
  let X:∀(q:Int),N6 q=cnt Jrh->∀(i:Nat) (t:WC Int),i<j->(Jbv j [(a,y,)])[i]?=some t->t.1=-q->False:=λq o i t N v e=>by rw[List.getElem?_append_left (by simp [*])]at v;let F:=iK v;have:=(G.ix F.2).mpr N;let h4:=dZ g.negs F.2;rw[e,Int.neg_neg]at h4;lia
  let top:∀x s,lat=x::s->N6 x=cnt d.ts:=λx s e=>by
   let(q,o,lq):=L;have:=(M q).mpr o;rw[e]at this pw;rcases List.mem_cons.mp this with z|z
   .rwa[<-z]at lq
   .let h5:=(List.pairwise_cons.mp pw).1 q z;let h6:=mv (ts:=Jrh) x;lia
  let Z:(Jbv j [(a,y,)])[j]?=some (a,y,):=by rw[List.getElem?_append_right (by lia),P,Nat.sub_self];rfl
  let cJ:cnt ((Jbv j [(a,y,)]).take (j+1))=cnt (d.ts.take j):=by rw[tO (by rw[lAq,P];show j+1<=_;lia),gq,show cnt [(a,y,)]=0 from jM λt v=>by rwa[mSq v]at hy,Int.add_zero]
  apply WOk.put (S:={ (d.cut j la).hold a y with od:=od }) (l:=l) (ps:=ps) (lat:=lat) (W.cut G m0 mL' hk) ln M le (λz=>?_) (λx I=>?_) λx H s I=>?_
  .let(q,o,_):=L;erw[z]at o
  .let px:ps=[x]:=by
    let h7:ps.length=1:=by rw[<-le,I];rfl
    let(b,rfl):=List.length_eq_one_iff.mp h7;have:=(M b).mpr VI;rw[I]at this;rw[mSq this]
   let(ea,K):=Q x (px<|>VI) (px<|>λq o V=>mSq o);apply(j,(a,y,),Z,ea,?_);show cnt ((Jbv j [(a,y,)]).take (j+1))=0;rw[cJ];let m1:¬1<=m:=λz=>by let(r,A,_):=U z;have:=K r A;rw[px]at this;exact this.2 (mSq this.1)
   have:=iH (d.ts.take j);lia
  .apply(λi t N v e=>(X x (top _ _ I) i t N v e).elim,λi t N v e=>?_);by_cases c:N6 H=cnt Jrh
   .exact(X H c i t N v e).elim
   rw[I]at pw;let pw':=(List.pairwise_cons.mp (List.pairwise_cons.mp pw).2).1;let inL:∀q∈ps,q=x\/q=H\/q∈s:=λq o=>by have:=(M q).mpr o;rw[I]at this;simpa using this
   let up:∀q∈ps,q≠x->N6 q<=lvF Jrh H:=λq o nq=>by
    rcases inL q o with z|z|z
    .exact MS nq
    .rwa[z]at Int.le_refl _
    .exact pw' q z
   let(ea,K):=Q x ((M x).mp (I<|>VI)) λq o lq=>Decidable.byContradiction λnq=>by have:=up q o nq;have:=mv (ts:=Jrh) H;lia
   apply(j,(a,y,),Z,ea,?_);show Jjq (cnt ((Jbv j [(a,y,)]).take (j+1))) ((Jbv j [(a,y,)]).take Xi);let J:(Jbv j [(a,y,)])[i]?=some t:=v;rw[List.getElem?_append_left (by simp [*])]at J;rw[cJ,(fb J).2];let F:=iK J;rw[(jN N F.2).2];let ly:N6 H=cnt (d.ts.take Xi):=by have:=dZ g.negs F.2;rw[e,Int.neg_neg]at this;exact this
   rw[<-ly];have:=kM (ts:=Jrh) H;by_cases m1:1<=m
   .let(r,A,hr2):=U m1;have:=up r (K r A).1 (K r A).2;lia
   .lia
def cB.clash (M:cB n B E S)(F:NV S.lk)(l){ps:List Int}(e:E ps)(o:ps.Nodup)(A:∀p∈ps,-p∈S.hs):dy n B E (JpV ((negs S.ts).reverse.filter λp=>decide (p∈ps))) (S.rs.length:Int):=by
 let a:=M.b.tok;let x:∀p∈ps,∃(i:Nat) (t:WC Int),S.ts[i]?=some t/\p=-t.1:=λp h=>by let(i,t,c,e):=jc (A p h);exact(i,t,c,Jn)
 let G:(Jne ps)[S.rs.length]?=some ps:=by rw[List.getElem?_append_right (nRq _),Nat.sub_self];rfl
 apply((a.more,M.b.rng,λr d=>?_,λv g C r d=>?_,λr d=>Ma (M.b.sub r d),?_,M.b.bs,M.b.od,M.b.odn,M.b.la,M.b.cf),a.more.ln (ps,G,A),λH=>?_,λm=>(S,Jb6,?_,λi c m=>c,.put l ps rfl o))
 .rcases mPq d with h | h
  .exact M.b.row r h
  .rw[mSq h];apply(o,λp h=>?_);let(i,t,c,rfl):=x p h;let N:=(a i t c).1;let L:=M.b.rng t (mO c);simp [*]
 .rcases mPq d with h | h
  .exact M.b.snd v g C r h
  .rwa[mSq h]at g ps e
 .show(Jne ps).length=B.length+(S.pp++[l]).length;rw[lAq,lAq,M.b.len];rfl
 .show ∃q∈Jom ps Xh,JlB q=cnt IR;rw[rJ];let(j,t,y,s,J):=Cz IR H;let(p,k,D):=M.b.cf j t y s ps e;apply Gc p k;let(i,u,c,rfl):=x p k;rw[Jao c];let I:j≤i:=by
   rcases Nat.lt_or_ge i j with z|z
   .exact absurd (Int.neg_neg<|>(CA a c).mpr z) D
   .exact z
  let f:=JsG IR (j+1) (i+1);let K:=oA (ts:=IR) (i:=i+1);rw[kK y]at f;unfold zaS at f;rw[if_pos s]at f;lia
 .rwa[<-F]at M.w
def dy.next (C:dy n B E S f)(n60:n≤60)(ne:GA f≠[])(mx:jJ (((GA f).drop 1).map (lvF S.ts)) m)(g:JkL m j)
  {la:Int->Option Int}(P:∀a x,Xa (la a) x->x=a\/x=-a){od:List Int}(o1:∀a:Int,a∈od↔1<=a/\a<=n)(o2:od.Nodup):∃a rest,GA f=Nx a/\
   (∀l,cB n B E { ((S.put l (GA f) (GA f)).cut j la).hold a (S.rs.length:Int) with od:=od })/\
   ((MD f).length=1->cB n B E { (JaE j).hold a f with od:=od })/\∀y,y≠-1->Jjc 0<wgt n 0 (JpK (a,y,)):=by
 let hL:=C.zero ne;let c:=C.b.tok;let R:mD Jqf IR f m j:=(c,C.ln,C.last,mx,g);let(a,rest,u,lA,X,lR,l1):=R.split ne;let m0:=R.n0;let jl:JdU j:=by
  rcases Nat.lt_or_ge j Jb6 with z|z
  .exact z
  .let e:NV j:=by have:=g.le;lia
   rcases Nat.eq_zero_or_pos Jb6 with z|z
   .rw[List.length_eq_zero_iff.mp z]at X;have:m<0:=X;lia
   .have:=g.low (S.ts.length-1) Jn;rw[show NV (S.ts.length-1+1) by exact Nat.sub_add_cancel z,List.take_length]at this;exact absurd ‹_› (Int.not_lt.mpr ‹_›)
 let cj:NI j<=m:=by
  rcases Nat.eq_zero_or_pos j with z|z
  .rwa[z]at m0
  .have:=g.low (j-1) JrQ;rw[show j-1+1=j by lia]at this;exact this
 let hj:=gG (l:=IR) jl;let ch:(S.ts[j]).2=-1:=by
  let D:=g.high jl;rw[kK hj]at D;unfold zaS at D;lia
 let w:∀q∈GA f,q≠0/\q.natAbs<=n:=λq Y=>by let(i,t,s,e,_):=ih c Y;let D:=(c i t s).1;let h2:=C.b.rng t (mO s);simp [*]
 let I:a∈aZ Jqf IR f:=by rwa[u]at VI
 let k:∀q∈rest,-q∈(S.ts.take j).map Prod.fst:=λq Y=>by
  let hq':q∈aZ Jqf IR f:=by rwa[u]at Jb Y
  let(i,t,s,e,lv):=ih c hq';let ij:=(g.ix s).mp (by rwa[<-lv]at lR q Y);rwa[e,Int.neg_neg]at eG (jN ij s).1
 let a2:-a∉(S.ts.take j).map Prod.fst:=λz=>by let(i,t,s,e,lv):=ih c I;let(i',t',K,e'):=jc z;let D:=iK K;let ii:=c.same_ix s D.2 (by rw[e'];lia);have:=(g.ix s).mpr (by simp [*]);lia
 let a1:a∉(S.ts.take j).map Prod.fst:=λz=>by let(i,t,s,e,lv):=ih c I;let(i',t',K,e'):=jc z;exact c.cons (q:=a) (e'▸eG (iK K).2) (by rwa[e,Int.neg_neg]at eG s)
 let d:(S.ts.take j).length=j:=by rwa[List.length_take]at Nat.min_eq_left (Nat.le_of_lt ‹_›)
 let G:∀y,∀t∈JpK (a,y,),t.1.natAbs<=n:=λy t A=>by
  rcases mPq A with h|h
  .exact C.b.rng t (List.mem_of_mem_take h)
  .rwa[mSq h]at(w a I).2
 let U:∀y,y≠-1->GJ 0 j=bsF 0 (JpK (a,y,)):=λy O=>by rw[oK,if_neg O]
 let M:∀y i,j<=i->i<(JpK (a,y,)).length->cnt ((JpK (a,y,)).take Xi)=cnt (JpK (a,y,)):=λy i D h2=>by rw[tO (by rw[lAq,d];show j+1<=_;lia)]
 let N:∀y,j<=(JpK (a,y,)).length:=λy=>by rw[lAq,d];lia
 let T:∀y,y≠-1->CF E (JpK (a,y,)):=λy O=>(C.b.cf.take j).more λt A=>by rwa[mSq A]at O
 let W:-60<=a/\a<=60:=by have:=w a I;lia
 apply(a,rest,u,λl=>?_,λD=>?_,λy O=>CN C.b.tlen hj ch O)
 .let L:(S.rs.length:Int)≠-1:=Jn
  let W1:=C.wk g m0 X u lA l1 (la:=la) (y:=Xh) L (od:=od);let W2:WOk _ _ j:=WOk.put (S:={ (JaE j).hold a Xh with od:=od }) W1 (l:=l) (ps:=GA f) (mM c) (λV=>Iff.rfl) rfl ne (λx F=>?_) (λx y more F=>?_)
  .apply((?_,G _,9,9,U _ L,o1,o2,P,T _ L),W2,N _,M _)
   .show TOk (Jnf f) (JpK (a,Xh,));apply TOk.snoc ((c.take j).more) (t:=(a,Xh,)) (w a I).1 W a1 a2 (.inr (VV S.rs.length (GA f) ?_ I (λp J np=>?_)))
    .rw[List.getElem?_append_right (nRq _),Nat.sub_self];rfl
    .rw[u]at J;exact k p ((List.mem_cons.mp J).resolve_left np)
   .show ∀r∈Jnf f,_;intro r H;rcases mPq H with h | h
    .exact C.b.row r h
    .rwa[mSq h]at(mM c,w)
   .show ∀v,kQ E v→gL v B→gL v (Jnf f);intro v ve hv r H;rcases mPq H with h | h
    .exact C.b.snd v ve hv r h
    .rwa[mSq h]at xF c C.ln (C.b.snd v ve hv)
   .show ∀r∈B,r∈Jnf f;exact λr H=>Ma (C.b.sub r H)
   .show(Jnf f).length=B.length+(S.pp++[l]).length;rw[lAq,lAq,C.b.len];rfl
  .let e:rest=[]:=by rw[u]at F;injection F
   let ea:x=a:=Jn
   let m00:m=0:=mx.1 (by rw[u,e];rfl);apply(j,(a,Xh,),?_,ea.symm,?_)
   .show(JpK (a,Xh,))[j]?=_;rw[List.getElem?_append_right (by lia),d,Nat.sub_self];rfl
   .show cnt ((JpK (a,Xh,)).take (j+1))=0;rw[tO (by rw[lAq,d];show j+1<=_;lia),gq,show cnt [(a,(S.rs.length:Int),)]=0 from jM λt A=>by rwa[mSq A]at L];have:=iH Yl;lia
  .rw[u]at F;injection F with ea er;apply(λi t s A e=>?_,λi t s A e=>?_)
   .let o:(JpK (a,Xh,))[i]?=some t:=A;rw[List.getElem?_append_left (by simp [*])]at o;exact absurd (show -a∈_ by rwa[ea,<-e]at eG o) a2
   .let o:(JpK (a,Xh,))[i]?=some t:=A;rw[List.getElem?_append_left (by simp [*])]at o;apply(j,(a,Xh,),?_,ea,?_)
    .show(JpK (a,Xh,))[j]?=_;rw[List.getElem?_append_right (by lia),d,Nat.sub_self];rfl
    .show Jjq (cnt ((JpK (a,Xh,)).take (j+1))) ((JpK (a,Xh,)).take Xi);rw[tO (by rw[lAq,d];show j+1≤_;lia),gq,show cnt [(a,(S.rs.length:Int),)]=0 from jM λt A=>by rwa[mSq A]at L,(fb o).2];let h3:=iK o;rw[(jN s h3.2).2];let yr:y∈rest:=by rwa[er]at VI
     let yP:y∈aZ Jqf IR f:=by rwa[u]at Jb yr
     let ly:JlB y=cnt (S.ts.take Xi):=by have:=dZ c.negs h3.2;rw[e,Int.neg_neg]at this;exact this
     let y0:=rD c yP;let y1:=kM (ts:=IR) y;let y2:=lR y yr;let(r,H,Q):=l1 Jn;let pw:=CS (f:=f) c;rw[u,er]at pw;let Z:=(List.pairwise_cons.mp (List.pairwise_cons.mp pw).2).1;have:m<=lvF IR y:=by
      rw[er]at H;rcases List.mem_cons.mp H with z|z
      .rwa[<-Q,z]at Int.le_refl _
      .rwa[<-Q]at Z r z
     lia
 .let f0:f≠-1:=by have:=C.ln.f0;lia
  apply((?_,G _,C.b.row,C.b.snd,C.b.sub,C.b.len,U _ f0,o1,o2,P,T _ f0),C.wk g m0 X u lA l1 f0,N _,M _);show TOk Jqf (JpK (a,f,));apply TOk.snoc (c.take j) (t:=(a,f,)) (w a I).1 W a1 a2 (.inr (f.toNat,U8 f,?_,jb C.ln.f0 C.ln.f1,(xM C.ln D).mp I,λp J np=>?_))
  .show f=(f.toNat:Int);have:=C.ln.f0;lia
  .let J:=(xM C.ln D).mpr J;rw[u]at J;exact k p ((List.mem_cons.mp J).resolve_left np)
structure cD (n:Nat)(B)(i)(S:HS):Prop where
 rs:S.rs=B
 pp:S.pp=[]
 lk:S.lk=0
 bs:S.bs=[]
 od:∀a:Int,a∈S.od↔1<=a/\a<=n
 odn:S.od.Nodup
 la:∀a x,Xa (S.la a) x->x=a\/x=-a
 tok:JhY B
 rng:∀t∈IR,t.1.natAbs<=n
 fo:∀t∈IR,t.2≠-1
 w:WOk { S with rs:=B.take i } S.wg 0
def wp0 (ts)(a b):Wp ts 0 a b:=λx x h=>NH h _
def cD.zero {n:Nat}{B:List Yk}{S:HS}(rs:S.rs=B)(pp:S.pp=[])(g:S.lk=0)(bs:S.bs=[])(od:∀a:Int,a∈S.od↔1<=a/\a<=n)(d:S.od.Nodup)(la:∀a,Mf (S.la a))(ts:S.ts=[])(e:∀r,Mf (S.wt r))(wg:∀c,S.wg c=[]):cD n B 0 S:=by
 apply(rs,pp,g,bs,od,d,λa x h=>(by erw[la]at h),(ts<|>TOk.nil _),(ts<|>λy h=>(nomatch h)),(ts<|>λy h=>(nomatch h)),(λr f h=>?_,λr a b h=>?_,λr c=>?_,λc=>?_,λr a b h=>?_,λa h=>?_,λh=>?_))
 .cases h
 .let h':=h;erw[e]at h'
 .rw[wg];apply(λh=>(nomatch h),λh_=>?_);let(a,b,h,_):=h_;let h':=h;erw[e]at h'
 .rwa[wg]at Jqp
 .exact(wp0 _ _ _,wp0 _ _ _)
 .cases h
 .cases h
def CW {B:List Yk}{i:Nat}{r:List Int}(h:B[i]?=some r):(B.take i).length=i:=by have:=(gEq h).1;rwa[List.length_take]at Nat.min_eq_left (Nat.le_of_lt this)
def cnt0 (h:cD n B i S)(j):NI j=0:=jM λt a=>h.fo t JrS
def cD.add {n:Nat}{B:List Yk}{i:Nat}{S v:HS}{r:List Int}(h:cD n B i S)(d:B[i]?=some r)(y:r.Nodup)(x:r≠[])(F:∀a,r=[a]->Jnc a)(es:v={ S with wt:=putW (i:Int) r S.wt,wg:=putG (i:Int) r S.wg }):cD n B Xi v:=by
 subst es;apply(h.rs,h.pp,h.lk,h.bs,h.od,h.odn,h.la,h.tok,h.rng,h.fo,?_);let W:=WOk.put h.w (l:=.int 0) y (λm=>Iff.rfl) rfl x (λa e=>?_) λa b t m=>(wp0 _ _ _,wp0 _ _ _)
 .let s:=CW d;let e:(({ S with rs:=B.take i }:HS).put (.int 0) r r).wg=putG (i:Int) r S.wg:=by show putG ((B.take i).length:Int) r S.wg=_;rw[s]
  let q:(({ S with rs:=B.take i }:HS).put (.int 0) r r).wt=putW (i:Int) r S.wt:=by show putW ((B.take i).length:Int) r S.wt=_;rw[s]
  rw[e]at W;apply(λk p o A=>?_,λk a b o=>?_,λk c=>?_,W.nd,λk a b o=>?_,λa C=>?_,λz=>?_)
  .have:=W.has k p (by show(B.take i++[r])[k]?=_;rwa[<-a_ d]at o) A;rw[q]at this;exact this
  .have:=W.is k a b (q<|>o);rwa[a_ d]at this
  .have:=W.gw k c;rw[q]at this;exact this
  .exact(wp0 _ _ _,wp0 _ _ _)
  .let g:=C;rw[a_ d]at g;exact W.one a g
  .let f:=z;rw[a_ d]at f;exact W.nil f
 .let(j,u,E,D):=jc (F a e);exact(j,u,E,D,cnt0 h _)
def cD.hold (h:cD n B i S)(o:n<=60)(d:B[i]?=some [a])(f:a≠0/\a.natAbs<=n)(v:a∉S.hs)(s:-a∉S.hs):cD n B (i+1) (S.hold a i):=by
 let h':cD n B i (S.hold a i):=by
  apply(h.rs,h.pp,h.lk,h.bs,h.od,h.odn,h.la,TOk.snoc h.tok f.1 Jn v s (.inr (VV i [a] d VI (λp r l=>absurd (mSq r) l))),λt b=>?_,λt b=>?_,(h.w.has,h.w.is,h.w.gw,h.w.nd,λy y y y=>(wp0 _ _ _,wp0 _ _ _),λx q=>?_,h.w.nil))
  .rcases mPq b with z | z
   .exact Jpi z
   .rwa[mSq z]at f.2
  .rcases mPq b with z | z
   .exact h.fo t z
   .rw[mSq z];show(i:Int)≠-1;lia
  .let(j,u,c,k,g):=h.w.one x q;exact(j,u,(fb c).1,k,(fb c).2.trans g)
 apply h'.add d Js Js (λx e=>?_) rfl;injection e with e;show x∈(S.ts++[(a,(i:Int),)]).map Yy;rwa[mAq,<-e]at Xb VI
def cD.hb (h:cD n B i S)(e:∀r∈B,r.Nodup/\∀p∈r,Joj 0):HB n B E S:=by apply(h.rs▸h.tok,h.rng,h.rs▸e,λv x a=>h.rs▸a,λr c=>h.rs▸c,by rw[h.rs,h.pp];rfl,?_,h.od,h.odn,h.la,λj t d b=>absurd b (h.fo t (mO d)));rw[h.bs,rH _ _ h.fo]
def cD.fail (h:cD n B i S)(c:∀r∈B,r.Nodup/\∀p∈r,Joj 0)(a:B[i]?=some r)(b:∀p∈r,-p∈S.hs):dy n B E S (i:Int):=by let d:cnt IR=0:=jM h.fo;exact(h.hb c,(h.rs▸h.tok:JhY Jqf).ln (r,h.rs▸a,b),λz=>MS Jn,λz=>MS Jn)
def cD.mid (h:cD n B B.length S)(a:∀r∈B,r.Nodup/\∀p∈r,Joj 0):cB n B E S:=by
 let e:({ S with rs:=B.take Jqs }:HS)=S:=by rw[List.take_length,<-h.rs]
 let w:=h.w;rw[e]at w;apply(h.hb a,by rwa[h.lk]at w,by rwa[h.lk]at Nat.zero_le _,λi x x=>?_);rw[cnt0 h,jM h.fo]
def kT (S:HS):Option Int:=S.od.find? λa=>decide (a∉S.hs)&&decide (-a∉S.hs)
def gM (ps od:List Int):List Int:=ps.map zaW++od.filter λa=>decide (a∉ps.map zaW)
def lnD (ps hs:List Int):Dt:=.tup [.str "learnt",.tup (ps.map Ie),.tup (hs.map Ie)]
def LaP (ts:Mm Int)(D:Nat->Prop)(a la:JfF Int):Prop:=∀z,(∀i t,D i->ts[i]?=some t->zaW t.1=z->Xa (la z) t.1)/\((∀i t,D i->ts[i]?=some t->zaW t.1≠z)->la z=a z)
def rK (h:zaW a=zaW b):a=b\/a=-b:=by unfold zaW at h;lia
def LaP.put (h:LaP ts D la0 la)(b:My rs)(f:ts[k]?=some u)(g:∀x,D' x↔D x\/x=k):LaP ts D' la0 λz=>if z=zaW u.1 then some u.1 else la z:=λz=>by
 apply(λi t l a e=>?_,λj=>?_)
 .show(if z=zaW u.1 then some u.1 else la z)=_
  by_cases c:z=zaW u.1
  .rw[if_pos c];rcases rK (e.trans c) with e | e
   .rw[e]
   .exact(b.cons (eG a) (by rwa[e,Int.neg_neg]at eG f)).elim
  .rw[if_neg c];rcases(g i).mp l with d | d
   .exact(h z).1 i t d a e
   lia
 .show(if z=zaW u.1 then some u.1 else la z)=_
  rw[if_neg λc=>j k u ((g k).mpr (.inr rfl)) f c.symm];exact(h z).2 λi t d=>j i t ((g i).mpr (.inl d))
def LaP.det (a:LaP ts D la0 la)(b:LaP ts D la0 la'):la=la':=by
 funext z;by_cases c:∃i t,D i/\ts[i]?=some t/\zaW t.1=z
 .let(i,t,f,e,d):=c;rw[(a z).1 i t f e d,(b z).1 i t f e d]
 .rw[(a z).2 λi t f e d=>c (i,t,f,e,d),(b z).2 λi t f e d=>c (i,t,f,e,d)]
def LaP.imp (h:LaP ts D la0 la)(d:∀x,Iz x->(D' x↔D x)):LaP ts D' la0 la:=λz=>by let c:∀{i t},ts[i]?=some t->Iz i:=λ{i t} h=>(gEq h).1;exact(λi t b a=>(h z).1 i t ((d i (c a)).mp b) a,λe=>(h z).2 λi t b a=>e i t ((d i (c a)).mpr b) a)
structure LStp (most)(S:HS)(f)(S'):Prop where
 ex:∃(a:Int) (rest:List Int) (m:Int) (j:Nat) (la:JfF Int),GA f=Nx a/\jJ (((GA f).drop 1).map (lvF IR)) m/\JkL m j/\LaP IR (λx=>j<=x) S.la la/\
  (((MD f).length=1/\S'={ (JaE j).hold a f with od:=gM JaY S.od }) \/ ((MD f).length≠1/\(S.pp.length:Int)<most/\S'={ ((S.put (lnD JaY (MD f).reverse) JaY JaY).cut j la).hold a Xh with od:=gM JaY S.od }))
def LStp.det (x:LStp most S f S1)(y:LStp most S f S2):S1=S2:=by
 let(a,rest,m,j,la,s,g,r,o,n):=x.ex;let(C,b,k,B,l,i,h,v,u,t):=y.ex;rw[s]at i;injection i with A z;subst A z;let w:m=k:=by
  by_cases e:((GA f).drop 1).map (lvF IR)=[]
  .rw[g.1 e,h.1 e]
  .exact Int.le_antisymm ((h.2 e).2 _ (g.2 e).1) ((g.2 e).2 _ (h.2 e).1)
 subst w;cases r.inj v;cases o.det u;lia
inductive Ph where
 |beg (i:Nat)
 |grow
 |ask
 |rest
 |odds (f:Int)
def kU (S:HS)(i:Nat):Je2 Int (HS×Ph)
 |[]=>(S,.odds i,)
 |[a]=>if -a∈S.hs then(S,.odds i,) else if Jnc a then(S,.beg Xi,) else(S.hold a i,.beg Xi,)
 |a::b::_=>(S.watch i a b,.beg Xi,)
def gN (S:HS)(i:Nat):HS×Ph:=match S.rs[i]? with
 |none=>(S,.grow,)
 |some r=>kU S i r
noncomputable def phO:JlG Int Ph
 |none=>.grow
 |some f=>.odds f
def gO (S:HS):HS×Ph:=match S.ts[S.lk]? with
 |none=>(S,.ask,)
 |some t=>({ (eH S X1).1 with lk:=S.lk+1 },phO (eH S X1).2,)
abbrev Cl:=Mm Int->Option (Dt×List Int)->Prop
def Cl.One (c:Cl):Prop:=∀ts a b,c ts a->c ts b->a=b
def gP (ts:Mm Int)(ps:List Int):List Int:=(negs ts).reverse.filter λp=>decide (p∈ps)
def askS (a:Int)(S:HS)(y:HS×Ph):Option (Dt×List Int)->Prop
 |none=>y=(S,.rest,)
 |some q=>(S.pp.length:Int)<a/\y=(S.put q.1 q.2 (JiG q.2),.odds Xh,)
def Stp (c:Cl)(b:Int)(x y:HS×Ph):Prop:=match x.2 with
 |.beg i=>y=gN x.1 i
 |.grow=>y=gO x.1
 |.ask=>∃o,c x.1.ts o/\askS b x.1 y o
 |.rest=>∃a,Xa (kT x.1) a/\y=(x.1.pick a,.grow,)
 |.odds f=>LStp b x.1 f y.1/\y.2=.grow
def Stp.det (o:cl.One){x y z:HS×Ph}(a:Jmp cl x y)(b:Jmp cl x z):y=z:=by
 let(S,p):=x;cases p with
 |beg i=>exact JbF a b
 |grow=>exact JbF a b
 |ask=>
  let(c,j,h):=a;let(d,g,e):=b;cases o _ _ _ j g;cases c with
  |none=>exact JbF h e
  |some q=>exact JbF h.2 e.2
 |rest=>
  let(c,j,h):=a;let(d,g,e):=b;erw[j]at g;rw[h,e]
 |odds f=>exact Prod.ext (a.1.det b.1) (a.2.trans b.2.symm)
inductive Rch (cl:Cl)(most)(x):HS×Ph->Prop
 |refl:JoW x x
 |step {y z:HS×Ph}:JoW x y->Jmp cl y z->JoW x z
def Rch.trans (a:JoW x y)(b:JoW y z):JoW x z:=by
 induction b with
 |refl=>exact a
 |step _ s c=>exact c.step s
def Rch.head (h:JoW x y):x=y\/∃z,Jmp cl x z/\Rch cl most z y:=by
 induction h with
 |refl=>exact .inl rfl
 |step a b c=>
  rcases c with rfl|⟨z,e,d⟩
  .exact .inr (Q5 b .refl)
  .exact JfV z e (d.step b)
def Rch.one (o:cl.One){x y z:HS×Ph}(a:JoW x y):JoW x z->JoW y z\/Rch cl most z y:=by
 induction a with
 |refl=>exact .inl
 | step a b d =>
  intro c;rcases d c with h|h
  .rcases h.head with rfl | ⟨w,f,e⟩
   .exact .inr (.step .refl b)
   .cases f.det o b;exact .inl e
  .exact .inr (h.step b)
inductive Wd where
 |long
 |yes
 |no
 deriving DecidableEq
def Fnd (b:Cl)(a:Int)(x:HS×Ph)(w:Wd):Prop:=match x.2 with
 |.ask=>∃q,b x.1.ts (some q)/\a<=(x.1.pp.length:Int)/\w=.long
 |.rest=>Mf (kT x.1)/\w=.yes
 |.odds f=>(¬((bM x.1.rs x.1.ts f).length=1/\aZ x.1.rs x.1.ts f≠[])/\a<=(x.1.pp.length:Int)/\w=.long)\/(aZ x.1.rs x.1.ts f=[]/\(x.1.pp.length:Int)<a/\w=.no)
 |_=>False
def Fnd.stop (o:cl.One){x y:HS×Ph}{w:Wd}(h:Jmq cl x w):¬Stp cl most x y:=λs=>by
 let(S,p):=x;cases p with
 |beg i=>exact h
 |grow=>exact h
 |ask=>
  let(q,d,b):=h;let(c,k,l):=s;cases o _ _ _ d k;let g:=l.1;let b:=b;lia
 |rest=>
  let(a,d,_):=s;let b:=h.1;erw[d]at b
 |odds f=>
  let(a,rest,m,j,la,d,_,_,_,g):=s.1.ex;rcases h with ⟨b,k⟩|⟨b,_⟩
  .lia
  lia
def Fnd.det (a:Jmq cl x w)(b:Jmq cl x u):w=u:=by
 let(S,p):=x;cases p with
 |beg i=>exact a.elim
 |grow=>exact a.elim
 |ask=>
  let(_,_,_,h):=a;let(_,_,_,g):=b;rw[h,g]
 |rest=>rw[a.2,b.2]
 |odds f=>
  rcases a with ⟨_,e,c⟩|⟨_,e,c⟩<;>rcases b with ⟨_,j,d⟩|⟨_,j,d⟩
  .rw[c,d]
  .lia
  .lia
  .rw[c,d]
def Ans (cl:Cl)(most:Int)(S:HS)(x:HS×Ph)(w:Wd):Prop:=JoW (S,.beg 0,) x/\Jmq cl x w
def Ans.det (o:cl.One){S:HS}{x y:HS×Ph}{w u:Wd}(a:Ans cl most S x w)(b:Ans cl most S y u):x=y/\w=u:=by
 let e:x=y:=by
  rcases a.1.one o b.1 with h|h
  .rcases h.head with e | ⟨z,s,_⟩
   .exact e
   .exact absurd s (a.2.stop o)
  .rcases h.head with e | ⟨z,s,_⟩
   .exact Jkm
   .exact absurd s (b.2.stop o)
 subst e;exact WO (a.2.det b.2)
end L2
namespace L2
open PySem PySem.Spec PyProof.Rows
section
variable {P:Program} {w:World}
abbrev Sgn:=Jiv Jru
def eT (P:Program)(w:World)(h:Heap)(k:Sgn)(a:Addr):Prop :=
 ∃o t q n,h.get? a=some o/\o.cls=.type "tuple"/\o.data=.seq #[JmV k.1,.ref q] n/\IsTupleKey (JmW P) h k.2 q
def eT.typeIs {s:Shared}{k:Sgn}{a:Addr}(x:Jen P w k a):XQ a "tuple":=(by let(o,_,_,_,ho,hc,_):=x;exact Jmh ho hc)
def eT.inj (i:eT P w h x a)(g:eT P w h y a):x=y:=by let(o,t,q,n,j,_,l,k):=i;let(A,t',f,B,b,_,d,c):=g;cases j.symm.trans b;let e:=l.symm.trans d;injection e with e _;let z:=JkH Array.toList;injection z with v u;injection v with s _;injection u with r _;injection r with p;subst p;exact Prod.ext s (k.inj c)
def eT.keeps (x:eT P w h k a)(f:h.get? d=some o)(g:JjZ ep)(hs:Heap.SameBut d h h'):eT P w h' k a:=by
 let(i,t,q,n,c,l,b,j):=x;let e:a≠d:=Jn
 exact(i,t,q,n,(hs.2 a e).trans c,l,b,j.keeps f g hs)
def rL (P:Program)(w:World)(k:Sgn):Int:=reduceHash (Builtin.Tuple.tupleHashOf [(JmW P).hash (.inr k.1),tupleKeyHash (JmW P) k.2])
variable {A:Around} {E:Value->Shared->Prop} {s:Shared}
def CY {k:Sgn}{a:Addr}{Q:Int→Shared→Prop}(u:V6 10)(i:Jen P w k a)(h:Q (rL P w k) { s with toks:=s.toks+(k.2.length+3) }) :
  wpAny (JeS P) A (pyHash (.ref a)) Q E s:=by
 let d:=i.typeIs;let(o,t,q,n,l,_,r,p):=i;unfold pyHash
 first|unfold pyHashByItsType|skip
 first|refine wpAny_bind (wpAny_cRoomFor_or (.inr Jn) ?_)|skip
 apply Yv d JrK ?_;show Gi _ _ Q E s
 rw[if_neg (by decide)];apply Yv d JrK ?_;apply wpAny_bind (wpAny_callSpecialIfBoundUnlessNone?_slot d F.slot_tuple_hash (Jag F.slot_tuple_hash d F.entry_tuple_hash (F.args_tuple_hash_1 _)));show JnP (M_ a>>=_);apply Jau l r ?_;apply wpAny_bind ?_;rw[<-Array.forIn_toList];apply wpAny_forIn_list _
  (λrest b s'=>(rest=[JmV k.1,.ref q]/\b=#[]/\s'=s)\/(rest=Vj q/\b=#[(JmW P).hash (.inr k.1)]/\s'={ s with toks:=s.toks+1 }) \/ (rest=[]/\b=#[(JmW P).hash (.inr k.1),tupleKeyHash (JmW P) k.2]/\s'={ s with toks:=s.toks+1+(k.2.length+1) }))
  _ ?_ ?_ _ _ (.inl (Jnv rfl))
 .rintro x rest b s' (⟨e,rfl,rfl⟩ | ⟨e,rfl,rfl⟩ | ⟨e,rfl,rfl⟩)
  .injection e with g f;subst g f;apply wpAny_bind ((JmW P).pyHash (nV P w k.1 t) ?_)
   first
    |exact wpAny_pure (JhP (Jnv rfl))
    |exact wpAny_bind _
  .injection e with g f;subst g f;apply wpAny_bind (wpAny_pyHash_tuple (knd:=JmW P) Jn p ?_)
   first
    |exact wpAny_pure (JaL (Jnv rfl))
    |exact wpAny_bind _
  .exact nomatch e
 .rintro b s' (⟨e,rfl,rfl⟩ | ⟨e,rfl,rfl⟩ | ⟨e,rfl,rfl⟩)
  .exact nomatch e
  .exact nomatch e
  apply wpAny_ret_mkInt ?_;let j:s.toks+(k.2.length+3)=s.toks+1+(k.2.length+1)+1:=Jn
  rw[j]at h;unfold rL reduceHash at h;generalize Builtin.Tuple.tupleHashOf _=z at h⊢;show Gi _ (if Vi (decide (-2^63<=z)&&decide (z<2^63)) then _ else _) Q E _
  by_cases c:Vi (decide (-2^63<=z)&&decide (z<2^63))
  .rw[if_pos c];rw[if_pos c]at h;exact wpAny_pure h
  .rw[if_neg c];rw[if_neg c]at h;exact MO h
def CZ {x y:Sgn}{a b:Addr}{R:Fin->Shared->Prop}(Q:V6 5)(I:Jen P w x a)(H:Jen P w y b)(h:R (Jmr (.bool (decide (x=y)))) s):
  wpAny (JeS P) A (Builtin.«tuple.__eq__» (WY (Iw a b))) R E s:=by
 let o:=H.typeIs;let(M,D,G,O,i,_,n,k):=I;let(L,C,F,N,g,_,l,j):=H;show JnP (isInstance (.ref b) (.type "tuple")>>=_);apply JjN o ?_;simp only[Bool.not_true,Bool.false_eq_true,if_false];apply Jau i n ?_;apply Jau g l ?_;apply wpAny_bind ?_;apply wpAny_forIn_list _
  (λrest r s'=>Mf r.1/\s'=s/\((rest=[(.str x.1 D,.str y.1 C,),(.ref G,.ref F,)])\/(rest=[(.ref G,.ref F,)]/\x.1=y.1)\/(rest=[]/\x=y)))
  _ ?_ ?_ _ _ (Jnv (.inl rfl))
 .rintro ⟨u,v⟩ rest r s' ⟨f,rfl,e | ⟨e,d⟩ | ⟨e,d⟩⟩
  .injection e with B t;injection B with q p;subst t q p;apply wpAny_bind ((JmW P).eqBool (nV P w x.1 D) (nV P w y.1 C) ?_);by_cases c:x.1=y.1
   .rw[dTq (show(Sum.inr x.1:Key)=.inr y.1 by rw[c])];simp only[Bool.not_true,Bool.false_eq_true,if_false];exact Jls (by trivial) (by trivial) (.inr (Qk (by trivial) c))
   .rw[dFq (show ¬(Sum.inr x.1:Key)=.inr y.1 from λz=>c (Sum.inr.inj z))];simp only[Bool.not_false,if_true];rw[dFq (show ¬x=y from λz=>c (by rw[z]))]at h;exact Gf (Jt h)
  .injection e with B t;injection B with q p;subst t q p;apply wpAny_bind (wpAny_eqBool_tuple (knd:=JmW P) (Nat.lt_of_add_right_lt Q) k j ?_);by_cases c:x.2=y.2
   .rw[dTq c];simp only[Bool.not_true,Bool.false_eq_true,if_false];exact Jls (by trivial) (by trivial) (.inr (Jl (by trivial) (Prod.ext d c)))
   .rw[dFq c];simp only[Bool.not_false,if_true];rw[dFq (show ¬x=y from λz=>c (by rw[z]))]at h;exact Gf (Jt h)
  .exact nomatch e
 .rintro ⟨K,J⟩ s' ⟨f,rfl,e | ⟨e,d⟩ | ⟨e,d⟩⟩
  .exact nomatch e
  .exact nomatch e
  simp only at f;subst f;apply wpAny_pure ?_;rw[dTq d]at h;exact h
def C0 {x y:Sgn}{a b:Addr}{Q:Bool->Shared->Prop}(g:V6 10)(d:Jen P w x a)(f:Jen P w y b)(h:Q (decide (x=y)) s):
  wpAny (JeS P) A (eqBool (.ref a) (.ref b)) Q E s:=by
 unfold eqBool
 try with_reducible refine wpAny_holding ?_
 by_cases c:Vi (Value.ref a==Value.ref b)
 .rw[if_pos c];let e:a=b:=Jn
  subst e;cases d.inj f;exact MO (by simpa using h)
 .rwa[if_neg c]at wpAny_bind (wpAny_richCompare_same_room d.typeIs f.typeIs F.slot_tuple_eq (wpAny_call_entry F.slot_tuple_eq d.typeIs F.entry_tuple_eq (CZ (by show Wx (Q6 1+5);lia) d f (JoQ (λe=>nomatch e) (wpAny_truthy_bool h))) (F.args_tuple_eq_2 _ _)) Jn)
def quiet7 (e:IsTupleKey (JmW P) Yq ks a)(h:Q true s):Ua P w A (eqIsQuiet 7 (.ref a)) Q E s:=by
 let f:=e.typeIs;let(o,items,n,g,_,j,i):=e;unfold eqIsQuiet;apply Yv f Jsd ?_;apply JjN f ?_;simp only[Bool.not_true,Bool.false_eq_true,if_false];apply Gk g j ?_;apply wpAny_bind ?_;rw[<-Array.forIn_toList];apply wpAny_forIn_list _ (λrest r s'=>Mf r.1/\s'=s/\∀v∈rest,Vi (carriedByValue v)) _ ?_ ?_ _ _ (Jnv i.byValue)
 .rintro v rest r s' ⟨d,rfl,b⟩;rw[eqIsQuiet_byValue _ (b v List.mem_cons_self)];apply Gf ?_;simp only[Bool.not_true,Bool.false_eq_true,if_false];exact X_ rfl (λu c=>b u (Jb c))
 .rintro ⟨l,k⟩ s' ⟨d,rfl,_⟩;simp only at d;subst d;exact wpAny_pure h
def C2 {k:Sgn}{a:Addr}{Q:Bool->Shared->Prop}(f:Jen P w k a)(h:Q true s):Ua P w A (eqIsQuiet 8 (.ref a)) Q E s:=by
 let g:=f.typeIs;let(o,t,q,n,i,_,l,j):=f;unfold eqIsQuiet;apply Yv g Jsd ?_;apply JjN g ?_;simp only[Bool.not_true,Bool.false_eq_true,if_false];apply Gk i l ?_;apply wpAny_bind ?_;rw[<-Array.forIn_toList];apply wpAny_forIn_list _ (λrest r s'=>Mf r.1/\s'=s/\∀v∈rest,Vi (carriedByValue v)\/Nk v q) _ ?_ ?_ _ _ (Jnv (λv d=>?_))
 .rintro v rest r s' ⟨e,rfl,b⟩;rcases b v VI with d | rfl
  .rw[eqIsQuiet_byValue _ d];apply Gf ?_;simp only[Bool.not_true,Bool.false_eq_true,if_false];exact X_ rfl (λu c=>b u (Jb c))
  .apply wpAny_bind (quiet7 j ?_);simp only[Bool.not_true,Bool.false_eq_true,if_false];exact X_ rfl (λu c=>b u (Jb c))
 .rintro ⟨x,p⟩ s' ⟨e,rfl,_⟩;simp only at e;subst e;exact wpAny_pure h
 .rcases List.mem_cons.mp d with rfl | d
  .exact .inl rfl
  .exact .inr (mSq d)
end
def oO (P)(w):HeapKind P w Sgn where
 is:=eT P w
 hash:=rL P w
 draws:=λk=>k.2.length+3
 room:=λA=>V6 10
 inj:=λb a=>b.inj a
 keeps:=λx e f hs=>x.keeps e f hs
 pyHash:=λc d h=>CY c d h
 eqBool:=λc b a h=>C0 c b a h
 quiet:=λd h=>C2 d h
section
variable {prog:Program} {w:World} {K:Type} [DecidableEq K] {knd:HeapKind prog w K} {A:Around} {E:Value->Shared->Prop} {s:Shared}
def C3 {d a:Addr}{xs:List (K×QP Value)}{k:K}{c:Value}{Q:Value->Shared->Prop}(u:knd.room A)(b:knd.is Yq k a)(z:JhZ knd d)
  (D:∀p,Xa (JaW xs) p->Q p.2 { s with toks:=s.toks+knd.draws k })
  (C:Mf (JaW xs)->∀h',h'.DictOfH knd d (xs++[(k,a,c,)])->JpH d->Q c { s with heap:=h',toks:=s.toks+knd.draws k })
  (hsz:Qd Jb5):JnH (dictSetDefault d (.ref a) c):=by
 let(o,es,ep,h,B,g,q,n,r):=z;unfold dictSetDefault
 try with_reducible refine wpAny_holding ?_
 apply wpAny_bind (knd.pyHash u b ?_);apply wpAny_bind (wpAny_dictFind_heap u b h g q n r ?_ ?_)
 .intro l;let i:=not_mem_keys_of_get l;apply Jib (wpAny_updateDictKeys (hz:=by let e:=size_of_entries q;simp_all) h g (wpAny_pure (C (atKey_none_of_get l) _ (5,ep+1,Heap.get?_update_self _ h (Obj.isFreed_of_dict (Obj.data_mapDictKeys g _)),B.mapDictKeys _,Obj.data_mapDictKeys g _,?_,9) (Heap.SameBut.update ..))))
  .simp [q,entryOfKey]
  .intro x f;rcases mPq f with f | f
   .exact knd.keeps (n x f) h g (Heap.SameBut.update ..)
   .simp only[List.mem_singleton]at f;subst f;exact knd.keeps b h g (Heap.SameBut.update ..)
  .rw[mAq,List.nodup_append];apply Gc r Js;intro x f y t;simp only[List.map_cons,List.map_nil,List.mem_singleton]at t;subst t;exact λe=>i (e▸f)
 .intro j p v;apply wpAny_bind (wpAny_dictEntries h g ?_);rwa[entry_at q j,v]at MO (D p (atKey_of_get r v))
def C4 (knd:HeapKind prog w K)(d a)(j:Yw (d==sysModules))(b):
  MeetsIn prog w (Builtin.«dict.setdefault» (WY [.ref d,.ref a,b])) (λA R s=>knd.room Jqt/\∃k xs,knd.is Yq k a/\JhZ knd d/\Qd xs.length/\(∀p,Xa (JaW xs) p->JpQ p.2 { s with toks:=s.toks+knd.draws k })/\(Mf (JaW xs)->∀h',h'.DictOfH knd d (xs++[(k,a,b,)])->JpH d->JpQ b { s with heap:=h',toks:=s.toks+knd.draws k })) :=
 .of_wp λA R s h_=>by
  let(g,k,xs,c,f,hz,n,l):=h_
  apply wpAny_bind ?_;apply wpAny_bind (wpAny_notOrdered_dict f.typeIs ?_);apply wpAny_pure ?_;show JnP (if Vi (d==sysModules) then _ else(dictSetDefault d (.ref a) b>>=_))
  rwa[if_neg (by rw[j];exact Bool.false_ne_true)]at wpAny_bind (C3 g c f (λp h=>X_ p.2 (n p h)) (λi h' e hs'=>X_ b (l i h' e hs')) hz)
end
abbrev SE:=Sgn×QP V
def mU (p:SE)(q:Sgn×QP Value):Prop:=p.1=q.1/\p.2.1=q.2.1/\bn p.2.2 q.2.2
def iL (P:Program)(w:World)(a:Addr)(kvs:List SE):HO:=.ext λh=>Yw (a==sysModules)/\∃xs:List _,Paired mU kvs xs/\
 ∃o es ep,h.get? a=some o/\o.ExactDict/\JjZ ep/\es.toList=Jea (oO P w)/\(xs.map Qn).Nodup
def SD (P:Program)(w:World)(H:Hp)(a:Addr)(kvs:List SE):Prop:=(Jz a []/\kvs=[])\/Ic a (iL P w a kvs)
def gQ (K:W.Frag)(H:Hp)(k:Sgn)(p:Addr):Prop:=∃q,Jp7 p k.1 q/\Vo q (k.2.map kV)
noncomputable def atS (kvs:List SE)(k:Sgn):Option SE:=kvs.find? λe=>decide (e.1=k)
def xN (r:Paired mU kvs xs)(k):
  (∃e q,JjQ k e/\Xa (JaW xs) q/\bn e.2.2 q.2)\/(JpW k/\Mf (JaW xs)):=by
 induction r with
 |nil=>exact Je9 rfl
 | @cons p q ps b h t c =>
  by_cases a:p.1=k
  .apply .inl (p,q.2,9,h.2.2)
   .unfold atS;rw[List.find?_cons_of_pos (by exact dTq a)]
   .unfold atKey;rw[List.find?_cons_of_pos (by exact dTq (h.1.symm.trans a))];rfl
  .let f:atS (p :: ps) k=atS ps k:=by unfold atS;rw[List.find?_cons_of_neg (by simpa using a)]
   let d:JaW (q::b)=atKey b k:=by unfold atKey;rw[List.find?_cons_of_neg (by simpa using λz=>a (h.1.trans z))]
   rwa[f,d]at c
def xO (I:Xm s)(h:gQ X.K H k p):Jen P w k p:=by
 let(q,j,i):=h;let(g,r,(o,z,y,n,x),_):=I.tuple j;let(f,c,(d,v,u,e,l),_):=I.tuple i;cases r with
 | cons b t =>
  cases t with
  |cons a t=>
   cases t;let(tk,rfl):=b;cases a;exact(o,tk,q,n,z,y,x,d,f.toArray,e,v,u,l,by simpa using qT c)
inductive rM (P)(w)(K):V->List V->Hp->VK->Prop|m{x vs H Q} d p k v kvs:Jd9 d (vs=Gw p v->JiJ P w H d->IM Jj1->(∀e∈kvs,gQ K H e.1 e.2.1)->gQ K H k p->((∃e,JjQ k e/\Q e.2.2 H)\/(JpW k/\Q v (Jm d (iL P w d (kvs++[(k,p,v,)])))))->rM P w K x vs H Q)
def C5 (hu:Jbq 64):MtR X "dict.setdefault" (rM X.prog X.w X.K):=by
 intro pins s σ H x vs v us Q I rx rv h;let(d,p,k,y,kvs,rfl,rfl,hd,hz,B,hk,q):=h;cases rx;cases rv with
 |cons rp t=>
 cases t with
 | @cons _ y' _ _ ry t=>
 cases t;cases rp;let P:Yw (d==sysModules)/\Joq d/\∃xs:List _,Paired mU kvs xs/\
   ∃o es ep,s.heap.get? d=some o/\o.ExactDict/\JjZ ep/\es.toList=Jea (oO Uh X.w)/\(xs.map Qn).Nodup:=by
  rcases hd with ⟨e,rfl⟩|e
  .let(z,i,ws,c,o,es,ep,O,N,M,L,D,h6):=Jfk e;cases c;apply(i,by rwa[e]at IK,[],.nil,o,es,ep,O,N,M,?_,Jn4);cases es with
   |mk l=>
    cases l with
    |nil=>rfl
    |cons a r=>exact absurd D (by intro z;cases z)
  .let⟨(i,xs,r)⟩:=VM d e;exact(i,by rwa[e]at IK,xs,r)
 let(i,mu,xs,c,o,es,ep,O,N,M,L,D):=P;let all:∀x∈xs,(oO Uh X.w).is Yq x.1 x.2.1:=by
  clear q L D hz hd
  induction c with
  |nil=>intro x j;exact nomatch j
  | @cons a b E bs r t J=>
   intro x j;rcases List.mem_cons.mp j with rfl|j
   .have:=B a VI;rw[r.1,r.2.1]at this;exact xO I this
   .exact J (λe he=>B e (Jb he)) x j
 let dd:JhZ _ d:=(o,es,ep,O,N,M,L,all,D);let ll:=Paired.length c;apply call_meetsIn Mx Jpk JqV Joy (C4 (oO Uh X.w) d p i y')
  ((by show Wx (J2 1+10);lia),k,xs,xO I hk,dd,Jn,λu n=>?_,λhn h' Y hs=>?_)
 .rcases xN c k with ⟨e,u2,g,f,r2⟩ | ⟨_,f⟩
  .cases n.symm.trans f;rcases q with ⟨e',q1,C⟩ | ⟨q1,_⟩
   .cases q1.symm.trans g;exact GI _ H _ r2 C
   .rw[q1]at g;exact nomatch g
  .rw[n]at f;exact nomatch f
 .rcases xN c k with ⟨e,u2,g,f,r2⟩ | ⟨g,f⟩
  .rw[hn]at f;exact nomatch f
  rcases q with ⟨e',q1,C⟩|⟨_,C⟩
  .rw[q1]at g;exact nomatch g
  let(o',T,W,R,g2,g3,g4,g5,g6):=Y;let G:I0 (Jm d (iL Uh X.w d (kvs++[(k,p,y,)]))) h' d (iL Uh X.w d (kvs++[(k,p,y,)])):=by
   apply((i,_,?_,o',T,W,R,g2,g3,g4,g6),Mr R,λa b z kp=>?_)
   .let Z:∀ {E:List SE} {bs:List _},Paired mU E bs→Paired mU (E++[(k,p,y,)]) (bs++[(k,p,y',)]):=by
     intro E bs r
     induction r with
     |nil=>exact JF (Jnv ry)
     |cons r t J=>exact Jlp J
    exact Z c
   .let(z1,ys,z2,o2,S,U,z3,z4):=z;exact(z1,ys,z2,o2,S,U,kp _ z3,z4)
  exact(y,_,jE I mu hs (Mr R) G,ry,C)
def sd_is (I:Xm s)(h:JiJ X.prog X.w H d):
  s.TypeIs (.ref d) "dict"/\∀a,Nk (Value.ref d) a->∃f,s.heap.get? a=some f/\Mf f.dict:=by
 let z:∃o,s.heap.get? d=some o/\o.ExactDict:=by
  rcases h with ⟨e,_⟩|e
  .let(_,_,_,_,o,_,_,c,b,_):=VM d e;exact Jmh c b
  .let⟨(_,_,_,o,_,_,c,b,_)⟩:=VM d e;exact Jmh c b
 let(o,e,b):=z;apply JgE o e b.1 (λa g=>?_);cases g;exact Jmi b.2.1
def tSetd (P:Program)(w:World)(K:W.Frag)(c:TE)(t:TA):TE:=λa H Q=>c a H λx b=>(∃d kvs,GN d/\JiJ P w b d)/\t a b λxs e=>rM P w K x xs e Q
def C6 (y:Jbq 64)(z:Yp o to)(B:Jfc X e t)
  (f:JjM o "setdefault" o=eval o X.env:=by rfl)
  (g:Vi ((Jby (QV e)).all (λx=>!x.1)&&(Jl0 []).all (λx=>x.1.isSome)
   && decide ((QV e).length+([]:List Keyword).length+(if([]:List Keyword).isEmpty then 0 else 1)<30)):=by rfl)
  (c:Vi (apos.endLine==cpos.line):=by rfl)(hs:Jdh e=(false,Jc e,)::starEach es X.env:=by rfl)(b:(Jby es).any Qn=false:=by rfl):
  PE X (Jof o "setdefault" (QV e)) (tSetd X.prog X.w X.K to t):=by intro a s i H Q I h;apply Jc4 f g c (thn (z a s i H _ I h) λv p h_=>?_);let(x,L,k,r,(d,kvs,E,l),q1):=h_;subst E;cases r;let(D,C):=sd_is k l;apply("dict","dict.setdefault",Mi,Mx,Jq5,D,C,?_);let j:=B cpos a p i L _ k q1;rw[hs]at j⊢;apply Ws (by show Yw (false||(Jpe _).any _);rw[b]<;>rfl) ?_;exact thn j λus n h_=>by let(vs,J,G,q,u):=h_;exact C5 y a n i J (.ref d) vs _ us Q G rfl q u
end L2
namespace L2
open PySem
abbrev Tm:=Jiv Yk
noncomputable def dTm (t:Tm):Dt:=Ul t.1 (.tup (t.2.map Ie))
def C7 (h:JlU (dTm t)):∃p q,Nk v p/\Jp7 p t.1 q/\SqT K H q (t.2.map V.int):=by
 let(a,xs,rfl,i,g):=h;let(c,u,r,k,f):=g;let(s,d,o,j,e):=f;cases r;cases o;let n:d=[]:=by have:=ar.length e;exact List.length_eq_zero_iff.mp JqK
 subst n;let l:=k;subst l;let(b,ys,rfl,k1,k2):=j;rw[iF k2]at k1;exact Qp a b i k1
theorem kW:∀ts:List Tm,MU (ts.map dTm)
 |[]=>by rfl
 |t::ts=>by simp only[List.map_cons,bX,dTm,nol,Bool.true_and,Bool.and_eq_true];exact((jG _,trivial),kW ts)
def tm_at {K:W.Frag}{H:Hp}{ts:List Tm}{xs:List V}{i:Nat}{x:V}(h:VZ dTm)(e:xs[i]?=some x):∃t p q,ts[i]?=some t/\GN p/\Jp7 p t.1 q/\SqT K H q (t.2.map V.int):=by let(d,b,a):=h.get e;rw[List.getElem?_map]at b;let(t,k,j):=Option.map_eq_some_iff.mp b;rw[<-j]at a;let(p,q,g,f,c):=C7 a;exact(t,p,q,k,g,f,c)
def jO (ts:List Tm)(c:GV Int)(a b:Int):Prop:=∃t u,ts[a.toNat]?=some t/\ts[b.toNat]?=some u/\t.1=u.1/\t.2.map c=u.2.map c
structure LkOk (ts:List Tm)(gs:Mm Int)(pre)(l:Lk):Prop where
 a:0<=l.1/\l.1<Xk
 b:0<=l.2.1/\l.2.1<Xk
 new:hdL pre l.1≠hdL pre l.2.1
 how:(0<=l.2.2/\gs[l.2.2.toNat]?=some (l.1,l.2.1,))\/(l.2.2=-1/\jO ts (hdL pre) l.1 l.2.1)
def cc (ts:List Tm)(a:Mm Int)(ls:List Lk):Prop:=∀i l,ls[i]?=some l->LkOk ts a (ls.take i) l
def cc.nil (ts)(a):Jeo a []:=λi l h=>by simp at h
def cc.snoc (h:Jep ls)(k:LkOk ts gs ls l):Jep (ls++[l]):=λi m a=>by
 let b:=(gEq a).1;rw[lAq]at b;let b:i<ls.length+1:=b;by_cases c:i<JiW
 .rw[List.getElem?_append_left c]at a;rwa[List.take_append_of_le_length (by lia)]at h i m a
 .let e:i=ls.length:=Nat.le_antisymm (Nat.le_of_lt_succ ‹_›) (Nat.le_of_not_lt ‹_›)
  subst e;erw[List.getElem?_append_right (nRq _),Nat.sub_self]at a;rwa[XL _,List.take_length]at k
def cc.inn (h:Jep ls):InN ts.length ls:=λl d=>by let(i,c):=List.mem_iff_getElem?.mp d;exact((h i l c).a,(h i l c).b)
def cc.his (h:Jep ls):∀n,n<=ls.length->∃xs:List Int,Xp n/\xs.Nodup/\∀x∈xs,(0<=x/\x<(ts.length:Int))/\Jng n x≠x:=by
 intro n
 induction n with
 |zero=>exact λy=>Ml [] Jn4 (λx c=>nomatch c)
 |succ n o=>
  intro s;let(xs,j,i,e):=o Jn;obtain⟨l,f⟩:∃l,ls[n]?=some l:=Jbm Jn;let k:=h n l f;let d:=xy h.inn n Jn;let q:=lohi (Jng n l.1) (Jng n l.2.1);let la:=d.in' k.a;let r:=d.in' k.b;let g:=d.hi_id l.1 l.2.1;let p:=k.new;apply(hiF _ _::xs,by rw[List.length_cons,j],M8 (λz=>(e _ z).2 g) i,λx c=>?_);rw[a_ f,ik];rcases List.mem_cons.mp c with rfl|c
  .apply Qm (lqL (P:=λx=>0<=x/\x<Xk) q.2 la r);unfold mrg;rw[if_pos g];exact q.2.elim (λz e=>p (z.1.symm.trans (e.trans z.2))) λz e=>p (z.2.symm.trans (e.symm.trans z.1))
  .apply Qm ((e x c).1);have:=(e x c).2;have:=d.le x;unfold mrg;split<;>omega
def cc.len (h:Jep ls):WN ls.length:=by let(xs,c,b,a):=h.his JiW Yd;rw[<-c];exact ip _ b λx d=>(a x d).1
def gR (ts:List Tm)(c:GV Int):Prop:=∀(a b:Nat) t u,ts[a]?=some t->ts[b]?=some u->t.1=u.1->t.2.map c=u.2.map c->c (a:Int)=c (b:Int)
def gS (b:Mm Int)(a:GV Int):Prop:=∀p∈b,a p.1=a p.2
def gS.more (h:JbG gs ls)(a):JbG gs (ls++a):=λp b=>oG a (h p b)
def xP (N:Nat)(a:Mm Int):Prop:=∀p∈a,(0<=p.1/\p.1<(N:Int))/\0<=p.2/\p.2<(N:Int)
noncomputable def zc2 (t:Tm)(a:GV Int):Sgn:=(t.1,(t.2.map a).map Sum.inl,)
def C8 (b:t.1=u.1)(a:t.2.map hd=u.2.map hd):zc2 t hd=zc2 u hd:=by unfold zc2;rw[b,a]
theorem xQ:∀{c bs:List Int},Jpy (Sum.inl:GV Key) Sum.inl->c=bs
 |[],[],_=>rfl
 |[],b::bs,h=>by cases h
 |a::c,[],h=>by cases h
 |a::c,b::bs,h=>by rw[List.map_cons,List.map_cons]at h;injection h with d e;injection d with d;rw[d,xQ e]
def oP (ts:List Tm)(a:GV Int)(i:Nat)(kvs:List SE):Prop:=∀e∈kvs,∃(j:Nat) (t:Tm) (es:List Int),JdP e.2.2 (j:Int)/\j<i/\ts[j]?=some t/\e.1=(t.1,es.map Sum.inl,)/\es.map a=t.2.map a
theorem xR (c):∀{d bs:List Int},Jpx (d.map (hdL ls)) (hdL ls)->Jpx (d.map (hdL (ls++c))) (hdL (ls++c))
 |[],[],_=>rfl
 |[],b::bs,h=>by cases h
 |a::d,[],h=>by cases h
 |a::d,b::bs,h=>by rw[List.map_cons,List.map_cons]at h⊢;injection h with f e;rw[oG c f,xR c e]
def oP.more (h:oP ts (hdL ls) i kvs)(a)(b:i<=j):oP ts (hdL (ls++a)) j kvs:=λe c=>by let(k,t,es,l,n,g,f,d):=h e c;exact(k,t,es,l,Jn,g,f,xR a d)
def C9 (h:JjQ k e):e∈kvs/\e.1=k:=(List.mem_of_find?_eq_some h,by have:=List.find?_some h;exact oDq this)
def C_ {kvs:List SE}{k k2:Sgn}{e e2:SE}(h:JjQ k e):atS (kvs++[e2]) k=some e:=by unfold atS at h⊢;rw[List.find?_append,h];rfl
def Dc (h:JpW k):atS (kvs++[(k,p,v,)]) k=some (k,p,v,):=by unfold atS at h⊢;rw[List.find?_append,h,List.find?_cons_of_pos (by exact dTq rfl)];rfl
def GO.ktG (G:Jhg C)(s:Jck H'):JgF H':=λc xs h=>by
 let(dx,kl,kg,e,d,a,_):=G.ex;rcases h with h|⟨o,h⟩
 .exact .inl Jsi
 .exact Jl o Jsi
def GO.seqG (G:Jhg C)(s:Jck H')(h:XR a):Uv H' a:=by
 let(dx,kl,kg,e,d,c,_):=G.ex;rcases h with h|h
 .rcases h with h | ⟨o,h⟩
  .exact Jca Jsh
  .exact JjK o Jsh
 .exact .inr h
def GO.lstG (G:Jhg C)(s:Jck H')(h:VT a):H' a=some (.lst xs):=by let(dx,kl,kg,e,d,c,_):=G.ex;exact s _ _ Jqy (Qe h c) h
def bU.grow (s:Jck H')(n:Nf l):Jck (upd H' l o):=λb u c a h=>by rwa[NP h n]at s b u c a h
def GO.putL (G:Jhg C)(a:l∈av)(h:VT l):Jhf (Jm l o) C:=by let(dx,kl,kg,e,d,c,_):=id G.ex;exact G.put (.inl a) (Qe h e) Jqy (Qe h c)
def rO {K:W.Frag}{H:Hp}{ts:List We}{xs:List V}{i:Nat}{x:V}(h:VZ dP)(e:xs[i]?=some x):∃t p,ts[i]?=some t/\GN p/\SqT K H p (Xw t.1 t.2):=hU h e
def bj.sd (h:JiJ P w H d):JgF (Jm d o):=λb xs q=>by
 let a:b≠d:=λe=>by
  subst e;rcases h with ⟨h,_⟩|h
  .rcases q with q | ⟨u,q⟩
   .erw[h]at q
   .erw[h]at q
  .rcases q with q | ⟨u,q⟩
   .erw[h]at q
   .erw[h]at q
 rcases q with q|⟨u,q⟩
 .exact .inl (aq a<|>q)
 .exact Jl u (aq a<|>q)
def SD.nol (h:JiJ P w H d)(xs):H d≠some (.lst xs):=λe=>by
 rcases h with ⟨h,_⟩|h
 .erw[h]at e
 .erw[h]at e
def SD.noi (h:JiJ P w H d){C dx:Addr}{a:List (Jiv V)}(e:Jc0 d a):False:=by
 rcases h with ⟨h,_⟩|h
 .erw[h]at e
 .erw[h]at e
def SD.to (h:JiJ P w H d)(k:∀o,Jik d o d o):JiJ P w H' d:=h.imp (λz=>(k _ z.1,z.2)) λz=>k _ z
def gQ.keep (h:gQ K H k p)(a:JgF H'):gQ K H' k p:=by let(q,c,b):=h;exact(q,a.sq c,a.sq b)
def rP (ts:List Tm)(a:GV Int)(i:Nat)(kvs:List SE):Prop:=∀j t,j<i->ts[j]?=some t->∃e k,JjQ (zc2 t a) e/\JdP e.2.2 k/\a k=a (j:Int)
def rP.closed (h:rP ts hd ts.length kvs):gR ts hd:=λa b t u f d p o=>by let(e,k,c,i,g):=h a t (gEq f).1 f;let(r,q,n,l,j):=h b u (gEq d).1 d;rw[C8 p o]at c;lia
def kX (st:Je5 Lk Nat)(p:WC Int):Je5 Lk Nat:=(if hdL st.1 p.1=hdL st.1 p.2 then st.1 else st.1++[(p.1,p.2,(st.2:Int),)],st.2+1,)
def gvF (a:Mm Int):List Lk:=(a.foldl kX ([],0,)).1
def jP (ls:List Lk)(st:Je5 Lk (Mm Sgn×Nat))(t:Tm):Je5 Lk (Mm Sgn×Nat) :=
 match st.2.1.find? λe=>decide (e.1=QH t (ls++st.1)) with
 |some e=>if hdL (ls++st.1) e.2=hdL (ls++st.1) (st.2.2:Int) then(st.1,st.2.1,st.2.2+1,) else(st.1++[(e.2,(st.2.2:Int),-1,)],st.2.1,st.2.2+1,)
 |none=>(st.1,st.2.1++[(QH t (ls++st.1),(st.2.2:Int),)],st.2.2+1,)
def alF (ts:List Tm)(ls:List Lk):List Lk:=(ts.foldl (jP ls) ([],[],0,)).1
def lkF (ts:List Tm):Nat->Je2 Lk (List Lk)
 |0,a=>a
 |n+1,a=>if JkM a=[] then a else lkF ts n (a++JkM a)
def d_ (ts:List Tm)(a:Mm Int):List Lk:=lkF ts (ts.length+1) (gvF a)
def NtR (kvs:List SE)(a:Mm Sgn):Prop:=kvs.map (λe=>(e.1,e.2.2,))=a.map λx=>(x.1,V.int x.2,)
theorem NtR.at:∀{kvs:List SE} {a:List (Sgn×Int)},NtR kvs a->(∃e x,JjQ k e/\a.find? (λe=>decide (e.1=k))=some x/\JdP e.2.2 x.2)\/(JpW k/\a.find? (λe=>decide (e.1=k))=none)
 |[],[],_=>Je9 rfl
 |[],x::a,h=>by cases h
 |e::kvs,[],h=>by cases h
 | e :: kvs,x :: a,h=>by
  unfold NtR at h;rw[List.map_cons,List.map_cons]at h;injection h with g f;injection g with b d;by_cases c:e.1=k
  .apply .inl (e,x,9,d)
   .unfold atS;rw[List.find?_cons_of_pos (by exact dTq c)]
   .rw[List.find?_cons_of_pos (by exact dTq (b▸c))]
  .let i:atS (e :: kvs) k=atS kvs k:=by unfold atS;rw[List.find?_cons_of_neg (by simpa using c)]
   rwa[i,List.find?_cons_of_neg (by lia)]at NtR.at f
def NtR.snoc (h:NtR kvs nt):NtR (kvs++[(k,p,.int i,)]) (nt++[(k,i,)]):=by unfold NtR at h⊢;rw[mAq,mAq,h];rfl
def nwH (h:Nf a)(o):∃H',JhD o=H'/\Xd H/\H' a=some o:=JoQ (aW h o) ao
def nwC{P:Hp->Prop}(h:Nf a)(o)(k:∀H',QF (Uk a o->P H')):P (JhD o):=k _ (aW h o) ao
inductive Ex2 {α₁ α₂:Type}(p:α₁->α₂->Prop):Prop|m (a:α₁) (b:α₂):p a b->Ex2 p
inductive Ex3 {α₁ α₂ α₃:Type}(p:α₁->α₂->α₃->Prop):Prop|m (a:α₁) (b:α₂) (c:α₃):p a b c->Ex3 p
inductive Ex4 {α₁ α₂ α₃ α₄:Type}(p:α₁->α₂->α₃->α₄->Prop):Prop|m (a:α₁) (b:α₂) (c:α₃) (d:α₄):p a b c d->Ex4 p
inductive Ex5 {α₁ α₂ α₃ α₄ α₅:Type}(p:α₁->α₂->α₃->α₄->α₅->Prop):Prop|m (a:α₁) (b:α₂) (c:α₃) (d:α₄) (e:α₅):p a b c d e->Ex5 p
inductive Ex6 {α₁ α₂ α₃ α₄ α₅ α₆:Type}(p:α₁->α₂->α₃->α₄->α₅->α₆->Prop):Prop|m (a:α₁) (b:α₂) (c:α₃) (d:α₄) (e:α₅) (f:α₆):p a b c d e f->Ex6 p
inductive Ex7 {α₁ α₂ α₃ α₄ α₅ α₆ α₇:Type}(p:α₁->α₂->α₃->α₄->α₅->α₆->α₇->Prop):Prop|m (a:α₁) (b:α₂) (c:α₃) (d:α₄) (e:α₅) (f:α₆) (g:α₇):p a b c d e f g->Ex7 p
inductive An3 (a b c:Prop):Prop|m:a->b->c->An3 a b c
inductive An4 (a b c d:Prop):Prop|m:a->b->c->d->An4 a b c d
inductive An5 (a b c d e:Prop):Prop|m:a->b->c->d->e->An5 a b c d e
inductive An6 (a b c d e f:Prop):Prop|m:a->b->c->d->e->f->An6 a b c d e f
inductive An7 (a b c d e f g:Prop):Prop|m:a->b->c->d->e->f->g->An7 a b c d e f g
inductive An8 (a b c d e f g h:Prop):Prop|m:a->b->c->d->e->f->g->h->An8 a b c d e f g h
inductive An11 (a b c d e f g h i j k:Prop):Prop|m:a->b->c->d->e->f->g->h->i->j->k->An11 a b c d e f g h i j k
theorem ar.take:∀{a:List Dt} {vs:List V} (n:Nat),Vt a vs->Vt (a.take n) (vs.take n)
 |_,_,0,_=>ar.nil
 |[],vs,n+1,h=>by let e:=ar.length h;let f:=List.length_eq_zero_iff.mp Jkm;subst f;rfl
 |d::a,vs,n+1,h=>by let(v,r,e,c,b):=h;cases e;rwa[List.take_succ_cons,List.take_succ_cons]at ar.cons c (ar.take n b)
def kY (x y):decide (Jou x y)=decide (x=y):=JbR (λz=>by injection z) (λz=>by rw[z])
noncomputable def hdsG (a:GV Int)(n:Nat):List Int:=(List.range n).map λi:Nat=>a (i:Int)
def xS (a){n:Nat}{k:Int}(h0:0<=k)(b:k<(n:Int)):atI ((hdsG a n).map V.int) k=some (.int (a k)):=CI (ls:=[]) a h0 b
end L2
namespace L2
open PySem PySem.Spec PyProof.Rows
def TuI (h:Heap)(it t:Addr)(i:Nat)(xs:Array Value):Prop:=h.IsTupleIter it t i/\h.IsTuple t xs
def TuI.ext (x:TuI h it t i xs)(hs:Heap.ExtBut b h h')(c:it≠b)(a:t≠b):TuI h' it t i xs:=(x.1.extBut hs c,x.2.extBut hs a)
abbrev zpT1 (h:Heap)(l1:Addr):Heap:=h.push { cls:=.type "tuple_iterator",data:=.fields #[.ref l1,JkK 0] }
abbrev zpT2 (h:Heap)(l1 l2:Addr):Heap:=(zpT1 h l1).push { cls:=.type "tuple_iterator",data:=.fields #[.ref l2,JkK 0] }
abbrev zpT3 (h:Heap)(l1 l2:Addr):Heap:=(zpT2 h l1 l2).push { cls:=.type "tuple",data:=.seq #[.ref JqU,.ref (zpT1 h l1).objs.size] }
abbrev zpT4 (h:Heap)(l1 l2:Addr):Heap:=(zpT3 h l1 l2).push { cls:=.type "tuple",data:=.seq #[.none,.none] }
abbrev jd (h:Heap)(l1 l2:Addr):Heap:=(zpT4 h l1 l2).push { cls:=.type "zip",data:=.fields #[.none,.bool false,.bool false,.ref (zpT2 h l1 l2).objs.size,.ref (zpT3 h l1 l2).objs.size] }
def Dd (l1 l2)(xs ys):
  Meets (Builtin.«zip.__new__» (WY (IU (.type "zip") l1 l2))) (λx R s=>JbS xs/\JbT ys/\JpQ (.ref (zpT4 s.heap l1 l2).objs.size) { s with heap:=jd s.heap l1 l2 }) :=
 .of_wp λprog w A R s h=>by
  let(j,g,d,tk,f):=s;let(b,a,h):=h;let i:=sub_zip;let e:=b;let c:Heap.IsTuple (Shared.heap (j.push { cls:=.type "tuple_iterator",data:=.fields #[.ref l1,JkK 0] },g,d,tk,f)) l2 ys:=Heap.IsTuple.push a _
  wp_walk using wpAny_pyIter_tuple e,wpAny_pyIter_tuple c
  exact QD h
def Df (j:JbS xs)(i:JbT ys)
  (h:∀h',IsZip h' (Yg 4) (Yg 2) (Yg 3) .none→IsPair h' (Yg 2) (.ref s.heap.objs.size) (.ref Jh3) →
   IsPair h' (Yg 3) .none .none->h'.IsTupleIter s.heap.objs.size l1 0->h'.IsTupleIter Jh3 l2 0->h'.objs.size=Yg 5 -> (∀c o,s.heap.get? c=some o->h'.get? c=some o)->Mc (Yg 4) { s with heap:=h' }):
  wpAny (Yi w) A (JhT "zip" (Iw l1 l2)) Q E s:=by
 apply callType_new F.called_zip Jp (F.typeCall_zip_2 _ _) (F.newCall_zip_2 _ _) (λg=>F.args_object_init_3 g _ _) F.entry_zip_new (Dd l1 l2 xs ys) (Gc j i);let f:(zpT1 Yq l1).objs.size=Yg 1:=Heap.size_push ..;let d:(zpT2 Yq l1 l2).objs.size=Yg 2:=by rw[Heap.size_push,f]
 let b:(zpT3 Yq l1 l2).objs.size=Yg 3:=by rw[Heap.size_push,d]
 let a:(zpT4 Yq l1 l2).objs.size=Yg 4:=by rw[Heap.size_push,b]
 let q:(Jn1 l2).objs.size=Yg 5:=by rw[Heap.size_push,a]
 let k:(Jn1 l2).get? (zpT4 Yq l1 l2).objs.size=some _:=Heap.get?_push_size _ rfl;let l:(Jn1 l2).get? (zpT3 Yq l1 l2).objs.size=some _:=UD VN;let n:(Jn1 l2).get? (zpT2 Yq l1 l2).objs.size=some _:=Jde VN;let p:(Jn1 l2).get? (zpT1 Yq l1).objs.size=some _:=UD (Jde VN);let t:(Jn1 l2).get? V0=some _:=Jde (Jde VN);let r:∀c o,s.heap.get? c=some o->(Jn1 l2).get? c=some o:=λc o e=>UD (Jde (Jde e));show _/\_;rw[d,b,a]at k;rw[f,d]at n;rw[b]at l;rw[f]at p;rwa[a]at(Ji6 k,h _ k n l (Jgt t) (Jgt p) q r)
def rQ (K)(c:X.K=K)(a:JfE e)(b:JjM e f e=Jc e):Yp (JbM e pos) (tFld K ta f):=by subst c;exact aV a b
def oQ:Ys X "sorted" (λxs H Q=>∃p ns,xs=Vj p/\JmN p (ns.map V.int)/\ns.length<64/\∀l (a:List Int),Ms l (a.Perm ns->IA (a.Pairwise (·<=·)) l (N8 l (a.map V.int)))):=by intro g s A H xs us Q I r h;let(p,ns,rfl,k,x,q):=h;let(u,rfl,j):=eX r;cases j;let(d,f,pl,hz):=I.list k;let n:=qv f;let c:=f.length;rw[lM]at c;apply sorted_ints Gj n (by simp_all) λout a z i y=>?_;let(e,t):=sortedAll_at Yq d out;let ml:=i.length_eq;exact Wv _ _ (I.laid (t':=s.toks) (λb o v=>sortedAll_old v) JeF (show JpR _ _ _ (a.map VG) from(MW Q9,out.toList,e,qA z,t))) (q _ a (I.hok.fresh JeF) i y)
abbrev iM (h:Heap)(z TI TO:Addr)(m:Value)(f:Bool):Prop :=
 h.get? z=some { cls:=.type "zip",dict:=none,data:=.fields #[m,.bool f,.bool false,.ref TI,.ref TO],slots:=#[] }
structure ZS (z T TO i1 i2 a b k:Nat)(h):Prop where
 d:ZipApart z T TO i1 i2 a b
 zz:∃m f,(m=.none\/∃n:Nat,m=rawInt n)/\iM h z T TO m f
 ti:IsPair h T (.ref i1) (.ref i2)
 to:∃u v,JiA h u v
 ia:h.IsTupleIter i1 a k
 ib:h.IsTupleIter i2 b k
def xT (h:Heap)(e:Addr):Prop:=∃o,h.get? e=some o/\o.cls=.type "StopIteration"
def ZKp (z TO b a:Nat)(h h':Heap):Prop:=∀c o,c≠z->c≠TO->c≠b->c≠a->h.get? c=some o->h'.get? c=some o
section
variable {prog:Program} {w:World} {A:Around} {E:Value->Shared->Prop} {s:Shared} {z T TO i1 i2 l1 l2 k:Nat} {xs ys:Array Value}
def alive_ (h:Q (s.heap.get? a) s):JnH (loadIfAlive a):=λx x x=>h
def oR (j:Mf NL)(h:TuI Yq it t i items)(n:∀x h',items[i]?=some x->h'.IsTupleIter it t (i+1)->JpH it->Q x { s with heap:=h' })
  (p:∀h' e,items[i]?=none->Heap.ExtBut it Yq h'->xT h' e->E (.ref e) { s with heap:=h' }):JnH (JE it):=by
 let(b,q,f,_,r,g):=h;let(o,d,l,c):=id b;unfold Builtin.SmallTypes.nextOf;apply wpAny_bind (wpAny_callSpecial?_slot (name:=Str.ofString "__next__") b.typeIs Jrl (Jag Jrl b.typeIs F.entry_tuple_iterator_next (F.args_tuple_iterator_next_1 _)));show JnP (JdV it 0>>=_);apply Mw d c (x:=.ref t) rfl ?_;show JnP (if Vi (Value.ref t==Value.none) then _ else _)
 rw[if_neg (show ¬(Vi (Value.ref t==Value.none)) from Bool.false_ne_true)];show JnP (JdV it 1>>=_);apply Mw d c (x:=JkK i) rfl ?_;show JnP (seqItems? (.ref t)>>=_);apply Gk f g ?_;cases hx:items[i]? with
 |some x=>
  simp only[Int.toNat_natCast,hx];apply wpAny_bind (wpAny_setField d c Js (X_ x (wpAny_pure (n _ _ hx ?_ (Heap.SameBut.update ..)))));exact(_,Heap.get?_update_self _ d (Obj.isFreed_of_fields (Obj.data_mapFields c _)),(Obj.cls_mapFields ..).trans l,by rw[Obj.data_mapFields c];rfl)
 |none=>
  simp only[Int.toNat_natCast,hx];apply Jib (wpAny_setField d c Js ?_);show JlX (newExc (.type "StopIteration") []>>=_);apply wpAny_bind ?_;simp only[newExc,newTuple];apply Jas ?_ (by size_fits);apply wpAny_bind (m:=firstArgMember _ _) (wpAny_of_eq (a:=Value.none) (by rfl) ?_)
  apply wpAny_newObj_type ?_ (by size_fits);unfold raiseNew;apply wpAny_bind (wpAny_handled ?_)
  first|rw[show Mf A.in1.handled from j]|rw[j]
  apply Gf (wpAny_throw ?_);exact p _ _ hx (((Heap.SameBut.update ..).extBut.push _).push _) (Ji6 VN)
def Dg {m:Value}{f:Bool}{Q:Bool→Shared→Prop}(hz:iM Yq z T TO m f)(d:m=.none∨∃n:Nat,m=rawInt n)(c:Q true s)
  (b:∀h',iM h' z T TO m true->JpH z->Q false { s with heap:=h' }):JnH (Builtin.SmallTypes.ownedTupleIsFree (.ref z)):=by
 unfold Builtin.SmallTypes.ownedTupleIsFree;rcases d with rfl|⟨n,rfl⟩
 .exact Mw hz rfl (x:=.none) rfl (wpAny_pure c)
 .apply Mw hz rfl (x:=rawInt n) rfl ?_;show JlX (loadIfAlive (Int.toNat (n:Int)) >>= _);apply wpAny_bind (alive_ ?_);cases s.heap.get? (Int.toNat (n:Int)) with
  |none=>exact wpAny_pure c
  | some o =>
   show JlX (JdV z 1>>=_);apply Mw hz rfl (x:=.bool f) rfl ?_;cases f with
   |true=>exact wpAny_pure (b _ hz (WO (λy y=>rfl)))
   |false=>
    show JlX (setField (.ref z) 1 (.bool true)>>=_);exact wpAny_bind (wpAny_setField_rec hz Js λh' a hs'=>wpAny_pure (b _ a hs'))
def Dh {Q:Value->Shared->Prop}(hh:Mf NL)(Z:ZS z T TO i1 i2 l1 l2 k Yq)(p1:JbS xs)(p2:JbT ys)(l:xs.size=ys.size)
  (hQ:∀x y h',xs[k]?=some x->ys[k]?=some y->ZS z T TO i1 i2 l1 l2 (k+1) h'->IsPair h' V0 x y->Jpm z TO i1 i2 h'->Mc V0 { s with heap:=h' })
  (hE:∀h' e,xs[k]?=none->Jpm z TO i1 i2 h'->xT h' e->E (.ref e) { s with heap:=h' }):
  wpAny Ud A (Builtin.«zip.__next__» (JoZ z)) (λfin s'=>∃v,fin=Jmr v/\Q v s') E s:=by
 let(D,(m,f,hm,hz),X,(a,b,hTO),h1,h2):=Z;let no:∀{x},xs[k]?=some x->ys[k]?=none->False:=λe1 e2=>by have:=(Array.getElem?_eq_some_iff.mp e1).1;have:=Array.getElem?_eq_none_iff.mp e2;lia
 let hTz:=D.TOz.symm;show JlX (JdV z 2>>=_);apply Mw hz rfl (x:=.bool false) rfl ?_;show JlX (JdV z 3>>=_);apply Mw hz rfl (x:=.ref T) rfl ?_;apply Gk X rfl ?_;show JlX (Builtin.SmallTypes.ownedTupleIsFree (.ref z)>>=_);apply wpAny_bind (Dg hz hm ?_ λO n h=>?_)
 .simp only[if_true];apply Mj ?_;apply Mw hz rfl (x:=.ref TO) rfl ?_;apply wpAny_bind (wpAny_setField_rec hz Js λO n h=>?_);replace n:iM O z T TO .ellipsis f:=n;apply wpAny_bind ?_;simp only[List.zipIdx_cons,List.zipIdx_nil,List.forIn_cons,List.forIn_nil];apply VC (wpAny_onRaise ?_);show JlX (JE i1 >>= _);apply wpAny_bind (oR hh (Jer (h1,p1) D.i1z D.l1z) (λx u N H d=>wpAny_pure ?_) λu e N d he=>?_)
  .let J:JiA u a b:=d.extBut _ _ D.TOi1 (Jka _ D.TOz hTO);apply Gk J rfl ?_;apply wpAny_bind (wpAny_updateSeq_pair J λj B g=>?_);replace B:JiA j x b:=B;apply Jig ?_;apply VC (wpAny_onRaise ?_);show JlX (JE i2 >>= _);apply wpAny_bind (oR hh (((Jer (h2,p2) D.i2z D.l2z).ext d.extBut D.i12.symm D.l2i1).ext g.extBut D.TOi2.symm D.l2TO) (λy h₄ R Y r=>wpAny_pure ?_) λV V R V V=>(no N R).elim);let I:JiA h₄ x b:=r.extBut _ _ D.TOi2 B;apply Gk I rfl ?_;apply wpAny_bind (wpAny_updateSeq_pair I λi p q=>?_);replace p:JiA i x y:=p;apply QA (Jt ?_);apply Gk p rfl ?_;apply wpAny_bind (wpAny_newTuple ?_);let hsz:Jd1 i.objs.size:=by rw[q.1,r.1,g.1,d.1,h.1]
   let K:iM i z T TO .ellipsis f:=q.extBut _ _ hTz (r.extBut _ _ D.i2z.symm (JdW _ _ hTz _ _ D.i1z.symm n));let hzlt:z<i.objs.size:=hLq K;show JlX (Builtin.SmallTypes.ownedTupleHandOut (.ref z) (.ref Jnd)>>=_);apply wpAny_bind ?_;unfold Builtin.SmallTypes.ownedTupleHandOut;let P:iM (i.push { cls:=.type "tuple",data:=.seq #[x,y] }) z T TO .ellipsis f:=UD K;apply wpAny_bind (wpAny_setField_rec P Js λh₇ G U=>?_);replace G:iM h₇ z T TO (rawInt Jnd) f:=G;apply wpAny_setField_rec G Js λt F S=>wpAny_pure (Ym rfl);replace F:iM t z T TO (rawInt Jnd) false:=F;let up':∀(c:Nat) o,c≠z->(i.push { cls:=.type "tuple",data:=.seq #[x,y] }).get? c=some o->t.get? c=some o:=λc o C e=>S.extBut _ _ C (U.extBut _ _ C e);let up:∀(c:Nat) o,c≠z->i.get? c=some o->t.get? c=some o:=λc o C e=>up' c o C (UD e);let kk:Jpm z TO i1 i2 t:=λc o C c2 c3 c4 e=>up c o C (q.extBut _ _ c2 (r.extBut _ _ c4 (JdW _ _ c2 _ _ c3 (Jka _ C e))));let M:IsPair t Jnd x y:=up' _ _ (Nat.ne_of_gt hzlt) VN;show Mc Jnd _;rw[hsz]at M⊢;exact hQ x y t N R (D,(5,Je9 _,F),kk _ _ D.TIz D.TITO D.TIi1 D.TIi2 X,Q5 _ (up _ _ D.TOz p),(((H.extBut g.extBut D.TOi1.symm).extBut r.extBut D.i12).extBut q.extBut D.TOi1.symm).at λo e=>up _ o D.i1z e,(Y.extBut q.extBut D.TOi2.symm).at λo e=>up _ o D.i2z e) M kk
  .let(oe,W,hce):=he;let L:iM u z T TO .ellipsis f:=d _ _ D.i1z.symm n;let hez:e≠z:=λx=>Jn
   exact wpAny_setField_rec L Js λj V g=>hE j e N (λc o C V c3 V x=>g.extBut _ _ C (d _ _ c3 (Jka _ C x))) (oe,g.extBut _ _ hez W,hce)
 .simp only[Bool.false_eq_true,if_false];apply wpAny_bind ?_;simp only[List.forIn_toArray,List.forIn_cons,List.forIn_nil];apply wpAny_bind (Xl ?_);show JlX (JE i1 >>= _);apply wpAny_bind (oR hh (Jer (h1,p1) D.i1z D.l1z) (λx u N H d=>Jt ?_) λu e N d he=>hE u e N (λc o C V c3 V x=>d _ _ c3 (Jka _ C x)) he);apply wpAny_bind (Xl ?_);show JlX (JE i2 >>= _);apply wpAny_bind (oR hh ((Jer (h2,p2) D.i2z D.l2z).ext d.extBut D.i12.symm D.l2i1) (λy j R h2₃ g=>wpAny_pure (Jt ?_)) λV V R V V=>(no N R).elim);show JlX (newTuple [x,y] >>= _);apply wpAny_bind (wpAny_newTuple (wpAny_pure (Ym rfl)));let hsz:Jd1 j.objs.size:=by rw[g.1,d.1,h.1]
  let kk:∀(c:Nat) o,c≠z->c≠i1->c≠i2->s.heap.get? c=some o->(j.push { cls:=.type "tuple",data:=.seq #[x,y] }).get? c=some o:=λc o C c3 c4 e=>UD (JdW _ _ c4 _ _ c3 (Jka _ C e));let hT:IsPair (j.push { cls:=.type "tuple",data:=.seq #[x,y] }) j.objs.size x y:=Heap.get?_push_size _ rfl;show Mc j.objs.size _;rw[hsz]at hT⊢;exact hQ x y _ N R (D,(5,hm,UD (JdW _ _ D.i2z.symm _ _ D.i1z.symm n)),kk _ _ D.TIz D.TIi1 D.TIi2 X,Q5 _ (kk _ _ D.TOz D.TOi1 D.TOi2 hTO),(H.extBut g.extBut D.i12).at λo e=>UD e,h2₃.at λo e=>UD e) hT λc o C V=>kk c o C
def xU (i:Mf NL)(Z:ZS z T TO i1 i2 l1 l2 k Yq)(d:JbS xs)(c:JbT ys)(l:xs.size=ys.size)
  (p:∀x y h',xs[k]?=some x->ys[k]?=some y->ZS z T TO i1 i2 l1 l2 (k+1) h'->IsPair h' V0 x y->Jpm z TO i1 i2 h'->Q (Ja V0) { s with heap:=h' })
  (q:∀h',xs[k]?=none->Jpm z TO i1 i2 h'->Q none { s with heap:=h' }):JnH (V5 z):=by
 let a:XQ z "zip":=by let(_,_,_,e):=Z.zz;exact Ji6 e
 unfold pyNext;apply JaZ (wpAny_callSpecial?_slot (name:=Str.ofString "__next__") a F.slot_zip_next (wpAny_call_entry F.slot_zip_next a F.entry_zip_next (Dh i Z d c l (λx y h' B v u t r=>wpAny_pure (p x y h' B v u t r)) λh' e f h j=>?_) (F.args_zip_next_1 _)))
 let(o,g,n):=j;apply wpAny_bind (wpAny_isInstance (T:="StopIteration") (b:=true) (Jmh g n) isSubtype_stop ?_);exact wpAny_pure (q _ f h)
def xV {Q:Value->Shared->Prop}(Z:ZS z T TO i1 i2 l1 l2 k Yq)(h:Mc z s):JnH (Je6 z):=by
 let a:XQ z "zip":=by let(_,_,_,e):=Z.zz;exact Ji6 e
 apply wpAny_pyIter_slot a F.slot_zip_iter (Jag F.slot_zip_iter a F.entry_zip_iter (F.args_zip_iter_1 _));show JnP (ret (.ref z));exact wpAny_pure (2,"zip",_,a,F.slot_zip_next.lookup,h)
end
def ItzN (K:W.Frag)(a b:Addr):It :=
 (λi H=>∃xs ys x y,UR a∧Jny b∧Xp JcW∧xs[i]?=some x∧ys[i]?=some y,λi H x H'=>∃p y z,GN p∧Nf p∧H'=Gb H p [y,z]∧(∀xs,UR a→xs[i]?=some y)∧∀ys,Jny b→ys[i]?=some z,
  λi H=>∃xs ys,UR a/\Jny b/\Xp JcW/\Jam i)
def xW {K:W.Frag}{a b:Addr}{xs ys:List V}(h:Xp JcW):JbO Jst (λH=>UR a/\Jny b) :=
 (λx x q c=>(xs,ys,q.1,q.2,h,c),λi x q c=>(xs,ys,xs[i],ys[i]' Jn,q.1,q.2,h,by simp [c],by simp))
def ZS.obj {z T TO g e a b k:Nat}{h:Heap}:ZS z T TO g e a b k h->∀c∈[z,T,TO,g,e],∃o,h.get? c=some o/\∀v,o.data≠.cell v:=λh_ c i=>by
 let(_,(m,f,y,t),s,(u,v,r),(l,p,B,x),j,n,A,w):=h_
 simp only[List.mem_cons,List.not_mem_nil,or_false]at i;rcases i with rfl|rfl|rfl|rfl|rfl
 .exact Q5 t (λv q=>by let d:=q;cases d)
 .exact Q5 s (λv q=>by let d:=q;cases d)
 .exact Q5 r (λv q=>by let d:=q;cases d)
 .exact(l,p,λv q=>by erw[x]at q)
 .exact(j,n,λv q=>by erw[w]at q)
def xX {P:Program}{w:World}{K:W.Frag}{nm:String}{pos:Pos}(a b z T TO L J:Addr):gc P w K Jr7 Jst [z,T,TO,L,J] z (ZS z T TO L J a b) where
 mem:=by simp
 obj:=λV V Z=>Z.obj
 keep:=λi h h' h_ k=>by
  let(D,(m,f,hm,h1),h2,(u,v,h3),h4,h5):=h_;exact(D,(m,f,hm,Uw z _ h1),Uw T _ h2,(u,v,Uw TO _ h3),h4.at λo q=>Uw L o q,h5.at λo q=>Uw J o q)
 item:=by
  intro X U O Y d i t s σ H E I C st S;subst U O Y;let(xs,ys,x,y,B,l,hl,N,hy):=S;let(n,A,p,hz):=I.tuple B;let(g,j,G,M):=I.tuple l;let(u,hu,ru):=A.get N;let(v,hv,F):=j.get hy;let R:=A.length;let Q:=j.length;apply xU (I.ok.hd d) st (show V1 n.toArray from p) (show s.heap.IsTuple b JoT from G) Vl (λu' v' h' eu ev Z' gT gk=>?_) λh' e=>by erw[List.getElem?_toArray,hu]at e
  cases (List.getElem?_toArray.symm.trans eu).symm.trans hu;cases (List.getElem?_toArray.symm.trans ev).symm.trans hv;apply Jih (W8 (.ref V0) _ (I.turnedLaid (o:=Wl x y) (t':=s.toks) C (λc o d q=>gk c o Xo Xo Xo Xo q) Yd
   (MW (show Jr 2 by decide),[u,v],MG ru F,_,gT,rfl,2)) (JS _ x y I.fresh rfl (λzs r=>by rwa[I.tuple_inj r B]at N) (λzs r=>by rwa[I.tuple_inj r l]at hy)) Z' (λc d=>(aq λz=>?_).trans (C c d).1))
  let(_,e,_):=st.obj c d;exact JhS e (z▸Nat.lt_irrefl _)
 done:=by intro X U O Y d i t s σ H E I C st S;subst U O Y;let(xs,ys,B,l,hl,N):=S;let(n,A,p,hz):=I.tuple B;let(g,j,G,M):=I.tuple l;let R:=A.length;let Q:=j.length;exact xU (I.ok.hd d) st (show V1 n.toArray from p) (show s.heap.IsTuple b JoT from G) Vl (λu' v' h' eu=>by have:=(Array.getElem?_eq_some_iff.mp eu).1;rw[sAq]at this;simp_all) λh' V gk=>WO (I.turnedN (t':=s.toks) C λc o d q=>gk c o Xo Xo Xo Xo q)
 self:=λV V V V V Z h=>xV Z h
def iZipN (K:W.Frag)(e:TA):L2.TI:=λd H R=>e d H λvs c=>∃a b xs ys,vs=Iw a b/\Yf c a xs/\Yf c b ys/\R Jst c
def tZipN (X:Cx)(d:Jcr Obj)(h:St)(v:Value)(R:Addr->Addr->List V->List V->Hp->Prop)(e:Shared):Prop :=
 ∃z T TO g f a b xs ys H,Nk v z/\Z_ d h e/\ZS z T TO g f a b 0 e.heap/\(∀c∈[z,T,TO,g,f],df X d H c)/\Jqa xs/\JmL b ys/\R a b xs ys H
def xY (L:Jit "zip")(J:UG "zip")(M:PA X [a,b] ta)(hs:Ib [a,b]=[(false,Jc a,),(false,Jc b,)])(i:Ib [b]=[(false,Jc b,)])
  (I:Xm s)(h:ta σ H λvs n=>∃a b xs ys,vs=Iw a b/\Ja5 n a xs/\Ja5 n b ys/\R a b xs ys n):
  wpAny (Vg X.w) X.A (Jc (JfT [a,b])) (λv d=>tZipN X pins σ v R d) X.xe s:=by
 apply Jbi I L J boot_zip (thn (M pos pins s σ H _ I h) λus d h_=>?_) (by rw[hs,i]) (by rw[i];rfl);let(vs,n,l,C,q1):=h_;let(a,b,xs,ys,e,x,j,q):=q1;subst e;let(u,v,rfl,B,r):=C.two;cases B;cases r;let(t,T,pl,hz):=l.tuple x;let(g,z,f,F):=l.tuple j;let la:a<d.heap.objs.size:=by let(o,e,_):=pl;exact hLq e
 let D:b<d.heap.objs.size:=by let(o,e,_):=f;exact hLq e
 apply Df (show d.heap.IsTuple a t.toArray from pl) (show d.heap.IsTuple b JoT from f) λh' S Q P O N G E=>?_;apply(_,8,8,xs,ys,n,rfl,l.kept (t':=d.toks) E,(zipApart_new la D,(5,.inl rfl,S),Q,Q5 _ P,O,N),λc y=>?_,x,j,q);let k:d.heap.objs.size<=c:=by simp only[List.mem_cons,List.not_mem_nil,or_false]at y;lia
 exact l.fpOk k (l.hok.fresh k)
def Di {X:Cx}{nm:String}{g:Pos}{a b:Expr}{d:TA}{p pos:Pos}(j:Jit "zip")(i:UG "zip")(l:PA X [a,b] d)(hs:Ib [a,b]=[(false,Jc a,),(false,Jc b,)]:=by rfl)(c:Ib [b]=[(false,Jc b,)]:=by rfl):PI X (JlC g) (JfT [a,b]) (iZipN Gh d):=λf s r H R I h=>
 thn (xY (R:=λa b x x=>R (ItzN Gh a b)) j i l hs c I h) λx x h_=>by let(_,_,_,_,_,a,b,_,_,o,e,n,Z,k,_,_,q):=h_;exact e▸xV Z (JO _ _ _ (ItzN Gh a b) o n (xX a b _ _ _ _ _) Z k q)
section
variable {X:Cx} {pins:List GM} {σ:St} {H H1 H2:Hp} {s:Shared} {nm:String} {pos:Pos} {J:It} {fp:List Addr} {it l n:Nat} {tn:Nat->Heap->Prop} {a b:Addr} {xs ys:List V}
def Inv.ar (I:Xm s)(e:A.handled=X.A.handled)(d:A.frames=X.A.frames):Jf { X with A:=A } H s :=
 { I with ok:={ I.ok with hd:=λc=>e.trans (I.ok.hd c),frames:=d.trans JqW } }
def SqT.up {K:W.Frag}(h:UR a)(d:∀c o,QG c o (Jkj c o)):Yf H1 a xs:=h.imp (λr=>r.imp (d _ _) λh_=>by let(o,e):=h_;exact (o,d _ _ e)) id
structure ExW (J:It)(l n:Nat)(W:Nat->Hp->List V->Prop):Prop where
 hl:∀k H xs,W k H xs->VT l/\Xp k
 go:∀k H xs,W k H xs->k<n->J.go k H
 yl:∀k H xs x H',W k H xs->k<n->Ja6 k H H'->Il l xs/\W (k+1) (Va H' l (xs++[x])) (xs++[x])
 fin:∀H xs,W n H xs->J.stop n H
def Dj (T:gc Uh X.w Gh Jr7 J fp it tn)(C:Vi Gy)(Z:Qd n)(G:ExW J l n W)(B:∀H,(∀b∈fp,Nf b)->∀b∈fp,Jff X H b):
  ∀(m k:Nat) (s:Shared) (H:Hp) (xs:List V),n-k=m->k<=n->Xm s->(∀b∈fp,Nf b)->Jfg k->W k H xs->(∀s' H' i,Ik H' s'->W n H' i->JpQ .none s')->
  codeAny Yz X.A (QK "list.extend.loop" [.ref l,.ref it,.none] []) R s:=by
 intro m
 induction m with
 |zero=>
  intro k s H xs Q O I f st w t;cases show k=n by lia
  apply Vr F.entry_extend_loop;rw[Iq F.plain_extend_loop];show NK X.A.in1 (V5 it>>=_) s;apply Jh0 (T.done { X with A:=X.A.in1 } rfl rfl rfl C _ pins s σ H _ (I.ar rfl rfl) (B H f) st (G.fin _ _ w)) ?_;rintro _ p ⟨rfl,S⟩;exact wpAny_pure (t p H xs (S.ar (A:=X.A) rfl rfl) w)
 |succ m P=>
  intro k s H xs Q O I f st w t;apply Vr F.entry_extend_loop;rw[Iq F.plain_extend_loop];show NK X.A.in1 (V5 it>>=_) s;apply Jh0 (T.item { X with A:=X.A.in1 } rfl rfl rfl C _ pins s σ H _ (I.ar rfl rfl) (B H f) st (G.go _ _ _ w JrE)) ?_;rintro _ p ⟨u,rfl,h⟩;show NK X.A.in1 (Jec Jr7 it u>>=λa=>updateSeq l (·.push u)>>=_) p;apply Jh0 h ?_;rintro _ M ⟨x,H',E,r,y,j,D⟩;let(g,L):=G.yl _ _ _ _ _ w JrE y;let(hh,Y):=G.hl _ _ _ w;let(_,q,c,N,U,e):=E.lstM g;let v:∀b∈fp,b≠l:=λb d z=>by erw[<-z,D b d]at g
  apply wpAny_bind (wpAny_updateSeq e rfl (JhE F.plain_extend_loop (P (k+1) _ _ (xs++[x]) (lqA Q) Jn (Inv.lset (t':=M.toks) (E.ar (A:=X.A) rfl rfl) g e (f:=(·.push u)) (its':=q++[u]) Js (N.append (JF r)) (by simp;exact Nat.le_trans (Y▸Nat.lt_of_sub_eq_succ Q) Z)) (λb d=>(aq (v b d)).trans (D b d)) (T.keep _ _ _ j λb d o e=>(Heap.get?_update_other _ _ (v b d).symm).trans e) L t)) (by rw[sAq];lia) (by rw[Array.size_push,sAq];lia))
def Dk (T:gc Uh X.w Gh Jr7 J fp it tn)(R:Vi Gy)(ty:∀s:Shared,Jfg 0->XQ it "zip")(I:Xm s)(st:Jfg 0)(D:∀b∈fp,Jff X H b)(P:Qd n)
  (G:ExW J V0 n W)(M:W 0 (GB H V0) [])(S:∀s' H' g,Ik H' s'->Jf1 (W n H' g) s'):UH (JhT "list" (Vj it)) Q s:=by
 let(o,Y,_):=T.obj 0 _ st it T.mem;let y:Jhy it:=Nat.ne_of_gt (hLq Y);let i:∀{h:Heap} (f:Array Value->Array Value),(∀c o,s.heap.get? c=some o->h.get? c=some o)->∀c o,s.heap.get? c=some o->(h.update V0 (Obj.mapSeq f)).get? c=some o:=λf k c o e=>(Heap.get?_update_other _ _ (Nat.ne_of_gt (hLq e))).trans (k c o e);let tk:∀{h:Heap},(∀c o,s.heap.get? c=some o->h.get? c=some o)->tn 0 h:=λk=>T.keep _ _ _ st λb m o e=>k b o e;let k0:∀c o,s.heap.get? c=some o->(s.heap.push { cls:=.type "list",data:=.seq #[] }).get? c=some o:=λc o e=>UD e;let v:(s.heap.push { cls:=.type "list",data:=.seq #[] }).get? V0=some { cls:=.type "list",data:=.seq #[] }:=Heap.get?_push_size _ rfl;apply callType_codes (Q₁:=λj d=>Nk j V0/\d={ s with heap:=s.heap.push { cls:=.type "list",data:=.seq #[] } }) PySem.F.called_list (PySem.F.typeCall_list_1 _) PySem.F.entry_list_init
  (code_list_new _ (Wf rfl)) λj d p=>?_
 let(rfl,rfl):=p;apply Gc (Ji6 v) (PySem.F.args_list_init_2 _ _);let k1:=i (λm=>#[]) k0;let k2:=i (·.push .none) k1;let k3:=i (·.pop) k2;let u:=Heap.get?_update_self (Obj.mapSeq λm=>(#[]:Array Value)) v rfl;let t:=Heap.get?_update_self (Obj.mapSeq (·.push Value.none)) u rfl;let C:=Heap.get?_update_self (Obj.mapSeq (·.pop)) t rfl;generalize L:s.heap.objs.size=N at *;generalize s.heap.push { cls:=.type "list",data:=.seq #[] }=h₀ at *;show JlX (do let x <-Builtin.List.listItems (.ref N);Builtin.List.listUpdate (.ref N) (λm=>#[]);letGo x.toList.reverse;Jac N (.ref it) .none)
 apply wpAny_bind ?_;unfold Builtin.List.listItems;apply Gk v rfl Ih;show JlX (Jpn (λm=>#[])>>=λm=>letGo (#[]:Array Value).toList.reverse>>=λm=>Jac N (.ref it) .none);apply WK v rfl (QA ?_);unfold Builtin.List.listExtendWith;let B:Shared.TypeIs { s with heap:=h₀.update N (Obj.mapSeq λm=>#[]) } (.ref it) "zip":=ty _ (tk k1);apply Uy B ?_;let U:Yw (Builtin.List.listSameRef (.ref N) (.ref it)):=by simp [Builtin.List.listSameRef,y]
 simp only[U,show Yw (Value.type "zip" == Value.type "list") from by rfl,show Yw (Value.type "zip" == Value.type "tuple") from by rfl,Bool.or_false,Bool.false_eq_true,if_false];apply wpAny_bind (T.self _ 0 _ _ _ (tk k1) ?_);let l1:XH "zip" "__len__"=pure none:=by rfl
 let l2:XH "zip" "__length_hint__"=pure none:=by rfl
 let q:∀{A:Around} {E:Value->Shared->Prop} {s:Shared} {Q:Bool->Shared->Prop},XQ it "zip"->Q true s->wpAny Yz A (Builtin.List.listLengthHint (.ref it)) Q E s:=λ{A E s Q} B h=>by
  unfold Builtin.List.listLengthHint
  repeat (any_goals (first|assumption|wp_step))
 apply Xl (q B ?_);apply wpAny_ite_split (λ_=>?_) (λz=>JC z);apply Jib ?_;show JlX (Jpn (·.push .none)>>=λm=>Jpn (·.pop));apply WK u rfl (wpAny_updateSeq (hz:=by seq_fits) t rfl (Jic (JB JrB)));let Z:=I.laid (o:=.lst []) (t':=s.toks) k3 (Nat.le_of_eq L) (Nat.zero_le _,[],_,.nil,C);exact Dj (X:={ X with A:=X.A.in1 }) T R P G (λm f b r=>(f b r,(D b r).2)) _ 0 _ _ [] rfl Zq (Z.ar rfl rfl) (λb r=>(aq (by let(o,e,_):=T.obj 0 _ st b r;exact Nat.ne_of_lt (L▸hLq e))).trans (D b r).1) (tk k3) M λs' H' g I' O=>WO (S s' H' g (I'.ar (A:=X.A) rfl rfl) O)
abbrev ZLst (K:W.Frag)(Q:V->Hp->Prop)(xs ys:List V)(H1:Hp):Prop:=Xp JcW/\∀H2 l (ps:List Addr),Mf (H1 l)->(∀c o,Jkj c o->Xa (H2 c) o)->Ia (H2 l) (ps.map V.ref)->
 (∀(j:Nat) x y,xs[j]?=some x->ys[j]?=some y->∃p,ps[j]?=some p/\Yf H2 p [x,y])->Jgc JrY->Mc l H2
def tLZip (K:W.Frag)(c:TA):TE:=λσ H Q=>c σ H λvs H1=>∃a b xs ys,vs=Iw a b/\Yf H1 a xs/\Yf H1 b ys/\ZLst K Q xs ys H1
def Dm {a b:Expr}{ta:TA}{p p2 pos i:Pos}(hc:Vi Gy)(hg:Jit "zip")(hm:UG "zip")(hg2:Jit "list")(Y:UG "list")(ha:PA X [a,b] ta)
  (hs:Ib [a,b]=[(false,Jc a,),(false,Jc b,)]:=by rfl)(U:Ib [b]=[(false,Jc b,)]:=by rfl)
  (L:Ib [JfT [a,b]]=[(false,Jc (JfT [a,b]),)]:=by rfl):
  PE X (Wj "list" p2 [JfT [a,b]] [] i) (tLZip Gh ta):=by
 intro pins s σ H Q I h;apply Jbi I hg2 Y PyProof.Rows.Boot.list ?_ L rfl;rw[L];show JnP (spliced ((false,Jc (JfT [a,b]),)::backTo i []));apply Calls.spliced_cons (thn (xY (R:=λm m=>ZLst Gh Q) hg hm ha hs U I h) λv D h_=>?_);let(z,T,TO,i1,i2,a,b,xs,ys,H1,e,I2,Z,hf,O,B,hl,q):=h_;subst e;apply Calls.spliced_nil ?_;let(its,rv,pl,hz):=I2.tuple O;let P:=I2.fresh;let(w1,w2):=xW (K:=Gh) (a:=a) (b:=b) hl;let f:∀{H:Hp} {p c:Nat} {o},Ms p (QG c o (c≠p)):=λn e z=>by erw[z,n]at e
 apply Dk (W:=λk H d=>Qr JqN d/\d.length=k/\(∀c o,Jkj c o->Ic c o)/\∃ps:List Addr,d=ps.map V.ref/\∀(j:Nat) x y,j<k->xs[j]?=some x->ys[j]?=some y->∃p,ps[j]?=some p/\JmL p [x,y])
  (xX (nm:="") (pos:=pos) a b _ _ _ _ _) hc (λs Z=>by let(_,_,_,e):=Z.zz;exact Ji6 e) I2 Z hf hz
  (λk H d w=>(w.1,w.2.1),λk H d h_ M=>by let(_,_,g,_):=h_;exact w2 k H (O.up g,B.up g) M,λk H d x H' h1_ M h2_=>?_,λH d h_=>by let(_,_,g,_):=h_;exact w1 _ H (O.up g,B.up g) Yd)
  (G0 ao (λc o e=>(aq (f P e)).trans e) [] (λj x y M=>(nomatch M))) λs' H' d I' h_=>?_
 .let(e,E,g,ps,e2,w):=h1_;let(p,y,z,e3,n,e4,gx,gy):=h2_;subst e2 e3 e4;let np:D.heap.objs.size≠p:=f n e;let F:∀ {c o},Ic c o→upd H p (Wl y z) c=some o:=λC=>(aq (f n C)).trans C;let A:∀ {u:HO} {c w},Ic c w→c≠D.heap.objs.size→upd (Gb H p [y,z]) JqN u c=some w:=λC n1=>(aq n1).trans (F C);apply(F e,ao,by rw[lAq,E];rfl,λc o C=>A (g c o C) (f P C),ps++[p],by rw[mAq];rfl,λj x' y' lj G N=>?_);rw[lM]at E;rcases Nat.lt_or_ge j k with S | ge
  .let(p',g1,g2):=w j x' y' S G N;let nt:∀{t o},QG t o ((∀xs,o≠.lst xs)->t≠JqN):=λr h q=>h _ (Option.some.inj (r.symm.trans (q▸e)));exact(p',by rwa[List.getElem?_append_left (place_lt g1)]at g1,g2.imp (λr=>r.imp (λr=>A r (nt r nofun)) λh_=>by let(o,r):=h_;exact (o,A r (nt r nofun))) id)
  .cases show j=k by lia
   cases (gx _ (O.up g)).symm.trans G;cases (gy _ (B.up g)).symm.trans N;exact(p,by rw[List.getElem?_append_right (by lia),E,Nat.sub_self];rfl,.of ((aq np.symm).trans ao))
 .let(e,E,g,ps,e2,w):=h_;subst e2;rw[lM]at E;exact Wv JqN H' I' (q H' _ ps P g e (λj x y G N=>w j x y (gEq G).1 G N) E)
end
def Dq {t b:Addr}{vs i:List Value}{Q:Value->Shared->Prop}(v:Jay t MQ)(x:Jay b i.toArray)(u:vs=[])(h:Mc b s):JnH (binaryOp .Add (.ref t) (.ref b)):=by
 let((y,dd,o,q),j,l,n,k):=id v;let((p,f,g,e),a,d,r,c):=id x;simp only at l k d c;subst l k d c;exact concat_meets (Ji6 j) (Ji6 a) noFill_tuple_add seq_tuple_add JkP Ji9 (Ja7 _)
   (tuple_addW0 t b MQ i.toArray n r dd f q e (by simp [u])) (j,a,h)
inductive rCatA (K):R2|m{x y H Q} a b xs ys:Jn0 (Nk y b->UR a->Jny b->Jp8 ys.length->(∀H' p,JmG (Yf H' p (xs++ys)) p)->rCatA K x y H Q)
def Ds:XJ X .Add (rCatA X.K):=by
 intro c s n H x y v u Q I i g h;let(a,b,xs,ys,l,k,f,e,hz,q):=h;by_cases d:xs=[]
 .subst l k;cases i;cases g;let(w,o,t,_):=I.tuple f;let(j,B,r,_):=I.tuple e;apply Dq t r (o.nil_iff.mpr d) (Wv b H I (q H b JqY ?_));rwa[d]at e
 .apply AN c s n H x y v u Q I i g (a,b,xs,ys,l,k,f,e,d,hz,λz=>?_,λz p A=>q _ p (Nn A) WV);apply q H a JqY ?_;rwa[z,List.append_nil]at f
section
variable {P:Program} {w:World} {H H':Hp} {h h' B:Heap} {a:Addr} {o:HO}
def bV.there (x:bV P w H h a o):∃b,h.get? a=some b:=by
 cases o with
 |lst xs=>obtain⟨_,_,_,_,q⟩:=x;exact Mr q
 |tup xs=>obtain⟨_,_,_,b,q,_⟩:=x;exact Mr q
 |dK kvs=>obtain⟨_,_,_,_,o,_,_,q,_⟩:=x;exact Mr q
 |dT kvs=>obtain⟨_,_,_,_,o,_,_,q,_⟩:=x;exact Mr q
 |set S n=>obtain⟨o,_,_,_,q,_⟩:=x;exact Mr q
 |ins C dx c=>obtain⟨_,_,_,q,_⟩:=x;exact Mr q
 |own y=>exact x
 |xd c=>obtain⟨_,⟨_,_,_,q,_⟩,_⟩:=x;exact Mr q
 |rng lo e=>obtain⟨_,_,_,q⟩:=x;exact Mr q
 |frz b u=>exact Mr x.1
 |tbl ps=>exact Mr (show h.get? a=some _ from x)
 |met f y=>exact Mr (show h.get? a=some _ from x)
 |ext d=>exact x.2.1
def Trk (H:Hp)(h B:Heap):Prop:=∀b c,Jm6 b->h.get? b=some c->B.get? b=some c
def Old (e:List Addr)(H:Hp)(h B:Heap):Prop:=∀b d,h.get? b=some d->b∉e->∃c,B.get? b=some c/\(Ms b (c=d))
def HOk.stays (c:JdD h)(t:Trk H h B)(k:B.StaysIn h'):JdD h':=λa o e=>
 (c a o e).stay (λb u d q=>k b u (t b u (d.elim (λz=>by rwa[z,e]at nofun) λz=>by rwa[z]at nofun) q)) (λx q=>q) λx x q=>q
def Trk.stays (g:JdD h)(t:Trk H h B)(k:B.StaysIn h'):Trk H h' B:=λb j f e=>by
 cases q:H b with
 |none=>exact absurd q f
 |some u=>
  let(c,i):=(g b u q).there;let z:=t b c f i;let d:=k b c z;erw[e]at d;exact z
end
def CX1 (P:Program)(w:World):CXT:=λouter H s E e s'=>∃(ea C:Addr) (H':Hp) (B:Heap) (a:Value),Nk e ea/\s'.os=s.os/\AllBare s'.gens/\Jdi outer [] H H' Jgy/\JcK H' Jgy/\
 Heap.FlyingW B outer ea (.ref C) a Jgy/\Trk H' Jgy B/\Old (frs outer) H Yq B/\JdG C H'
structure Xe1 (X:Cx)(E):Prop where
 xe:X.xe=λe s'=>NA (leaving Wc e) (λ_ s''=>CX1 Uh X.w Jqn X.H₀ X.s₀ E e s'') (λe' s''=>CX1 Uh X.w Jqn X.H₀ X.s₀ E e' s'') s'
 stk:X.stack=Ja4 Wc
 fr:JiV X.env.frame
 ex:X.ex=[]
section
variable {X:Cx} {E:XK} {pins:List GM} {σ:St} {H H':Hp} {s s':Shared} {B:Heap} {ea C:Addr} {a0:Value}
def xZ (x:Xe1 X E)(I:Xm s){d:Shared}(K:d.os=s.os)(o:AllBare d.gens)(u:Jdj [] H H' Jgy)(D:Jn9 Jgy)
  (fl:JdX B Jqn ea C a0 d.heap)(G:s'.heap.UpToSlots d.heap)(trk:Trk H' Jgy B)(t:Old (frs ID) H Yq B)(O:JdG C H'):
  CX1 Uh X.w Jqn X.H₀ X.s₀ E (.ref ea) d:=by
 let y:frs ID=X.env.locals::X.fs:=by rw[x.stk];unfold frs;rw[List.filterMap_cons,x.fr];rfl
 let h:∀b,b∉X.ex:=λb c=>by erw[x.ex]at c
 let nf:∀b a,X.s₀.heap.get? b=some a->b∉X.fs->b∉frs X.stack:=λb a e c z=>by
  rw[y]at z;rcases List.mem_cons.mp z with z|z
  .exact absurd (Wh e Jqg) (z<|>Nat.lt_irrefl _)
  .exact c z
 let st:B.StaysIn d.heap:=fl.1;let U:=I.base;let f:Old X.fs X.H₀ X.s₀.heap B:=λb a e c=>by let(v,j):=U.there b a e (h b);let(l,i,A):=t b v j (nf b a e c);apply(l,i,λn=>?_);let k:=U.keep b a e n c (h b);erw[j]at k;exact A Jk3
 let g:∀b a,X.s₀.heap.get? b=some a->JoM b->b∈X.fs->∃r,d.heap.get? b=some { a with slots:=r }:=λb a e n c=>by let(r,k):=U.slot b a e n c (h b);let(J,k2):=u.any k Jk3 Js;let(_,Q,F,N):=I.ok.funs.mem c;erw[e]at F;let(p,k3):=G b _ k2 λvs q=>N vs q;exact(p,k3)
 apply(ea,C,H',B,a0,rfl,K.trans I.os,o,(λb a e n c m=>?_,λb a e n c m=>g b a e n c,λb a e n m=>?_,λb a e m=>?_,λb xs q=>u.tups b xs (U.tups b xs q),λb a xs q=>u.frzs b a xs (U.frzs b a xs q),λb ps q=>?_),D.stays trk st,fl,Trk.stays D trk st,f,O)
 .let(l,i,A):=f b a e c;rw[A n]at i;exact st b a i
 .let(v,j):=U.there b a e (h b);exact u.free b v j Jk3 Js
 .by_cases c:b∈X.fs
  .let(r,k):=g b a e (I.ok.frf b c) c;exact Mr k
  .let(l,i,_):=f b a e c;exact(l,st b l i)
 .let(M,j):=U.tbls b ps q;let(L,P):=u.tbls b _ j;exact(M++L,by rw[P,Array.append_assoc])
def kZ (a:Xe1 X E):iD (CX1 Uh X.w) X E:=by
 intro pins σ H s e s' I h;let(ea,C,H',B,a0,rfl,j,c,u,k,fl,trk,d,l):=h;rw[a.xe];let b:=fl;rw[a.stk]at b;let f:X.A.frames=some (Ja4 Wc):=by rw[I.ok.frames,a.stk]
 exact wpAny_leaves_onW f a.fr b λh' g i=>xZ a I j c u k g i trk d l
def Du (c:Xe1 X E)(I:Xm s)(m:Heap.MadeExcOf Yq h' ea (.ref C) vs)(u:JdG C H):X.xe (.ref ea) { s with heap:=h' }:=by
 rw[c.xe];let o:s.heap.FunFrames (Jhu (frs ID)) X.stack:=W.funFrames_hide I.stack λenv p a r=>Jbt env p r;let f:s.heap.FunFrames (Jhu (frs ID)) (Ja4 Wc):=by let z:=o;rw[show X.stack=Ja4 X.env from c.stk]at z⊢;exact z
 let g:X.A.frames=some (Ja4 Wc):=by rw[I.ok.frames,c.stk]
 apply wpAny_leaves_madeW (base:=Jhu (frs ID)) (h:=Yq) g c.fr (λb d q=>W.of_hideAll _ q) f m λw t fl x x k=>?_;apply xZ (s':={ s with heap:=h' }) c I rfl I.bare (Un.kept m.keeps) (I.hok.kept m.keeps) fl k (λb d e q=>?_) (λb d q e=>(d,W.hideAll_get _ q e,λx=>rfl)) u;cases z:H b with
 |none=>exact MS e
 |some v=>
  let(n,j):=(Jeb v z).there;let i:=m.keeps b n j;let l:h'.get? b=some d:=q;erw[l]at i;exact W.hideAll_get _ j λy=>e (I.stkFree b y)
variable {e0:Expr} {rest:List Expr} {t:TA} {x:Str} {np cpos pos:Pos} {Bn newId initId:String} {bm:List Value}
def tRaise (E:XK)(C:Addr)(t:TA):TS:=λx σ H=>t σ H λvs a=>Qd JrX/\JdG C a
end
abbrev Cx.susp (X:Cx)(ea:Addr):Cx:={ X with A:=X.A.mark (Ja ea),calm:=false,xe:=λx x=>False }
abbrev Cx.tryc (X:Cx)(pins:Jcr Obj)(E1:Value->Shared->Prop):Cx:={ X with pn:=X.pn++pins,xe:=E1 }
def Inv.susp (I:Xm s)(ea):Jf (X.susp ea) H s :=
 (Joa (I.ok.mod,Jb9,I.ok.glob,I.ok.blt,Jqg,I.ok.inj,I.ok.has,I.ok.cab,λz=>(by cases z),JqW,I.ok.stk,I.ok.exf,I.ok.bs,I.ok.bsz,I.ok.noex,I.ok.exfs,I.ok.funs,I.ok.frf))
def Inv.unsusp (a:X.Ok)(I:Jf (X.susp ea) H s):Xm s:=Joa a
def Inv.tryc (I:Xm s)(E1):Inv (Jpo E1) [] σ H s :=
 (Jhl (I.ok.mod,Jb9,I.ok.glob,I.ok.blt,Jqg,I.ok.inj,I.ok.has,I.ok.cab,I.ok.hd,JqW,I.ok.stk,I.ok.exf,I.ok.bs,I.ok.bsz,I.ok.noex,I.ok.exfs,I.ok.funs,I.ok.frf) (λp a=>Jbs (by simpa using a)))
def Inv.untryc (a:X.Ok)(I:Inv (Jpo E1) pins1 σ H s):Xm s :=
 (Jhl a (λp b=>Jbs (Ma b)))
def SP.untryc (c:X.Ok)(h:SP (Jpo E1) pins1 D f s):SP X pins D f s:=by
 cases f with
 |next=>obtain⟨a,b,I,q⟩:=h;exact(a,b,I.untryc c,q)
 |brk=>obtain⟨a,b,I,q⟩:=h;exact(a,b,I.untryc c,q)
 |cont=>obtain⟨a,b,I,q⟩:=h;exact(a,b,I.untryc c,q)
 |ret u=>obtain⟨v,a,b,I,r,q⟩:=h;exact(v,a,b,I.untryc c,r,q)
structure Came (X)(pins)(σ:St)(H)(s)(H')(B)(s':Shared):Prop where
 I:Xm s
 os:s'.os=s.os
 bare:AllBare s'.gens
 u:Jdj [] H H' Jgy
 ok:Jn9 Jgy
 trk:Trk H' Jgy B
 old:Old (frs X.stack) H s.heap B
def Came.inv (c:Came X pins σ H s H' B s'){h':Heap}(st:B.StaysIn h')(p:s'.heap.UpToSlots h'):Ik H' { s' with heap:=h' }:=by
 let g:∀b a,s.heap.get? b=some a->Nf b->b∈frs ID->∃j,h'.get? b=some { a with slots:=j }:=λb a e n d=>by let(j,k):=c.u.slot b a e n d Js;let(_,v,o,r):=c.I.stack.mem d;erw[e]at o;let(i,k3):=p b _ k λvs q=>r vs q;exact(i,k3)
 apply c.I.call' (s':={ s' with heap:=h' }) (ch:=[]) c.os (λb a e n d x=>?_,λb a e n d x=>g b a e n d,λb a e n x=>c.u.free b a e n Js,λb a e x=>?_,c.u.tups,c.u.frzs,c.u.tbls) (c.ok.stays c.trk st) c.bare (λb d=>by cases d)
 .let(l,h,t):=c.old b a e d;rw[t n]at h;exact st b a h
 .by_cases d:b∈frs ID
  .let(j,k):=g b a e (c.I.stkFree b d) d;exact Mr k
  .let(l,h,_):=c.old b a e d;exact(l,st b l h)
def PH (X:Cx)(hs:List ExceptHandler)(a:Addr->TS):Prop :=
 ∀pins σ H s H' B s' D ea C a0 h',Came X pins σ H s H' B s'->JdX B ID ea C a0 h'->s'.heap.UpToSlots h'->a C D σ H'->
  wpAny Yz X.A (handleBy (.ref ea) Wc hs) (SP X pins D) JfD { s' with heap:=h' }
def Dv:PH X hs (λx=>vp):=λx x x x x x x x x x x x x x x z=>z.elim
noncomputable def zc4 (ea C:Addr)(h:Heap):Prop:=∃a,h.get? ea=some a/\Nk a.cls C
def Inv.adopt (I:Xm s)(E:Jh1 ea C)(A:X.s₀.heap.get? ea=none)(w:Gv ea)(y:∀x c,JlM (c≠ea))(v:∀p∈X.pn++pins,p.1≠ea)(F:Nf ea):
  Inv X pins σ (Jm ea (JnT C)) s:=by
 let g:∀b u,Ic b u->upd H ea (JnT C) b=some u:=λb u e=>by rwa[NP e F]at e
 let h:∀b,b≠ea->Ms b (Mf (upd H ea (JnT C) b)):=λb d e=>by rwa[aq d]at e
 let U:=I.base;apply Jb8 I.ok I.os (U.keep,U.slot,λb i e n d=>h b (λz=>by erw[z,A]at e) (U.free b i e n d),U.there,λb xs q=>g _ _ (U.tups b xs q),λb i xs q=>g _ _ (U.frzs b i xs q),λb ps q=>?_) I.loc I.cell (h _ (Ne.symm w) I.free) (λx c e=>h _ (y x c e) JqT) (λp o=>?_) (λb u e=>?_) I.len
 .let(m,e):=U.tbls b ps q;exact(m,g _ _ e)
 .let(e,n,a,b,c):=Jbs o;exact(e,h _ (v p o) n,a,b,c)
 .by_cases d:b=ea
  .subst d;erw[ao]at e;let(j,r,G):=E;apply((j,r,G),(j,r),λK J p k=>?_);let(l,q1,t):=p;exact(l,k l q1,t)
  .rw[aq d]at e;exact(JpY u).stay (λf f f q=>q) (λc q=>g c _ q) λc xs q=>g c _ q
def Inv.forget (I:Xm s)(y:h'.Ns X.env.locals m')(hs:JpH X.env.locals):Ga X (VF X.N.length) H { s with heap:=h',toks:=t' }:=by
 let g:∀b o,X.s₀.heap.get? b=some o->Gv b:=λb o e=>Jcu e;let U:=I.base;apply Jg4 I.ok (λb d e n j h=>(hs.2 b (g b d e)).trans (U.keep b d e n j h),λb d e n j h=>?_,U.free,λb d e h=>?_,U.tups,U.frzs,U.tbls) (m',y,λi x v m k m=>?_) (λx c e=>?_) (λp t=>?_) (λb u e=>?_) Js
 .let(l,q):=U.slot b d e n j h;exact(l,(hs.2 b (g b d e)).trans q)
 .let(r,q):=U.there b d e h;exact(r,(hs.2 b (g b d e)).trans q)
 .rw[List.getElem?_replicate]at k;split at k<;>cases k
 .let(v,o,w,A):=JeR x e;exact(v,o,(hs.2 c JrV).trans w,A)
 .let(e,n,a,b,c):=Jbs t;exact((hs.2 p.1 a).trans e,n,a,b,c)
 .apply(JpY u).stay (λc F E q=>(hs.2 c ?_).trans q) (λm q=>q) λm m q=>q;rintro rfl;rcases E with z | z
  .erw[<-z,I.free]at e
  .erw[I.free]at z
def Came.apart (c:Came X pins σ H s H' B s'){h':Heap}(fl:JdX B X.stack ea C a0 h'):s.heap.get? ea=none:=by
 cases q:s.heap.get? ea with
 |none=>rfl
 |some g=>
  by_cases d:ea∈frs ID
  .let(_,_,j,k,vs,_,_,_,h,_,i,_):=fl;let(_,o,b,a):=j.mem d;erw[h]at b;exact absurd i (a vs)
  .let(l,e,_):=c.old ea g q d;erw[fl.2.1]at e
def x_ (K:W.Frag)(e:Addr)(i c:Nat)(ts:TS)(d:Addr->TS):Addr->TS:=λC D σ H=>∃b,Xa (Jms K C (.ref e)) b/\
 if Vi b then ∀ea,Ms ea (ts { nx:=λx a=>D.nx (VF c) a,rt:=D.rt,bk:=λx a=>D.bk (VF c) a,ct:=λx a=>D.ct (VF c) a } (Jlq (Ja ea)) (Jm ea (JnT C))) else d C D σ H
def ph_as {x n:Str}{np pos:Pos}{b0:Stmt}{g:List Stmt}{rest:List ExceptHandler}{C1:Addr}{i:Nat}{ts:TS}{th:Addr→TS}(hg:Jit x)(hm:X.mg x=Ja C1)(hN:X.N.Nodup)(hi:X.N[i]?=some n)
  (hl:JiU (X.env.scope.names.lookup n))(hex:X.ex=[])(hs:∀ea,PSs (X.susp ea) (b0::g) ts)(hr:PH X rest th)(hdb:Yw (x==Xs):=by decide):
  PH X (Nx (.ExceptHandler (some (JL np)) (some n) (b0::g) pos)) (x_ X.K C1 i X.N.length ts th):=by
 intro pins σ H s H' B s' D ea C a0 h' c fl sm h;let(b,hb,h):=h;let I:=c.inv fl.1 sm;let I':=I.susp ea;let(oe,he,hcl):=fl.there;let LT:W.Looks Yz h' (M5 ea) (.ref C):=hcl▸(W.Looks.ld he).andThen .now;apply wpAny_handleBy_cons (codeAny_handlers_test (js (X:=X.susp ea) I' hg hm ?_ hdb)) (by intro q;cases q);apply W.exm_one (M:=Vg X.w) (K:=Gh) (h:=h') Jjr LT hb _ _ _ _ (λf f q=>q) ?_;cases b with
 |false=>exact hr pins σ H s H' B s' D ea C a0 h' c fl sm h
 | true =>
  let hp:Yw (X.env.scope.kind == .class||(X.env.scope.kind == .module&&X.env.locals != X.env.globals)):=by rw[I.ok.kind];rfl
  apply codeAny_handlers_suite_as (lands_againW fl λh2 j Z=>?_);let I2:=c.inv j.1 (sm.trans Z);let U:=c.apart j;let(G,O,P):=j.there;let nB:B.get? ea=none:=j.2.1;let hH:JaP ea:=by
   cases q:H' ea with
   |none=>rfl
   |some u=>
    let z:=Trk.stays c.ok c.trk j.1 ea G (q<|>nofun) O;erw[nB]at z
  let J:=I2.adopt (ea:=ea) (C:=C) (G,O,P) (by
   cases q:X.s₀.heap.get? ea with
   |none=>rfl
   |some o=>
    by_cases hx:ea∈X.ex
    .erw[hex]at hx
    .let(o',e'):=c.I.base.there ea o q hx;erw[U]at e') (by
   rintro rfl;let(m,(o,_,_,L,_),_):=c.I.loc;erw[U]at L) (λy d e z=>by
   let(v,o,L,_):=c.I.cell y d e;erw[z,U]at L) (λp hp z=>by let e:=(c.I.pin p hp).1;erw[z,U]at e) hH
  apply wpAny_mono (nW (X:=X.susp ea) (i:=i) (v:=.ref ea) (J.susp ea) hN hi (.inl hl) rfl (Q:=λf S=>Ga (X.susp ea) (Jlq (Ja ea)) (upd H' ea (JnT C)) S) (λS I3=>I3) (.inr hl)) (λ_ S I3=>?_) λf f q=>False.elim q;apply wpAny_mono (hs ea pins S _ _ _ I3 (h ea hH)) (λfl4 s4 T=>?_) λf f q=>False.elim q;let Y:∀{a:St} {l:Hp},Ga (X.susp ea) a l s4->∀ {R:Unit->Shared->Prop},(∀F,Ga X (VF X.N.length) l F->R () F)->wpAny Yz X.A (do bindName Wc n .none;unbindBehindTheSuite Wc n pos) R JfD s4:=λ{a l} t {R} k=>by let(m,hn,_):=t.loc;exact wpAny_nameGoes hl hn hp λh5 m5 hn5 hs5=>k _ ((t.unsusp I.ok).forget hn5 hs5)
  cases fl4 with
  |next=>obtain⟨a,l,t,q⟩:=T;exact Y t λF E=>(_,l,E,q)
  |brk=>obtain⟨a,l,t,q⟩:=T;exact Y t λF E=>(_,l,E,q)
  |cont=>obtain⟨a,l,t,q⟩:=T;exact Y t λF E=>(_,l,E,q)
  |ret u=>obtain⟨v,a,l,t,r,q⟩:=T;exact Y t λF E=>(v,_,l,E,r,q)
def Dw {prog:Program}{w:World}{A:Around}{E:Value->Shared->Prop}{K:W.Frag}{x:Addr}{t c:Value}{Q:Value->Shared->Prop}(j:W.Looks Ud s.heap (M5 x) t)(n:K.In s.heap)(k:Yw (t==c))
  (e:US (W.kitCls K t c))(h:Jj2 true s):JnH (JQ "isinstance" (Gw x c)):=by
 let(l,g,d,p,r):=s;apply call_isinstance_of ?_ Jx;unfold Builtin.«isinstance.nested»;apply wpAny_bind (j.at ?_);rw[if_neg (λq=>by simp_all)];let(b,i,a):=W.kit_cls (M:=Yi w) n e;let o:W.Looks Ud l (isInstance (.ref x) c) true:=j.andThen a;apply wpAny_bind (b.at ?_);rw[if_pos (by decide)]
 k_delta "plainIsInstance"
 apply VC (i.at ?_);simp only[Bool.not_true,Bool.false_eq_true,if_false];apply wpAny_bind (o.at ?_)
 first
  |exact Jt h
  |(simp only[if_true];first|exact wpAny_pure Joi|exact wpAny_pure h|exact wpAny_bind (wpAny_pure Joi))
inductive oS (K:W.Frag):List V->Hp->VK->Prop|m{xs H Q} ea C n:xs=Gw ea (.ty n)->QG ea (JnT C) (US (JkN K (.ref C) n)->QB H->oS K xs H Q)
def Dx:Jbn X (oS X.K):=by intro pins s σ H xs us Q I r h;let(ea,C,n,rfl,i,e,q):=h;let(u,b,rfl,d,c):=iC r;cases (show Jdl b n from c);cases (show JlP ea from d);let((k,g,a),_):=VM ea i;let j:W.Looks Yz Yq (M5 ea) (.ref C):=a▸(W.Looks.ld g).andThen .now;exact Dw j Jjr rfl e (VD true H I q)
def Dy (a:StrKeys es)(h:x∉es.toList.map λe=>match e.key with | .str n _=>n|_=>Str.empty):Mf (nsFind es x):=by
 unfold nsFind findBy;cases c:es.find? λe=>e.key.isStr x with
 |none=>rfl
 |some e=>
  let p:=Array.find?_some c;let m:=Array.mem_of_find?_eq_some c;let(n,t,k):=a e m;rw[k]at p;exact absurd (Md e (Array.mem_toList_iff.mpr m) (k<|>eq_of_beq p)) h
def Dz (u:Xe1 X E)(A:Vi X.calm)(w:Jit x)(f:JcE X.K x C)(F:ExcBaseFacts Bn newId initId bm)(q:Vi (W.excIn X.K C bm newId))(G:PA X (ez::ers) t)
  (i:Yw (x==Xs):=by decide)(b:Ib (ez::ers)=(false,Jc ez,)::starEach ers X.env:=by rfl)(d:(Jby ers).any Qn=false:=by rfl):
  PS X (.Raise (some (Wj x np (ez::ers) [] cpos)) none pos) (tRaise E C t):=by
 intro a s k H D I h;let(Q,B,j):=I.mod.blt;let(o,es,ep,R,S,v,z):=id I.mod.glob;let(f,l,N,nm,r,bs,hdct,sn,sub,ab,col,dd,k0,k1,k2,k3,k5,mN,M,J,e,T):=W.own_of_in (p:=Uh) I.mod.kin (I.mod.glob,B,I.mod.nolimit,j,λx V h V V V=>(z x).symm.trans (Dy v h)) f q;apply wpAny_Raise_call_subT (C:=C) (nm:=nm) (q:=r) (N:=N) (bs:=bs) (bm:=l) (hdct:=hdct) (sn:=sn) (sub:=sub) (ab:=ab) (col:=col) (dd:=dd) (k0:=k0) (k1:=k1) (k2:=k2) (k3:=k3) (k5:=k5) F (mN:=mN)
  (T.hasType F.hasBase) (I.ok.hd A) (by rw[b];show Yw (false||(Jby ers).any Qn);rw[d];rfl) e (js I w f (Qm rfl) i)
 let g:=G cpos a s k H _ I h;rw[b]at g⊢;apply Calls.evalArgs_plain (wpAny_mono g (λvs P h_=>?_) λV V y=>y);let(O,U,c,n,hz,L):=h_;exact(rfl,by rwa[<-n.length]at hz,c.bk _ _ M,J.keeps c.bk,T.keeps c.bk,λh' ea m=>Du u c m L)
def DA (K:W.KdlSrc prog w T r d n P OK)(p:Mf A.handled)(c:OK s.heap)(k:Qd n)
  (t:∀h' tk a,(∀b o,s.heap.get? b=some o->h'.get? b=some o)->s.heap.objs.size<h'.objs.size->ItemsOf P a n->Q a.toList { s with heap:=h',toks:=tk }):
  wpAny (Yi w) A (collect (.ref r)) Q E s:=by
 let f:=K.there _ c;let i:∀R:Result->Shared->Prop,(∀h' tk a j,(∀b o,Jcm b->(s.heap.push _).get? b=some o->h'.get? b=some o)->h'.get? V0=some { cls:=.type "list",dict:=none,data:=.seq a j,slots:=#[] }->ItemsOf P a n->R _ { s with heap:=h',toks:=tk })->
   codeAny Ud A (QK "list.__iadd__" (Iw V0 r) []) R { s with heap:=s.heap.push _ }:=λR q=>by apply Vr entry_list_iadd';rwa[Iq PySem.F.plain_list_iadd]at W.kdl_extend K p (K.keep _ _ c λb x o e=>UD e) _ (Nat.ne_of_gt f.1) (Nat.ne_of_gt f.2) _ 0 VN q k
 apply wpAny_bind (wpAny_runValue (Vr entry_proto_collect'));show JnP _
 apply wpAny_bind (wpAny_newList (GD (Code.quiet_builtin _ Jv) (i _ λh' tk a j l h g=>?_)));show Gi A (do
   let o <-load V0
   match o.data with
   |.seq xs _=>pure xs.toList
   |_=>unsupported "internal:collect") Q E _
 apply wpAny_bind (wpAny_load h ?_);exact wpAny_pure (t h' tk a (λb o e=>l b o (XM e) (UD e)) (hLq h) g)
def DB (K:W.KdlSrc prog w T r d n P OK)(t:Mf A.handled)(k:OK s.heap)(p:n<64)
  (y:∀acc:Array Value,Jc5 P n->∃ns,JbN Jku)
  (x:∀h' tk acc out ns c e (a:Addr),(∀b o,s.heap.get? b=some o->h'.get? b=some o)->Jak a->h'.get? a=some (seqObj "list" out e)->Jc5 P n->JbN Jku->IntsAre out.toList c->c.Perm ns->c.Pairwise (·<=·)->Mc a { s with heap:=h',toks:=tk }):
  wpAny (Yi w) A (JQ "sorted" (Vj r)) Q E s:=by
 apply Calls.call_function_entry kind_sorted plain_sorted entry_sorted (args_sorted1 _) ?_;apply Gf ?_;apply wpAny_bind (DA K t k (Jd (Nat.le_of_lt p)) λh' tk acc q l f=>?_);let z:Jc8 n:=by rwa[Array.length_toList]at f.1
 apply wpAny_bind (wpAny_newList (hsz:=by rwa[z]at Jd (Nat.le_of_lt p)) ?_);let(ns,i):=y acc f;let g:(h'.push _).get? h'.objs.size=some (seqObj "list" acc.toList.toArray 0):=Heap.get?_push_size _ rfl;apply Xl (wpAny_call_entry slot_list_sort (Ji6 g) entry_list_sort (list_sort_tree g i (by simp [*]) λout c D C B=>Ym rfl) (args_list_sort _));let(e,u):=sortedHeap_at (out:=out) g;apply wpAny_pure (QD (x _ tk acc out ns c e _ (λb o v=>?_) (Nat.le_of_lt l) u f i D C B));let j:=q b o v;let h:=hLq j;rwa[sortedHeap_old (Nat.ne_of_lt h) (by rw[size_push'];exact Nat.lt_succ_of_lt h),Heap.get?_push_ne _ _ _ (Nat.ne_of_lt h)]at j
theorem DC{vs:List Value}{ns c:List Int}(h:JbN vs)(k:IntsAre vs c):ns=c:=by
 induction h generalizing c with
 |nil=>cases k;rfl
 |cons n t a i=>cases k with|cons _ _ b=>rw[i b]
def DD (Z:Vi X.calm):Ys X "sorted" (λxs H Q=>∃d kvs ns,xs=Vj d/\Jbo d/\Jpj (λS=>kV S.1) (ns.map V.int)/\ns.length<64/\∀l (B:List Int),Ms l (B.Perm ns->IA (B.Pairwise (·<=·)) l (N8 l (B.map V.int)))):=by
 intro G s σ H xs us Q I r h;let(d,kvs,ns,rfl,K,D,h64,q):=h;let(u,rfl,P):=eX r;cases P;let(N,z,c,f,o):=Jfk K;let(ep,M):=o.dictAt;let l1:=f.length;let kl:kvs.length=ns.length:=by have:=Mt D;rw[lM,lM]at this;exact this
 let items:∀acc:Array Value,Jc5 (λi v=>∃k x,c[i]?=some (k,x,)/\Ji2 k v) Jri->bc IE acc.toList:=λacc b=>by
  let t:Jc8 c.length:=by rwa[Array.length_toList]at b.1
  let g:∀j x,acc.toList[j]?=some x->∃k y,c[j]?=some _/\Ji2 k x:=λj x E=>b.2 j x (by rwa[<-Array.getElem?_toList]at E);rw[<-D];clear b N l1 M o q K D kl;generalize acc.toList=L at t g
  induction f generalizing L with
  |nil=>rwa[List.eq_nil_of_length_eq_zero t]at .nil
  | @cons p p' ps R a _ U=>
   rcases L with _|⟨x,L⟩
   .cases t
   let(k,y,e1,e2):=g 0 x rfl;cases e1;apply Jlx (U L (by simpa using t) λj x E=>g (j+1) x E);have:=w_ e2;simp [*]
 apply DB (W.kdl_dict (kvs:=c) z) (I.ok.hd Z) M (by simp_all) (λacc b=>(ns,qv (items acc b))) λh' tk acc out A n e a T J ha b Y C F O=>?_;let en:=DC Y (qv (items acc b));subst en;let ml:=F.length_eq;exact Wv a _ (I.laid (t':=tk) T J (show JpR _ h' _ (n.map VG) from(MW Q9,out.toList,e,qA C,by rwa[Array.toArray_toList]at ha))) (q _ n (I.hok.fresh J) F O)
def tD1 (tk c:TE):TE:=λa H Q=>∀d,Nf d->tk a (JgR H d) λx e=>c a e λy b=>∃k,x=kV k/\Xa (b d) (.dK [])/\Mc d (Vc b d [(k,y,)])
def pe_d1 (C:Yp ke tk)(B:Yp ve tv)
  (e:(evalEachOpt [some ke] X.env).zip ((evalEach [ve] X.env).map λv=>do let x <-v;standAt pos;pure x)=([(Jc ke,do let x <-Jc ve;standAt pos;pure x,)]:Nb (Sem Value) (Sem Value)).map λp=>(some p.1,p.2,):=by rfl):Yp (.Dict [some ke] [ve] pos) (tD1 tk tv):=by intro b s f H Q I h;apply wpAny_Dict_pairs (knd:=Jdo X.w) e Js (by show 1<=15;decide) ?_;let G:=MZ (t':=s.toks) (λm m q=>UD q) _ (wH Yq I.big);let h0:=h _ (Uq _);apply evalPairs_cons (thn (C b _ f _ _ G h0) λM r h_=>?_);let(x,J,F,u,q1):=h_;apply wpAny_bind (thn (B b r f J _ F q1) λj L h_=>?_);let(y,O,i,t,k,E,g,A):=h_;apply QM (wpAny_pure (evalPairs_nil ?_));subst E;let(z,l,K,d,dd):=iG i.hok g;cases d;apply([(k,j,)],Nd (ic u) IK,dd,λh' c n=>?_);let(o,es,ep,D,N):=id c;exact Wv _ _ (jE i (g<|>IK) n (Mr D) (kE (by show Qd 1;decide) l (JF (WO t)) c)) A
inductive mV:V->List V->Hp->VK->Prop|m{x vs H Q} (d) (k) (v) (kvs):Jd9 d (vs=[kV k,v]->Jbo d->IM Jj1->((∃u,Xa (Jcz k) u/\Q u H)\/(Mf (Jcz k)/\Q v (Vc H d (XU k v))))->mV x vs H Q)
def DE:MtR X "dict.setdefault" mV:=by
 intro l s J H x vs v us Q I p r h;let(d,k,y,kvs,rfl,rfl,n,hz,q):=h;cases p;cases r with
 |cons A t=>
 cases t with
 | @cons _ o _ _ j t=>
 cases t;let(z,i,f,b,dd):=Jfk n;let B:Qd f.length:=by rwa[<-b.length]at z
 let a:=b.val k;apply Jhr Mx JqV Joy (kt_meets_setdefault JqS d (ic A) i o) (f,dd,B,λu C=>?_,λD h' c hs=>?_)
 .rw[C]at a;rcases q with ⟨g,q1,e⟩ | ⟨q1,_⟩
  .rw[q1]at a;exact GI g H _ a e
  .rw[q1]at a;exact a.elim
 .rw[D]at a;rcases q with ⟨g,q1,e⟩ | ⟨q1,e⟩
  .rw[q1]at a;exact a.elim
  .let G:∃q,h'.get? d=some q:=(by let(q,_,_,hq,_):=c;exact (q,hq));let E:(XU k y).length≤sizeLine:=by have:=me kvs k y;lia
   exact(y,_,jE I (n<|>IK) hs G (kE E i (b.put k j) c),j,e)
def tSetK (c:TE)(t:TA):TE:=λa H Q=>c a H λx b=>(∃d kvs,GN d/\Xa (b d) (.dK kvs))/\t a b λxs e=>mV x xs e Q
def mX (w:Yp o to)(y:Jfc X e t)
  (f:JjM o "setdefault" o=eval o X.env:=by rfl)
  (g:Vi ((Jby (QV e)).all (λx=>!x.1)&&(Jl0 []).all (λx=>x.1.isSome)
   && decide ((QV e).length+([]:List Keyword).length+(if([]:List Keyword).isEmpty then 0 else 1)<30)):=by rfl)
  (c:Vi (apos.endLine==cpos.line):=by rfl)(hs:Jdh e=(false,Jc e,)::starEach es X.env:=by rfl)(b:(Jby es).any Qn=false:=by rfl):
  PE X (Jof o "setdefault" (QV e)) (tSetK to t):=by intro a s i H Q I h;apply Jc4 f g c (thn (w a s i H _ I h) λv p h_=>?_);let(x,E,k,r,(d,kvs,B,l),q1):=h_;subst B;cases r;let(A,z,_):=qV k (Jbb kvs l);apply("dict","dict.setdefault",Mi,Mx,Jq5,A,z,?_);let j:=y cpos a p i E _ k q1;rw[hs]at j⊢;apply Ws (by show Yw (false||(Jpe _).any _);rw[b]<;>rfl) ?_;exact thn j λus n h_=>by let(vs,D,C,q,u):=h_;exact DE a n i D (.ref d) vs _ us Q C rfl q u
end L2
namespace L2
open PySem PySem.Spec PySem.Calls PyProof.Rows PySem.W PySem.Builtin PySem.Builtin.ObjectAttr PySem.Builtin.Getset_descriptor
section
variable {prog:Program} {w:World} {A:Around} {E:Value->Shared->Prop} {s:Shared} {K:Frag} {x C:Addr}
def xc_get (X:K.In Yq)(I:Jh1 x C)(a:US Jq7)
  (h:JpQ (.ref C) s):codeAny Ud A (.call (.builtin "getset_descriptor.__get__") (WY [.builtin "object.__class__",.ref x,tp])) R s:=by
 let(b,g,i,t,e):=s;let(f,c,d):=I;let k:Jmt Ud b (M5 x) C:=d▸(Looks.ld c).andThen .now;let j:=looks_mroIn (M:=Yi w) X a;apply codeAny_call_builtin KF.slot_gs.plain KF.entry_gs (KF.slot_gs.check _ _ _ _ _ _ _ _ KF.type_class (KF.args_gs _ _ _) ?_);unfold Builtin.«getset_descriptor.__get__» descrGet;rw[dga_obj];apply Gf ?_;unfold descrGetter descrCheckInstance descrNameAndClass isInstance;simp only[KF.owner_class]
 repeat lk
 apply(Code.quiet_builtin _ Jv,Vr KF.entry_class);unfold Builtin.«object.__class__» shownTypeOf
 repeat lk
 exact h
structure XcK (K)(C):Prop where
 c:(clsIn K C).isSome=true
 ga:JbX (findIn K (.ref C) "__getattribute__") "BaseException.__getattribute__"
 gn:Wn (findIn K (.ref C) "__getattr__")
 cl:JbX (findIn K (.ref C) "__class__") "object.__class__"
 get:JbX (specialIn K (.builtin "object.__class__") "__get__") "getset_descriptor.__get__"
 tk:US (takesIn K (.builtin "object.__class__"))
 mo:US Jq7
 mb:US (mroIn K C (.type "BaseException"))
def DF (X:K.In h)(k:XcK K C):Looks M h (find (.ref x) (.ref C) "__class__") (.bind (.builtin "getset_descriptor.__get__") (.builtin "object.__class__")):=by let d:=Jmu (M:=M) k.cl;let c:Looks M h (getOf (Gn "object.__class__")) (Gn "getset_descriptor.__get__"):=looks_specialIn X k.get;let b:=looks_takesIn (M:=M) X k.tk;intro A Q E s a q;unfold find;apply wpAny_bind ((d.keeps a).here ?_);apply wpAny_bind ((c.keeps a).here ?_);unfold dataDescriptor?;apply VC ((b.keeps a).here ?_);exact wpAny_pure (MO q)
def DG (X:K.In Yq)(I:Jh1 x C)(k:XcK K C)(h:Q (Jmr (.ref C)) s):
  wpAny Ud A (Builtin.«object.__getattribute__» (WY (Gw x (.str "__class__" tk)))) Q E s:=by let(a,g,e,t,b):=s;let j:=I;let(l,c,d):=I;let i:Jmt Ud a (M5 x) C:=d▸(Looks.ld c).andThen .now;let f:=DF (M:=Yi w) (x:=x) X k;unfold Builtin.«object.__getattribute__»;apply Gf ?_;apply Gf ?_;apply wpAny_bind (i.at ?_);apply wpAny_bind (f.at ?_);show JlX (holding [_] (call _ _)>>=ret);exact Xl (wpAny_call (xc_get (s:=(a,g,e,t,b)) X j k.mo Joi))
def DH (X:K.In Yq)(I:Jh1 x C)(k:XcK K C)(b:Q () s):wpAny M A (checkBuiltinCall "BaseException.__getattribute__" (WY (Gw x nameV))) Q E s:=by
 let(d,g,o,t,j):=s;let(l,e,f):=I;let i:Jmt M d (M5 x) C:=f▸(Looks.ld e).andThen .now;let h:=looks_mroIn (M:=M) X k.mb;let c:builtinKind "BaseException.__getattribute__"=some .slot:=by rfl
 let a:splitId "BaseException.__getattribute__"=some ("BaseException","__getattribute__",):=by rfl
 let n:=F.args_bexc_ga (.ref x) nameV;simp only[checkBuiltinCall,c,a];apply wpAny_bind ?_;unfold isInstance;apply wpAny_bind (i.at (h.at ?_))
 repeat wp_step
 exact b
def DJ (X:K.In Yq)(I:Jh1 x C)(k:XcK K C)(h:Q (Ja C) { s with toks:=s.toks+1 }):JnH (getAttr? (.ref x) "__class__"):=by let(a,g,d,t,b):=s;let c:=I;let(o,e,f):=I;let n:Jmt Ud a (M5 x) C:=f▸(Looks.ld e).andThen .now;let l:=Jmu (M:=Yi w) k.ga;let j:=Jmu (M:=Yi w) k.gn;unfold getAttr? getAttrBy? getAttrBy;apply wpAny_bind (wpAny_mkText (JaZ (wpAny_holding (wpAny_bind (n.at (wpAny_bind (l.at ?_)))))));show JlX (getAttrByItsOwn _ _ _ _ _ _);unfold getAttrByItsOwn;apply wpAny_bind (j.at ?_);apply JaZ (wpAny_holding ?_);show JlX (boundAndCalled _ _ _);unfold boundAndCalled;let i:=F.excAttr_ValueError.ga.bind (.ref x);rw[i];apply Gf ?_;apply wpAny_call (codeAny_call_builtin F.excAttr_ValueError.ga.plain F.entry_bexc_ga (DH (s:=(a,g,d,t+1,b)) X c k (DG (s:=(a,g,d,t+1,b)) X c k ?_)));exact handed_on rfl Joi
set_option tactic.hygienic true in
def DK (k:XcK K C):KitX K (.ref x) (.ref C) (λh=>zc4 x C h) where
 ty:=λM h _ I=>by let(v,p,r):=I;exact r▸(Looks.ld p).andThen .now
 it:=λ_ _ X _=>by
  let(g,a):=Option.isSome_iff_exists.mp k.c;unfold clsIn at a;split at a
  .rename_i t d' i b f;intro A' y B s' k q;unfold isType loadHead;exact wpAny_bind (wpAny_loadPart (k _ _ (X _ _ f)) (wpAny_pure q))
  .cases a
 ne:=λh j dd o n u X d=>by
  let(g,a):=Option.isSome_iff_exists.mp k.c;apply Bool.eq_false_iff.mpr λq=>?_;let e:C=j:=Value.ref.inj (beq_iff_eq.mp q);subst e;unfold clsIn at a;split at a
  .rename_i t d' i b f;let z:=(X _ _ f).symm.trans d;cases z
  .cases a
 ca:=λX I l=>DJ X I k l
end
section
variable {X:Cx}
inductive oT (K:Frag):List V->Hp->VK->Prop|m{xs H Q} (ea C D:Addr) (b:Bool):xs=Iw ea D->QG ea (JnT C) (XcK K C->Xa (kitOne K (.ref C) (.ref D)) b->Jpa b (oT K xs H Q))
def DL:Jbn X (oT Gh):=by intro a s k H xs us Q I r h;let(ea,C,D,b,rfl,j,g,i,q):=h;let(u,c,rfl,e,d):=iC r;cases (show Vs c D from d);cases (show JlP ea from e);let(f,_):=VM ea j;exact kia_one (DK g) Jjr f i Jx λtk=>VD b H Jsa q
end
end L2
namespace L2
open PySem
structure Two (F O H):Prop where
 f:ap F H
 o:ap O H
 d:∀b,Jm5 (O b)->Mf (F b)
def Two.own (T:Jmd F){a:Addr}(h:Jm5 (O a))(u):Two F (Jmg O) (JhD u):=by
 apply(λb o e=>?_,λb o e=>?_,λb e=>?_)
 .rwa[aq (λz=>by erw[z,T.d a h]at e)]at T.f b o e
 .by_cases z:b=a
  .rw[z,ao]at e⊢;exact e
  .rw[aq z]at e⊢;exact T.o b o e
 .by_cases z:b=a
  .rwa[z]at T.d a h
  .rw[aq z]at e;exact T.d b e
def Two.newO (T:Jmd F){a:Addr}(h:Nf a)(u):Two F (Jmg O) (JhD u):=by
 let c:Mf (F a):=by
  cases e:F a with
  |none=>rfl
  |some o=>erw[T.f a o e]at h
 apply(λb o e=>?_,λb o e=>?_,λb e=>?_)
 .rwa[aq (λz=>by erw[z,c]at e)]at T.f b o e
 .by_cases z:b=a
  .rw[z,ao]at e⊢;exact e
  .rw[aq z]at e⊢;exact T.o b o e
 .by_cases z:b=a
  .rwa[z]at c
  .rw[aq z]at e;exact T.d b e
def Two.swap (T:Jmd F):Two O F H:=(T.o,T.f,λb e=>by
 cases h:O b with
 |none=>rfl
 |some o=>exact absurd (T.d b (h<|>λz=>nomatch z)) e)
def Two.frm (T:Jmd F){a:Addr}(h:Jm5 (F a))(u):Jjt (Jmg F) (JhD u):=(T.swap.own h u).swap
def Two.newF (T:Jmd F){a:Addr}(h:Nf a)(u):Jjt (Jmg F) (JhD u):=(T.swap.newO h u).swap
def Two.base (T:Jmd F)(s:ap F0 F):Jmd F0:=(s.trans T.f,T.o,λb e=>by
 cases h:F0 b with
 |none=>rfl
 |some o=>have:=s b o h;erw[T.d b e]at this)
def Two.none (T:Jmd F){a:Addr}(h:Jef (H a)):Jef (O a)/\Jef (F a):=by
 constructor
 .cases e:O a with
  |none=>rfl
  |some o=>erw[T.o a o e]at h
 .cases e:F a with
  |none=>rfl
  |some o=>erw[T.f a o e]at h
def bj.oth (h:Ic a u)(n:∀xs,Jpp u xs)(d:∀q xs,u≠.frz q (.tup xs)):JgF (JhD o):=λb zs q=>by
 let c:b≠a:=λz=>by
  rw[z]at q;rcases q with q|⟨w,q⟩<;>rw[h]at q<;>injection q with q
  .exact n _ q
  .exact d _ _ q
 unfold Rd at q⊢;rwa[aq c]at q
def ya (kvs)(k:Key)(v):(k∈kvs.map Yy/\(XU k v).map Yy=kvs.map Yy)\/(k∉kvs.map Yy/\(XU k v).map Yy=kvs.map Yy++[k]):=by
 unfold zaz;by_cases c:Vi (kvs.any (λb=>decide (b.1=k)))
 .rw[if_pos c];let(x,a,e):=List.any_eq_true.mp c;apply Qk (Md x a (oDq e)) ?_;rw[List.map_map];apply List.map_congr_left λy w=>?_;lia
 .rw[if_neg c];apply Jl (λz=>?_) (by rw[mAq];rfl);let(x,a,e):=List.mem_map.mp z;exact c (List.any_eq_true.mpr (x,a,dTq e))
structure DI (kvs:QX V)(g:JfF V):Prop where
 nd:(kvs.map Yy).Nodup
 ks:∀k∈kvs.map Yy,∃m:Int,XV k m/\-100<=m/\Jfm m
 val:∀p:Int,Q_ p=g p
def DI.nil:DI [] λx=>none:=(Jqp,λk h=>(nomatch h),λx=>rfl)
def DI.put (h:DI kvs g){p:Int}(f:-100<=p/\Jfm p)(v):DI (II kvs p v) λx=>if x=p then some v else g x:=by
 apply(?_,λk d=>?_,λx=>?_)
 .rcases ya kvs _ v with ⟨c,e⟩ | ⟨c,e⟩ <;> rw[e]
  .exact h.nd
  .exact JbY h.nd (λa j b i e=>c (by rw[mSq i]at e;rwa[<-e]at j))
 .rcases ya kvs _ v with ⟨c,e⟩ | ⟨c,e⟩ <;> rw[e]at d
  .exact h.ks k d
  .rcases mPq d with z | z
   .exact h.ks k z
   .exact(p,mSq z,f)
 .rw[hX,h.val];simp
def DI.drop (h:DI kvs g)(p):DI (WF kvs p) λx=>if x=p then none else g x:=by
 let sub:((WF kvs p).map Yy).Sublist _:=List.Sublist.map _ List.filter_sublist;apply(h.nd.sublist sub,λk a=>h.ks k (sub.subset a),λx=>?_);rw[xh,h.val];simp
noncomputable def keyI:Key->Int
 |.inl m=>m+100
 |.inr _=>0
def DI.len (h:DI kvs g):GQ 200000:=by
 have:=ip 200000 (xs:=(kvs.map Yy).map keyI) ?_ ?_
 .rw[lM,lM]at this;exact this
 .apply List.pairwise_map.mpr (h.nd.imp_of_mem λ{x y} a c e z=>e ?_);let(m,rfl,_):=h.ks x a;let(b,rfl,_):=h.ks y c;let f:m+100=b+100:=z;rw[show m=b by lia]
 .intro x a;let(k,d,rfl):=List.mem_map.mp a;let(m,rfl,j,i):=h.ks k d;show 0<=m+100/\m+100<_;lia
structure HA where
 h:Addr
 dx:Addr
 kn:Addr
 pp:Addr
 tr:Addr
 hd:Addr
 bg:Addr
 wd:Addr
 wg:Addr
 od:Addr
 lt:Addr
noncomputable def HA.st (A:HA):List Addr:=[Ig,A.kn,A.pp,A.tr,A.hd,A.bg,A.wd,A.wg,A.od,A.lt]
noncomputable def zby (A:HA)(b:Addr)(a:Int)(c:Nat):JcB V:=[("problem",.ref b,),("most",.int a,),("known",.ref A.kn,),("paper",.ref A.pp,),("trail",.ref A.tr,),("held",.ref A.hd,),("looked",.int c,),("begins",.ref A.bg,),("watched",.ref A.wd,),("watching",.ref A.wg,),("order",.ref A.od,),("lately",.ref A.lt,)]
structure HC where
 xs:List V
 ys:List V
 zs:List V
 kh:QX V
 kw:QX V
 gw:JfF V
 kg:QX V
 gg:JfF V
 kl:QX V
def gU (C:Addr)(A:HA)(b:Addr)(a:Int)(S:HS)(R:HC):List HO:=[N5 C (zby A b a S.lk),.lst R.xs,.lst R.ys,.lst R.zs,.dK R.kh,.lst (S.bs.map VG),.dK R.kw,.dK R.kg,.lst (S.od.map VG),.dK R.kl]
inductive WdR (K)(H):Option V->Option We->Prop
 |no:WdR K H none none
 |is {q:Addr} {a b:Int}:Vo q (Xw a b)->WdR K H (Ja q) (some (a,b,))
inductive WgR (O:Hp)(A:HA)(gg:JfF V)(c):List Int->Prop
 |no:Mf (gg c)->WgR O A gg c []
 |is {l:Addr} {ns:List Int}:gg c=Ja l->Ia (O l) (ns.map V.int)->l∉A.st->(∀c',gg c'=Ja l->c'=c)->WgR O A gg c ns
def gW (hs:List Int):Int->Option V:=λp=>if p∈hs then some (.bl true) else none
structure HuO (K)(C)(O H:Hp)(A:HA)(pr)(most)(S)(hs)(R):Prop where
 nd:A.st.Nodup
 at_:∀(i:Nat) (a) (o),A.st[i]?=some a->(Jlk C A S R)[i]?=some o->Xa (O a) o
 kn:Vt (S.rs.map zcM) R.xs
 pp:Vt S.pp R.ys
 pn:MU S.pp
 tr:Vt (S.ts.map dP) R.zs
 hd:DI R.kh (gW hs)
 wd:DI R.kw R.gw
 wr:∀r,WdR K H (R.gw r) (S.wt r)
 wg:DI R.kg R.gg
 gr:∀c,WgR O A R.gg c (S.wg c)
 lt:DI R.kl λa=>(S.la a).map V.int
def NTup (o:HO):Prop:=(∀xs,Jpp o xs)/\∀q xs,o≠.frz q (.tup xs)
def NoT (O:Hp):Prop:=∀b o,Xa (O b) o->NTup o
def NoT.upd (h:NoT O){a:Addr}{u:HO}(n:NTup u):NoT (Jmg O):=λb o e=>by
 by_cases z:b=a
 .rw[z,ao]at e;lia
 .rw[aq z]at e;exact h b o e
structure Hu (K)(C)(F O H)(A)(pr)(most)(S)(hs)(R):Prop where
 n:NoT O
 t:Jmd F
 u:HuO K C O H A pr most S hs R
def at_upd {g:List Addr}{k:List HO}{O:Hp}(l:g.Nodup)(h:∀(i:Nat) a o,g[i]?=some a->k[i]?=some o->Xa (O a) o){i:Nat}{a:Addr}{u:HO}(d:g[i]?=some a):
  ∀(j:Nat) b o,g[j]?=some b->(k.set i u)[j]?=some o->upd O a u b=some o:=by
 intro j b o f c;rw[List.getElem?_set]at c;by_cases e:i=j
 .rw[if_pos e]at c;split at c
  .rw[e,f]at d;injection d with d;injection c with c;rw[d,c,ao]
  .cases c
 .rw[if_neg e]at c;let n:b≠a:=λz=>by rw[z]at f;let q:=(gEq d);let p:=(gEq f);exact e ((List.getElem_inj l).mp (q.2.trans p.2.symm))
  rwa[aq n]at h j b o f c
def WdR.keep (k:JgF H')(h:WdR K H g p):WdR K H' g p:=by
 cases h with
 |no=>exact .no
 |is h=>exact .is (k.sq h)
def WgR.upd (h:WgR O A gg c ns)(g:a∈A.st\/Mf (O a))(i:∀l∈A'.st,l∈A.st\/Mf (O l)):WgR (Jmg O) A' gg c ns:=by
 cases h with
 |no h=>exact .no h
 | @is l ns k b d j=>
  apply .is k ?_ (λz=>(i _ z).elim d λe=>by erw[b]at e) j;let f:l≠a:=λz=>g.elim (λq=>d (z<|>q)) λe=>by erw[<-z,b]at e
  rwa[aq f]at b
def Hu.heap (U:G_ F)(k:JgF H')(t:Jjt F' H'):J3 F' H':=(U.n,t,{ U.u with kn:=U.u.kn.keep k JfM,pp:=U.u.pp.keep k JfG,tr:=U.u.tr.keep k (cA _),wr:=λr=>(U.u.wr r).keep k })
def Hu.newF (U:G_ F){a:Addr}(h:Nf a)(u):J3 (Jmg F) (JhD u):=U.heap (bj.new h) (U.t.newF h u)
def Hu.base (U:G_ F)(s:ap F0 F):G_ F0:=(U.n,U.t.base s,U.u)
def Hu.frmL (U:G_ F){a:Addr}{xs:List V}(h:Ia (F a) xs)(u):J3 (Jmg F) (JhD u):=U.heap (bj.oth (U.t.f _ _ h) (λx z=>nomatch z) λx x z=>nomatch z) (U.t.frm (h<|>λz=>nomatch z) u)
def Hu.at' (U:G_ F)(i:Nat){a:Addr}{o:HO}(c:A.st[i]?=some a)(b:(Jlk C A S R)[i]?=some o):H a=some o:=U.t.o _ _ (JkO a o c b)
def Hu.ins (U:G_ F):H A.h=some (Jo4 C A):=Jbp 0
def Hu.set (U:G_ F)(i){a:Addr}{o u:HO}(d:A.st[i]?=some a)(p:(Jlk C A S R)[i]?=some o)(n:∀xs,Jpp o xs)(h:∀q xs,o≠.frz q (.tup xs))(g:NTup u):
  NoT (Jmg O)/\Two F (Jmg O) (JhD u)/\JgF (JhD u)/\(∀(j:Nat) b e,A.st[j]?=some b->((Jlk C A S R).set i u)[j]?=some e->Xa (upd O a u b) e)/\∀c,WgR (Jmg O) A R.gg c (S.wg c):=by let f:=JkO a o d p;apply(U.n.upd g,U.t.own (f<|>λz=>nomatch z) u,bj.oth (U.t.o _ _ f) n h,at_upd JcC U.u.at_ d,λc=>(U.u.gr c).upd (.inl (mO d)) λl k=>.inl k)
def cH:(∀ys,Jpp (HO.lst xs) ys)/\∀q ys,HO.lst xs≠.frz q (.tup ys):=(λx z=>(nomatch z),λx x z=>(nomatch z))
def ee:(∀ys,Jpp (HO.dK xs) ys)/\∀q ys,HO.dK xs≠.frz q (.tup ys):=(λx z=>(nomatch z),λx x z=>(nomatch z))
def gX:(∀ys,Jpp (HO.ins C dx fs) ys)/\∀q ys,HO.ins C dx fs≠.frz q (.tup ys):=(λx z=>(nomatch z),λx x z=>(nomatch z))
def Hu.setTr (U:G_ F){ts:List We}{zs:List V}(h:Jko dP zs):WU F (Va O A.tr zs) (N8 A.tr zs) { S with ts:=ts } { R with zs:=zs }:=by let(b,t,k,a,g):=JmP 3 cH.1 cH.2 cH;exact(b,t,JcC,a,Qy k _,Qu k,JfG,h.keep k (cA _),JhN,Jhv,λr=>(U.u.wr r).keep k,Jhk,g,JhJ)
def Hu.setHd (U:G_ F){kh:List (JeY V)}{hs':List Int}(h:DI kh (gW hs')):GE F (Vc O A.hd kh) (Vc H A.hd kh) A S hs' { R with kh:=kh }:=by let(b,t,k,a,g):=JmP 4 ee.1 ee.2 ee;exact(b,t,JcC,a,Qy k _,Qu k,JfG,XD k _,h,Jhv,λr=>(U.u.wr r).keep k,Jhk,g,JhJ)
def Hu.setBg (U:G_ F)(bs):N0 F (Va O A.bg (bs.map V.int)) (N8 A.bg (bs.map V.int)) { S with bs:=bs }:=by let(b,t,k,a,g):=JmP 5 cH.1 cH.2 cH;exact(b,t,JcC,a,Qy k _,Qu k,JfG,XD k _,JhN,Jhv,λr=>(U.u.wr r).keep k,Jhk,g,JhJ)
def Hu.setKn (U:G_ F){rs:List Yk}{xs:List V}(h:Wy (rs.map zcM)):WU F (Va O A.kn xs) (N8 A.kn xs) { S with rs:=rs } { R with xs:=xs }:=by let(b,t,k,a,g):=JmP 1 cH.1 cH.2 cH;exact(b,t,JcC,a,h.keep k JfM,Qu k,JfG,XD k _,JhN,Jhv,λr=>(U.u.wr r).keep k,Jhk,g,JhJ)
def Hu.setPp (U:G_ F){pp:List Dt}{ys:List V}(h:Vt pp ys)(n:MU pp):WU F (Va O A.pp ys) (N8 A.pp ys) { S with pp:=pp } { R with ys:=ys }:=by let(b,t,k,a,g):=JmP 2 cH.1 cH.2 cH;exact(b,t,JcC,a,Qy k _,h.keep k n,n,XD k _,JhN,Jhv,λr=>(U.u.wr r).keep k,Jhk,g,JhJ)
def Hu.setWd (U:G_ F){r:Int}(c:-100<=r/\Jfm r){q:Addr}{x y:Int}(d:Vo q (Xw x y)):WU F (Vc O A.wd (II R.kw r (.ref q))) (Vc H A.wd (II R.kw r (.ref q))) (JgI x y) { R with kw:=zaz R.kw (Sum.inl r) (.ref q),gw:=λz=>if z=r then some (.ref q) else R.gw z }:=by
 let(b,t,k,a,g):=JmP 6 ee.1 ee.2 ee;apply(b,t,JcC,a,Qy k _,Qu k,JfG,XD k _,JhN,U.u.wd.put c _,λz=>?_,Jhk,g,JhJ);show WdR K _ (if z=r then Ja q else R.gw z) (if z=r then some (x,y,) else S.wt z)
 by_cases e:z=r
 .rwa[if_pos e,if_pos e]at .is (k.sq d)
 .rwa[if_neg e,if_neg e]at(U.u.wr z).keep k
def Hu.setLt (U:G_ F){c:Int}(d:-100<=c/\Jfm c)(x):WU F (Vc O A.lt (II R.kl c (.int x))) (Vc H A.lt (II R.kl c (.int x))) { S with la:=λz=>if z=c then some x else S.la z } { R with kl:=zaz R.kl (Sum.inl c) (.int x) }:=by
 let(b,t,k,a,g):=JmP 9 ee.1 ee.2 ee;apply(b,t,JcC,a,Qy k _,Qu k,JfG,XD k _,JhN,Jhv,λr=>(U.u.wr r).keep k,Jhk,g,?_);let e:(λz=>(if z=c then some x else S.la z).map VG)=λz=>if z=c then Ya x else(S.la z).map V.int:=by funext z;split<;>rfl
 rwa[e]at U.u.lt.put d _
def Hu.setLk (U:G_ F)(n):N0 F (upd O A.h (JhK C A n)) (Jm A.h (JhK C A n)) { S with lk:=n }:=by let(b,t,k,a,g):=JmP 0 gX.1 gX.2 gX;exact(b,t,JcC,a,Qy k _,Qu k,JfG,XD k _,JhN,Jhv,λr=>(U.u.wr r).keep k,Jhk,g,JhJ)
def Two.take (T:Jmd F){n:Addr}{o:HO}(h:Xa (F n) o)(h0:Jef (F0 n))(s:ap F0 F):Two F0 (upd O n o) H:=by
 apply(s.trans T.f,λb u e=>?_,λb e=>?_)
 .by_cases z:b=n
  .rw[z,ao]at e;rwa[z,<-e]at T.f _ _ h
  .rw[aq z]at e;exact T.o b u e
 .by_cases z:b=n
  .rwa[z]at h0
  .rw[aq z]at e;exact(T.base s).d b e
def yc {b:Type}{L:List b}(c:L.Nodup){i j:Nat}{a:b}(g:L[i]?=some a)(f:L[j]?=some a):i=j:=by let e:=gEq g;let d:=gEq f;exact(List.getElem_inj c).mp (e.2.trans d.2.symm)
theorem rR:∀{L:List α} {i:Nat},L.Nodup->n∉L->(L.set i n).Nodup
 |[],_,a,_=>a
 |x::L,0,a,h=>M8 (λz=>h (Jb z)) ((List.nodup_cons.mp a).2)
 |x::L,i+1,a,h=>by
  apply M8 (λz=>?_) (rR (List.nodup_cons.mp a).2 λz=>h (Jb z));rcases List.mem_or_eq_of_mem_set z with z|z
  .exact(List.nodup_cons.mp a).1 z
  .exact h (z▸VI)
def Hu.oN (U:G_ F){n:Addr}{o:HO}(h:Xa (F n) o):Mf (O n):=by
 cases e:O n with
 |none=>rfl
 |some u=>have:=U.t.d n (e<|>λz=>nomatch z);erw[h]at this
def HuO.stO (U:HuO K C O H A pr most S hs R){n:Addr}(h:Mf (O n)):n∉A.st:=λz=>by let(i,a):=List.getElem?_of_mem z;let b:=(gEq a).1;have:=U.at_ i n _ a (gG (show i<(Jlk C A S R).length from b));erw[h]at this
def Hu.give (U:G_ F){n:Addr}{c:Int}{ns:List Int}(E:-100<=c/\Jfm c)(h:Ia (F n) (ns.map V.int))(h0:Mf (F0 n))(s:ap F0 F):
  ∃M x,WU F0 M (Vc H A.wg (II R.kg c (.ref n))) (S.setG c ns) x/\(x.gg=λz=>if z=c then Ja n else R.gg z)/\x.xs=R.xs:=by
 let v:=U.oN h;let j:=U.u.stO v;let L:=U.t.take h h0 s;let J:V2 F0 (Va O n IE) H:=by apply(U.n.upd cH,L,JcC,λi a o b p=>?_,U.u.kn,U.u.pp,JfG,U.u.tr,JhN,Jhv,U.u.wr,Jhk,λc=>(U.u.gr c).upd (.inr v) λl D=>.inl D,JhJ);let w:a≠n:=λz=>j (z▸mO b);rwa[aq w]at JkO a o b p
 let(y,t,k,a,g):=J.set 7 rfl rfl ee.1 ee.2 ee;apply Mh _ { R with kg:=zaz R.kg _ _,gg:=λz=>if z=c then some _ else R.gg z } (y,t,JcC,a,Qy k _,Qu k,JfG,XD k _,JhN,Jhv,λr=>(U.u.wr r).keep k,U.u.wg.put E _,λz=>?_,JhJ) rfl
 let f:∀z,R.gg z≠some (.ref n):=λz e=>by
  have:=U.u.gr z;generalize S.wg z=B at this;cases this with
  |no h=>erw[h]at e
  |is b p _ _=>
   lia
 show WgR _ A (λz=>if z=c then Ja n else R.gg z) z (if z=c then ns else S.wg z)
 by_cases e:z=c
 .rw[if_pos e];apply .is Jn ?_ j λd h'=>?_
  .let w:n≠A.wg:=λq=>j (q▸JsK 7 rfl);rw[aq w,ao]
  .let h':=h'
   by_cases q:d=c
   .rw[q,e]
   .rw[if_neg q]at h';exact absurd h' (f d)
 .rw[if_neg e];let g':=g z;generalize S.wg z=B at g';cases g' with
  |no h=>exact .no Jn
  | @is l _ b p I G=>
   apply .is Jn p I λd h'=>?_
   let h':=h'
   by_cases q:d=c
   .rw[if_pos q]at h';injection h' with h';injection h' with h';rw[<-h']at b;exact absurd b (f z)
   .rw[if_neg q]at h';exact G d h'
def Hu.addL (U:G_ F){l:Addr}{c:Int}(h:R.gg c=Ja l)(r):Qr l ((S.wg c).map V.int)∧Hu K C F (Va O l ((Jhs c [r]).map V.int)) (N8 l ((Jhs c [r]).map V.int)) A pr most (S.addG c r) hs R:=by
 let g:=U.u.gr c;generalize I:S.wg c=G at g;cases g with
 |no h'=>erw[h]at h'
 | @is j _ b w v s =>
  rw[h]at b;injection b with b;injection b with b;subst b;let p:=U.t.o _ _ w;let k:=bj.oth (o:=.lst ((G++[r]).map VG)) p cH.1 cH.2;apply(p,U.n.upd cH,U.t.own (w<|>λz=>nomatch z) _,JcC,λi a o x J=>?_,Qy k _,Qu k,JfG,XD k _,JhN,Jhv,λr=>(U.u.wr r).keep k,Jhk,λz=>?_,JhJ)
  .let d:a≠l:=λz=>v (z▸mO x);rwa[aq d]at JkO a o x J
  .show WgR _ A R.gg z (if z=c then Jhs z [r] else S.wg z)
   by_cases e:z=c
   .rwa[if_pos e,e,I]at .is h ao v s
   .rw[if_neg e];let g:=U.u.gr z;generalize S.wg z=E at g;cases g with
    |no h'=>exact .no h'
    | @is j _ f D B y=>
     apply .is f ?_ B y;let d:j≠l:=λq=>e (s z (q▸f));rwa[aq d]at D
def Hu.gg0 (U:G_ F){c:Int}(h:Mf (R.gg c)):S.wg c=[]:=by
 let g:=U.u.gr c;generalize S.wg c=b at g;cases g with
 |no _=>rfl
 |is a _ _ _=>erw[h]at a
def Hu.gg1 (U:G_ F){c:Int}{v:V}(h:Xa (R.gg c) v):∃l,Nk v l/\H l=some (.lst ((S.wg c).map V.int)):=by
 let g:=U.u.gr c;generalize S.wg c=d at g;cases g with
 |no h'=>erw[h]at h'
 | @is l _ a b _ _=>
  rw[h]at a;injection a with a;exact(l,a,U.t.o _ _ b)
def Hu.moveTr {x:Hp}(U:G_ F){n:Addr}{ts:List We}{zs:List V}(h:Ia (F n) zs)(hz:Jko dP zs)(h0:Mf (x n))(s:ap x F):
  ∃I,Hu K C x I (Jm A.h (Jo4 C { A with tr:=n })) { A with tr:=n } pr most { S with ts:=ts } hs { R with zs:=zs }:=by
 let g:=U.oN h;let b:=U.u.stO g;let B:=U.u.at_ 0 _ _ rfl rfl;let y:n≠A.h:=λz=>b (z▸JsK 0 rfl);let k:=bj.oth (o:=Jo4 C { A with tr:=n }) JeN gX.1 gX.2;let j:({ A with tr:=n }:HA).st.Nodup:=by let e:({ A with tr:=n }:HA).st=A.st.set 3 n:=rfl;rwa[e]at rR JcC b
 apply(_,(U.n.upd cH).upd gX,(U.t.take h h0 s).own (by rw[UK y,B];exact λz=>nomatch z) _,j,λi a o f d=>?_,Qy k _,Qu k,JfG,hz.keep k (cA _),JhN,Jhv,λr=>(U.u.wr r).keep k,Jhk,λz=>?_,JhJ)
 .by_cases q:i=0
  .subst q;cases f;cases d;exact ao
  by_cases p:i=3
  .subst p;cases f;cases d;rw[aq y,ao]
  let c:A.st[i]?=some a:=by let e:({ A with tr:=n }:HA).st=A.st.set 3 n:=rfl;rw[e,List.getElem?_set_ne (Ne.symm p)]at f;exact f
  let w:(Jlk C A S R)[i]?=some o:=by let e:Jlk C { A with tr:=n } { S with ts:=ts } { R with zs:=zs }=((Jlk C A S R).set 3 _).set 0 _:=rfl;rw[e,List.getElem?_set_ne (Ne.symm q),List.getElem?_set_ne (Ne.symm p)]at d;exact d
  let G:a≠A.h:=λz=>q (yc JcC c (show A.st[0]?=some a by rw[z];rfl));let E:a≠n:=λz=>b (z▸mO c);rwa[aq G,aq E]at JkO a o c w
 .let D:=(U.u.gr z).upd (u:=.lst zs) (.inr g) (A':={ A with tr:=n }) λl v=>(JsP 3 v).imp id λe=>by rwa[e]at g
  exact D.upd (.inl (JsK 0 rfl)) λl v=>.inl v
def Hu.moveOd {x:Hp}(U:G_ F){n:Addr}{od:List Int}(h:Ia (F n) (od.map V.int))(h0:Mf (x n))(s:ap x F):
  ∃I,Hu K C x I (Jm A.h (Jo4 C { A with od:=n })) { A with od:=n } pr most { S with od:=od } hs R:=by
 let g:=U.oN h;let b:=U.u.stO g;let B:=U.u.at_ 0 _ _ rfl rfl;let y:n≠A.h:=λz=>b (z▸JsK 0 rfl);let k:=bj.oth (o:=Jo4 C { A with od:=n }) JeN gX.1 gX.2;let j:({ A with od:=n }:HA).st.Nodup:=by let e:({ A with od:=n }:HA).st=A.st.set 8 n:=rfl;rwa[e]at rR JcC b
 apply(_,(U.n.upd cH).upd gX,(U.t.take h h0 s).own (by rw[UK y,B];exact λz=>nomatch z) _,j,λi a o f d=>?_,Qy k _,Qu k,JfG,XD k _,JhN,Jhv,λr=>(U.u.wr r).keep k,Jhk,λz=>?_,JhJ)
 .by_cases q:i=0
  .subst q;cases f;cases d;exact ao
  by_cases p:i=8
  .subst p;cases f;cases d;rw[aq y,ao]
  let c:A.st[i]?=some a:=by let e:({ A with od:=n }:HA).st=A.st.set 8 n:=rfl;rw[e,List.getElem?_set_ne (Ne.symm p)]at f;exact f
  let w:(Jlk C A S R)[i]?=some o:=by let e:Jlk C { A with od:=n } { S with od:=od } R=((Jlk C A S R).set 8 _).set 0 _:=rfl;rw[e,List.getElem?_set_ne (Ne.symm q),List.getElem?_set_ne (Ne.symm p)]at d;exact d
  let G:a≠A.h:=λz=>q (yc JcC c (show A.st[0]?=some a by rw[z];rfl));let E:a≠n:=λz=>b (z▸mO c);rwa[aq G,aq E]at JkO a o c w
 .let D:=(U.u.gr z).upd (u:=.lst (od.map VG)) (.inr g) (A':={ A with od:=n }) λl v=>(JsP 8 v).imp id λe=>by rwa[e]at g
  exact D.upd (.inl (JsK 0 rfl)) λl v=>.inl v
def HS.setG_self {S:HS}{c:Int}{ns:List Int}(h:S.wg c=ns):S.setG c ns=S:=by
 have:(λx=>if x=c then ns else S.wg x)=S.wg:=by
  funext x;lia
 unfold HS.setG;rw[this]
def DM (hs)(p):(λx=>if x=p then some (V.bl true) else gW hs x)=gW (hs++[p]):=by
 funext x;unfold gW;by_cases e:x=p
 .rw[if_pos e,JoJ (e<|>List.mem_cons_self)]
 .rw[if_neg e];by_cases c:x∈hs
  .rw[if_pos c,JoI c]
  .rw[if_neg c,if_neg (λz=>(mPq z).elim c λz=>e (mSq z))]
def je (hs)(p):(gW hs p).isSome=decide (p∈hs):=by
 unfold gW;by_cases c:p∈hs
 .rw[if_pos c,dTq c];rfl
 .rw[if_neg c,dFq c];rfl
def eJ (R a:HC):Prop:=(∀c v,Xa (R.gg c) v->Xa (a.gg c) v)/\a.xs=R.xs
def Hu.setd (U:G_ F){c r:Int}(x:-100<=c/\Jfm c){e:Addr}(g:Nf e){Q:VK}
  (q:∀l d,Ia (d l) ((S.wg c).map V.int)->IA (∃o b,WU F o (Va d l ((Jhs c [r]).map V.int)) (S.addG c r) b/\eJ R b) l d):
  mV (.ref A.wg) (X5 c e) (JmD H) Q:=by
 let a:=U.newF g (.lst []);let j:=(U.t.none g).2;let f:ap F (JmD F):=Nn j;apply JhL A.wg (Sum.inl c) (.ref e) R.kg (a.at' 7 rfl rfl) (hln U.u.wg.len) ?_;rw[U.u.wg.val];cases h:R.gg c with
 |some v=>
  let(l,rfl,w):=a.gg1 h;exact .inl (QD (q l _ w (5,((a.addL h r).2).base f,Wf (λy y z=>z))))
 |none=>
  let s:=U.gg0 h;let(o,b,n,i,p):=a.give (ns:=[]) x ao j f;rw[HS.setG_self s]at n;let k:=n.addL (i<|>if_pos rfl) r;apply Jl rfl (q e _ k.1 (5,k.2,λz v hz=>?_,p));lia
def Hu.same (U:G_ F)(s:Xd H):J3 F H':=U.heap s.kt (U.t.f.trans s,U.t.o.trans s,U.t.d)
def Hu.more (U:G_ F)(s:Xd H){d:Addr}{o:HO}(h:Nf d)(c:Uk d o):J3 (upd F d o) H':=by
 let a:=U.same s;apply(a.n,(λb u e=>?_,a.t.o,λb e=>?_),a.u)
 .by_cases z:b=d
  .rw[z,ao]at e;rwa[z,<-e]at c
  .rw[aq z]at e;exact a.t.f b u e
 .let g:b≠d:=λz=>e (z<|>(U.t.none h).1);rwa[aq g]at a.t.d b e
def Hu.tupF (U:G_ F){d:Addr}{o:HO}(a:Ic d o)(h:¬NTup o):ap F (upd F d o)/\Hu K C (upd F d o) O H A pr most S hs R:=by
 let od:Mf (O d):=by
  cases e:O d with
  |none=>rfl
  |some u=>have:=U.t.o _ _ e;rw[a]at this;injection this with this;exact absurd (U.n d u e) (this▸h)
 apply(λb u e=>?_,U.n,(λb u e=>?_,U.t.o,λb e=>?_),U.u)
 .by_cases z:b=d
  .have:=U.t.f _ _ e;rw[z,a]at this;rwa[z,ao]at this
  .rwa[aq z]at e
 .by_cases z:b=d
  .rw[z,ao]at e;rwa[z,<-e]at a
  .rw[aq z]at e;exact U.t.f b u e
 .let c:b≠d:=λz=>e (z<|>od);rwa[aq c]at U.t.d b e
def Hu.sqF (U:G_ F){d:Addr}{xs:List V}(h:UR d):∃b,ap F b/\G_ b/\SqT K b d xs:=by
 rcases h with (h|⟨q,h⟩)|h
 .let(s,a):=U.tupF h λz=>z.1 _ rfl;exact(_,s,a,Jca ao)
 .let(s,a):=U.tupF h λz=>z.2 _ _ rfl;exact(_,s,a,JjK q ao)
 .exact(F,ap.refl F,U,.inr h)
def Hu.held (U:G_ F)(p):cg H A.hd (.int p) (gW hs p):=by have:=Jsx (Sum.inl p) (Jbp 4);rw[U.u.hd.val]at this;exact this
def Hu.hold (U:G_ F){q:Addr}{p y:Int}(e:-100<=p/\Jfm p)(a:Nf q):
  ∃h c,GE F h (Vc (JhC (Gb H q (Xw p y)) A.tr R.zs q) A.hd (II R.kh p (.bl true))) A (S.hold p y) (hs++[p]) c/\eJ R c:=by
 let b:=JlV a p y;let d:IB F F q (Xw p y):=Nn (U.t.none a).2;let g:=b.setTr (ts:=S.ts++[(p,y,)]) (zs:=JhB R.zs q) (by rw[mAq];apply Ip b.u.tr ?_;exact of_dP WV)
 let f:=g.setHd (hs':=hs++[p]) (by rwa[<-DM]at U.u.hd.put e _);exact(5,f.base d,Wf (λx x z=>z))
section
variable {K:W.Frag} {h:Heap} {mg:Str->Option Value} {C f:Addr} {fd:FuncData} {n x q:Str} {st:Stmt} {oc kV doc pm cdv ct:Value} {od an:Option Addr} {osl:Array Jf3}
structure FT (K)(n x)(st)(f)(fd):Prop where
 a:Jo2 n f
 F:Jr_ x st
 k:JkA f
def FT.m (z:FT K n x st f fd)(X:K.In h)(G:Jcy mg):mg n=some (.ref f):=W.mg_of X G z.a
def ft_in (a:Jo2 n f)(l:Jd7 f oc od (Jkz x x st st (ai st) .none kV doc pm an cdv ct) osl)(c:JgU K cdv x)(k:JkA f):FT K n x st f (Jkz x x st st (ai st) .none kV doc pm an cdv ct):=(a,vZ l c k,k)
structure FM (K)(C)(x q)(st)(f)(fd):Prop where
 a:Jns (Yh K C x) f
 i:Vi (W.isFn K (.ref f))
 F:Xv x q st
 k:JkA f
def FM.M (z:FM K C x q st f fd):XY x f:=(z.a,z.i,z.k)
def fm_in (a:Jns (Yh K C x) f)(i:Vi (W.isFn K (.ref f)))(l:Jd7 f oc od (Jkz x q st st (ai st) .none kV doc pm an cdv ct) osl)(c:JgU K cdv q)(k:JkA f):FM K C x q st f (Jkz x q st st (ai st) .none kV doc pm an cdv ct):=(a,i,vZ l c k,k)
abbrev Bd (x q:Str)(st:Stmt)(ps:List Str)(us:List Value):Prop:=∀kV doc pm an cdv ct,JpX (JcZ (Jkz x q st st (ai st) .none kV doc pm an cdv ct) us) us
def Fun.b1 (F:Xv x q st)(h:∀a,Bd x q st [p] [a]):JjI fd p:=F.binds λkV doc pm an cdv ct us b=>by rcases us with _|⟨_,_|_⟩<;>first|exact h _ kV doc pm an cdv ct|cases b
def Fun.b2 (F:Xv x q st)(h:∀a b,Bd x q st [p,p2] [a,b]):Yj fd [p,p2]:=F.binds λkV doc pm an cdv ct us c=>by rcases us with _|⟨_,_|⟨_,_|_⟩⟩<;>first|exact h _ _ kV doc pm an cdv ct|cases c
def Fun.b3 (F:Xv x q st)(h:∀a b c,Bd x q st [p,p2,p3] [a,b,c]):Yj fd [p,p2,p3]:=F.binds λkV doc pm an cdv ct us d=>by rcases us with _|⟨_,_|⟨_,_|⟨_,_|_⟩⟩⟩<;>first|exact h _ _ _ kV doc pm an cdv ct|cases d
def Fun.b4 (F:Xv x q st)(h:∀a b c d,Bd x q st [p,p2,p3,p4] [a,b,c,d]):Yj fd [p,p2,p3,p4]:=F.binds λkV doc pm an cdv ct us e=>by rcases us with _|⟨_,_|⟨_,_|⟨_,_|⟨_,_|_⟩⟩⟩⟩<;>first|exact h _ _ _ _ kV doc pm an cdv ct|cases e
def Fun.b5 (F:Xv x q st)(h:∀a b c d e,Bd x q st [p,p2,p3,p4,p5] [a,b,c,d,e]):Yj fd [p,p2,p3,p4,p5]:=F.binds λkV doc pm an cdv ct us g=>by rcases us with _|⟨_,_|⟨_,_|⟨_,_|⟨_,_|⟨_,_|_⟩⟩⟩⟩⟩<;>first|exact h _ _ _ _ _ kV doc pm an cdv ct|cases g
def Fun.top (F:Xv x q st)(h:∀a,Bd x q st [p] [a]):∀s v,BindsTo s fd (WY [v]) [(p,v,)]:=λs v=>by let(oc,od,kV,doc,pm,an,cdv,ct,osl,rfl,c,b):=F.ex;exact .of_eq (h v kV doc pm an cdv ct)
end
end L2
namespace L2
open PySem PySem.Spec PyProof.Rows
def rS (CX:CXT)(X:Cx)(E:XK)(b:St):Prop:=∀a H s e s',Jp9 Jq4
def tCallS (a:St)(sp:Sp)(dvs:List V)(E:XK)(t:TA):TE:=λb H Q=>b=a/\vD sp dvs E t b H Q
def yd (F:aS X.prog X.w X.K X.mg X.base CX k f fd ps sp)(y:JkI k)(G:Jit x)(z:X.mg x=Ja f)(D:Ja3 X.K f)(M:aw X.K fd ps ds)(L:JkJ ds)(v:rS CX X E σ0)
  (N:Jfc X e t)(i:Yw (x==Xs):=by decide)(J:Jdh e=(false,Jc e,)::starEach es X.env:=by rfl)(g:(JgW es).any Qn=false:=by rfl):
  PE X (Jn8 x e) (tCallS σ0 sp dvs E t):=by
 rintro a s n H Q I ⟨rfl,h⟩;apply Jar I G z ?_ i;apply W.callWith_K (h₀:=Jdc) Jqq D (thn (N pos a s n H _ I h) λus d h_=>?_) J g;let(vs,l,c,r,q):=h_;apply Qm c.kIn;let j:bc (vs++dvs) (us++ds):=r.append L;let B:(us++ds).length=ps.length:=by rwa[<-j.length]at F.len _ _ _ _ q
 apply wpAny_call (codeAny_mono (F.run X.A ID d l (WY us) (us++ds) (vs++dvs) Q E y c.env0 (M d us c.kIn B) j q) λr s' b=>?_);cases r with
 |error e=>exact v a l d e s' c b
 |ok fl=>
  cases fl with
  |ret u=>exact c.after b
  |next=>exact False.elim b
  |brk=>exact False.elim b
  |cont=>exact False.elim b
def tTryS (d:XK->St->TS)(b:Addr->TS):TS:=λD a H=>d (λc x H'=>∃C,Nk c C/\b C D a H') a D a H
def DN (d:X.stack=Ja4 X.env)(J:JiV X.env.frame)
  (Z:∀(a:Jcr Obj) (Q:Value->Shared->Prop) (P:XK) (i:St),rS (CX1 X.prog X.w) (X.tryc a Q) P i->PSs (X.tryc a Q) body (tb P i))(Y:PH X (h0::hs) th):
  PS X (.Try body (h0::hs) [] [] pos) (tTryS tb th):=by
 intro a s g H D I h;apply wpAny_Try_except ?_;let W:rS (CX1 Uh X.w) (X.tryc a (λe b=>UH (noteFrame e Wc) (λx S=>UH (setFlight e none) (λx R=>UH (handleBy e Wc (h0::hs)) (SP X a D) R) S) b))
   (λc x H'=>∃C,Nk c C/\th C D g H') g:=by
  intro y O b e s' I1 K;let(ea,C,H',B,N,rfl,T,l,u,U,fl,trk,F,C',ec,hE):=K;cases ec;let c:Came X a g O b H' B s':=(I1.untryc I.ok,T,l,u,U,trk,F);let M:JdX B (Ja4 Wc) ea C N s'.heap:=Jn
  let G:X.A.frames=some (Ja4 Wc):=by rw[I.ok.frames,d]
  apply wpAny_looks_onW G J M λh2 L v=>?_;apply wpAny_landsW L λh3 j r=>?_;rw[<-d]at j;exact Y a g O b H' B s' D ea C N h3 c j (v.trans r) hE
 apply wpAny_mono (Z a _ _ g W [] s g H D (I.tryc _) h) (λf b q=>?_) λe b q=>q;let n:SP X a D f b:=q.untryc I.ok;cases f with
 |next=>exact wpAny_execs_nil n
 |brk=>exact n
 |cont=>exact n
 |ret u=>exact n
end L2
namespace W53
open PySem L2
noncomputable def top (i:Nat):Stmt:=PySem.Challenge.pw_yesorno_k53_whole_no.main.body.getD i JdT
abbrev s_init:Stmt:=Iv 1 0
abbrev s_head:Stmt:=Iv 1 1
abbrev s_together:Stmt:=Iv 1 2
abbrev s_merge:Stmt:=Iv 1 3
abbrev s_given_links:Stmt:=top 2
abbrev s_alike_links:Stmt:=top 3
abbrev s_links:Stmt:=top 4
abbrev s_groups_of:Stmt:=top 5
abbrev s_heads:Stmt:=top 6
abbrev oU:Stmt:=top 33
abbrev s_steps_of:Stmt:=top 41
abbrev s_way:Stmt:=top 42
abbrev s_part_pairs:Stmt:=top 43
abbrev s_ways:Stmt:=top 44
abbrev mY:Stmt:=top 46
abbrev mZ:Stmt:=top 47
abbrev oW:Stmt:=top 48
abbrev m_:Stmt:=top 49
abbrev oX:Stmt:=top 50
structure TxG (K)(mg:QT Str)(C):Prop where
 cl:Jj3 K
 nL:Jml "least"
 nG:Jml "gathered"
 min:Jg "min"
 max:Jg "max"
 range:Jg "range"
structure Txt (K)(mg:QT Str):Prop where
 len:Jg "len"
 list:Jg "list"
 range:Jg "range"
 isinstance:Jg "isinstance"
 int:Jg "int"
 bool:Jg "bool"
 min:Jg "min"
 max:Jg "max"
 tuple:Jg "tuple"
 enumerate:Jg "enumerate"
 zip:Jg "zip"
 sorted:Jg "sorted"
 dict:Jg "dict"
 ib:JmM K "int" "bool" false
inductive sp_init (C):Sp|m{vs H Q E9} (g dx):vs=Vj g->JjO g [] ((∀H' ld gd,(∀b o,b≠g->Jik b o b o)->Jgk ld gd (ld≠gd->Uk g (Y_ [("least",.ref ld,),("gathered",.ref gd,)])->JpO (Jgh ld []) (Jgh gd [])))->sp_init C vs H Q E9)
def DO:Jsw ["self"] s_init:=fsc
def ok_init (F:JoS "Groups.__init__" s_init)(T:Jp_ C):JjL ["self"] (sp_init C):=by
 apply Jq_ DO D
 let(g,dx,rfl,y,q):=h;apply Ym (JdY JqA JqA);rfl'
 apply λld d=>?_;let x:=cn y d;apply nwC d (.dK []) λj t n=>?_;let p:=t _ _ y;let k1:=t;apply WQ _ g C dx _ p Yt T.nL Jp ?_;let c:(NC j g C JoE) g=some (Y_ [("least",.ref ld,)]):=ao;let i:(NC j g C JoE) ld=some (.dK []):=by rwa[UK x]at n
 let k2:∀b o,b≠g->Ic b o->(NC j g C JoE) b=some o:=λb o k h=>by rwa[aq k]at k1 b o h
 let r:∀b,(NC j g C JoE) b=none->Nf b:=λb h=>by
  cases e:H b with
  |none=>rfl
  |some o=>
   by_cases z:b=g
   .erw[z,c]at h
   .erw[k2 b o z e]at h
 generalize NC j g C JoE=G at c i k2 r;apply λgd a=>?_;let v:=cn c a;let u:=cn i a;apply WQ _ g C dx _ (aq v<|>c) Yt T.nG (by show JcN 1;decide) ?_;apply q _ ld gd (λb o k h=>?_) d (r gd a) u ao (by rwa[UK x,aq u]at i) (UK v<|>ao);let l:b≠gd:=λz=>by erw[z,r gd a]at h
 rwa[aq k,aq l]at k2 b o k h
def init_new (l:Nf g)(d:Nf dx)(q:∀H' ld gd,VQ ld (Ms gd (JpN (∀N,VL H' C g N 0 (hdL []) [])))):sp_init C (Vj g) (Jld g g) Q E:=by
 let k:∀b o,Ic b o->(Jld g g) b=some o:=λb o h=>by rwa[aq (λe=>by erw[e,l]at h),aq (λe=>by erw[e,d]at h)]at h
 let n:∀b,(Jld g g) b=none->Nf b:=λb h=>by
  cases e:H b with
  |none=>rfl
  |some o=>erw[k b o e]at h
 exact Qp g dx ao (λs ld gd k1 p c r j i a=>q s ld gd (λb o h=>k1 b o (λe=>by erw[e,l]at h) (k b o h)) (n ld p) (n gd c) λN=>(Hd.zero N,r,dx,[],[],j,i,a,λt=>rfl,λx y=>Jho [x] (λt=>by show t∈[x]↔t=x;simp) (JaO rfl),Nat.zero_le _,Nat.zero_le _))
inductive k_ (C):Sp|m{vs H Q E9} (g ld gd) (t) (N b) (hd) (av):vs=UJ g t->Jhg C->Mn (hd t) H->k_ C vs H Q E9
def DP:JgV (Wo "term") "term" s_head:=fsc
def ok_head (F:Xv "head" "Groups.head" s_head)(T:Jp_ C):JjL (Wo "term") (k_ C):=by
 apply Jq_ DP d
 let(g,ld,gd,t,N,b,e,l,rfl,G,q):=h;let c:=dc d;let(dx,kl,kg,j,a,r,i,p,o,n):=G.ex;apply Ym (Nc (kF c Wa WA WA Jft));rfl';apply(2,g,C,dx,_,2,j,Yt,T.nL,rfl,ld,rfl,Jbb kl a,7,_,Jsx (Sum.inl t) a,?_);rwa[i]at q
inductive sp_together (C):Sp|m{vs H Q E9} (g ld gd) (t u) (N b) (hd) (av):vs=JbI g t u->Jhg C->Jpa (decide (hd t=hd u)) (sp_together C vs H Q E9)
def DQ:Jsw JfR s_together:=fsc
def ok_together (F:Xv "together" "Groups.together" s_together)(T:Jp_ C)(M:JnR fH)(j:X4 1 fH dH "term" (k_ C))(i:Ji8 dH):JA 2 JfR (sp_together C):=by
 apply Jq_ DQ d
 let(g,ld,gd,t,u,N,b,a,c,rfl,G,q):=h;let(dx,kl,kg,e,r,p,o,n,l,k):=G.ex;apply Ym (Nc (cP bD (Jkr 0 M j d i 1) (Jkr 0 M j d i 2)));rfl';apply(2,g,dx,2,e,rfl,2,g,ld,gd,t,N,b,a,c,rfl,G,2,g,dx,2,e,rfl,2,g,ld,gd,u,N,b,a,c,rfl,G,rfl,?_);rwa[kY]at q
inductive sp_merge (C):Sp|m{vs H Q E9} (g ld gd) (t u) (N b) (hd) (av):vs=JbI g t u->Jhg C->JnS (0<=t/\t<(N:Int)) (0<=u/\u<(N:Int)) (NJ N) b ((∀a∈av,Jm6 a)->(∀H',JpO (Jck H') (Jf2 H' C g N (b+1) (mrg hd t u)))->sp_merge C vs H Q E9)
def ni:Je ["self","one","other","low","high","moved","term"] JfR s_merge:=fsc
def oY (h:n<=200000):Qd n:=by rw[sizeLine_eq];lia
def merge3 (T:Jp_ C){cdv:Value}{A:Around}{outer:List Env}{s:Shared}{H0:Hp}{E:XK}(hr:Jl3 1 "Groups.merge" s_merge) :
  ∃z,PSs (JmQ P w K mg ["self","one","other","low","high","moved","term"] "Groups.merge" s_merge f A s H0 E).nox ((zas s_merge).drop 3) z/\
   ∀D H g ld gd t u N b d av,Jf2 H C g N b d->(0<=t/\t<(N:Int))->(0<=u/\u<(N:Int))->NJ N->Jr b->JhM t u≠Jon t u->(∀a∈av,Jm6 a)->(∀H' σ',Jck H'->Jf2 H' C g N (b+1) (mrg d t u)->D.nx σ' H')->
    z D [Ja g,Ya t,Ya u,Ya (JhM t u),Ya (Jon t u),none,none] H:=by
 let hu:=dc hr;apply Ym (Nm (i:=5) ni.nd (kF hu Wa JeA (JoL 4) Jft) (JlS (Jes 5) (i:=6) ni.nd (Jo7 hu 0 6 MJ)) (aj (Jo7 hu 0 3 (JbH qz (kF hu Wa MJ (JoL 3) Jft) 5))));rfl'
 rintro D H g ld gd t u N b d av G ht X N100 M e hav q;let(dx,kl,kg,h1,h2,h3,h4,h5,h6,h7):=G.ex;let bN:b*N<=100000:=Nat.mul_le_mul M N100;let(mh,k1,k2,k3):=h5 _ (G.h.hi_id t u);let(ml,l1,l2,U):=h5 _ (G.h.lo_id t u);let tN:=G.h.in' ht;let uN:=G.h.in' X;let lh:=lohi (d t) (d u);let mhl:=xC G.h (x:=Jon t u) (lqL (P:=λx=>0<=x/\x<(N:Int)) lh.2 tN uN) k1 k2;let mll:=xC G.h (x:=JhM t u) (lqM (P:=λx=>0<=x/\x<(N:Int)) lh.2 tN uN) l1 l2;let R:=Qe h1 h2;let ngg:=Qe h1 h3;apply GX _ g C dx _ _ rfl h1 Yt T.nG rfl gd rfl (Jbb kg h3) _ rfl _ rfl lS1 VE;let(H1,eN,B,n1):=IF hl (X3 (Jon t u));rw[eN];obtain⟨I,eam,r⟩:∃I,(Vh kg (Jon t u)).getD (.ref l)=.ref I/\H1 I=some (.lst (mh.map VG)):=by
  rcases k3 with ⟨k3,k4⟩|⟨a,k3,k4,_⟩
  .rw[k3];apply Gc l rfl;rwa[k4]at n1
  .rwa[k3]at Nd a (B _ _ k4)
 apply Ym (Jsx (Sum.inl _) (B _ _ h3));rw[eam];let h11:=B _ _ h1;let h21:=B _ _ h2;let h31:=B _ _ h3;let J:=Qe r h21;apply MA _ I (UC r) (JcP dv (λi σ H'=>Ex2 λ v6 j=>An5 (σ=[Ja g,Ya t,Ya u,Ya JqR,Ya (Jon t u),Ja I,v6]) (cL ld H1 H') (Jgh ld j) (j.length<=kl.length+i) (∀x:Int,(Vh j x).getD (.int x)=.int (if x∈mh.take i then JhM t u else d x))) (λi σ H' h=>by let(_,_,_,n,_):=h;exact SqL.of (n _ _ J r)) (none,kl,rfl,cL.refl _ _,h21,nRq _,λx=>by simpa using h4 x))
 .rintro i σ H2 x H3 hi ⟨v6,j,rfl,n,F,ll,hv⟩ ⟨rfl,hx⟩;let(k,hk,rfl):=GY _ (SqL.of (n _ _ J r));rw[lM]at hi;apply(7,g,C,dx,_,2,n _ _ R h11,Yt,T.nL,rfl,2,ld,2,Jc7 (k:=Sum.inl k) F Jn,_,2,n.trans (Jfo _),ao,?_,λx=>?_)
  .have:=Jj9 j k (.int JqR);exact Jap this ll
  .rw[hX,a_ hk];by_cases z:x=k
   .subst z;rw[if_pos rfl,JoJ List.mem_cons_self];rfl
   .rw[if_neg (λw=>z (by injection w)),hv];congr 1;by_cases w:x∈mh.take i
    .rw[if_pos w,JoI w]
    .rw[if_neg w,if_neg (λy=>by
      rcases mPq y with y|y
      .exact w y
      .exact z (mSq y))]
 .rintro σ H2 ⟨v6,j,rfl,n,F,ll,hv⟩;rw[lM]at ll;rw[lM,NF _]at hv;let h12:=n _ _ R h11;let L:=n _ _ (Ne.symm G.ne) h31;let ham2:=n _ _ J r;apply GX _ g C dx _ _ rfl h12 Yt T.nG rfl gd rfl (Jbb kg L) _ rfl _ rfl lS1 (λW Z=>?_);let(H3,eN,O,n3):=IF Z (X3 JqR);rw[eN];obtain⟨al,eal,hal⟩:∃al,(Vh kg JqR).getD (.ref W)=.ref al∧H3 al=some (.lst (ml.map VG)):=by
   rcases U with ⟨U,Q⟩|⟨a,U,Q,_⟩
   .rw[U];apply Gc W rfl;rwa[Q]at n3
   .rw[U];let na:=Qe Q h2;exact Nd a (O _ _ (n _ _ na (B _ _ Q)))
  apply Ym (Jsx (Sum.inl _) (O _ _ L));rw[eal];apply WQ _ al I _ _ rfl hal (O _ _ ham2) (oY (by rw[lM,lM];lia)) (λp Y=>?_);rw[<-mAq];let(H4,eN,s4,n4):=IF Y ((ml++mh).map VG);rw[eN];let v:=O.trans s4;let h14:=v _ _ h12;let h34:=v _ _ L;let hl4:=v _ _ F;let npg:=Qe n4 h34;apply(2,g,C,dx,_,2,h14,Yt,T.nG,rfl,2,gd,2,Jc7 (k:=Sum.inl _) h34 Jn,?_);apply q _ _ ?_ ?_
  .intro b' o' nb1 nb2 hb;rwa[aq nb2]at v _ _ (n _ _ nb1 (B _ _ hb))
  .let Q:j.length≤(b+1) * N:=Jn
   apply GO.merged G.h G.ne ht X e (aq ngg<|>h14) (aq G.ne<|>hl4) ao hv (λx hx=>?_) l1 l2 k1 k2 (aq npg<|>n4) Q Jn (λz=>?_)
   .let(ms,m1,m2,S):=h5 x hx;apply Jhm ms m1 m2;rcases S with S | ⟨a,S,m4,m5⟩
    .exact .inl S
    .let na:=Qe m4 h2;let ng:=Qe m4 h3;exact WM a S (aq ng<|>v _ _ (n _ _ na (B _ _ m4))) m5
   .cases eo:H p with
    |none=>exact hav p z eo
    |some o=>
     by_cases c:p=ld
     .erw[c,O _ _ F]at Y
     .erw[O _ _ (n _ _ c (B _ _ eo))]at Y
def ok_merge (F:Xv "merge" "Groups.merge" s_merge)(T:Jp_ C)(M:JnR fH)(o:X4 1 fH dH "term" (k_ C))(n:Ji8 dH):JA 2 JfR (sp_merge C):=by
 apply Jq_ ni j
 let(g,ld,gd,t,u,N,b,a,k,rfl,G,z,p,d,c,r,q):=h;let(dx,kl,kg,l,U,S,R,O,L,J):=G.ex;let W:=Nat.mul_le_mul c d;let(D,v,y):=merge3 (base:=base) (outer:=outer) T j;apply Ym (Jdb (i:=3) ni.nd (Jdt (An rfl) T.min Jmf) (i:=4) ni.nd (QU (qo rfl) T.max Jmf) (ae (be (IX bD 3 JeA) (aj Ad)
   aU)
  v));rfl'
 apply(2,g,dx,2,l,rfl,2,g,ld,gd,t,N,b,a,k,rfl,G,2,g,dx,2,l,rfl,2,g,ld,gd,u,N,b,a,k,rfl,G,_,2,?_);apply(2,g,dx,2,l,rfl,2,g,ld,gd,t,N,b,a,k,rfl,G,2,g,dx,2,l,rfl,2,g,ld,gd,u,N,b,a,k,rfl,G,_,2,?_);apply Jk6 _ rfl _ _ rfl ?_;show if decide (Jou (loF (a t) (a u)) (hiF (a t) (a u)))=true then _ else _
 rw[kY];by_cases e:loF (a t) (a u)=hiF (a t) (a u)
 .rw[dTq e];apply aD (q H (λm m m m h=>h) ?_);rwa[xx e]at G.mono JeF
 rwa[dFq e]at bq (y _ H g ld gd t u N b a k G z p d c e r λH' x s' B=>q H' s' B)
inductive rT (K)(C):Sp|m{vs H Q E9} (a) (xs) (ls) (N):Je4 (vs=Vj a) a (JnS (JaQ dL) (InN N ls) (NJ N) ls.length ((∀H' g ld gd,VQ ld (Ms gd (QO (VL H' C g N ls.length (hdL ls) []) g)))->rT K C vs H Q E9))
def rV:Je ["links","groups","link"] ["links"] s_groups_of:=fsc
def ok_groups_of (F:Jr_ "groups_of" s_groups_of)(T:Jp_ C)(MK:Mk K C fI)(U:mg "Groups"=Ja C)(Bi:Vn 1 fI dI ["self"] (sp_init C))(bi:JjJ dI)(M:XY "merge" fM)(Bm:Jie 2 fM dM (sp_merge C))(bm:JaJ dM):JA 3 ["links"] (rT K C):=by
 apply Jq_ rV D
 let(a,xs,ls,N,rfl,y,I,Z,n,v,q):=h;let L:Xp ls.length:=by rw[<-I.length,lM]
 apply Ym (NY (i:=1) rV.nd (kz MK Bi D rfl U bi .nil aJ) (JsF (Jes 0) 2 rV.nd (QS 1 M Bm D bm Jry)) WA);rfl'
 intro g dx R u S;apply init_new R u λH1 ld gd B e c G1=>Qm rfl;apply JcQ _ a (B.seq y) (dv) (λi r H'=>∃t,JlJ (r=[Ja a,Ja g,t]) H (VL H' C g N i (Jcb i) [])) (λi r H' h=>by let(_,_,d,_):=h;exact d.seq y) (Ml none B (G1 N))
 .rintro i r J x H3 hi ⟨t,rfl,d,o⟩ ⟨rfl,W⟩;let(l,p,G,rfl,X):=iJ I (W _ (d.seq y));let k:=d.tup X;let(z,kl,kg,e1,_):=id o.ex;let b:=Z l (mO G);let a0:J7 QY=some (.int l.1):=ay rfl;let a1:Jcn QY=some (.int l.2.1):=ay rfl;apply(2,g,z,2,e1,rfl,2,p,4,k,a0,2,p,4,k,a1,g,ld,gd,l.1,l.2.1,N,i,_,[],rfl,o,b.1,b.2,n,Jn,(λa Y=>nomatch Y),λH4 O G4=>?_);apply JoQ (d.ofG e c O) ?_;rwa[a_ G,ik]at G4
 .rintro r J ⟨t,rfl,d,o⟩;rw[L,List.take_length]at o;exact QD (q J g ld gd d e c o)
def nj (ls:List Lk)(n:Nat):List Int:=(List.range n).map λi:Nat=>Jdp (i:Int)
def DR (ls)(n):nj ls (n+1)=nj ls n++[Jdp (n:Int)]:=by unfold nj;rw[List.range_succ,mAq];rfl
inductive sp_heads (K):Sp|m{vs H Q E9} (a) (n) (xs) (ls) (N):Je4 (vs=X5 (n:Int) a) a (JnS (JaQ dL) (InN N ls) (NJ N) ls.length (IL n ((∀H' l,JlW l (Il l ((nj ls n).map V.int)) l)->sp_heads K vs H Q E9)))
def ye:Je ["many","links","groups"] ["many","links"] s_heads:=fsc
def ok_heads (F:Jr_ "heads" s_heads)(T:Jp_ C)(o:Xu 3 "groups_of" fG dG ["links"] (rT K C))(M:JnR fH)(Y:X4 1 fH dH "term" (k_ C))(W:Ji8 dH):JA 4 ["many","links"] (sp_heads K):=by
 apply Jq_ ye z
 let(a,n,xs,ls,N,rfl,O,S,R,k,d,p,q):=h;let r:Jhw 1:=z.mono Jp;apply Ym (QZ (JfW (i:=2) ye.nd rfl rfl (JfP o.ok z o.m o.kp o.b 1)) (JsA (Jdq "term") [2] (λJ=>JsN (ai s_heads) J) Xe (JpZ 0) (λ_ _ _ _=>(Jkr 1 M Y r W 0))));rfl'
 apply JN _ a xs ls N rfl O S R k d (λX g ld gd y _ _ G=>?_);apply Jje _ _ Jn (by lia -ac) (λD u=>Jg8 wC (λi ys H'=>Xd X/\ys=(nj ls i).map VG) (λ_ _ _ _=>trivial) u)
 .rintro i ys v x Z B t e ⟨l,rfl⟩ ⟨rfl,rfl⟩;let L:i<n:=Jn
  let I:=G.same l;let(dx,kl,kg,U,_):=id I.ex;apply GX _ g dx _ rfl U rfl _ rfl g ld gd _ N _ _ _ rfl I (JbA _ B t e (l.upd u));rw[DR,mAq];rw[Int.zero_add];rfl
 .rintro ys v e ⟨l,rfl⟩;let c:=e;rw[Int.toNat_natCast]at c;exact q v D (y.trans l) (y.free u) c
inductive rW (K)(C):Sp|m{vs H Q E9} (a g ld gd) (ys) (gs) (ts):vs=Iw a g->JmA a->Vt (gs.map dP) ys->JnS (xP ts.length gs) (Jcd H C g 0 [] []) (NJ ts.length) gs.length ((∀H' fl ls zs,Jck H'->Ms fl (Il fl zs->JpT dL->Jma (JnY H' C g ls [fl]) (Jep ls) (JbG gs ls) (ls=gvF gs) fl))->rW K C vs H Q E9)
def oZ:Je ["given","groups","found","number","pair"] Jqd s_given_links:=fsc
def ok_given_links (F:Jr_ "given_links" s_given_links)(T:Jp_ C)(TE:Jg "enumerate")(MT:XY "together" fT)(Bt:Jie 2 fT dT' (sp_together C))(bt:JaJ dT')(MM:XY "merge" fM)(Bm:Jie 2 fM dM (sp_merge C))(bm:JaJ dM):JA 3 Jqd (rW K C):=by
 apply XF oZ
 let(a,g,ld,gd,ys,S,ts,rfl,hS,hL,hP,G,N100,g1000,q):=h;let yl:JbE S.length:=by rw[<-hL.length,lM]
 apply Ym (NY (i:=2) oZ.nd (bK ac) (Mb rfl (mj rfl TE Jqj) (ko rfl (JsH 3 oZ.nd 4 oZ.nd kj)) (aj (be (GK (JH 1 MT Bt hr bt Jrw)) (Jp3 (ak (JH 1 MM Bm hr bm Jrw)) 2 (JoK (aa (Qg 4) (IT (Qg 4) 3))))
     aU))) UA);rfl'
 apply JfX (λfl B=>?_);let s1:Jck (GB H fl):=(Nn B).g;let G1:Jcd (GB H fl) C g 0 [] [fl]:=(G.avoid B).same (Nn B);let n1:=Jsu H fl (.lst []);generalize GB H fl=H1 at s1 G1 n1;apply JcQ _ a (Jfp s1) mi (λi σ H'=>Ex4 λ(v3 v4:Option V) (ls:List Lk) (zs:List V)=>An8 (σ=[Ja a,Ja g,Ja fl,v3,v4]) (Jck H') (Il fl zs) (JpT dL) (JnY H' C g ls [fl]) (Jeo S ls) ((∀j p,j<i->S[j]?=some p->Jdp p.1=Jdp p.2)) ((S.take i).foldl kX ([],0,)=(ls,i,))) (λi σ H' h=>by let(_,_,_,_,_,W,_):=h;exact Jfp W) (none,none,[],[],rfl,s1,n1,Jks,G1,cc.nil _ _,(λj p X=>NH X _),rfl)
 .rintro i σ U x H3 hi ⟨v3,v4,ls,zs,rfl,W,R,J,G2,R2,g2,gf⟩ ⟨t,y,rfl,ht,rfl,hy⟩;let(d,p,n,rfl,hp):=rO hL (hy _ (Jfp W));let s3:Jck (Gb U t (X5 i p)):=W.trans (Nn ht).g;let L:IB U U t (X5 i p):=Nn ht;let O:=G2.same L;let N:=L _ _ R;let I:=JpE L.kt J;let n3:=Jsu U t (Jkq i p);generalize Gb U t (X5 i p)=H3 at s3 L O N I n3;let v:=(G.ktG s3).sq hp;let b:=hP d (mO n);let a0:JmK d.1 d.2=some (.int d.1):=Jsv 0;let a1:Jjf d.1 d.2=some (.int d.2):=Jsv 1;let ll:=R2.len;let gf':(S.take Xi).foldl kX ([],0,)=kX (ls,i,) d:=by rw[a_ n,List.foldl_append,gf];rfl
  let(dx,kl,kg,e1,_):=id O.ex;apply(t,2,SqT.of n3,rfl,_,2,3,?_);apply(2,g,dx,2,e1,rfl,2,p,4,v,a0,2,p,4,v,a1,g,ld,gd,d.1,d.2,8,2,O,2,?_);by_cases c:Jdp d.1=Jdp d.2
  .rw[dTq c];apply bq (5,ls,zs,rfl,s3,N,I,O,R2,λj r X k=>?_,?_)
   .by_cases z:j=i
    .lia
    .exact g2 j r Jn k
   .rw[gf'];unfold kX;rw[if_pos c]
  .rw[dFq c];apply aD (2,g,dx,2,e1,rfl,2,p,4,v,a0,2,p,4,v,a1,g,ld,gd,d.1,d.2,8,2,O,b.1,b.2,N100,Jn,(λz hz=>by cases mSq hz;rw[N];exact λe=>nomatch e),λH4 s4 G4=>?_);let s34:=s3.trans s4;let hf4:=O.lstG s4 N;let has4:=JpE (O.ktG s4) I;let hp4:=(O.ktG s4).sq v;apply(2,U_ hf4,2,p,4,hp4,a0,2,p,4,hp4,a1,2,lS3,λu hu=>?_);let Y:IB H4 H4 u (Gu d.1 d.2 i):=Nn hu;let n5:=Jsu H4 u (JkZ d.1 d.2 i);let G5:=G4.same Y;let Z:=s34.trans (Y.g (ld:=ld) (gd:=gd));let M:=Y _ _ hf4;let D:=JpE Y.kt has4;generalize Gb H4 u (Gu d.1 d.2 i)=H5 at Y n5 G5 Z M D;let zl:JcR ls.length:=by rw[←D.length,lM]
   apply(fl,3,M,dV Jn,5,ls++[(d.1,d.2,(i:Int),)],JhB zs u,rfl,Z.grow B,ao,9,R2.snoc (b.1,b.2,c,Qk (by show Jni (i:Int);lia) (by show S[((i:Nat):Int).toNat]?=_;rwa[Int.toNat_natCast]at n)),λj r X k=>?_,?_)
   .rw[mAq];let kt:=JsC (JhB zs u) M;exact Ip (JpE kt D) (oH (l:=(d.1,d.2,(i:Int),)) (Jju n5))
   .rwa[ik,lAq]at G5.putL VI M
   .by_cases z:j=i
    .subst z;cases n.symm.trans k;exact oF _ _ (Xb VI)
    .exact oG _ (g2 j r Jn k)
   .rw[gf'];unfold kX;rw[if_neg c]
 .rintro σ U ⟨v3,v4,ls,zs,rfl,W,R,J,G2,R2,g2,gf⟩;rw[yl]at g2 gf;rw[List.take_length]at gf;apply QD (q U fl ls zs W B R J G2 R2 (λp hp=>?_) (by unfold gvF;rw[gf]));let(j,X):=List.mem_iff_getElem?.mp hp;exact g2 j p (gEq X).1 X
inductive rX (K)(C):Sp|m{vs H Q E9} (a g ld gd) (xs) (gs) (ts) (ls) (av):Je4 (vs=Iw a g) a (VZ dTm->JnY H C g ls av->(∀z∈av,Jm6 z)->Jo6 (∀t∈ts,NJ t.2.length) (Jep ls->(∀H' fl ms zs,Jck H'->Ms fl (Il fl zs->JpS (ms.map dL)->Jma (Jcd H' C g (ls++ms).length (ls++ms) av) (Jep (ls++ms)) (ms=[]->Jev ts ls) (ms=JkM ls) fl))->rX K C vs H Q E9))
def jQ:Je ["terms","groups","noted","found","number","term","sign","first"] Jqc s_alike_links:=fsc
def ok_alike_links (F:Jr_ "alike_links" s_alike_links)(T:Jp_ C)(TE:Jg "enumerate")(TT:Jg "tuple")(MH:JnR fH)(Bh:X4 1 fH dH "term" (k_ C))(bh:Ji8 dH)(MT:XY "together" fT)(Bt:Jie 2 fT dT' (sp_together C))(bt:JaJ dT')(MM:XY "merge" fM)(Bm:Jie 2 fM dM (sp_merge C))(bm:JaJ dM):JA 3 Jqc (rX K C):=by
 apply XF jQ
 let(a,g,ld,gd,xs,gs,ts,ls,av,rfl,hS,hL,G,hav,t100,N100,R,q):=h;let hu:=gi hr;let hr1:Jhw 1:=hr.mono Jp;let xl:Xp ts.length:=by rw[<-hL.length,lM]
 apply Ym (XT (i:=2) jQ.nd gJ (NY (i:=3) jQ.nd (bK ac) (Mb rfl (mj rfl TE Jqj) (ko rfl (JsH 4 jQ.nd 5 jQ.nd kj)) (Jdb (i:=6) jQ.nd (cb (QI 5 (Qz jz rfl TT (Jsy (Jdq "part") [1] (λok=>JsD (ai s_alike_links)) Xe (cU Jrs) (λm m m m=>(Jkr 1 MH Bh hr1 bh 0)))))) (i:=7) jQ.nd (C6 hu UA (VJ 6 4)) (aj (be (GK (JH 1 MT Bt hr bt (VJ 7 4))) (Jp3 (ak (JH 1 MM Bm hr bm (VJ 7 4))) 3 (JoK (Qa 7 (WG 4 JdK))))
     aU)))) MJ));rfl'
 apply λv hnd=>?_;let s0:M9 (JgR H v):=Nn hnd;let d0:SD P w (JgR H v) v []:=JaO ao;generalize JgR H v=H0 at s0 d0;apply JfX (λfl hfl=>?_);let hfl0:Nf fl:=s0.free hfl;let s01:ap H0 (GB H0 fl):=Nn hfl;let s1:Jck (GB H0 fl):=(s0.trans s01).g;let G1:JnY (GB H0 fl) C g ls (fl::av):=((G.same s0).avoid hfl).same s01;let n1:=Jsu H0 fl (.lst []);let d1:SD P w (GB H0 fl) v []:=d0.to λo z=>s01 _ _ z;generalize GB H0 fl=H1 at s1 G1 n1 d1 s01;let(dx0,kl0,kg0,e10,e20,e30,_):=id G.ex;let ndl:v≠ld:=Ne.symm (cn e20 hnd);let ndg:v≠gd:=Ne.symm (cn e30 hnd);let ndf:v≠fl:=λe=>(e▸d1).nol _ n1;let avl:∀{H':Hp},Jck H'->(∃zs,Il fl zs)->(∃dx kl kg,Uk g (Y_ [("least",.ref ld,),("gathered",.ref gd,)])/\Jgh ld kl/\Jgh gd kg)->∀z∈fl::av,Jm5 (H' z):=by
  rintro H' s' ⟨zs,hz⟩ ⟨dx,kl,kg,_,e2,e3⟩ z hz';rcases List.mem_cons.mp hz' with rfl|hz'
  .rw[hz];exact λe=>nomatch e
  .by_cases c1:z=ld
   .rw[c1,e2];exact λe=>nomatch e
   .by_cases c2:z=gd
    .rw[c2,e3];exact λe=>nomatch e
    .cases eo:H z with
     |none=>exact absurd eo (hav z hz')
     |some o=>rw[s' z o c1 c2 eo];exact λe=>nomatch e
 apply JcQ _ a (Jfp s1) mi (λi σ H'=>Ex7 λ(v4 v5 v6 v7:Option V) (b:List Lk) (zs:List V) (kvs:List SE)=>An11 (σ=[Ja a,Ja g,Ja v,Ja fl,v4,v5,v6,v7]) (Jck H') (Il fl zs) (JpS (b.map dL)) (Jcd H' C g (ls++b).length Qi (fl::av)) (Jep Qi) (JiJ P w H' v) (GQ i) ((∀e∈kvs,gQ K H' e.1 e.2.1)) (oP ts JcJ i kvs) (((b=[]->rP ts (hdL ls) i kvs))/\(∃W,(ts.take i).foldl (jP ls) ([],[],0,)=(b,W,i,)/\NtR kvs W))) (λi σ H' h=>by let(_,_,_,_,_,_,_,_,s2,_):=h;exact Jfp s2) (none,none,none,none,[],[],[],rfl,s1,n1,Jks,by rwa[List.append_nil]at G1,by rwa[List.append_nil]at R,d1,nRq _,(λe B=>nomatch B),(λe B=>nomatch B),(λm j t hj=>NH hj _),[],6)
 .rintro i σ H2 x H3 hi ⟨v4,v5,v6,v7,b,zs,kvs,rfl,s2,hf2,U,G2,R2,D2,l2,sg2,N2,A2,W,nf,NR⟩ ⟨t,y,rfl,ht,rfl,hy⟩;let(d,p,pq,M,rfl,hp,hpq):=tm_at hL (hy _ (Jfp s2));let s23:IB H2 H2 t (X5 i p):=Nn ht;let n3:=Jsu H2 t (Jkq i p);generalize Gb H2 t (X5 i p)=H3 at s23 n3;let k23:=(G.ktG s2).trans s23.kt;let hp3:=k23.sq hp;let S:=k23.sq hpq;let a0:JmR d.1 pq=some (.str d.1):=Jsv 0;let a1:JjV d.1 pq=some (.ref pq):=Jsv 1;let lt:=t100 d (mO M);apply(t,2,SqT.of n3,rfl,_,2,3,?_);apply(2,p,4,hp3,a0,2,p,4,hp3,a1,pq,rfl,Mr S,λD hD=>Jn_ (λj ys H'=>Xd H3∧ys=((d.2.take j).map JcJ).map VG) (λj ys H' h_=>by let(s4,_):=h_;exact s4.tup S) hD)
  .rintro j ys H4 x H5 hj hly hDs ⟨s4,rfl⟩ ⟨rfl,hx⟩;let(n,hn,rfl):=GY _ (s4.tup S);let G4:=(G2.same s23).same s4;let(dx,kl,kg,e1,_):=id G4.ex;rw[lM]at hj;apply GX _ g dx _ rfl e1 rfl _ rfl g ld gd n _ _ _ _ rfl G4 (XS _ Q9 (lM<|>hj) hly hDs (s4.upd hD));rw[a_ hn,mAq,mAq];rfl
  rintro ys H4 hDs ⟨s4,rfl⟩;rw[lM,NF _]at hDs;apply Gz D _ (JcT hDs (λu hu'=>?_));let s45:IB H4 H4 u ((d.2.map JcJ).map VG):=Nn hu';let n5:=Jsu H4 u (.tup ((d.2.map JcJ).map VG));generalize Gb H4 u ((d.2.map JcJ).map VG)=H5 at s45 n5;apply(lS2,λN hsg=>?_);let s56:IB H5 H5 N (JiI d.1 u):=Nn hsg;let n6:=Jsu H5 N (JY d.1 u);let n65:=s56 _ _ n5;generalize Gb H5 N (JiI d.1 u)=X at s56 n6 n65;let L:ap H2 X:=((s23.trans s4).trans s45).trans s56;let sH6:Jck X:=s2.trans L.g;let G6:=G2.same L;let hf6:=L _ _ hf2;let J:=JpE L.kt U;let D6:JiJ P w X v:=D2.to λo z=>L _ _ z;let Z:∀e∈kvs,gQ K X e.1 e.2.1:=λe B=>(sg2 e B).keep L.kt;let sgn6:gQ K X (QH d Qi) N:=(u,SqT.of n6,by show Yf X u (((d.2.map JcJ).map Sum.inl).map kV);rwa[List.map_map]at SqT.of n65)
  let Hh:=CC R2.inn;let idm:(d.2.map JcJ).map JcJ=d.2.map (hdL Qi):=by rw[List.map_map];exact List.map_congr_left λz m=>Hh.idem z
  let iN:Iz i:=by rwa[<-xl]at hi
  let zl:JcR b.length:=by rw[<-J.length,lM]
  let ll:=R2.len;rw[lAq]at ll;let nf':(ts.take Xi).foldl (jP ls) ([],[],0,)=jP ls (b,W,i,) d:=by rw[a_ M,List.foldl_append,nf];rfl
  let(dx,kl,kg,e1,e2,e3,_):=id G6.ex;apply(2,Gz v kvs D6,7,v,N,QH d Qi,.int i,kvs,6,D6,dV Jn,Z,sgn6,?_);cases ha:Jcl (QH d Qi) with
  | none =>
   let fn:W.find? (λe=>decide (e.1=QH d Qi))=none:=by
    rcases NR.at (k:=QH d Qi) with ⟨e,x,y1,y2,y3⟩|⟨y1,y2⟩
    .erw[ha]at y1
    .exact y2
   apply Jl rfl ?_;let G7:Jcd (upd X v (iL P w v (kvs++[(QH d Qi,N,.int i,)]))) C g (ls++b).length Qi (fl::av):=G6.put (.inr D6.nol) (λz=>D6.noi (z▸e1)) ndl ndg;let kt:=bj.sd (o:=iL P w v (kvs++[(QH d Qi,N,.int i,)])) D6;let D7:SD P w (upd X v (iL P w v (kvs++[(QH d Qi,N,.int i,)]))) v (kvs++[(QH d Qi,N,.int i,)]):=.inr ao;let sH7:Jck (upd X v (iL P w v (kvs++[(QH d Qi,N,.int i,)]))):=sH6.grow hnd;let hf7:(upd X v (iL P w v (kvs++[(QH d Qi,N,.int i,)]))) fl=some (.lst zs):=by rwa[UK ndf]at hf6
   let(dx7,kl7,kg7,e17,_):=id G7.ex;apply(2,g,dx7,2,e17,rfl,7,g,ld,gd,i,i,8,2,G7,2,?_);rw[dTq (show hdL (ls++b) (i:Int)=hdL (ls++b) (i:Int) from rfl)];apply bq (_,8,b,zs,2,sH7,hf7,JpE kt J,G7,R2,D7,?_,λe B=>?_,λe B=>?_,λem j t' hj O=>?_,W++[(QH d Qi,(i:Int),)],?_,NR.snoc)
   .rw[lAq];show Jcp 1<=i+1;lia
   .rcases mPq B with B | B
    .exact(Z e B).keep kt
    .cases mSq B;exact sgn6.keep kt
   .rcases mPq B with B | B
    .let(j,t',es,Y,z2,z3):=N2 e B;exact(j,t',es,Y,Jn,z3)
    .cases mSq B;exact JS i d _ Jn M rfl idm
   .subst em;rw[List.append_nil]at ha;rw[List.append_nil];by_cases c:j=i
    .subst c;cases M.symm.trans O;exact Mh _ _ (Dc ha) rfl
    .let(e,k,Y,z2,z3):=A2 rfl j t' Jn O;exact(e,k,C_ (k2:=QH d ls) Y,z2,z3)
   .rw[nf'];unfold jP;rw[fn]
  | some e =>
   apply .inl (Gc e rfl);let(em,ek):=C9 ha;let(j,tj,es,Y,z2,z3,z4,z5):=N2 e em;obtain⟨x,fx,xj⟩:∃x,W.find? (λe=>decide (e.1=QH d Qi))=some x/\x.2=(j:Int):=by
    rcases NR.at (k:=QH d Qi) with ⟨e',x,y1,y2,y3⟩|⟨y1,y2⟩
    .cases ha.symm.trans y1;apply Gc x y2;lia
    .erw[ha]at y1
   rw[Y];apply(2,g,dx,2,e1,rfl,7,g,ld,gd,j,i,8,2,G6,2,?_);by_cases c:hdL Qi (j:Int)=hdL Qi (i:Int)
   .rw[dTq c];apply bq (_,8,b,zs,kvs,rfl,sH6,hf6,J,G6,R2,D6,Jn,Z,(λe B=>by let(j,t',es,Y,z2,z3):=N2 e B;exact(j,t',es,Y,Jn,z3)),λem' k t' hk O=>?_,W,?_,NR)
    .by_cases c2:k=i
     .subst c2;cases M.symm.trans O;subst em';rw[List.append_nil]at ha c;exact(e,j,ha,Y,c)
     .exact A2 em' k t' Jn O
    .rw[nf'];unfold jP;lia
   .rw[dFq c];let b1:Jni (j:Int)∧(j:Int)<(ts.length:Int):=(Int.ofNat_zero_le _,Int.ofNat_lt.mpr (xl▸Nat.lt_trans z2 hi))
    let b2:Jni (i:Int)/\(i:Int)<(ts.length:Int):=by simp_all
    apply aD (2,g,dx,2,e1,rfl,7,g,ld,gd,j,i,8,2,G6,b1,b2,N100,by rw[lAq];lia,avl sH6 (Mr hf6) (8,e1,e2,e3),λH7 s7 G7=>?_);let sH7:=sH6.trans s7;let hf7:=G6.lstG s7 hf6;let has7:=JpE (G6.ktG s7) J;let D7:JiJ P w H7 v:=D6.to λo z=>s7 _ _ ndl ndg z;let sg7:∀e∈kvs,gQ K H7 e.1 e.2.1:=λe B=>(Z e B).keep (G6.ktG s7);apply(2,U_ hf7,2,7,lS3,λr hr'=>?_);let I:IB H7 H7 r (Gu j i (-1)):=Nn hr';let n8:=Jsu H7 r (JkZ j i (-1));let G8:=G7.same I;let sH8:=sH7.trans (I.g (ld:=ld) (gd:=gd));let hf8:=I _ _ hf7;let has8:=JpE I.kt has7;let D8:JiJ P w (Gb H7 r (Gu j i (-1))) v:=D7.to λo z=>I _ _ z;let sg8:∀e∈kvs,gQ K (Gb H7 r (Gu j i (-1))) e.1 e.2.1:=λe B=>(sg7 e B).keep I.kt;generalize Gb H7 r (Gu j i (-1))=H8 at I n8 G8 sH8 hf8 has8 D8 sg8;let kt:=JsC (JhB zs r) hf8;let al:jO ts JcJ (j:Int) (i:Int):=by
     apply(tj,d,by rwa[Int.toNat_natCast]at z3,by rwa[Int.toNat_natCast]at M,9)
     .have:=congrArg Yy (z4.symm.trans ek);exact this
     .let h2:es.map Sum.inl=(d.2.map JcJ).map Sum.inl:=congrArg Jbr (z4.symm.trans ek);rwa[<-z5,xQ h2]at idm
    let R8:Jep (ls++(b++[((j:Int),(i:Int),(-1:Int),)])):=by rwa[<-List.append_assoc]at R2.snoc (b1,b2,c,Jl rfl al)
    apply(fl,3,hf8,dV Jn,_,8,b++[((j:Int),(i:Int),(-1:Int),)],JhB zs r,kvs,rfl,sH8.grow hfl0,ao,9,R8,D8.to λo z=>by rwa[aq ndf]at z,Jn,λe B=>(sg8 e B).keep kt,?_,(λz=>Yn z),W,?_,NR)
    .rwa[mAq]at Ip (JpE kt has8) (oH (l:=((j:Int),(i:Int),(-1:Int),)) (Jju n8))
    .rwa[<-List.append_assoc,ik,lAq]at G8.putL VI hf8
    .rwa[<-List.append_assoc]at N2.more _ Jn
    .rw[nf'];unfold jP;lia
 .rintro σ H2 ⟨v4,v5,v6,v7,b,zs,kvs,rfl,s2,hf2,U,G2,R2,D2,l2,sg2,N2,A2,W,nf,NR⟩;rw[xl]at A2 nf;rw[List.take_length]at nf;exact QD (q H2 fl b zs s2 hfl0 hf2 U (G2.sub λz hz=>Jb hz) R2 (λz=>(A2 z).closed) (by unfold alF;rw[nf]))
inductive sp_links (K):Sp|m{vs H Q E9} (a ga) (xs ys) (gs) (ts):Je4 (vs=Iw a ga) a (VZ dTm->JmA ga->Vt (gs.map dP) ys->JnS (xP ts.length gs) (∀t∈ts,NJ t.2.length) (NJ ts.length) gs.length ((∀H' l ls zs,VQ l (Il l zs->JpT dL->Jma (Jep ls) (JbG gs ls) (Jev ts ls) (ls=d_ ts gs) l))->sp_links K vs H Q E9))
def nu:Je ["terms","given","groups","found","more"] JpM s_links:=fsc
def ok_links (F:Jr_ "links" s_links)(TL:Jg "len")(MK:Mk K C fI)(mC:mg "Groups"=Ja C)(Bi:Vn 1 fI dI ["self"] (sp_init C))(bi:JjJ dI)(G:Xu 3 "given_links" fG dG Jqd (rW K C))(p:Xu 3 "alike_links" fA dA Jqc (rX K C)):JA 4 JpM (sp_links K):=by
 apply XF nu
 let(a,ga,xs,ys,x,ts,rfl,hS,hL,hSg,hLg,hP,I,y,S,q):=h;let hr2:Jhw 2:=hr.mono Jp;apply Ym (Jdb (i:=2) nu.nd (kz MK Bi hr2 rfl mC bi .nil aJ) (i:=3) nu.nd (J5 G.ok hr G.m G.kp G.b 1 2) (NY (i:=4) nu.nd Jq3 (JbU (Ji5 (Ve ah TL bLq (Uc 4))) (JdY (ak (Ub JrI JrH vX MJ (Uc 4))) (Jsz 4 nu.nd Jq3))) MJ));rfl'
 intro g dx ng ndx nex;apply init_new ng ndx λH1 ld gd s1 O r G1=>Qm rfl;apply(7,ga,g,ld,gd,ys,x,ts,rfl,s1.seq hSg,Vz s1.kt _ hLg,hP,G1 _,y,S,λH2 fl d zs s2 hfl L has2 G2 R2 g2 ef=>?_);let N:=s1.ofG O r s2;apply(7,a,g,ld,gd,xs,x,ts,d,[fl],rfl,N.seq hS,Je7 N.kt _ hL,G2,(λz hz=>by cases mSq hz;rw[L];exact λe=>nomatch e),I,y,R2,λH3 ml j l s3 hml W Z G3 R3 c3 em=>?_);let sH3:=N.ofG O r s3;let J:Nf fl:=s1.free hfl;apply Gc (λm σ H'=>Ex5 λ(ml:Addr) (d j:List Lk) (zs l:List V)=>An11 (σ=[Ja a,Ja ga,Ja g,Ja fl,Ja ml]) (m=ts.length+1-d.length) Jdx (Il fl zs) (JpS (d.map dL)) (Il ml l) (V3 (j.map dL) l) (Jcd H' C g (d++j).length (d++j) [fl]) (Jeo x (d++j)) (JbG x (d++j)) (((j=[]->Jev ts d))/\j=JkM d/\(∃k:Nat,ts.length<k+d.length/\lkF ts k d=d_ ts x))) (_,ml,d,j,zs,l,6,sH3,G2.lstG s3 L,JpE (G2.ktG s3) has2,W,Z,G3,R3,g2.more _,c3,em,ts.length+1,Jn,by rw[ef];rfl)
 rintro m σ T ⟨ml,d,j,zs,l,rfl,rfl,s4,t,v,X,u,G4,R4,g4,c4,em4,k4,kl4,ek4⟩;let wl:l.length=j.length:=by rw[<-u.length,lM]
 let zl:JcR d.length:=by rw[<-v.length,lM]
 let ll:=R4.len;rw[lAq]at ll;apply Jgu _ ml _ (Yc X) _ _ _ rfl ?_;by_cases c:j=[]
 .subst c;rw[List.length_nil]at wl;rw[List.append_nil]at G4 R4 g4;rw[show decide (((l.length:Nat):Int) > 0)=false by rw[wl];rfl];let er:d=d_ ts x:=by
   rw[<-ek4];cases k4 with
   |zero=>
    rfl
   |succ k=>
    show d=if JkM d=[] then d else _
    rw[if_pos em4.symm]
  exact bq (QD (q T fl d zs s4 J t v R4 g4 (c4 rfl) er))
 let mp:0<j.length:=List.length_pos_iff.mpr c;rw[show decide (((l.length:Nat):Int)>0)=true from dTq (by lia)];apply aD (Gc (λU H'=>Ex3 λ(D:Addr) (n:List Lk) (B:List V)=>An11 (U=[Ja a,Ja ga,Ja g,Ja fl,Ja D]) Jdx (Il fl (zs++l)) (V3 ((d++j).map dL) (zs++l)) (Il D B) (V3 (n.map dL) B) (Jcd H' C g (d++j++n).length (d++j++n) [fl]) (Jeo x (d++j++n)) (JbG x (d++j++n)) ((n=[]->Jev ts (d++j))) (n=JkM (d++j)/\(∃k:Nat,ts.length<k+(d++j).length/\lkF ts k (d++j)=d_ ts x))) ?_)
 .rintro U H' ⟨D,n,B,rfl,z1,z2,z3,z4,z5,z6,z7,z8,z9,z10⟩;apply(_,?_,D,d++j,n,zs++l,B,6,z1,z2,z3,z4,z5,z6,z7,z8,z9,z10);rwa[lAq]at Nat.sub_lt_sub_left (Nat.lt_succ_of_le (Nat.le_of_add_right_le ll)) (Nat.lt_add_of_pos_right mp)
 apply(2,U_ t,2,fl,ml,zs,l,6,t,X,oY Jn,?_);let kt:=JsC (zs++l) t;let s5:M9 (Va T fl (zs++l)):=s4.upd J;let G5:Jcd (Va T fl (zs++l)) C g (d++j).length (d++j) [fl]:=G4.putL VI t;let n5:=Jsu T fl (.lst (zs++l));let M:Ql (Va T fl (zs++l)) ((d++j).map dL) (zs++l):=by rwa[mAq]at ar.append (JpE kt v) (JpE kt u)
 generalize Va T fl (zs++l)=H5 at s5 G5 n5 M;apply(7,a,g,ld,gd,xs,x,ts,d++j,[fl],rfl,s5.seq hS,Je7 s5.kt _ hL,G5,(λz hz=>by cases mSq hz;rw[n5];exact λe=>nomatch e),I,y,R4,λH6 ml6 ms6 ws6 s6 hml6 R Y G6 R6 c6 em6=>?_);exact(ml6,ms6,ws6,rfl,s5.ofG O r s6,G5.lstG s6 n5,JpE (G5.ktG s6) M,R,Y,G6,R6,g4.more _,c6,em6,k4-1,(by rw[lAq];lia),by
  cases k4 with
  |zero=>lia
  |succ k=>
   rw[<-ek4];show lkF ts k (d++j)=if JkM d=[] then d else lkF ts k (d++JkM d)
   rw[<-em4,if_neg c])
def Forest (L:List Lk):Prop:=∀i l,L[i]?=some l->JI i l.1≠JI i l.2.1
def Cut (L:List Lk)(q:Nat)(c:GV Bool):Prop:=∀i l,L[i]?=some l->(if i=q then c l.1≠c l.2.1 else c l.1=c l.2.1)
def take_link {L:List Lk}{i j:Nat}{l:Lk}(h:L[j]?=some l)(a:j<i):JI i l.1=hdL (L.take i) l.2.1 :=
 oF _ l (mO (by rwa[List.getElem?_take,if_pos a]at h))
set_option tactic.hygienic true in
theorem o_ {L:List Lk}(F:Forest L){q:Nat}{g:Lk}(k:L[q]?=some g):∀n,Jkg (q+1+n)->∃c,Cut (L.take (q+1+n)) q c
 | 0,_=>by
  apply(λt=>decide (JI q t=JI q g.1),λi l a=>?_);rw[List.getElem?_take]at a;split at a
  .rename_i d;split
   .rename_i e;subst e;cases k.symm.trans a;have:=F i g k;lia
   .rename_i e;dsimp only;rw[take_link a (show i<q by lia)]
  .cases a
 | n+1,h=>by
  let(c,u):=o_ F k n Jn;let d:Jaw (q+1+n):=Jn
  obtain⟨r,j⟩:∃r,L[q+1+n]?=some r:=Jbm d;let b:∀i l,L[i]?=some l->i<q+1+n->(if i=q then c l.1≠c l.2.1 else c l.1=c l.2.1):=λi l a d=>u i l (by rwa[List.getElem?_take,if_pos d]at a)
  by_cases e:c r.1=c r.2.1
  .apply(c,λi l a=>?_);rw[List.getElem?_take]at a;split at a
   .rename_i f;by_cases p:i=q+1+n
    .lia
    .exact b i l a Jn
   .cases a
  .apply(λt=>if JI (q+1+n) t=JI (q+1+n) r.2.1 then !c t else c t,λi l a=>?_)
   rw[List.getElem?_take]at a;split at a
   .rename_i f;by_cases p:i=q+1+n
    .subst p;cases j.symm.trans a;rw[if_neg (by lia)];dsimp only;rw[if_pos rfl,if_neg (F _ _ j)];revert e;cases c r.1<;>cases c r.2.1<;>simp
    .let o:=b i l a Jn;let s:=take_link a (show i<q+1+n by lia);dsimp only;rw[s];by_cases z:JI (q+1+n) l.2.1=JI (q+1+n) r.2.1
     .rw[if_pos z,if_pos z];simp [*]
     simp [*]
   .cases a
def cut_at (F:Forest L){q:Nat}(a:Jaw q):∃c,Cut L q c:=by let(c,h):=o_ F (gG a) (Jhx (q+1)) (Nat.le_of_eq (Nat.add_sub_of_le ‹_›));rw[show q+1+Jhx (q+1)=L.length by exact Nat.add_sub_of_le a,List.take_length]at h;exact(c,h)
def RightL_forest (h:Jep L):Forest L:=λi l a=>(h i l a).new
def DS (c:GV α){S:List Lk}(h:∀l∈S,c l.1=c l.2.1){t u:Int}(e:hdL S t=hdL S u):c t=c u :=
 ((xA (λx=>c x=c u) S (λl a=>by rw[h l a]) t u e).mpr rfl)
structure PathOk (L:List Lk)(π:List Nat)(x y):Prop where
 inn:∀q∈π,Jaw q
 walk:∀(c:GV Int),(∀q∈π,∀l,L[q]?=some l->c l.1=c l.2.1)->c x=c y
 cut:∀q∈π,∀c:GV Bool,Cut L q c->c x≠c y
def PathOk.nil (L)(x):NS [] x x:=(by simp,λy y=>rfl,by simp)
def PathOk.step (h:NS π x y)(k:L[p]?=some l)(hz:(l.1=y∧l.2.1=z)∨(l.2.1=y∧l.1=z))(s:p∉π):NS (π++[p]) x z:=by
 let u:=(gEq k).1;apply(λq j=>?_,λc g=>?_,λq j c g=>?_)
 .rcases mPq j with a | a
  .exact h.inn q a
  .rwa[mSq a]at u
 .let i:=h.walk c λq j l w=>g q (Ma j) l w;let d:=g p (Xb Jq8) l k;lia
 .by_cases eq:q=p
  .subst eq;let i:(if Vi (c x) then(1:Int) else 0)=if Vi (c y) then 1 else 0:=h.walk (λt=>if Vi (c t) then 1 else 0) λo f v n=>by have:=g o v n;lia
   let d:=g q l k;lia
  .let f:q∈π:=by
    rcases mPq j with a|a
    .exact a
    .exact absurd (mSq a) eq
   let i:=h.cut q f c g;let d:=g p l k;lia
def PathOk.below (F:Forest L){b:List Nat}{x y:Int}{k:Nat}(h:NS b x y)(e:JI k x=JI k y):∀q∈b,q<k:=λq d=>by
 apply Decidable.byContradiction λn=>?_;let(c,f):=cut_at F (h.inn q d);apply h.cut q d c f (DS c (S:=L.take k) (λl g=>?_) e);let(i,a):=List.mem_iff_getElem?.mp g;rw[List.getElem?_take]at a;split at a
 .have:=f i l a;lia
 .cases a
noncomputable def pairsF (ts:List Tm)(l:Lk):Mm Int:=if l.2.2=-1 then(match ts[l.1.toNat]?,ts[l.2.1.toNat]? with|some t,some u=>t.2.zip u.2|_,_=>[]) else []
theorem yf:∀{c bs:List Int},Jpy hd hd->∀p∈c.zip bs,hd p.1=hd p.2
 |[],_,_,p,h=>by simp at h
 |_::_,[],h,_,_=>by simp at h
 |a::c,b::bs,h,p,d=>by
  rw[List.map_cons,List.map_cons]at h;injection h with g f;rw[List.zip_cons_cons]at d;rcases List.mem_cons.mp d with e|e
  .rwa[e]at g
  .exact yf f p e
theorem eq_map_zip:∀{c bs:List Int},c.length=bs.length->(∀p∈c.zip bs,hd p.1=hd p.2)->Jpy hd hd
 |[],[],_,_=>rfl
 |a::c,b::bs,h,d=>by rw[List.map_cons,List.map_cons,d (a,b,) (List.zip_cons_cons<|>List.mem_cons_self),eq_map_zip (by simpa using h) λp q=>d p (List.zip_cons_cons<|>Jb q)]
set_option tactic.hygienic true in
def pairs_joined (R:Jep L){k:Nat}{l:Lk}(c:L[k]?=some l):∀p∈JT l,JI k p.1=hdL (L.take k) p.2:=λp b=>by
 unfold pairsF at b;split at b
 .rename_i e;rcases(R k l c).how with ⟨a,_⟩ | ⟨_,t,u,e1,e2,_,e4⟩
  .lia
  .rw[e1,e2]at b;exact yf e4 p b
 .simp at b
structure Needs (ts)(L:List Lk)(x y)(M:List Nat):Prop where
 inn:∀q∈M,Jaw q
 why:∀q∈M,∃π a b,NS π a b/\q∈π/\((a=x/\b=y)\/∃p∈M,∃l,L[p]?=some l/\(a,b,)∈JT l)
 top:∃π,NS π x y/\∀q∈π,q∈M
 all:∀p∈M,∀l,L[p]?=some l->∀ab∈JT l,∃π,NS π ab.1 ab.2/\∀q∈π,q∈M
noncomputable def atP (L:List Lk)(M:List Nat):List Lk:=M.map λq=>L.getD q (0,0,0,)
def getD_at {L:List Lk}{q:Nat}{l:Lk}(h:L[q]?=some l):L.getD q (0,0,0,)=l:=by rw[List.getD_eq_getElem?_getD,h];rfl
def mem_atP {L:List Lk}{M:List Nat}{q:Nat}{l:Lk}(a:q∈M)(h:L[q]?=some l):l∈atP L M:=Md q a (getD_at h)
def of_atP {L:List Lk}{M:List Nat}(c:∀q∈M,Jaw q){l:Lk}(h:l∈atP L M):∃q∈M,L[q]?=some l:=by let(q,a,e):=List.mem_map.mp h;let b:=gG (c q a);rw[getD_at b]at e;exact(q,a,by rw[b,e])
noncomputable def nbr1 (L:List Lk)(t:Int)(i:Nat):Mm Int:=match L[i]? with
 |some l=>(if l.1=t then [(l.2.1,(i:Int),)] else [])++(if l.2.1=t then [(l.1,(i:Int),)] else [])
 |none=>[]
def nbr (L:List Lk)(n:Nat)(t:Int):Mm Int:=(List.range n).flatMap (nbr1 L t)
def DT (L)(n)(t):nbr L (n+1) t=nbr L n t++nbr1 L t n:=by unfold nbr;rw[List.range_succ,List.flatMap_append,List.flatMap_cons,List.flatMap_nil,List.append_nil]
def DU (h:(u,p,)∈nbr L n t):∃(i:Nat) (l:Lk),p=(i:Int)/\L[i]?=some l/\((l.1=t/\l.2.1=u)\/(l.2.1=t/\l.1=u)):=by
 let(i,_,b):=List.mem_flatMap.mp h;unfold nbr1 at b;cases e:L[i]? with
 |none=>rw[e]at b;simp at b
 | some l =>
  rw[e]at b;apply Gc i l;rcases mPq b with a|a
  .by_cases c:l.1=t
   .rw[if_pos c]at a;have:=mSq a;lia
   .rw[if_neg c]at a;simp at a
  .by_cases c:l.2.1=t
   .rw[if_pos c]at a;have:=mSq a;lia
   .rw[if_neg c]at a;simp at a
def DV (a:i<n)(h:L[i]?=some l):(l.2.1,(i:Int),)∈nbr L n l.1/\(l.1,(i:Int),)∈nbr L n l.2.1:=by
 constructor
 .apply List.mem_flatMap.mpr (JcS i a);unfold nbr1;rw[h];dsimp only;rwa[if_pos rfl]at Ma Jq8
 .apply List.mem_flatMap.mpr (JcS i a);unfold nbr1;rwa[h]at Xb (by rw[if_pos rfl];exact List.mem_singleton.mpr rfl)
structure StD (K)(H0 H:Hp)(d)(kvs)(N:GV (Mm Int))(b):Prop where
 hd:Jbo d
 nd:Jc_ d
 len:GQ b
 big:∀t,(N t).length<=b
 at_:∀t,(Mf (JgY t)/\N t=[])\/∃l xs,JgY t=Ja l/\VT l/\Jc_ l/\l≠d/\Wy ((N t).map dP)
 inj:∀t u l,JgY t=Ja l->JgY u=Ja l->t=u
 same:ap H0 H
def StD.step (S:StD K H0 H d kvs N b)(same:Xd H0)(A:Jgh d kvs')(q:kvs'.length≤b+1)(y:JgF H')
  (r:VH kvs' k=Ja l)(z:Il l xs')(w:Jc_ l)(ld:l≠d)(s:V3 ((N k++[(u,i,)]).map dP) xs')(c:∀t,t≠k->VH kvs' t=JgY t)
  (kl:∀t p ys,t≠k->JgY t=Ja p->Qr p ys->Ji3 p/\p≠l):StD K H0 H' d kvs' (λt=>if t=k then N t++[(u,i,)] else N t) (b+1):=by
 apply(A,S.nd,q,λt=>?_,λt=>?_,λt v l2 g f=>?_,same)
 .have:=S.big t;split
  .rw[lAq];show _+1<=_;lia
  .lia
 .by_cases e:t=k
  .subst e;apply .inr (l,xs',r,z,w,ld,?_);rwa[if_pos rfl]at s
  .rw[if_neg e,c t e];rcases S.at_ t with a | ⟨l2,ys,h,o,D,C,B⟩
   .exact .inl a
   .exact .inr (l2,ys,h,(kl t l2 ys e h o).1,D,C,Vz y _ B)
 .by_cases n:t=k
  .by_cases j:v=k
   .rw[n,j]
   .subst n;erw[r]at g;rw[c v j]at f;rcases S.at_ v with a | ⟨x,ys,h,o,_⟩
    .erw[a.1]at f
    .erw[h]at f;exact JC (kl v _ ys j h o).2
  .by_cases j:v=k
   .subst j;erw[r]at f;rw[c t n]at g;rcases S.at_ t with a | ⟨x,ys,h,o,_⟩
    .erw[a.1]at g
    .erw[h]at g;exact JC (kl t _ ys n h o).2
   .rw[c t n]at g;rw[c v j]at f;exact S.inj t v l2 g f
def StD.old (S:StD K H0 H d kvs N b)(A:Nf e)(y:(JmD H) p=none)
  (r:JgY k=Ja l)(q:VT l)(g:Wy ((N k).map dP))(h:Jc_ l)(ld:l≠d):
  StD K H0 (JhC (Gb (JmD H) p (Xw u i)) l xs p) d kvs (λt=>if t=k then N t++[(u,i,)] else N t) (b+1):=by
 let s:M9 (JmD H):=Nn A;let c:IB H (JmD H) p (Xw u i):=s.trans (Nn y);let f:=Jsu (JmD H) p (QQ u i);generalize JhQ _ p=D at c f;let n:JgF (JhC D l xs p):=c.kt.trans (bj.lst (c _ _ q));let v:p≠l:=λz=>by erw[z,c _ _ q]at f
 apply S.step (S.same.trans c |>.upd h) (aq ld.symm<|>c _ _ S.hd) (by have:=S.len;lia) n r (ao ..) h ld ?_ (λm m=>rfl) λt w ys x C B=>?_
 .rw[mAq];apply ar.append (Vz n _ g) (JF (Jo (aq v<|>f) Jr8))
 .let j:w≠l:=λz=>x (S.inj t k l (z▸C) r);exact(aq j<|>c _ _ B,j)
def StD.new (S:StD K H0 H d kvs N b)(h:Nf e)(B:(Jfb (JmD H) d kvs k e) p=none)
  (P:Mf (JgY k))(I:N k=[]):
  StD K H0 (Va (Gb (Jfb (JmD H) d kvs k e) p (Xw u i)) e (Vj p)) d (XO kvs k e) (λt=>if t=k then N t++[(u,i,)] else N t) (b+1):=by
 let v:e≠d:=λz=>by erw[z,S.hd]at h
 let j:Jc_ e:=by
  cases z:H0 e with
  |none=>rfl
  |some o=>erw[S.same _ _ z]at h
 let r:cL d H (Jfb (JmD H) d kvs k e):=((Nn h).x d).trans (Jfo _);let k1:=r.kt S.hd;let E:=Jsu (JmD H) d (.dK (XO kvs k e));let D:(Jfb (JmD H) d kvs k e) e=some (.lst []):=by rw[aq v,ao]
 generalize JhQ _ d=s at B r k1 E D;let f:IB s s p (Xw u i):=Nn B;let g:=Jsu s p (QQ u i);generalize JhQ s p=F at f g;let C:=f _ _ D;let M:p≠e:=λz=>by erw[z,C]at g
 let O:JgF (Va F e (Vj p)):=(k1.trans f.kt).trans (bj.lst C);let G:Jd3 H0 F e (Vj p):=λc o n=>by
  let L:c≠d:=λz=>by erw[z,S.nd]at n
  let g:c≠e:=λz=>by erw[z,j]at n
  rwa[aq g]at f _ _ (r _ _ L (S.same _ _ n))
 apply S.step G (aq v.symm<|>f _ _ E) (by have:=me kvs (Sum.inl k) (.ref e);have:=S.len;exact Nat.le_trans ‹_› (Nat.succ_le_succ ‹_›)) O (by rw[hX,if_pos rfl]) (ao ..) j v ?_ (λt A=>by rw[hX,if_neg (λz=>A (Sum.inl.inj z))]) λt y ys A Q q=>?_
 .rwa[I]at JF (Jo (by rw[aq M];exact g) Jr8)
 .let w:y≠e:=λz=>by erw[z,h]at q
  let J:y≠d:=λz=>by erw[z,S.hd]at q
  exact(aq w<|>f _ _ (r _ _ J q),w)
def yg (S:StD K H0 H d kvs N b)(A:Jr b)(a:Nf e)
  (q:∀l xs H' f,No H0 (Jgp (Il l xs) (Jam b) (∀p u i,JaP p->StD K H0 (JhC (Gb H' p (Xw u i)) l xs p) d f (λt=>if t=k then N t++[(u,i,)] else N t) (b+1)) l)):
  mV (.ref d) (X5 k e) (JmD H) Q:=by
 let r:e≠d:=λz=>by erw[z,S.hd]at a
 apply JhL d (.inl k) (.ref e) kvs (aq r.symm<|>S.hd) (hln (by have:=S.len;lia)) ?_;rcases S.at_ k with ⟨g,h⟩|⟨l,xs,g,h,y,x,s⟩
 .apply Jl g (q e [] _ _ (λc o n=>?_) (by rw[aq r,ao]) Zq λp u i j=>S.new a j g h);let v:c≠d:=λz=>by erw[z,S.nd]at n
  rwa[aq v]at aW a _ _ _ (S.same _ _ n)
 .let w:Jam b:=by have:=s.length;rw[lM]at this;have:=S.big k;simp_all
  exact .inl (Q5 g (q l xs _ kvs (S.same.trans (Nn a)) (aW a _ _ _ h) w λp u i j=>S.old a j g h s y x))
inductive rY (K):Sp|m{vs H Q E9} (a) (ys) (L):vs=Vj a->JmA a->Jkt (JmB dL ys) L.length ((∀H' d kvs,QO (StD K H H' d kvs (JgO L) (2*L.length)) d)->rY K vs H Q E9)
def pb:Je ["links","steps","place","link"] ["links"] s_steps_of:=fsc
def ok_steps_of (F:Jr_ "steps_of" s_steps_of)(T:Jfq K):JjL ["links"] (rY K):=by
 apply XF pb
 let(a,ys,L,rfl,X,hL,L100,q):=h;let yl:JbE L.length:=by rw[<-hL.length,lM]
 apply Ym (NY (i:=1) pb.nd gJ (Mb rfl (mj rfl T.enumerate Jqj) (ko rfl (JsH 2 pb.nd 3 pb.nd kj)) (ae (Jjh Jsk (Yb (Jg1 JqP 2))) (Jbk cR Jsk (Yb (Jg1 JqP 2))))) WA);rfl'
 intro d hd;let Y:StD K H _ d [] _ 0:=(ao ..,hd,nRq _,λt=>nRq _,λt=>JaO rfl,λt u l h1=>(by cases h1),Nn hd);generalize Jm d _=H1 at Y;apply JcQ _ a (Y.same.seq X) mi (λi D H'=>Ex3 λ O N kvs=>D=[some _,some _,O,N]/\StD K H H' d kvs (nbr L i) (2*i)) (λi D H' h=>by let(_,_,_,_,S):=h;exact S.same.seq X) (Mh none none [] Y)
 .rintro i D B x H3 hi ⟨O,N,kvs,rfl,S⟩ ⟨t,y,rfl,ht,rfl,hy⟩;let(l,p,hl,rfl,G):=iJ hL (hy _ (S.same.seq X));let b:IB B B t (X5 i p):=Nn ht;let M:StD K H _ d kvs _ (2 * i):=(b _ _ S.hd,S.nd,S.len,S.big,λu=>by
   rcases S.at_ u with a|⟨l2,ys,I,a2,a3,a4,a5⟩
   .exact .inl a
   .exact .inr (l2,ys,I,b _ _ a2,a3,a4,Vz b.kt _ a5),S.inj,S.same.trans b)
  let U:=Jsu B t (Jkq i p);generalize JhQ B t=H3 at M U;let a0:J7 QY=some _:=ay rfl;let I:Jcn QY=some _:=ay rfl;apply(t,2,SqT.of U,rfl,_,2,3,?_);let i100:i<100:=Jn
  apply(2,Gz d _ M.hd,2,p,4,M.same.tup G,a0,lS0,λe he=>?_);apply yg M Jn he λl1 xs H4 Z s4 v x4 k4=>?_;apply(U_ v,2,p,4,s4.tup G,I,2,lS2,λR n=>Jk6 l1 _ _ (aq (λz=>by erw[<-z,v]at n)<|>v) (hln Jn) ?_);let J:=k4 R l.2.1 i n;generalize JhQ _ l1=H5 at J;apply(2,Gz d _ J.hd,2,p,4,J.same.tup G,I,lS0,λe2 W=>?_);apply yg J Jn W λl2 xs2 H6 C s6 r x6 k6=>?_;apply(U_ r,2,p,4,s6.tup G,a0,2,lS2,λp7 k=>Jk6 l2 _ _ (aq (λz=>by erw[<-z,r]at k)<|>r) (hln Jn) ?_);let S7:=k6 p7 l.1 i k;apply Mh _ _ C ?_;let e:(λt=>if t=l.2.1 then(if t=l.1 then nbr L i t++[(l.2.1,(i:Int),)] else nbr L i t)++[(l.1,(i:Int),)] else(if t=l.1 then nbr L i t++[(l.2.1,(i:Int),)] else nbr L i t))=nbr L (i+1):=by
   funext t;rw[DT];unfold nbr1;rw[hl];dsimp only;by_cases g:t=l.1
   .by_cases c:t=l.2.1
    .rw[if_pos c,if_pos g,if_pos g.symm,if_pos c.symm,List.append_assoc]
    .rw[if_neg c,if_pos g,if_pos g.symm,if_neg (λz=>c z.symm),List.append_nil]
   .by_cases c:t=l.2.1
    .rw[if_pos c,if_neg g,if_neg (λz=>g z.symm),if_pos c.symm,List.nil_append]
    .rw[if_neg c,if_neg g,if_neg (λz=>g z.symm),if_neg (λz=>c z.symm),List.append_nil,List.append_nil]
  rw[e]at S7;exact S7
 rintro D B ⟨O,N,kvs,rfl,S⟩;apply QD (q B d kvs ?_);rw[yl]at S;exact S
noncomputable def plV (a:List Nat):List V:=a.map λq:Nat=>V.int (q:Int)
def StR (K:W.Frag)(H:Hp)(d:Addr)(N:GV (Mm Int)):Prop:=∃kvs,Jbo d/\∀t,(N t).length<=1000/\((Mf (JgY t)/\N t=[])\/∃l xs,JgY t=Ja l/\VT l/\Wy ((N t).map dP))
def StR.same (h:StR K H d N)(s:Xd H):StR K H' d N:=by
 let(kvs,c,b):=h;apply(kvs,s _ _ c,λt=>Qm ((b t).1));rcases(b t).2 with a|⟨l,xs,a1,a2,a3⟩
 .exact .inl a
 .exact Jat l xs a1 (s _ _ a2) (Vz s.kt _ a3)
def StD.r (S:StD K H0 H d kvs N b)(c:Jr b):StR K H d N:=(kvs,S.hd,λt=>(Nat.le_trans (S.big t) c,by
 rcases S.at_ t with a|⟨l,xs,g,f,_,_,e⟩
 .exact .inl a
 .exact Jat l xs g f e))
structure fc (K)(H0 H)(fd wl)(L)(n:Nat)(x)(kf)(F W:List Int):Prop where
 same:ap H0 H
 hf:Jz fd kf
 hw:Qr wl (W.map V.int)
 keys:kf.map Qn=F.map Sum.inl
 nd:F.Nodup
 inn:∀t∈F,0<=t/\t<(n)
 st:x∈F
 sub:∀t∈W,t∈F
 wb:W.length<=2*F.length
 val:∀t v,Xa (VH kf t) v->∃p π,Nk v p/\Vo p (plV π)/\NS π x t/\π.length<F.length/\∀q∈π,∀l,L[q]?=some l->l.1∈F/\l.2.1∈F
def fc.len (S:fc K H0 H fd wl L n x kf F W):F.length<=n:=ip n S.nd S.inn
def fc.to (S:fc K H0 H fd wl L n x kf F W)(s:M9 H2):fc K H0 H2 fd wl L n x kf F W :=
 (S.same.trans s,s _ _ S.hf,s _ _ S.hw,JnM,S.nd,S.inn,S.st,S.sub,S.wb,λt v h=>(by let(p,π,a,b,c):=S.val t v h;exact (p,π,a,s.tup b,c)))
set_option tactic.hygienic true in
def fc.add (S:fc K H0 H fd wl L n x kf F W)(nf:Jc_ fd)(z:Jc_ wl)
  (j:u∉F)(y:0<=u/\u<(n:Int))(A:Vo pc (plV π))(P:NS π x u)(pl:π.length<=F.length)(D:∀q∈π,∀l,L[q]?=some l->l.1∈F++[u]/\l.2.1∈F++[u]):
  fc K H0 (Va (Jfb H fd kf u pc) wl (W.map V.int++X3 u)) fd wl L n x (XO kf u pc) (F++[u]) (W++[u]):=by
 let g:fd≠wl:=λe=>by have:=S.hf;erw[e,S.hw]at this
 let s:cL fd H (Jfb H fd kf u pc):=Jfo _;let w:(Jfb H fd kf u pc) wl=some (.lst (W.map VG)):=by rwa[aq g.symm]at S.hw
 let i:JgF (Va (Jfb H fd kf u pc) wl (W.map VG++X3 u)):=(s.kt S.hf).trans (bj.lst w);let keys:(XO kf u pc).map Qn=(F++[u]).map Sum.inl:=by have:=xD JnM u (.ref pc);unfold addK at this;rw[if_neg j]at this;exact this
 apply((S.same.upd nf).upd z,by rw[aq g,ao],by rw[ao,mAq];rfl,keys,9,Ma S.st,?_,9)
 .apply JbY S.nd (λa C b B=>?_);rw[mSq B];exact λe=>j (e▸C)
 .intro t f;rcases mPq f with a | a
  .exact S.inn t a
  .rwa[mSq a]at y
 .intro t f;rcases mPq f with a | a
  .exact Ma (S.sub t a)
  .exact Xb a
 .have:=S.wb;rw[lAq,lAq];lia
 .intro t v h;rw[hX]at h;split at h
  .rename_i e;cases h;cases Sum.inl.inj e;exact(pc,π,rfl,i.sq A,P,by rw[lAq];show _<_+1;lia,D)
  .let(p,r,a,b,c,d,e):=S.val t v h;exact(p,r,a,i.sq b,c,by rw[lAq];lia,λq k l o=>(Ma (e q k l o).1,Ma (e q k l o).2))
inductive rZ (K):Sp|m{vs H Q E9} (d) (x y) (L) (n):vs=JbI d x y->StR K H d (JgO L)->Jkt (InN n L) n (0<=x/\x<(n:Int)->0<=y/\y<(n:Int)->JiL x=JiL y->(∀H' p π,QF (Jgp (Yf H' p (plV π)) (NS π x y) (π.length<n) p))->rZ K vs H Q E9)
def ny:Je ["steps","one","other","found","waiting","term","step"] ["steps","one","other"] s_way:=fsc
abbrev NWy:List Str:=["steps","one","other","found","waiting","term","step"]
def DW (T:Jfq K){cdv:Value}{A:Around}{outer:List Env}{s:Shared}{H0:Hp}{E:XK}{k:Nat}(N:Jl3 k "way" s_way):
  ∃t,Jjn (JmQ P w K mg NWy "way" s_way f A s H0 E).nox ((zas s_way).drop 3)/\∀(Q:VK) (H H':Hp) (d fd b:Addr) (x y:Int) (L:List Lk) (n:Nat) (j:QX V) (F W:List Int) (q o:Option V),fc K H H' fd b L n x j F W->(0<=x/\x<(n:Int))->(0<=y/\y<(n:Int))->NJ n->(y∈F\/∀t∈F,∀D∈Jew L t,D.1∈F)->
   hdL L x=JiL y->(∀(H':Hp) (p:Addr) (a:List Nat),QF (Jgp (Yf H' p (plV a)) (NS a x y) (a.length<n) p))->
   t { nx:=λm H'=>Q .non H',rt:=Q } [Ja d,Ya x,Ya y,Ja fd,Ja b,q,o] H':=by
 let B:=dc N;apply Ym (QZ (be (Jl6 B UA 3)
   iZ
   aU) (Jpr B 3 2 (λm m=>rfl)));rfl'
 intro Q H H' d fd b x y L n j F W q o S Z Y r X U G;apply(7,fd,2,Jsx (.inl y) S.hf,2,?_);rw[kP S.keys y];by_cases c:y∈F
 .rw[dTq c];let hs:(VH j y).isSome=true:=by rwa[kP S.keys y]at dTq c
  let(v,u):=Option.isSome_iff_exists.mp hs;let(p,a,rfl,O,PO,pl,_):=S.val y v u;let fl:=S.len;let g:=Jsx (.inl y) S.hf;rw[u]at g;exact bq (7,fd,2,g,G H' p a S.same O PO Jn)
 .rw[dFq c];let I:JiL x≠hdL L y:=λe=>by
   rcases X with z|z
   .exact c z
   .apply c ((xA (λt=>t∈F) L (λl R=>?_) x y e).mp S.st);let(i,C):=List.mem_iff_getElem?.mp R;let(M,J):=DV (gEq C).1 C;exact(λh=>z _ h (l.2.1,(i:Int),) M,λh=>z _ h (l.1,(i:Int),) J)
  exact(I U).elim
def ok_way (F:Jr_ "way" s_way)(T:Jfq K):JjL ["steps","one","other"] (rZ K):=by
 apply XF ny
 let(d,x,y,L,n,rfl,hSt,hN,n100,hx,hy,ej,qY):=h;let I:=dc hr;let(tt,ht,tq):=DW (base:=base) (cdv:=cdv) (outer:=outer) T hr;apply Ym (Jdb (i:=3) ny.nd (pe_d1 WA (cb ac)) (i:=4) ny.nd (JoL 1) (ae (JbU (JcX (Ji5 (ME 4)) (Jl6 I UA 3)) (XT (i:=5) ny.nd (Jc2 qy JeA) (aj (JlS (dr (kF I IN JqO (bK ac) Jft)) (i:=6) ny.nd (be (Jl6 I (Qg 6) 3) (Jp3 (JiK I MJ (Qg 6) (aX Ds (Jpr I 3 5 (λ_ _=>rfl)) (cb (VX 6)))) 4 (VX 6))
       aU)))))
  ht));rfl'
 intro fd hfd;apply JoQ lS0 (λM N=>Ml (.inl x) ?_ ?_)
 .rw[aq (λe=>by erw[<-e,ao]at N),ao]
 let nfd:fd≠M:=λe=>by erw[<-e,ao]at N
 let npt:Nf M:=by let h0:=N;rw[aq nfd.symm]at h0;exact h0
 let s1:M9 (Vc Jq9 fd [(.inl x,.ref M,)]):=((Nn hfd).upd npt).upd hfd;let f1:=Jsu (JgS H fd M []) fd (.dK [(.inl x,.ref M,)]);let t1:(Vc Jq9 fd [(.inl x,.ref M,)]) M=some (.tup []):=by rw[aq nfd.symm,ao]
 generalize Vc Jq9 fd [(.inl x,.ref M,)]=H1 at s1 f1 t1;apply JoQ lS1 (λC hwl=>?_);let nwl:Nf C:=s1.free hwl;let S0:fc K H (Va H1 C (X3 x)) fd C L n x [(.inl x,.ref M,)] [x] [x]:=by
  let s2:Jd3 H1 H1 C (X3 x):=Nn hwl;apply(s1.trans s2,s2 _ _ f1,ao ..,rfl,by simp,λt ht=>by rwa[mSq ht]at hx,VI,λt ht=>ht,by simp,λt v h=>?_);by_cases e:(Sum.inl x:Key)=.inl t
  .erw[eZ e]at h;cases Sum.inl.inj e;exact(M,[],rfl,SqT.of (s2 _ _ t1),PathOk.nil L x,by simp,λq hq=>by simp at hq)
  .erw[eS e]at h
 generalize Va H1 C (X3 x)=H2 at S0;clear s1 f1 t1 hwl N
 letI Cl:List Int->List Int->Prop:=λF W=>∀t∈F,t∉W->∀B∈Jew L t,B.1∈F
 apply Gc (λm σ H'=>Ex5 λ(v5 Z:Option V) (kf:QX V) (F W:List Int)=>An4 (σ=[Ja d,Ya x,Ya y,Ja fd,Ja C,v5,Z]) (fc K H H' fd C L n x kf F W) (Cl F W) (m=2*(n-F.length)+W.length)) (_,none,none,_,[x],[x],rfl,S0,(λt ht hn=>absurd ht hn),rfl)
 rintro m σ H3 ⟨v5,Z,kf,F,W,rfl,S,cl,rfl⟩;let inF:∀{H' kf F W},fc K H H' fd C L n x kf F W->∀u,(VH kf u).isSome=decide (u∈F):=λS u=>kP JnM u;apply Jgu _ C _ (Yc S.hw) _ _ _ rfl ?_;by_cases cW:W=[]
 .subst cW;exact bq (bq (tq Q H H3 d fd C x y L n kf F [] v5 Z S hx hy n100 (.inr λt ht B D=>cl t ht Js B D) ej qY))
 let wp:0<W.length:=List.length_pos_iff.mpr cW;rw[show decide ((((W.map V.int).length:Nat):Int)>0)=true from dTq (by rw[lM];lia)];apply aD (7,fd,2,Jsx (.inl y) S.hf,2,?_);rw[inF S y];by_cases cy:y∈F
 .rwa[dTq cy]at bq (tq Q H H3 d fd C x y L n kf F W v5 Z S hx hy n100 (.inl cy) ej qY)
 rw[dFq cy];apply aD (Gc (λσ' H'=>Ex5 λ(v5 Z:Option V) (R:QX V) (Y W':List Int)=>An4 (σ'=[Ja d,Ya x,Ya y,Ja fd,Ja C,v5,Z]) JqX (Cl Y W') (2*(n-Y.length)+W'.length<2*(n-F.length)+W.length)) ?_)
 .rintro σ' H' ⟨v5',v6',R,Y,W',rfl,a,b,c⟩;exact(_,c,v5',v6',R,Y,W',rfl,a,b,rfl)
 obtain⟨O,t,rfl⟩:∃O t,W=O++[t]:=(W.dropLast,W.getLast cW,(List.dropLast_concat_getLast cW).symm);let tF:t∈F:=S.sub t Js;apply(2,U_ S.hw,C,_,.int t,6,S.hw,9)
 .rw[mAq,lAq,List.getElem?_append_right (by show _<=_+1-1;lia)];show [V.int t][_]?=_;rw[show(O.map V.int).length+([t].map V.int).length-1-(O.map V.int).length=0 by show _+1-1-_=0;lia];rfl
 let ew:((O++[t]).map VG).dropLast=O.map V.int:=by rw[mAq];simp
 rw[ew];let nwf:fd≠C:=λe=>by have:=S.hf;erw[e,S.hw]at this
 let S1:fc K H (Va H3 C (O.map VG)) fd C L n x kf F O:=(S.same.upd nwl,by rwa[aq nwf]at S.hf,ao ..,JnM,S.nd,S.inn,S.st,λu I=>S.sub u (Ma I),by have:=S.wb;rw[lAq]at this;lia,λu v h=>(by let(p,π,a,b,c):=S.val u v h;exact (p,π,a,(bj.lst S.hw).sq b,c)));generalize Va H3 C (O.map VG)=H4 at S1;let(kst,hst,stAt):=hSt.same S1.same;apply(2,d,rfl,Jbb _ hst,2,lS0,λe he=>Ym (Jsx (.inl t) (aW he _ _ _ hst)));let s5:ap H4 (JmD H4):=Nn he;let S5:=S1.to s5;obtain⟨lv,xs,elv,hlv,hxs,nlw,nlf⟩:∃lv xs,(VH kst t).getD (.ref e)=.ref lv/\(JmD H4) lv=JhO xs/\Ql (JmD H4) ((Jew L t).map dP) xs/\lv≠C/\lv≠fd:=by
  rcases(stAt t).2 with ⟨a1,a2⟩|⟨l,xs,a1,a2,a3⟩
  .rwa[a1,a2]at(e,[],rfl,ao ..,Jks,(λz=>by erw[z,S1.hw]at he),(λz=>by erw[z,S1.hf]at he))
  .rw[a1];let(_,hst0,stAt0):=hSt;cases (S1.same _ _ hst0).symm.trans hst;rcases(stAt0 t).2 with ⟨b1,_⟩ | ⟨l',xs',b1,b2,_⟩
   .erw[a1]at b1
   .cases a1.symm.trans b1;exact(l,xs,rfl,s5 _ _ a2,Vz s5.kt _ a3,(λz=>by erw[z,nwl]at b2),(λz=>by erw[z,hfd]at b2))
 rw[elv];let big:=(stAt t).1;generalize JmD H4=H5 at s5 S5 hlv hxs;let xl:xs.length=(Jew L t).length:=by rw[<-hxs.length,lM]
 apply JmE lv hlv (JcP dv (λi σ H'=>Ex4 λ(Z:Option V) (R:QX V) (Y W':List Int)=>An8 (σ=[Ja d,Ya x,Ya y,Ja fd,Ja C,Ya t,Z]) JqX (bU fd C H5 H') ((∀u∈F,u∈Y)) ((∀u∈O,u∈W')) ((∀u∈Y,u∈F\/u∈W')) ((∀j B,j<i->(Jew L t)[j]?=some B->B.1∈Y)) (2*(n-Y.length)+W'.length<=2*(n-F.length)+O.length)) (λi σ H' h=>by let(_,_,_,_,_,_,sg,_):=h;exact SqL.of (sg _ _ nlf nlw hlv)) (Z,kf,F,O,rfl,S5,Jjv _,(λ_ h=>h),(λ_ h=>h),(λ_ h=>.inl h),(λj B hj=>NH hj _),nRq _))
 .rintro i σ H7 z H6 hi ⟨Z,G,F6,W6,rfl,S6,J,f6,w6,fw6,n6,m6⟩ ⟨rfl,hz⟩;let(B,p,D,rfl,hp5):=rO hxs (hz _ (SqL.of (J _ _ nlf nlw hlv)));let hp:Yf H6 p (Xw B.1 B.2):=by
   rcases hp5 with a|a
   .rcases a with a | ⟨o,a⟩
    .exact Jca (J _ _ (λe=>by erw[e,S5.hf]at a) (λe=>by erw[e,S5.hw]at a) a)
    .exact JjK o (J _ _ (λe=>by erw[e,S5.hf]at a) (λe=>by erw[e,S5.hw]at a) a)
   .exact .inr a
  let a0:JmK B.1 B.2=some (.int B.1):=Jsv 0;let a1:Jjf B.1 B.2=some (.int B.2):=Jsv 1;apply(2,p,4,hp,a0,2,fd,2,Jsx (.inl B.1) S6.hf,2,?_);rw[inF S6 B.1];by_cases c:B.1∈F6
  .rw[dTq c];apply bq (_,G,F6,W6,rfl,S6,J,f6,w6,fw6,λj r hj U=>?_,m6);by_cases z:j=i
   .lia
   .exact n6 j r Jn U
  rw[dFq c];let tF6:t∈F6:=f6 t tF;let hs:(VH G t).isSome=true:=by rwa[inF S6 t]at dTq tF6
  let(v,hv):=Option.isSome_iff_exists.mp hs;let(pt2,π,rfl,hpt2,PO,pl,X):=S6.val t v hv;let g:=Jsx (.inl t) S6.hf;rw[hv]at g;let(i',l,ei',hl,hor):=DU (mO D);let fl6:=S6.len;apply aD (7,fd,2,g,2,p,4,hp,a1,lS1,λq8 hq8=>(pt2,q8,3,((Nn hq8).tup hpt2),SqT.of (ao ..),?_,λH9 pc s9 hpc=>?_))
  .unfold plV;rwa[lM]at oY (by show _+1<=_;lia)
  let s69:ap H6 H9:=(Nn hq8).trans s9;let S9:=S6.to s69;let ep:plV π++[V.int B.2]=plV (π++[i']):=by unfold plV;rw[mAq,ei'];rfl
  rw[ep]at hpc;let ub:0<=B.1/\B.1<(n:Int):=by
   have:=hN l (mO hl);exact hor.elim (λz=>z.2▸this.2) λz=>z.2▸this.1
  let np:i'∉π:=λhm=>by
   have:=X i' hm l hl;lia
  let PO2:=PO.step hl hor np;apply(7,p,4,s69.tup hp,a0,fd,2,.inl (_,.inl B.1,S9.hf,rfl,hln (by rw[xE S9.keys];lia),rfl),?_);let S10:=S9.add hfd nwl c ub hpc PO2 (by rw[lAq];show _+1<=_;lia) λq hq m hm=>by
   rcases mPq hq with a|a
   .exact(Ma (X q a m hm).1,Ma (X q a m hm).2)
   .erw[mSq a,hl]at hm;rcases hor with ⟨b1,b2⟩ | ⟨b1,b2⟩
    .exact(Ma (b1▸tF6),Xb (by rw[b2];simp))
    .exact(Xb (by rw[b2];simp),Ma (b1▸tF6))
  let sg10:bU fd C H5 (Va (Jfb H9 fd G B.1 pc) C (W6.map VG++X3 B.1)):=((J.trans s69.g).trans (bU.put1 _ _)).trans JrN;let hpk:Yf (Jfb H9 fd G B.1 pc) p (Xw B.1 B.2):=(cL.kt (Jfo _) S9.hf).sq (s69.tup hp);let hwk:(Jfb H9 fd G B.1 pc) C=some (.lst (W6.map VG)):=by rwa[aq nwf.symm]at S9.hw
  apply GX _ (U_ hwk) _ rfl p _ _ _ rfl rfl hpk a0 C _ _ rfl rfl hwk (hln (by rw[lM];have:=S9.wb;lia)) ?_;apply(5,F6++[B.1],W6++[B.1],rfl,S10,sg10,λu I=>Ma (f6 u I),λu I=>Ma (w6 u I),λu I=>?_,λj r hj U=>?_,?_)
  .rcases mPq I with a | a
   .rcases fw6 u a with b | b
    .exact .inl b
    .exact .inr (Ma b)
   .exact .inr (Xb a)
  .by_cases z:j=i
   .subst z;cases D.symm.trans U;exact Xb Js
   .exact Ma (n6 j r Jn U)
  .have:=S10.len;rw[lAq]at this;rw[lAq,lAq];lia
 rintro σ H6 ⟨v6',G,F6,W6,rfl,S6,J,f6,w6,fw6,n6,m6⟩;apply(5,G,F6,W6,rfl,S6,λu I hn B D=>?_,by rw[lAq];show _<_+(_+1);lia);by_cases eu:u=t
 .subst eu;let(j,hj):=List.mem_iff_getElem?.mp D;exact n6 j B (xl<|>(gEq hj).1) hj
 .let uF:u∈F:=(fw6 u I).resolve_right hn;apply f6 _ (cl u uF (λh=>?_) B D);rcases mPq h with a | a
  .exact hn (w6 u a)
  .exact eu (mSq a)
theorem DX{c bs:List Int}{ps:List Addr}(l:c.length=bs.length)(k:ps.length=Jri)(d:∀(j:Nat) x y,(c.map V.int)[j]?=some x->(bs.map V.int)[j]?=some y->∃p,ps[j]?=some p/\Vo p [x,y]):Vt ((c.zip bs).map dP) (ps.map V.ref):=by
 induction c generalizing bs ps with
 |nil=>obtain rfl:=List.eq_nil_of_length_eq_zero k;exact Jks
 | cons a c o=>cases bs with
  |nil=>cases l
  |cons b bs=>cases ps with
   |nil=>cases k
   |cons p ps=>rw[List.zip_cons_cons,List.map_cons,List.map_cons];let(n,e,i):=d 0 (.int a) (.int b) rfl rfl;cases e;exact .cons (Jbd i Jgz Jgz) (o (by simpa using l) (by simpa using k) λj x y h g=>d (j+1) x y h g)
inductive r_ (K):Sp|m{vs H Q E9} (tl lp) (xs) (ts) (l):Je4 (vs=Iw tl lp) tl (VZ dTm->Vo lp (Gu l.1 l.2.1 l.2.2)->0<=l.1/\l.1<(ts.length:Int)->0<=l.2.1/\l.2.1<(ts.length:Int)->(l.2.2=-1->∀t u,ts[l.1.toNat]?=some t->ts[l.2.1.toNat]?=some u->t.2.length=u.2.length)->(∀H' r zs,VQ r (Jgo (Il r zs) (JpS ((JT l).map dP)) r))->r_ K vs H Q E9)
def DY:Jsw Jlb s_part_pairs:=fsc
def ok_pairs (F:Jr_ "part_pairs" s_part_pairs)(T:Jfq K):JjL Jlb (r_ K):=by
 apply Jq_ DY b
 let(o,n,xs,ts,l,rfl,S,U,d,R,O,e,q):=h;apply Ym (QZ (be (J9 eE 1 JdK) (Nc (bK ac))
   aU) (Dm rfl rfl T.zip rfl T.list (Qh (aI aQ Jr9 af) (aI aQ Jr9 af))));rfl'
 let a0:J7 QY=some _:=ay rfl;let a1:Jcn QY=some _:=ay rfl;let a2:atI QY 2=some _:=ay rfl;apply(2,n,4,d,a2,_,6,2,?_);rw[kY];by_cases c:l.2.2=-1
 case neg=>
  rw[dFq c];apply aD (JfX (λr b=>q _ r [] (Nn b) b (ao ..) ?_));unfold pairsF;rw[if_neg c];rfl
 rw[dTq c];let xl:Xp ts.length:=by rw[<-U.length,lM]
 obtain⟨t,I⟩:∃t,ts[l.1.toNat]?=some t:=Jbm (show Iz l.1.toNat by simp_all);obtain⟨u,G⟩:∃u,ts[l.2.1.toNat]?=some u:=Jbm (show Iz l.2.1.toNat by simp_all);let a:∀{k:Int} {t:Tm},0<=k->k<(ts.length:Int)->ts[k.toNat]?=some t->∃p i,MY xs k _/\Vo p _/\SqT K H i _:=λ{k t} k0 k1 Z=>by
  let M:Ja0 k.toNat:=by simp_all
  let ek:k=(k.toNat:Int):=Jn
  let g:=ay (gG M);rw[<-ek]at g;let(t',p,i,x,ev,d,B):=tm_at U (gG M);cases Z.symm.trans x;rw[ev]at g;exact(p,i,g,d,B)
 let(Y,q1,L,D,z):=a R.1 R.2 I;let(X,v,J,C,y):=a O.1 O.2 G;let c1:JjV t.1 q1=some _:=ay rfl;let d1:JjV u.1 v=some _:=ay rfl;let N:=e c t u I G;apply bq (7,n,4,d,a0,o,4,S,L,Y,4,D,c1,7,n,4,d,a1,o,4,S,J,X,4,C,d1,?_);apply JeW q1 v _ _ z y (by rw[lM,lM,N]) (λH2 r ps b W g h3 h4=>q H2 r _ W b g ?_);unfold pairsF;rwa[if_pos c,I,G]at DX N (by rw[h4,lM]) h3
def Src (ts:List Tm)(L:List Lk)(x y:Int)(M:List Nat)(a:WC Int):Prop:=a=(x,y,)\/∃p∈M,∃l,L[p]?=some l/\a∈JT l
def Src.mono (h:Src ts L x y M pr)(b:∀q∈M,q∈M'):Src ts L x y M' pr:=h.imp id (λh_=>by let(p,a,r):=h_;exact (p,b p a,r))
structure fV (K)(H0 H)(nd wl)(ts)(L:List Lk)(x y)(kn)(M:List Nat)(Wq:Mm Int)(ws)(cur):Prop where
 same:ap H0 H
 hn:Jz nd kn
 hw:Qr wl ws
 has:Vt (Wq.map dP) ws
 keys:kn.map Qn=(M.map λq:Nat=>(q:Int)).map Sum.inl
 ndp:M.Nodup
 inn:∀q∈M,Jaw q
 wb:Wq.length<=1+3*Jrk
 ok:∀pr∈Wq,Src ts L x y M pr
 why:∀q∈M,∃π a b,NS π a b/\q∈π/\Src ts L x y M (a,b,)
 cov:∀pr,Src ts L x y M pr->pr∈Wq\/some pr=cur\/∃π,NS π pr.1 pr.2/\∀q∈π,q∈M
def fV.len (S:fV K H0 H nd wl ts L x y kn M Wq ws cur):Jkg M.length:=jK _ S.ndp S.inn
def fV.to (S:fV K H0 H nd wl ts L x y kn M Wq ws cur)(s:M9 H2):fV K H0 H2 nd wl ts L x y kn M Wq ws cur :=
 (S.same.trans s,s _ _ S.hn,s _ _ S.hw,Vz s.kt _ S.has,JnM,S.ndp,S.inn,S.wb,S.ok,S.why,S.cov)
def nz {M:List Nat}{q:Nat}:((q:Int)∈M.map λq:Nat=>(q:Int))↔q∈M:=(λh=>by
 let(r,a,e):=List.mem_map.mp h;have:r=q:=Jn
 exact this▸a,λh=>JfB q h)
def fV.add {H0 H o:Hp}{g i:Addr}{ts:List Tm}{L:List Lk}{x y:Int}{s:List (JeY V)}{M:List Nat}{F:List We}{t zs:List V}{n:Option We}{q:Nat}{l:Lk}{r:List Nat}{a b:Int}(S:fV K H0 H g i ts L x y s M F t n)
  (Q:Jc_ g)(O:Jc_ i)(I:q∉M)(C:L[q]?=some l)(P:NS r a b)(T:q∈r)(sc:Src ts L x y M (a,b,))(Y:(JT l).length<=3)(v:ap (Vc H g (JlR s (q:Int))) o)(hz:Ql o ((JT l).map dP) zs):
  fV K H0 (Va o i (t++zs)) g i ts L x y (JlR s (q:Int)) (M++[q]) (F++JT l) (t++zs) n:=by
 let J:g≠i:=λe=>by have:=S.hn;erw[e,S.hw]at this
 let G:cL g H (Vc H g (JlR s (q:Int))):=Jfo _;let k1:=(G.kt S.hn).trans v.kt;let N:=v _ _ (G _ _ J.symm S.hw);let R:=v _ _ (ao ..);let k2:bj o (Va o i (t++zs)):=bj.lst N;let A:∀p∈M,p∈M++[q]:=λp c=>Ma c;let keys:(JlR s (q:Int)).map Qn=((M++[q]).map λq:Nat=>(q:Int)).map Sum.inl:=by have:=xD JnM (q:Int) (.bl true);unfold addK at this;rw[if_neg (λh=>I (nz.mp h))]at this;rw[this];simp
 apply(((S.same.upd Q).trans v).upd O,by rwa[aq J]at R,ao ..,?_,keys,9,9,9)
 .rwa[mAq]at ar.append (Vz (k1.trans k2) _ S.has) (Vz k2 _ hz)
 .apply JbY S.ndp (λa W b U=>?_);rw[mSq U];exact λe=>I (e▸W)
 .intro p c;rcases mPq c with h | h
  .exact S.inn p h
  .rwa[mSq h]at(gEq C).1
 .have:=S.wb;rw[lAq,lAq];show _<=1+3*(_+1);lia
 .intro d j;rcases mPq j with h | h
  .exact(S.ok d h).mono A
  .exact Jat q Js l C h
 .intro p c;rcases mPq c with h | h
  .let(B,a,b,E,D,X):=S.why p h;exact(B,a,b,E,D,X.mono A)
  .rwa[mSq h]at(r,a,b,P,T,sc.mono A)
 .intro d j;let u:Src ts L x y M d→d∈F++JT l∨some d=n∨∃r,NS r d.1 d.2∧∀p∈r,p∈M++[q]:=λh=>by
   rcases S.cov d h with h|h|⟨B,E,D⟩
   .exact .inl (Ma h)
   .exact JhP h
   .exact JaL (B,E,λp c=>A p (D p c))
  rcases j with h|⟨p,c,m,k,h⟩
  .exact u (.inl h)
  .rcases mPq c with z | z
   .exact u (Jat p z m k h)
   .erw[mSq z,C]at k;exact .inl (Xb h)
def TmB (ts:List Tm):Prop:=∀t∈ts,t.2.length<=3/\∀x∈t.2,0<=x/\x<Xk
inductive sp_ways (K):Sp|m{vs H Q E9} (tl la) (x y) (xs ys) (ts) (gs) (L):Je4 (vs=[.ref tl,.ref la,.int x,.int y]) tl (VZ dTm->JmA la->JmB dL ys->TmB ts->Jep L->Jmn 60->0<=x/\x<(ts.length:Int)->0<=y/\y<(ts.length:Int)->JiL x=JiL y->(∀H' r M rs,VQ r (Jma (Il r rs) (V3 ((atP L M).map dL) rs) (Needs ts L x y M) (M.Pairwise Q3) r))->sp_ways K vs H Q E9)
def lu:Je ["terms","links","one","other","steps","needed","waiting","pair","place"] Jqb s_ways:=fsc
def DZ {M:List Nat}{c:List Int}(g:c.Perm (M.map λq:Nat=>(q:Int)))(j:c.Pairwise (·<=·))(k:M.Nodup):∃i:List Nat,c=i.map (λq:Nat=>(q:Int))/\(∀q,q∈i↔q∈M)/\i.Pairwise (· < ·):=by
 let pos:∀z∈c,0<=z:=λz hz=>by let(q,_,rfl):=List.mem_map.mp (g.mem_iff.mp hz);lia
 let e:c=(c.map Int.toNat).map λq:Nat=>(q:Int):=by
  rw[List.map_map]
  conv=>lhs;rw[<-List.map_id c]
  apply List.map_congr_left λz hz=>?_;have:=pos z hz;show z=(z.toNat:Int);lia
 let d:=g.nodup_iff.mpr (List.pairwise_map.mpr (k.imp λ{a b} h e=>h Jn));apply Jhm (c.map Int.toNat) e (λq=>?_)
 .rw[<-nz (M:=M),<-g.mem_iff,<-nz,<-e]
 .apply List.pairwise_map.mpr ?_;let l:c.Pairwise (· < ·):=by have:=j.and d;exact this.imp λ{a b} h=>by have:=h.1;have:=h.2;lia
  apply List.Pairwise.imp_of_mem ?_ l;intro a b o n h;have:=pos a o;have:=pos b n;exact(Int.toNat_lt_toNat (Int.lt_of_le_of_lt ‹_› h)).mpr h
set_option tactic.hygienic true in
def pairs3 (a:TmB ts)(l):(JT l).length<=3:=by
 unfold pairsF;split
 .split
  .rename_i t u b c;rw[List.length_zip];have:=(a _ (mO b)).1;exact Nat.le_trans (Nat.min_le_left _ _) ‹_›
  .exact Nat.zero_le _
 .exact Nat.zero_le _
set_option tactic.hygienic true in
def D0 (d:TmB ts){l:Lk}{c:Int×Int}(h:c∈JT l):(0<=c.1/\c.1<(ts.length:Int))/\0<=c.2/\c.2<(ts.length:Int):=by
 unfold pairsF at h;split at h
 .split at h
  .rename_i t u g e;let(a,b):=List.of_mem_zip h;exact((d _ (mO g)).2 _ a,(d _ (mO e)).2 _ b)
  .simp at h
 .simp at h
def ok_ways (F:Jr_ "ways" s_ways)(T:Jfq K)(Bs:Xu 1 "steps_of" fS dS ["links"] (rY K))(Bw:Xu 1 "way" fW dW ["steps","one","other"] (rZ K))(Bp:Xu 1 "part_pairs" fP dP' Jlb (r_ K)):JA 2 Jqb (sp_ways K):=by
 apply XF lu
 let(tl,la,x,y,xs,ys,ts,gs,L,rfl,hT,hL,hS,hY,hW,R,t60,hx,hy,ej,qY):=h;let hu:=dc hr;apply Ym (Jdb (i:=4) lu.nd (JfP Bs.ok hr Bs.m Bs.kp Bs.b 1) (i:=5) lu.nd gJ (NY (i:=6) lu.nd (bK (JoK Jrr)) (JbU (Ji5 (ME 6)) (XT (i:=7) lu.nd (Jc2 qy (pv 6)) (aj (JlS (cU (Iu Bw.ok hr Bw.m Bw.kp Bw.b 4 (JU 7 7))) (i:=8) lu.nd (be (Jl6 hu (pv 8) 5) (ae (JiK hu JqO (pv 8) cZ) (Gq (Ub JrI JrH vX (pv 6) (Yb (WJ Bp.ok hr Bp.m Bp.kp Bp.b 0 (JnU 1 8))))))
       aU))))) (JsA ["place","links"] [1] (λok=>JsD (ai s_ways)) Xe (dr (UN (DD rfl) T.sorted (Uc 5))) (λ_ _ _ _=>(UO (r:=hI K) aM 1 IN)))));rfl'
 let yl:JbE L.length:=by rw[<-hY.length,lM]
 let L60:Jpz 60:=Nat.le_trans R.len t60;apply JX _ la ys L rfl hS hY Jn (λH1 sd kst Z=>?_);intro v hnd;let s2:ap H1 (JgR H1 v):=Nn hnd;apply MA _ _ lS2 (λpp hpp=>(lS1,λd hwl=>?_));let s3:IB (JgR H1 v) (JgR H1 v) pp (Xw x y):=Nn hpp;let s4:=Jax hwl (Vj pp);let sA:Jd3 H1 JcO d (Vj pp):=(s2.trans s3).trans s4;let St:StR K (Va JcO d (Vj pp)) sd (JgO L):=(Z.r Jn).same sA;let nnd:Nf v:=Z.same.free hnd;let nwl:Nf d:=(Z.same.trans (s2.trans s3)).free hwl;let S0:fV K H (Va JcO d (Vj pp)) v d ts L x y [] [] [(x,y,)] (Vj pp) none :=
  (Z.same.trans sA,s4 _ _ (s3 _ _ (ao ..)),ao ..,JF (Jo (s4 _ _ (ao ..)) Jr8),rfl,by simp,by simp,by simp,λB h=>.inl (mSq h),by simp,λB h=>.inl (by
   rcases h with h|⟨p,X,_⟩
   .rw[h];simp
   .simp at X))
 let nw1:Mf (H1 d):=(s2.trans s3).free hwl;generalize eHA:Va JcO d (Vj pp)=HA at sA St S0;let ktG:∀{H'},bU v d HA H'->bj HA H':=λ{H'} U b us z=>by
  let nb1:b≠v:=λe=>by rw[e]at z;rcases z with z|⟨o,z⟩<;>(erw[S0.hn]at z)
  let nb2:b≠d:=λe=>by rw[e]at z;rcases z with z|⟨o,z⟩<;>(erw[S0.hw]at z)
  rcases z with z|⟨o,z⟩
  .exact .inl Jg5
  .exact Jl o Jg5
 let stOf:∀{H'},bU v d HA H'->StR K H' sd (JgO L):=λ{H'} U=>by
  apply(kst,U _ _ (λe=>?_) (λe=>?_) (sA _ _ Z.hd),λt=>Qm (Nat.le_trans (Z.big t) Jn))
  .have:=Z.hd;erw[e,hnd]at this
  .have:=Z.hd;erw[e,nw1]at this
  .rcases Z.at_ t with a | ⟨l,us,a1,a2,_,_,a3⟩
   .exact .inl a
   .exact Jat l us a1 (U _ _ (λe=>by erw[e,hnd]at a2) (λe=>by erw[e,nw1]at a2) (sA _ _ a2)) (Vz (sA.kt.trans (ktG U)) _ a3)
 clear s2 s3 s4 eHA hpp hwl;apply Gc (λm σ H'=>Ex6 λ(v7 v8:Option V) (kn:QX V) (M:List Nat) (Wq:Mm Int) (N:List V)=>An4 (σ=[Ja tl,Ja la,Ya x,Ya y,Ja sd,Ja v,Ja d,v7,v8]) (fV K H H' v d ts L x y kn M Wq N none) (bU v d HA H') (m=4*(Jhx Jrk)+Wq.length)) (_,none,none,8,2,S0,Jjv _,rfl)
 rintro m σ H3 ⟨v7,v8,kn,M,Wq,N,rfl,S,U,rfl⟩;let wl3:N.length=Wq.length:=by rw[<-S.has.length,lM]
 let ml:=S.len;let wb:=S.wb;apply Jgu _ d _ (Yc S.hw) _ _ _ rfl ?_;by_cases cW:Wq=[]
 .-- all are found
  subst cW;rw[show decide (((N.length:Nat):Int)>0)=false from dFq (by rw[wl3];simp)];let nope:∀B,Src ts L x y M B->∃O,NS O B.1 B.2/\∀q∈O,q∈M:=λB h=>by
   rcases S.cov B h with z|z|z
   .simp at z
   .cases z
   .exact z
  let(π0,P0,sub0):=nope (x,y,) (.inl rfl);let ND:Needs ts L x y M:=(S.inn,λq C=>by
   let(O,a,b,h1,h2,h3):=S.why q C;apply(O,a,b,h1,h2,?_);rcases h3 with h3|⟨p,X,l,Y,h3⟩
   .constructor<;>lia
   .exact Jat p X l Y h3,(π0,P0,sub0),λp X l Y ab hab=>nope ab (Jat p X l Y hab))
  let ek:kn.map (λkv=>kV kv.1)=(M.map λq:Nat=>(q:Int)).map V.int:=CH JnM;apply bq (JX _ v kn _ rfl S.hn ek (lM<|>Vk (Nat.le_trans ‹_› ‹_›)) (λso ms hso pm pw=>?_));let(I,rfl,mm,lt):=DZ pm pw S.ndp;let ml':Jkg I.length:=jK _ (lt.imp λh=>Nat.ne_of_lt h) λq C=>S.inn q ((mm q).mp C);let ND':Needs ts L x y I:=(λq C=>ND.inn q ((mm q).mp C),λq C=>by
   let(O,a,b,h1,h2,h3):=ND.why q ((mm q).mp C);exact(O,a,b,h1,h2,h3.imp id λh_=>by let(p,X,r):=h_;exact (p,(mm p).mpr X,r)),(π0,P0,λq C=>(mm q).mpr (sub0 q C)),λp X l Y ab hab=>by let(O,h1,h2):=ND.all p ((mm p).mp X) l Y ab hab;exact(O,h1,λq C=>(mm q).mpr (h2 q C)))
  let s4:Jd3 H3 H3 so ((I.map λq:Nat=>(q:Int)).map VG):=Nn hso;let n4:=Jsu H3 so (.lst ((I.map λq:Nat=>(q:Int)).map VG));generalize Va H3 so ((I.map λq:Nat=>(q:Int)).map VG)=H4 at s4 n4;let sH4:=S.same.trans s4;apply JmE so n4 (λD hD=>dw dv (λj us H'=>Xd H4/\V3 (((atP L I).take j).map dL) us) (λj us H' h_=>by let(s1,_):=h_;exact s1.seq (SqL.of n4)) (Nn hD,Jks) ?_ ?_)
  .rintro j us H8 z H5 hj hly hDs ⟨s5,hus⟩ ⟨rfl,hz⟩;let(n,hn,rfl):=ck (hz _ (s5.seq (SqL.of n4)));rw[List.getElem?_map]at hn;let(q,C,rfl):=Option.map_eq_some_iff.mp hn;let ql:=ND'.inn q (mO C);let hlq:=gG ql;let at1:atI ys (q:Int)=some (ys[q]' Jn):=ay (gG Jn);let(l,p,el,ep,X):=iJ (JpE sH4.kt hY) (gG (show q<ys.length by lia));rw[ep]at at1;apply JeM _ _ rfl la _ _ _ (s5.seq (sH4.seq hS)) at1 (XS _ Vl hj hly hDs (s5.upd hD));let hal:(atP L I)[j]?=some l:=by unfold atP;rwa[List.getElem?_map,C]at JaD (getD_at el)
   rw[a_ hal,mAq];let kt5:bj H5 (JhC H5 D us p):=bj.lst hDs;exact ar.append (JpE kt5 hus) (JF (oH (kt5.sq (s5.tup X))))
  rintro us H5 hDs ⟨s5,hus⟩;apply qY H5 D I us (sH4.trans s5) (sH4.free hD) hDs ?_ ND' lt;rw[lM,lM,tO (by unfold atP;rwa[lM]at nRq _)]at hus;exact hus
 let wp:0<Wq.length:=List.length_pos_iff.mpr cW;rw[show decide (((N.length:Nat):Int)>0)=true from dTq (by lia)];apply aD (Gc (λσ' H'=>Ex6 λ(v7 v8:Option V) (kn':QX V) (I:List Nat) (Wq':Mm Int) (ws':List V)=>An4 (σ'=[Ja tl,Ja la,Ya x,Ya y,Ja sd,Ja v,Ja d,v7,v8]) (fV K H H' v d ts L x y kn' I Wq' ws' none) (bU v d HA H') (4*(Jhx I.length)+Wq'.length<4*(Jhx Jrk)+Wq.length)) ?_)
 .rintro σ' H' ⟨v7',v8',kn',I,Wq',ws',rfl,a,b,c⟩;exact(_,c,v7',v8',kn',I,Wq',ws',rfl,a,b,rfl)
 obtain⟨W0,B,rfl⟩:∃W0 B,Wq=W0++[B]:=(Wq.dropLast,Wq.getLast cW,(List.dropLast_concat_getLast cW).symm);let lw:N.length=W0.length+1:=by rw[wl3,lAq];rfl
 let ew:=gG (show W0.length<N.length by simp_all);let(pr',p,hpr,ev,X):=rO S.has ew;let e0:B=pr':=by simpa using hpr
 subst e0;apply(2,U_ S.hw,d,3,S.hw,(by rwa[show N.length-1=W0.length by exact Nat.sub_eq_of_eq_add ‹_›]at ew.trans (JaD ev)),?_);let hdl:Ql H3 (W0.map dP) N.dropLast:=by have:=ar.take W0.length S.has;rw[<-List.map_take,List.take_left]at this;rwa[List.dropLast_eq_take,show N.length-1=W0.length by exact Nat.sub_eq_of_eq_add ‹_›]at this
 let nwf:v≠d:=λe=>by have:=S.hn;erw[e,S.hw]at this
 let sc0:Src ts L x y M B:=S.ok B Js;let Z:fV K H (JgQ H3 d) v d ts L x y kn M W0 N.dropLast (some B) :=
  (S.same.upd nwl,by rwa[aq nwf]at S.hn,ao ..,Vz (bj.lst S.hw) _ hdl,JnM,S.ndp,S.inn,by have:=S.wb;rw[lAq]at this;lia,λq C=>S.ok q (Ma C),S.why,λq C=>by
   rcases S.cov q C with z|z|z
   .rcases mPq z with z | z
    .exact .inl z
    .exact .inr (.inl (JaD (mSq z)))
   .cases z
   .exact JaL z)
 let sg1:bU v d HA (JgQ H3 d):=U.trans JrN;let hp4:Yf (JgQ H3 d) p (Xw B.1 B.2):=(bj.lst S.hw).sq X;generalize JgQ H3 d=H4 at Z sg1 hp4;let a0:JmK B.1 B.2=some (.int B.1):=Jsv 0;let a1:Jjf B.1 B.2=some (.int B.2):=Jsv 1;let pin:(0<=B.1/\B.1<Xk)/\0<=B.2/\B.2<(ts.length:Int):=by
  rcases sc0 with z|⟨q,C,l,Y,z⟩
  .rwa[z]at(hx,hy)
  .exact D0 hW z
 apply(7,p,4,hp4,a0,2,p,4,hp4,a1,sd,B.1,B.2,L,Wm,rfl,stOf sg1,R.inn,Jn,pin.1,pin.2,?_,λH5 pw O s5 hpw PO _=>?_)
 .rcases sc0 with z | ⟨q,C,l,Y,z⟩
  .rwa[z]at ej
  .have:=oG (L.drop q) (pairs_joined R Y B z);rw[List.take_append_drop]at this;exact this
 let S5:=Z.to s5;let sg5:bU v d HA H5:=sg1.trans s5.g;clear hp4;let xk:plV O=(O.map λq:Nat=>(q:Int)).map V.int:=by unfold plV;rw[List.map_map];rfl
 let ktH:∀{H6},bU v d H5 H6->bj H5 H6:=λ{H'} U b us z=>by
  let nb1:b≠v:=λe=>by rw[e]at z;rcases z with z|⟨o,z⟩<;>(erw[S5.hn]at z)
  let nb2:b≠d:=λe=>by rw[e]at z;rcases z with z|⟨o,z⟩<;>(erw[S5.hw]at z)
  rcases z with z|⟨o,z⟩
  .exact .inl Jg5
  .exact Jl o Jg5
 apply Ml pw (Mr hpw) (JcP cS (λj σ H'=>Ex5 λ(v8:Option V) (kn':QX V) (I:List Nat) (W':Mm Int) (ws':List V)=>An6 (σ=[Ja tl,Ja la,Ya x,Ya y,Ja sd,Ja v,Ja d,Ja p,v8]) (fV K H H' v d ts L x y kn' I W' ws' (some B)) (bU v d H5 H') ((∀q∈M,q∈I)) ((∀i q,i<j->O[i]?=some q->q∈I)) (4*(Jhx I.length)+W'.length<=4*(Jhx Jrk)+W0.length)) (λi σ H' h=>by let(_,_,_,_,_,_,_,U,_):=h;exact(ktH U).sq hpw) (JO v8 kn M W0 _ S5 (Jjv _) (λ_ h=>h) (λi q hi=>NH hi _) Yd))
 .rintro i σ H7 z H6 hi ⟨v8,kn6,M6,W6,J,rfl,G,sg6,m6,n6,b6⟩ ⟨rfl,hz⟩;let hz:=hz _ ((ktH sg6).sq hpw);rw[xk]at hz;let(n,hn,rfl):=ck hz;rw[List.getElem?_map]at hn;let(q,C,rfl):=Option.map_eq_some_iff.mp hn;apply(7,v,2,Jsx (.inl (q:Int)) G.hn,2,?_);rw[kP G.keys];let up:∀ {M7:List Nat},(∀r∈M6,r∈M7)→q∈M7→∀j r,j<i+1→O[j]?=some r→r∈M7:=λh1 h2 j r hj W=>by
   by_cases z:j=i
   .lia
   .exact h1 r (n6 j r Jn W)
  by_cases c:q∈M6
  .rwa[dTq (nz.mpr c)]at bq (JO _ kn6 M6 W6 J G sg6 m6 (up (λ_ h=>h) c) b6)
  rw[dFq (λh=>c (nz.mp h))];let ql:=PO.inn q (mO C);let hYq:=gG (show q<ys.length by lia);let ml6:=G.len;let wb6:=G.wb;let(l,lp,Y,el,hlp0):=iJ hY hYq;let at1:atI ys (q:Int)=some (.ref lp):=ay (hYq.trans (JaD el));let wl6:J.length=W6.length:=by rw[<-G.has.length,lM]
  let hw7:(Vc H6 v (JlR kn6 (q:Int))) d=some (.lst J):=by rwa[aq nwf.symm]at G.hw
  let sH7:M9 (Vc H6 v (JlR kn6 (q:Int))):=G.same.upd nnd;let lin:=R.inn l (mO Y);apply aD (7,v,2,.inl (_,.inl (q:Int),G.hn,rfl,hln (by rw[xE G.keys,lM];lia),rfl),?_);apply(2,U_ hw7,2,7,la,4,sH7.seq hS,at1,tl,lp,xs,ts,l,rfl,sH7.seq hT,Je7 sH7.kt _ hL,sH7.tup hlp0,lin.1,lin.2,λhm t u ht hu'=>?_,λH8 r zs8 s8 hr8 h8 hz8=>?_)
  .rcases(R q l Y).how with ⟨a,_⟩ | ⟨_,t',u',t1,t2,t3,t4⟩
   .lia
   .cases ht.symm.trans t1;cases hu'.symm.trans t2;have:=Mt t4;simpa using this
  let p3:=pairs3 hW l;let zl:zs8.length=(JT l).length:=by rw[<-hz8.length,lM]
  apply(d,r,J,zs8,6,s8 _ _ hw7,h8,oY (n:=J.length+zs8.length) Jn,?_);let S9:=G.add nnd nwl c Y PO (mO C) (sc0.mono m6) p3 s8 hz8;let ml9:=S9.len;rw[lAq]at ml9;let ml9:Jkg (M6.length+1):=ml9;apply JO _ _ (M6++[q]) (W6++JT l) _ S9 (((sg6.trans (bU.put1 _ _)).trans s8.g).trans JrN) (λr W=>Ma (m6 r W)) (up (λr h=>Ma h) Js) ?_;rw[lAq,lAq];show 4*(Jhx (M6.length+1))+_<=_;rw[<-lqC ml9]at b6;lia
 rintro σ H6 ⟨v8',kn6,M6,W6,J,rfl,G,sg6,m6,n6,b6⟩;apply(5,kn6,M6,W6,J,rfl,(G.same,G.hn,G.hw,G.has,G.keys,G.ndp,G.inn,G.wb,G.ok,G.why,λq C=>?_),sg5.trans sg6,by rw[lAq];show _<_+(_+1);lia);rcases G.cov q C with z|z|z
 .exact .inl z
 .cases z;apply JaL (O,PO,λr W=>?_);let(j,hj):=List.mem_iff_getElem?.mp W;exact n6 j r (by rwa[xk,lM,lM]at(gEq hj).1) hj
 .exact JaL z
end W53
namespace K53
open PySem L2
noncomputable def top (i:Nat):Stmt:=PySem.Challenge.pw_yesorno_k53_whole_no.main.body.getD i JdT
abbrev se:Stmt:=top 24
abbrev sf:Stmt:=top 25
abbrev sh:Stmt:=top 26
abbrev si:Stmt:=top 27
abbrev sj:Stmt:=top 28
abbrev sr:Stmt:=Iv 29 0
abbrev su:Stmt:=Iv 29 1
abbrev sv:Stmt:=Iv 29 2
abbrev sAdd:Stmt:=Iv 29 3
abbrev sx:Stmt:=Iv 29 4
abbrev sC:Stmt:=Iv 29 5
abbrev sRow:Stmt:=Iv 29 6
abbrev oU:Stmt:=top 33
abbrev mY:Stmt:=top 46
abbrev mZ:Stmt:=top 47
abbrev oW:Stmt:=top 48
abbrev m_:Stmt:=top 49
abbrev oX:Stmt:=top 50
abbrev s_levels:Stmt:=top 52
abbrev s_part_levels:Stmt:=top 54
abbrev s_is_replaced:Stmt:=top 55
abbrev s_learnt:Stmt:=top 56
abbrev yi:Stmt:=Jkp 0
abbrev yj:Stmt:=Jkp 1
abbrev yk:Stmt:=Jkp 2
abbrev ym:Stmt:=Jkp 3
abbrev yo:Stmt:=Jkp 4
abbrev yp:Stmt:=Jkp 5
abbrev yq:Stmt:=Jkp 6
abbrev yt:Stmt:=Jkp 7
abbrev yu:Stmt:=Jkp 8
abbrev yw:Stmt:=Jkp 9
abbrev yx:Stmt:=Jkp 10
abbrev yz:Stmt:=Jkp 11
abbrev lx:Stmt:=top 59
abbrev yA:Stmt:=top 70
abbrev sD:Stmt:=top 71
abbrev sG:Stmt:=top 72
abbrev pd:Stmt:=top 73
abbrev sI:Stmt:=top 74
abbrev lB:Stmt:=top 75
abbrev nC:Stmt:=top 76
abbrev pe:Stmt:=top 77
abbrev nD:Stmt:=top 78
abbrev lC:Stmt:=top 86
abbrev eg:Stmt:=top 88
abbrev abc:Str:="abcdefghijklmnopqrstuvwxyz"
def isL (c:Str):Bool:=!(Builtin.Str.occurrences abc c 0 abc.length 1).isEmpty
def iq (z:Str):List Bool:=z.cps.toList.map λc=>isL ⟨#[c]⟩
noncomputable def zfA:List V:=[.str "or",.str "and",.str "not",.str "never",.str "always",.str "then",.str "as",.str "unlike"]
def pf (z:Str):Bool:=decide (0<(z.length:Int))&&(iq z).all id
def gv (z:Str):Bool:=pf z&&(decide ((z.length:Int)<=8)&&!inV (.str z) zfA)
def D1:Vi (zfA.all zeo):=by rfl
def yB (z):(iq z).length=z.length:=by simp [iq,Str.length]
def D4 (a:z.cps[i]?=some ch):(iq z).take (i+1)=(iq z).take i++[isL ⟨#[ch]⟩]:=by
 let b:(iq z)[i]?=some (isL ⟨#[ch]⟩):=by unfold iq;rw[List.getElem?_map,Array.getElem?_toList,a];rfl
 rw[List.take_add_one,b];rfl
abbrev Tm:=Jiv Yk
noncomputable def dT (t:Tm):Dt:=Ul t.1 (.tup (t.2.map Ie))
theorem pj:∀ns:List Int,Vi (hO (ns.map Ie))
 |[]=>by rfl
 |n::ns=>by simp only[List.map_cons,hO,nob,Bool.true_and];exact pj ns
theorem iO:∀ns:List Int,bx (ns.map Ie)=0
 |[]=>by rfl
 |n::ns=>by simp only[List.map_cons,bx,dep,iO ns];rfl
def yC (t):JpC (dT t):=by simp only[dT,nob,hO,pj,Bool.and_self]
def yD (t):Jcc (dT t):=by simp only[dT,nol,bX,jG,Bool.and_self]
def dep_dT (t):dep (dT t)=2:=by simp only[dT,dep,bx,iO];rfl
theorem jf:∀T:List Tm,MU (T.map dT)
 |[]=>by rfl
 |t::T=>by simp only[List.map_cons,bX,yD,Bool.true_and];exact jf T
theorem yE:∀T:List Tm,JiR (T.map dT) 2
 |[]=>by simp [bx]
 |t::T=>by let h:=yE T;simp only[List.map_cons,bx,dep_dT];simp_all
def D5 (h:Dt.int a=Dt.int b):a=b:=by cases h;rfl
theorem yF:∀{c bs:List Int},Jpy Ie Ie->c=bs
 |[],[],_=>rfl
 |[],b::bs,h=>by cases h
 |a::c,[],h=>by cases h
 |a::c,b::bs,h=>by rw[List.map_cons,List.map_cons]at h;injection h with e d;rw[D5 e,yF d]
def dT_inj (h:dT a=dT b):a=b:=by let(n,ps):=a;let(m,e):=b;injection h with h;injection h with d c;injection d with d;injection c with c _;injection c with c;let g:n=m:=d;let f:ps=e:=yF c;rw[g,f]
def peq_dT (a b):peq (dT a) (dT b)=decide (a=b):=by
 by_cases h:a=b
 .subst h;rw[eR,dTq rfl]
 .rw[dFq h];cases e:peq _ _ with
  |false=>rfl
  |true=>exact absurd (dT_inj (qH _ _ (yC a) (yC b) e)) h
def sJ [BEq α][LawfulBEq α]{c:α->Dt}(i:∀a b,U0 (c a) (c b)↔a=b)(T:List α)(t:α):((T.map c).any λd=>Jm8 (c t))=decide (t∈T):=by
 rw[Bool.eq_iff_iff,List.any_eq_true];constructor
 .rintro ⟨d,g,e⟩;let(u,f,rfl):=List.mem_map.mp g;rw[i]at e;rwa[<-e]at dTq f
 .intro h;exact(c t,JfB t (oDq h),eR _)
def iff_dT (a b):U0 (dT a) (dT b)↔a=b:=by rwa[peq_dT]at decide_eq_true_iff
inductive At where
 |plain (z:Str)
 |same (a b:Int)
 deriving DecidableEq
noncomputable def dA:At->Dt
 |.plain z=>Ul "plain" (.str z)
 |.same a b=>.tup (Jdd a b)
def yG (t):JpC (dA t):=by cases t<;>simp only[dA,nob,hO,Bool.and_self]
def jg (t):Jcc (dA t):=by cases t<;>simp only[dA,nol,bX,Bool.and_self]
def yH (t):dep (dA t)=1:=by cases t<;>simp only[dA,dep,bx]<;>rfl
def dA_inj (h:dA a=dA b):a=b:=by
 cases a<;>cases b
 all_goals
  injection h with h;injection h with e c;injection c with c d
  first
   |(injection c with c;injection d with d _;injection d with d;rw[c,d])
   |(injection c with c;rw[c])
   |(injection e with e;exact absurd e Jv)
   |cases c
def peq_dA (a b):peq (dA a) (dA b)=decide (a=b):=by
 by_cases h:a=b
 .subst h;rw[eR,dTq rfl]
 .rw[dFq h];cases e:peq _ _ with
  |false=>rfl
  |true=>exact absurd (dA_inj (qH _ _ (yG a) (yG b) e)) h
def D9 (a b):U0 (dA a) (dA b)↔a=b:=by rwa[peq_dA]at decide_eq_true_iff
noncomputable def dR (r:List Int):Dt:=.tup (r.map Ie)
def jh (r):Jcc (dR r):=by simp only[dR,nol,jG]
theorem fe {c:Type}{b:c->Dt}(d:∀a,Jcc (b a)):∀T:List c,MU (T.map b)
 |[]=>by rfl
 |t::T=>by simp only[List.map_cons,bX,d,Bool.true_and];exact fe d T
theorem sL {c:Type}{b:c->Dt}{n:Nat}(d:∀a,dep (b a)<=n):∀T:List c,JiR (T.map b) n
 |[]=>by simp [bx]
 |t::T=>by let h:=sL d T;have:=d t;simp only[List.map_cons,bx];exact Nat.max_le_of_le_of_le (d t) h
def ff (a c b:Addr):JcB V:=Jbw "rows" b (Jbw "atoms" c (Jbw "terms" a []))
def eU (a c b):(ff a c b).lookup ("terms":Str)=some (.ref a):=by rfl
def eV (b a c):(ff b a c).lookup ("atoms":Str)=some (.ref a):=by rfl
def lD (b c a):(ff b c a).lookup ("rows":Str)=some (.ref a):=by rfl
def jR (a f b){m:Str}(e:¬m="rows")(d:¬m="atoms")(c:¬m="terms"):(ff a f b).lookup m=none:=by
 unfold ff;rw[lX,if_neg e,lX,if_neg d,lX,if_neg c]
 rfl
def Fr1 (H H':Hp)(z:Addr):Prop:=∀b o,QG b o (b≠z->Uk b o)
def Fr1.of_same (s:Xd H):Jl7 z:=λb o e x=>s b o e
def Fr1.keepT (f:Jl7 z)(h:VT z):JgF H':=λb ys q=>by
 rcases q with q|⟨o,q⟩
 .exact .inl (f b _ q (cz q h (λe=>by cases e)))
 .exact Jl o (f b _ q (cz q h (λe=>by cases e)))
structure bu (K)(C)(H:Hp)(p tl al rl)(T:List Tm)(As:List At)(Rs:Xg Int):Prop where
 ob:∃dx,Jc0 p (ff tl al rl)
 tm:∃xs,VT tl/\Jf0 dT
 am:∃xs,VT al/\Wy (As.map dA)
 rm:∃xs,VT rl/\W_ dR
 na:al≠tl
 nr:rl≠tl
 nx:rl≠al
def bu.keep {K:W.Frag}{C:Addr}{H H':Hp}{p a d b z:Addr}{T:List Tm}{As:List At}{Rs:List Yk}{zs:List V}(h:Jgx H a d b T)(f:Jl7 z)(hz:Qr z zs)(l:z≠a)(k:z≠d)(j:z≠b):Jgx H' a d b T:=by let((dx,g),(xs,v,u),(ys,t,s),(i,r,q),o,n,c):=h;exact((dx,f _ _ g (cz g hz (λe=>by cases e))),(xs,f _ _ v l.symm,u.keep Jsm (jf T)),(ys,f _ _ t k.symm,s.keep Jsm JfJ),(i,f _ _ r j.symm,q.keep Jsm JfI),o,n,c)
def bu.same {K:W.Frag}{C:Addr}{H H':Hp}{p b d c:Addr}{T:List Tm}{As:List At}{Rs:List Yk}(h:Jgx H b d c T)(s:Xd H):Jgx H' b d c T:=by let((dx,q),(xs,o,n),(ys,l,k),(e,j,i),g,f,a):=h;exact((dx,s _ _ q),(xs,s _ _ o,n.keep (.of_same s) (jf T)),(ys,s _ _ l,k.keep (.of_same s) JfJ),(e,s _ _ j,i.keep (.of_same s) JfI),g,f,a)
def bu.setT {K:W.Frag}{C:Addr}{H:Hp}{p a k c:Addr}{T l:List Tm}{As:List At}{Rs:List Yk}{us:List V}(h:Jgx H a k c T)(hs:Ql Jr6 (l.map dT) us):Jgx Jr6 a k c l:=by let((dx,j),(xs,i,t),(ys,s,r),(n,q,o),g,f,b):=h;let d:Jjk a us:=bj.lst i;exact((dx,by rwa[Jow j i (λe=>by cases e)]at j),(us,ao,hs),(ys,by rwa[aq g]at s,r.keep d JfJ),(n,by rwa[aq f]at q,o.keep d JfI),g,f,b)
def bu.setA {K:W.Frag}{C:Addr}{H:Hp}{p d b f:Addr}{T:List Tm}{As c:List At}{Rs:List Yk}{us:List V}(h:Jgx H d b f T)(hs:Ql (N8 b us) (c.map dA) us):JeZ K C (N8 b us) p d b f T c:=by let((dx,k),(xs,s,r),(ys,j,t),(l,q,o),i,n,a):=h;let g:Jjk b us:=bj.lst j;exact((dx,by rwa[Jow k j (λe=>by cases e)]at k),(xs,by rwa[aq i.symm]at s,r.keep g (jf T)),(us,ao,hs),(l,by rwa[aq a]at q,o.keep g JfI),i,n,a)
def bu.setR {K:W.Frag}{C:Addr}{H:Hp}{p d k a:Addr}{T:List Tm}{As:List At}{Rs c:List Yk}{us:List V}(h:Jgx H d k a T)(hs:Ql Jr6 (c.map dR) us):bu K C Jr6 p d k a T As c:=by let((dx,j),(xs,r,q),(ys,o,n),(s,i,t),l,g,b):=h;let f:Jjk a us:=bj.lst i;exact((dx,by rwa[Jow j i (λe=>by cases e)]at j),(xs,by rwa[aq g.symm]at r,q.keep f (jf T)),(ys,by rwa[aq b.symm]at o,n.keep f JfJ),(us,ao,hs),l,g,b)
def SqI (K:W.Frag)(H:Hp)(q:Addr)(ps:List Int):Prop:=Jha H q\/WI q
def SqI.same (h:SqI K H q ps)(s:Xd H):SqI K H' q ps:=h.elim (λz=>.inl (s.seq z)) λz=>.inr ((bj.of_same s).sq z)
inductive sM:Sp|m{vs H Q E9} (z):VO (vs=[.str z]) z.length ((∀H',QF (Ji (pf z) H'))->sM vs H Q E9)
inductive sO:Sp|m{vs H Q E9} (z):VO (vs=[.str z]) z.length ((∀H',QF (Ji (gv z) H'))->sO vs H Q E9)
inductive pz:Sp|m{vs H Q E9} (z):VO (vs=[.str z]) z.length (JfZ z->(∀H',JoY H')->pz vs H Q E9)
inductive lE (K):Sp|m{vs H Q E9} (a tl) (m) (xs) (ds) (d):vs=UV a tl m->Qx K H d a->VT tl->JnS (Wy ds) (JiR ds 50) ((ds.length:Int)<m) m ((Vi (ds.any λe=>Jlw e)->∀j:Nat,j<ds.length->Mn (j:Int) H)->(¬Vi (ds.any λe=>Jlw e)->Mn (ds.length:Nat) (N8 tl (JhB xs a)))->lE K vs H Q E9)
inductive sP (C):Sp|m{vs H Q E9} (p dx):vs=Vj p->JjO p [] ((∀tl al rl H',Ms tl (Jgk al rl (al≠tl->rl≠tl->rl≠al->Uk p (Y_ (ff tl al rl))->Il tl []->Il al []->JpO (Il rl []) (∀b o,QG b o (b≠p->Uk b o)))))->sP C vs H Q E9)
inductive pA (K)(C):Sp|m{vs H Q E9} (p tl al rl) (T) (As) (Rs) (n):vs=UJ p n->Jjj T->0<=n->n<(T.length:Int)->UQ H->pA K C vs H Q E9
inductive sQ (K)(C):Sp|m{vs H Q E9} (p tl al rl) (T) (As) (Rs) (n):vs=UJ p n->Jjj T->n≠0->-(As.length:Int)<=n->n<=(As.length:Int)->UQ H->sQ K C vs H Q E9
abbrev bmV:List Value:=[.type "ValueError",.type "Exception",.type "BaseException",.type "object"]
structure Txt (K)(mg:QT Str)(aK C):Prop where
 small:∃t,Jkh "SMALL_LETTERS" (JmV abc)
 longest:∃t,Jki "LONGEST_NAME" 8
 parts:∃t,Jki "MOST_TERM_PARTS" 3
 terms:∃t,Jki "MOST_TERMS" 60
 atoms:∃t,Jki "MOST_ATOMS" 40
 rparts:∃t,Jki "MOST_ROW_PARTS" 20
 rows:∃t,Jki "MOST_ROWS" 200
 kept:mg "KEPT_WORDS"=Ja aK
 tup:∀H,Vo aK zfA
 len:Jg "len"
 all:Jg "all"
 range:Jg "range"
 isi:Jg "isinstance"
 bool:Jg "bool"
 tuple:Jg "tuple"
 abs:Jg "abs"
 cl:Jj3 K
 nT:Jml "terms"
 nA:Jml "atoms"
 nR:Jml "rows"
def scIW:Jsw ["text"] se:=fsc
def D_ (F:Jr_ "is_word" se)(T:NN C):JjL ["text"] sM:=by
 let(p,n):=T.small;apply Jq_ scIW r
 let(z,rfl,hz,q):=h;apply Ym (JcH (cP da (Up vT Jqj) af) (Jad (oj rfl) T.all (Jsy ["letter"] [] (λG=>JfH []) Xf (A4 IN) (λB u e g=>cP Am IN (JkR (v:=.str abc) n _) rfl))))
 apply GF _ z rfl (bsz _ hz) _ _ rfl rfl _ rfl ?_;apply Mg XN
 .apply Jnw _ z (λD k=>Gc (λi m ys H'=>m=z.length-i∧i≤z.length∧ys=((iq z).take i).map V.bl∧H'=N8 D ys) (Jnw ML Zq rfl));rintro i m ys H' ⟨rfl,t,rfl,rfl⟩;apply Qm ao;by_cases a:i<ML
  .apply Jl a (λx o y=>?_);let(rfl,ch,d,rfl):=y;let l:=D4 d;apply XX _ _ _ rfl rfl ao ?_ (z.length-Xi) (Jan ML a) rfl a ?_ vk
   .rwa[lM,List.length_take,yB]at Vk (Jiw (Jfd _))
   .rw[l,mAq];rfl
  .let b:i=z.length:=Nat.le_antisymm ‹_› (Nat.le_of_not_lt ‹_›)
   subst b;apply .inl (nRq _,D,iq z,rfl,SqL.of (by rw[ao,tO (yB<|>nRq _)]),?_);have:=q _ (Jax k (((iq z).take ML).map V.bl));unfold pf at this;lia
 .have:=Jkb H H;unfold pf at this;lia
def scIN:Jsw ["word"] sf:=fsc
def Ea (F:Jr_ "is_name" sf)(T:NN C)(G:Vn 1 g gd ["text"] sM)(l:JjI gd "text")(i:JkA g)(e:mg "is_word"=Ja g):
  aS P w K mg base CX0 2 f fd ["word"] sO:=by
 let(n,k):=T.longest;apply Jq_ scIN j
 let(z,rfl,hz,q):=h;apply Ym (Nc (fh (JfP G j e i l 0) (Ja9 (cP op_le (Up vT Jqj) (JkR (v:=.int 8) k _)) (cP kA IN (JkQ (v:=.ref aK) T.kept rfl) rfl))))
 apply MA _ z hz (λa b=>Ym rfl);apply Mg XN
 .apply GF _ z rfl (bsz _ hz) _ _ rfl rfl _ rfl ?_;apply bo (λd=>?_) (λd=>?_)
  .apply JeW _ rfl aK zfA (.inr (T.tup a)) rfl D1 ?_;have:=q a b;unfold gv at this;lia
  .have:=q a b;unfold gv at this;lia
 .have:=q a b;unfold gv at this;simp_all
def scAN:Jsw ["word"] sh:=fsc
def Ec (F:Jr_ "ask_name" sh)(G:Xu 2 "is_name" g gd ["word"] sO):JA 3 ["word"] pz:=by
 apply Jq_ scAN c
 let(z,rfl,hz,d,h):=h;apply Ym (Jh2 (GK (JfP G.ok c G.m G.kp G.b 0)) iZ aU)
 rfl'
 apply MA _ z hz (λe a=>Ym rfl);rwa[d]at bq (h e a)
def scPl:Jsw JcM sj:=fsc
def Ed (F:Jr_ "place_of" sj)(T:NN C):JjL JcM (lE K):=by
 apply Jq_ scPl y
 let(a,i,m,xs,b,d,rfl,r,k,hs,t,J,I,o,n):=h;let q:=gi y;let l:Xp b.length:=hs.length.symm;apply Ym (ae (be (JiN (wz q) IN 1) (Nc (Ub Jr1 Jr0 (wB q) WA Jqj)) aU) (NX (be (aA jv (ME 1) UA) iZ aU) (Jog WA 0) (XI gC (ME 1))))
 rfl'
 apply(7,i,xs,b,d,rfl,Yc k,hs,r,Jd t,2,?_);apply Mg XN
 .let v:Vi (b.any λe=>Jlw e):=c;let g:Jkf (b.findIdx λe=>Jlw e):=List.findIdx_lt_length_of_exists ((by let(x,o,n):=List.any_eq_true.mp v;exact (x,o,n)));apply(2,U_ k,2,i,xs,b,_,d,b.findIdx (λe=>Jlw e),6,k,hs,r,Jd t,Q5 (gG g) (JsR g),λj M G D=>?_,o v _ g);let(L,B):=gEq D;let z:=List.not_of_lt_findIdx (p:=λe=>Jlw e) G;rw[B]at z;exact z
 .apply(2,i,xs,rfl,Yc k,2,3,2,bo (λu=>?_) (λu=>?_))
  .lia
  .apply Jgu _ (U_ k) _ i xs _ k (dV Jn) ?_;apply(2,i,2,Yc ao,3,?_);let e:(((xs++[V.ref a]).length:Nat):Int)-1=(b.length:Nat):=by rw[lAq,l];simp
   show Mn ((((xs++[V.ref a]).length:Nat):Int)-1) _;rwa[e]at n c
def scI:Jsw ["self"] sr:=fsc
def ok_init (F:JoS "Problem.__init__" sr)(T:NN C):JjL ["self"] (sP C):=by
 apply Jq_ scI D
 let(p,dx,rfl,y,k):=h;apply Ym (Qb Jqz Jqz (aj Jqz));apply JfX (λl u=>?_);let c:=cn y u;apply WQ _ p C dx [] (aq c<|>y) Yt T.nT Jp ?_;apply JfX (λi d=>?_);let j:i≠p:=λz=>by erw[z,ao]at d
 let q:i≠l:=λz=>by erw[z,aq c.symm,ao]at d
 let B:Nf i:=by rw[aq j,aq q]at d;exact d
 apply WQ _ p C dx _ (by rw[aq j.symm,ao]) Yt T.nA (by show JcN 1;decide) ?_;apply JfX (λg a=>?_);let n:g≠p:=λz=>by erw[z,ao]at a
 let t:g≠i:=λz=>by erw[z,aq j,ao]at a
 let r:g≠l:=λz=>by erw[z,aq c.symm,aq q.symm,aq c.symm,ao]at a
 let x:Nf g:=by rw[aq n,aq t,aq n,aq r]at a;exact a
 apply WQ _ p C dx _ (by rw[aq n.symm,ao]) Yt T.nR (by show JcN 2;decide) ?_;apply k l i g _ u B x q r t ao ?_ ?_ ?_ λb o e v=>?_
 .rw[aq c.symm,aq r.symm,aq c.symm,aq q.symm,aq c.symm,ao]
 .rw[aq j,aq t.symm,aq j,ao]
 .rw[aq n,ao]
 .rwa[aq v,NP e x,aq v,NP e B,aq v,NP e u]at e
def scAT:JgV (Wo "number") "number" su:=fsc
def Ee (F:Xv "ask_term" "Problem.ask_term" su)(T:NN C):JjL (Wo "number") (pA K C):=by
 apply Jq_ scAT l
 let(p,a,j,e,k,As,Rs,n,rfl,S,q,o,h):=h;let((dx,g),(xs,i,hs),_):=id S;let b:Xp k.length:=by rw[<-hs.length,lM]
 apply Ym (Jh2 (JR (Gx iA WA) (IX jv 1 JeJ)) iZ aU)
 rfl'
 apply Jo5 _ rfl _ _ _ (Mg (λc=>(7,p,C,dx,_,2,g,Yt,T.nT,eU _ _ _,a,xs,rfl,Yc i,3,2,bo (λd=>?_) (λd=>h))))
 .have:=oDq c;lia
 lia
def scAP:JgV (Wo "part") "part" sv:=fsc
def Ef (F:Xv "ask_part" "Problem.ask_part" sv)(T:NN C):JjL (Wo "part") (sQ K C):=by
 apply Jq_ scAP o
 let(p,g,e,i,t,As,Rs,n,rfl,S,j,r,q,h):=h;let((dx,k),_,(xs,l,hs),_):=id S;let b:Xp As.length:=by rw[<-hs.length,lM]
 apply Ym (Jh2 (JR (Q4 WA) (aA da (JoU jw 1) JeJ)) iZ aU)
 rfl'
 apply Jf9 (Mg (λc=>(2,n,rfl,2,p,C,dx,_,2,k,Yt,T.nA,eV _ _ _,e,xs,rfl,Yc l,3,2,bo (λd=>?_) (λd=>h))))
 .lia
 lia
def Fr2 (H H':Hp)(z y:Addr):Prop:=∀b o,QG b o (b≠z->b≠y->Uk b o)
def Fr2.of1 (f:Jl7 z):Jip z y:=λb o e n x=>f b o e n
def Fr2.of_same (s:Xd H):Jip z y:=λb o e x x=>s b o e
def Fr2.trans (a:Fr2 H H1 z y)(b:Fr2 H1 H2 z y):Fr2 H H2 z y:=λc o e n m=>b c o (a c o e n m) n m
inductive lF (K)(C):Sp|m{vs H Q E9} (p tl al rl) (T) (As) (Rs) (z):WZ (vs=JpI p z) (Jjj T) z.length (JfZ z->Jez 40->(∀H' more (j:Nat),JeZ K C H' p tl al rl T (As++more)->Jod rl->more=[]/\At.plain z∈As\/more=[.plain z]->Jgi (j:Int))->lF K C vs H Q E9)
inductive pB (K)(C):Sp|m{vs H Q E9} (p tl al rl) (T) (As) (Rs) (a b):vs=JbI p a b->Jjj T->0<=a/\a<(T.length:Int)->0<=b/\b<(T.length:Int)->Jez 40->(∀H' more (j:Nat),JeZ K C H' p tl al rl T (As++more)->Jod rl->more=[]/\Jmv 1\/more=[.same a b]->Jgi (j:Int))->pB K C vs H Q E9
inductive ji (K)(C):Sp|m{vs H Q E9} (p tl al rl q) (T) (As) (Rs) (ps):vs=Iw p q->Jjj T->Jha H q->Jco 20->(∀n∈ps,n≠0/\-(As.length:Int)<=n/\n<=(As.length:Int))->Rs.length<200->(∀H' (j:Nat),bu K C H' p tl al rl T As (Rs++[Jm_ []])->Jod rl->Jgi (j:Int))->ji K C vs H Q E9
inductive pC (K):Sp|m{vs H Q E9} (q) (ps):JcG (vs=Vj q) (Jha H q) ((∀H' l,JmG (Vy l ((Jm_ []).map V.int)) l)->pC K vs H Q E9)
def Eg (a b):peq (.int a) (.int b)=decide (a=b):=rfl
def q1 {Q:VK}{n:Nat}{H:Hp}(h:Mn ((n+1:Nat):Int) H):Mn ((n:Int)+1) H:=h
def yI (S:Jjj T)(g:Qx K H (dA t) a)(h:Jez 40)
  (k:∀H' more (j:Nat),JeZ K C H' p tl al rl T (As++more)->Jl7 al->more=[]/\t∈As\/more=[t]->Jgi (j:Int)):lE K (UV a al 40) H Q E:=by
 let(xs,f,hs):=id S.am;apply(a,al,40,xs,As.map dA,dA t,rfl,g,f,hs,Jd (sL (λa=>by rwa[yH]at nRq _) As),by rw[lM];lia,by decide,λc j l=>?_,λc=>?_)
 .rw[sJ D9,decide_eq_true_eq]at c;exact k H [] j (List.append_nil<|>S) (λb o e x=>e) (Qk rfl c)
 .let d:Jjk al (JhB xs a):=bj.lst f;apply k _ [t] _ (S.setA ?_) (λb o e i=>by rwa[aq i]at e) (.inr rfl);rwa[mAq]at(hs.keep d JfJ).append (ar.one (g.keep d (jg t)))
def scP:JgV (Wo "name") "name" sx:=fsc
def Eh {f N M:Addr}{q O dP:FuncData}(F:Fun K "add_plain" "Problem.add_plain" sx f q)(T:NN C)(g:Xu 3 "ask_name" N O ["word"] pz)(e:Xu 1 "place_of" M dP JcM (lE K)):
  aS P w K mg base CX0 4 f q (Wo "name") (lF K C):=by
 let(u,n):=T.atoms;apply Jq_ scP o
 let(p,t,R,B,X,As,Rs,z,rfl,S,lo,G,k,h):=h;let l:Jhw 1:=o.mono Jp;apply Ym (QZ (ak (JfP g.ok o g.m g.kp g.b 1)) (XI cu (X0 e.ok l e.m e.kp e.b (X8 (Jg1 ba 1) Wa (JkR (v:=.int 40) n _)))))
 rfl'
 apply Jje _ z lo G (λW y=>JoR (λa J=>?_));let c:=y.trans (aW J (Ul "plain" (.str z)));let r:=S.same c;let⟨(dx,D)⟩:=id r;let I:Has K (Gb W a (Jp6 (.str z))) (dA (.plain z)) _:=JhH ao;exact JN _ p C dx _ _ rfl D Yt T.nA (eV _ _ _) (yI r I k λH' d j U L m=>JgT _ _ (q1 (h H' d (j+1) U ((Fr2.of_same c).trans (Fr2.of1 L)) m)))
def scSm:Je ["self","one","other","turned"] JfR sC:=fsc
def Ei {f fT fP:Addr}{fd D dP:FuncData}(F:Xv "add_same" "Problem.add_same" sC)(T:NN C)(GT:X4 1 fT D "number" (pA K C))(bT:JpL D)(W:XY "ask_term" fT)(J:Xu 1 "place_of" fP dP JcM (lE K)):
  aS P w K mg base CX0 4 f fd JfR (pB K C):=by
 let(t40,U):=T.atoms;apply XF scSm
 let(p,G,q,I,T',As,Rs,a,b,rfl,S,Y,X,L,h):=h;let Z:=gi hr;let k:Jhw 1:=hr.mono Jp;apply Ym (Qb (ak (Jkr 0 W GT k bT 1)) (ak (Jkr 0 W GT k bT 2)) (NY (i:=3) scSm.nd (cb (aa ba (VJ 2 1))) (be (JiM (wz Z) MJ Wa) (Nc (XI cu (Ub Jr1 Jr0 (wB Z) Wa (Uc 3)))) aU) (XI cu (X0 J.ok k J.m J.kp J.b (X8 (cb (aa ba (VJ 1 2))) Wa (JkR (v:=.int 40) U _))))))
 rfl'
 let((dx,B),_,(xs,N,hs),_):=id S;let no:=jR G q I (m:="ask_term") Jv Jv Jv;apply(2,p,dx,2,B,no,2,p,G,q,I,T',As,Rs,a,rfl,S,Y.1,Y.2,?_);apply(2,p,dx,2,B,no,2,p,G,q,I,T',As,Rs,b,rfl,S,X.1,X.2,?_);apply MA _ _ lS3 (λu M=>?_);let dt:∀{H:Hp} {u:Addr} {x y:Int},Jcs u (Jdd x y)->Has K H (dA (.same x y)) (.ref u):=λe=>Jo e (Ye (by rfl) (by rfl) (JF (by rfl)));let d:=Ja_ M (Jdd b a);let R:=dt (Jsu H u (.tup (Jdd b a)));generalize Jm u _=H1 at d R;let S1:=S.same d;let t:=hs.keep (.of_same d) JfJ;let dp:JiR (As.map dA) 60:=Jd (sL (λa=>by rwa[yH]at nRq _) As);apply(7,p,C,dx,_,2,d _ _ B,Yt,T.nA,eV _ _ _,q,xs,As.map dA,dA _,rfl,Yc (d _ _ N),t,R,dp,2,Mg XN)
 .let c':=c;let l:=List.findIdx_lt_length_of_exists ((by let(x,h1,h2):=List.any_eq_true.mp c';exact (x,h1,h2)));apply(2,p,C,dx,_,2,d _ _ B,Yt,T.nA,eV _ _ _,U_ (d _ _ N),2,q,xs,As.map dA,_,dA _,_,6,d _ _ N,t,R,dp,Q5 (gG l) (JsR l),λm dm g1 g2=>?_,3,q1 (h H1 [] _ (List.append_nil<|>S1) (Fr2.of_same d) (Qk rfl (by rw[lM]at l;exact Nat.one_le_of_lt l))));let(h3,h4):=gEq g2;let z:=List.not_of_lt_findIdx g1;rw[h4]at z;exact z
 .apply MA _ _ lS3 (λv hv=>?_);let g:=d.trans (Ja_ hv (Jdd a b));let O:=dt (Jsu H1 v (.tup (Jdd a b)));let S2:=S.same g;exact JN _ p C dx _ _ rfl (g _ _ B) Yt T.nA (eV _ _ _) (yI S2 O L λH' r j S' fr m=>JgT _ _ (q1 (h H' r (j+1) S' ((Fr2.of_same g).trans (Fr2.of1 fr)) (m.imp (λh_=>by let(a,b):=h_;exact (a,List.length_pos_of_mem b)) id))))
inductive nF (K)(C):Sp|m{vs H Q E9} (p tl al rl q) (T) (As) (Rs) (n) (ps):JnS (vs=JmH p (.str n) q) (Jjj T) (WI q) n.length (JfZ n->Jco 3->(∀i∈ps,0<=i/\i<(T.length:Int))->T.length<60->(∀H' more j,JgA H' (T++more)->Jl7 tl->more=[]/\(n,ps,)∈T\/more=[(n,ps,)]->j<(T++more).length->Jgi (j:Int))->nF K C vs H Q E9)
def scA:Je ["self","name","parts","part"] JlK sAdd:=fsc
def ok_add {f fN fT fP:Addr}{fd dN y dP:FuncData}(F:Xv "add_term" "Problem.add_term" sAdd)(T:NN C)(J:Xu 3 "ask_name" fN dN ["word"] pz)
  (GT:X4 1 fT y "number" (pA K C))(bT:JpL y)(mT:XY "ask_term" fT)(I:Xu 1 "place_of" fP dP JcM (lE K)):JA 4 JlK (nF K C):=by
 let(t3,e3):=T.parts;let(t60,U):=T.terms;apply XF scA
 let(p,D,al,rl,q,G,As,Rs,n,ps,rfl,S,hq,lo,hn,h3,hp,len,h):=h;let t:Jhw 1:=hr.mono Jp;apply Ym (ae (ak (JfP J.ok hr J.m J.kp J.b 1)) (NX (be (aA da (ME 2) (JkR (v:=.int 3) e3 _)) iZ aU) (JsF (V7 2) 3 scA.nd (QS 0 mT GT t bT (Uc 3))) (X0 I.ok t I.m I.kp I.b (X8 (cb (WG 1 (Qz jz rfl T.tuple Jqi))) Wa (JkR (v:=.int 60) U _)))))
 rfl'
 apply Jje _ n lo hn (λH1 L=>?_);let S1:=S.same L;let d:=L.tup hq;let hl1:(ps.map VG).length=ps.length:=lM _;apply Jgu _ q _ (.inr d) _ _ _ rfl JbK
 .lia
 let((dx,ho),_):=id S1;apply JcQ _ q d cS (λi B g=>g=H1/\∃z,B=[Ja p,some (.str n),Ja q,z]) (λi B g h=>by let(e,_):=h;exact by rwa[e]at d) (XA rfl _)
 .rintro i B H8 x g hi ⟨rfl,z,rfl⟩ ⟨rfl,hx⟩;let(k,ek,rfl):=GY _ d;let Z:=hp k (mO ek);exact(2,p,dx,2,ho,NQ _ _ _,2,p,D,al,rl,G,As,Rs,k,rfl,S1,Z.1,Z.2,rfl,2)
 .rintro B g ⟨rfl,z,rfl⟩;apply JS _ rfl _ q _ rfl (JfV d lS2 (λa ha=>?_));let l:=L.trans (aW ha (JY n q));let O:Qx K (Gb g a (JiI n q)) (dT (n,ps,)) a:=JhG ao (Has.tup' (l.tup hq) (ar.ints ps));generalize Gb g a (JiI n q)=Y at l O;let X:=S.same l;let((W,M),(xs,u,r),_):=id X;apply(2,p,C,W,_,2,M,Yt,T.nT,eU _ _ _,a,D,60,xs,G.map dT,dT (n,ps,),rfl,O,u,r,Jd (yE G),by rw[lM];lia,by decide,λN j hj=>?_,λN=>?_)
  .rw[sJ iff_dT,decide_eq_true_eq]at N;rw[lM]at hj;exact h Y [] j (List.append_nil<|>X) (Fr1.of_same l) (Qk rfl N) (List.append_nil<|>hj)
  .rw[lM];let kt:bj Y (JhC Y D xs a):=bj.lst u;apply h _ [(n,ps,)] _ (X.setT ?_) (λb o e R=>by rwa[aq R]at l b o e) (.inr rfl) (lAq<|>Nat.lt_succ_self _);rwa[mAq]at(r.keep kt (jf G)).append (ar.one (O.keep kt (yD _)))
def Ej (a b):U0 (.int a) (.int b)↔a=b:=by rwa[Eg]at decide_eq_true_iff
def scO:Je ["parts","kept","part"] ["parts"] si:=fsc
def Ek {f:Addr}{D:FuncData}(F:Fun K "once_each" "once_each" si f D)(T:NN C):Vn 1 f D ["parts"] (pC K):=by
 apply Jq_ scO L
 let(q,ps,rfl,v,G,k):=h;let J:=gi L;apply Ym (NY (i:=1) scO.nd (bK ac) (JsF (Jes 0) 2 scO.nd (Jh2 (JiN (A_ J) UA 1) (Jg3 1 Jqi) aU)) (Qz jz rfl T.tuple (Uc 1)))
 apply JfX (λl B=>?_);let y:M9 (GB H l):=Nn B;apply JcQ _ q (y.seq v) dv (λi r p=>M9 p/\(∃z,r=[Ja q,Ja l,z])/\Ia (p l) ((WL [] i).map VG)) (λi r p h=>by let(e,_):=h;exact e.seq v) (y,Wf _,ao)
 .rintro i r O x p N ⟨d,⟨z,rfl⟩,a⟩ ⟨rfl,I⟩;let(j,M,rfl):=ck (I _ (d.seq v));let u:=By (acc:=[]) M;let g:((WL [] i).map VG).length<sizeLine:=by rw[lM];have:=qX (ps.take i) [];rw[List.length_take,List.length_nil]at this;exact Vk (show Jr _ by lia)
  apply(7,l,_,(WL [] i).map Ie,.int j,rfl,Yc a,ar.ints _,by rfl,by rw[iO];decide,2,?_);let ea:=sJ Ej (WL [] i) j;by_cases t:j∈WL [] i
  .rw[dTq t]at ea;apply IP (λc=>absurd (show Vi (!((WL [] i).map Ie).any λd'=>peq d' (.int j)) from c) (by rw[ea];decide));rw[if_pos t]at u;exact(d,Wf _,by rwa[u]at a)
  .rw[dFq t]at ea;apply Go (λc=>W7 (show Vi (!((WL [] i).map Ie).any λd'=>peq d' (.int j)) by rw[ea];rfl));rw[if_neg t]at u;apply Jgu _ (U_ a) _ l _ _ a g ?_;apply Gc (λb o e=>by rwa[NP e B]at d b o e) JeC;rw[u,mAq,ao];rfl
 .rintro r p ⟨d,⟨z,rfl⟩,a⟩;rw[lM,List.take_length]at a;apply G0 _ l _ (JcT a (λl2 n=>k _ l2 (d.trans (Nn n)) ao))
def scRw:JgV (Wr "parts" "part") "parts" sRow:=fsc
def ok_row {f fP fO:Addr}{Z dP dO:FuncData}(F:Fun K "add_row" "Problem.add_row" sRow f Z)(T:NN C)(GP:X4 1 fP dP "part" (sQ K C))(bP:JnI dP)(mP:XY "ask_part" fP)
  (GO:Xu 1 "once_each" fO dO ["parts"] (pC K)):JhI 2 f Z (ji K C):=by
 let(t20,M):=T.rparts;let(R,k):=T.rows;apply Jq_ scRw Y
 let(p,y,O,a,q,T',As,Rs,ps,rfl,S,d,len,D,U,h):=h;apply Ym (ae (JsF (Jes 1) 2 scRw.nd (QS 0 mP GP Y bP Jqi)) (Qb (be (aA da (ME 1) (JkR (v:=.int 20) M _)) iZ aU) (be (aA jv JeJ (JkR (v:=.int 200) k _)) iZ aU) (QZ (Jjh Wa (Yb (JfP GO.ok Y GO.m GO.kp GO.b 1))) (XI gC JeJ))))
 rfl'
 let((dx,I),_,_,(xs,L,hs),_):=id S;let j:Xp Rs.length:=by rw[<-hs.length,lM]
 let hpl:(ps.map VG).length=ps.length:=lM _;apply JcQ _ q d dv (λi n u=>u=H/\∃z,n=[Ja p,Ja q,z]) (λi n u h=>by let(e,_):=h;exact by rwa[e]at d) (XA rfl _)
 .rintro i n H8 x u hi ⟨rfl,z,rfl⟩ ⟨rfl,hx⟩;let(X,ek,rfl):=GY _ d;let B:=D X (mO ek);exact(2,p,dx,2,I,NQ _ _ _,2,p,y,O,a,T',As,Rs,X,rfl,S,B.1,B.2.1,B.2.2,rfl,2)
 rintro n u ⟨rfl,z,rfl⟩;apply Jgu _ q _ (.inl d) _ _ _ rfl (Mg (λ_=>?_))
 .lia
 apply(2,p,C,dx,_,2,I,Yt,T.nR,lD _ _ _,a,xs,rfl,Yc L,3,2,IP (λc2=>?_))
 .lia
 apply GX _ p C dx _ _ rfl I Yt T.nR (lD _ _ _) (U_ L) _ rfl q ps rfl d Jn (λt l r J=>?_);let g:=r _ _ L;let hd:Qx K t (dR (Jm_ [])) l:=Jo J (ar.ints _);let W:bj t (JhC t a xs l):=bj.lst g;let S3:bu K C (JhC t a xs l) p y O a T' As (Rs++[Jm_ []]):=(S.same r).setR (mAq<|>((hs.keep (.of_same r) JfI).keep W JfI).append (ar.one (hd.keep W (jh _))))
 let((N,G),_):=id S3;apply Jk6 a xs _ g (dV Jn) ?_;apply GX _ p C N _ _ rfl G Yt T.nR (lD _ _ _) a _ rfl (Yc ao) _ _ rfl rfl ?_;let en:(((xs++[V.ref l]).length:Nat):Int)-1=(Rs.length:Nat):=by rw[lAq,j];simp
 show Mn ((((xs++[V.ref l]).length:Nat):Int)-1) _;rw[en];exact h _ _ S3 λb o e _ n2=>by rwa[aq n2]at r b o e
def cw (a){b:Int}(h:0<b):0<=a%b/\a%b<b:=(Int.emod_nonneg _ Jn,Int.emod_lt_of_pos _ h)
def made (f:Nf x)(d:Nf dx)(c:dx≠x)(n:(Jle x) tl=none)(l:(Jle x) al=none)
  (k:(Jle x) rl=none)(i:al≠tl)(h:rl≠tl)(g:rl≠al)(k1:Jkj x (Y_ (ff tl al rl)))(k2:Jnu tl [])(k3:Jnu al [])(j:Jnu rl [])
  (k5:∀b o,(Jle x) b=some o->b≠x->Jkj b o):bu K C H1 x tl al rl [] [] []/\M9 H1/\Nf tl/\Nf al/\Nf rl:=by let a:M9 (Jle x):=(Nn d).trans (Nn (aq c.symm<|>f));exact(((dx,k1),([],k2,.nil),([],k3,.nil),([],j,.nil),i,h,g),λb o e=>k5 b o (a _ _ e) (cn e f),a.free n,a.free l,a.free k)
structure Own (P)(w)(K)(mg)(base)(C)(fI fA fQ fS)(dI dA' dQ dS):Prop where
 I:Vn 1 fI dI ["self"] (sP C)
 bI:JjJ dI
 mI:Mk K C fI
 gI:mg "Problem"=Ja C
 A:Vn 4 fA dA' JlK (nF K C)
 bA:Yj dA' JlK
 mA:XY "add_term" fA
 Q:X4 4 fQ dQ "name" (lF K C)
 bQ:VA dQ "name"
 mQ:XY "add_plain" fQ
 S:Jie 4 fS dS (pB K C)
 bS:JaJ dS
 mS:XY "add_same" fS
def bu.lenA (S:Jjj T):∃dx xs,Jc0 p (ff tl al rl)/\VT al/\Xp As.length:=by let((dx,c),_,(xs,b,a)):=S;exact(dx,xs,c,b,by rw[<-a.length,lM])
def pD (a c b):(ff a c b).lookup ("add_term":Str)=none:=NQ _ _ _
def pE (a c b):(ff a c b).lookup ("add_plain":Str)=none:=NQ _ _ _
def pF (a c b):(ff a c b).lookup ("add_same":Str)=none:=NQ _ _ _
def lG (a c b):(ff a c b).lookup ("add_row":Str)=none:=NQ _ _ _
noncomputable def tG (T:List Tm)(a:Int):Tm:=T.getD a.toNat ("",[],)
noncomputable def smF (As:List At)(k:Int):Option (WC Int):=if 1<=k/\k<=(As.length:Int) then(match As.getD (k-1).toNat (.plain "") with | .same a b=>some (a,b,) | .plain _=>none) else none
def jS (f:GV Int)(T:List Tm)(a b:Int):Bool:=decide ((tG T a).1=(tG T b).1)&&(decide ((tG T a).2.length=(tG T b).2.length)&&((tG T a).2.zip (tG T b).2).all λc=>decide (f c.1=f c.2))
def cm (f:GV Int)(As:List At)(p:Int):Bool:=match MF p with|some q=>decide (f q.1=f q.2)|none=>false
noncomputable def rtm (f:GV Int)(a b:Int):GV Int:=λt=>if f t=f a then f b else f t
def InR (n:Nat)(x:Int):Prop:=0<=x/\x<(n:Int)
structure Dom (T:List Tm)(As:List At):Prop where
 tm:∀t∈T,∀q∈t.2,Wi q
 am:∀x y,At.same x y∈As->Wi x/\Wi y
def LkIn (n m:Nat)(l:Lk):Prop:=JiO l.1/\JiO l.2.1/\0<=l.2.2/\l.2.2<=(m:Int)
def lH (h:Wi a):T[a.toNat]?=some (tG T a)/\tG T a∈T:=by
 let(h0,b):=h;let e:T[a.toNat]?=some (tG T a):=by unfold tG;rw[List.getD_eq_getElem?_getD,gG (by simp_all)];rfl
 exact(e,mO e)
def yJ (h0:1<=k)(c:k<=(As.length:Int)):∃a,As[(k-1).toNat]?=some a/\a∈As/\MF k=(match a with | .same x y=>some (x,y,) | .plain _=>none):=by
 let b:(k-1).toNat<As.length:=Jn
 apply Jhm (As[(k-1).toNat]) (gG b) (List.getElem_mem b);unfold smF;rw[if_pos (h0,c),List.getD_eq_getElem?_getD,gG b];rfl
set_option tactic.hygienic true in
def pG (D:JkS T){k:Int}{x y:Int}(h:NT k (x,y,)):Wi x/\InR T.length y:=by
 unfold smF at h;split at h
 .rename_i e;let d:(k-1).toNat<As.length:=Jn
  rw[List.getD_eq_getElem?_getD,gG d]at h;let c:=List.getElem_mem d;change _=some _ at h
  generalize As[(k-1).toNat]=a at h c;cases a with
  |plain z=>cases h
  |same u v=>
   cases h;exact D.am _ _ c
 .cases h
def ir (n:Nat)(f g:GV Int):Prop:=∀t u,JiO t->JiO u->(f t=f u↔g t=g u)
def ir.dec (h:ir n f g){t u:Int}(b:JiO t)(a:JiO u):decide (f t=f u)=decide (g t=g u):=decide_eq_decide.mpr (h t u b a)
def El {d c:Type}{xs:List d}{ys:List c}{p:d×c}(h:p∈xs.zip ys):p.1∈xs/\p.2∈ys:=List.of_mem_zip h
def Em {T:List Tm}{As:List At}(D:JkS T){f g:Int->Int}(h:ir T.length f g){a b:Int}(n:Wi a)(l:Wi b):jS f T a b=jS g T a b:=by
 unfold jS;congr 2;let d:∀(zs:Mm Int),(∀p∈zs,Wi p.1/\Wi p.2)->(zs.all λc=>decide (f c.1=f c.2))=zs.all λc=>decide (g c.1=g c.2):=λzs=>by
  induction zs with
  |nil=>intro _;rfl
  |cons z zs k=>
   intro hz;rw[List.all_cons,List.all_cons,k λp e=>hz p (Jb e),h.dec (hz z (by simp)).1 (hz z (by simp)).2]
 apply d _ λp e=>?_;let(j,i):=El e;exact(D.tm _ (lH n).2 _ j,D.tm _ (lH l).2 _ i)
def En:rtm f a b t=rtm f a b u↔f t=f u\/(f t=f a/\f u=f b)\/(f t=f b/\f u=f a):=by
 unfold rtm;lia
def Eo (h:ir n f g){a b:Int}(i:JiO a)(e:JiO b):ir n (mrg f a b) (rtm g a b):=λt u d c=>by rw[oE,En,h t u d c,h t a d i,h u b c e,h t b d e,h u a c i]
def nH {H:Hp}{T:List Tm}{xs:List V}{i:Nat}{x:V}(h:Jf0 dT)(e:xs[i]?=some x):∃t q r,T[i]?=some t/\GN q/\Jp7 q t.1 r/\SqT K H r (t.2.map V.int):=by
 let(d,a,c):=h.get e;rw[List.getElem?_map]at a;cases q:T[i]? with
 |none=>erw[q]at a
 |some t=>
  erw[q]at a;simp only[dT,Has,ar]at c;let(p,ys,rfl,f,j,l,rfl,rfl,g,k,rfl,(r,zs,rfl,b,hz),rfl):=c;rw[iF hz]at b;exact W8 t p r rfl f b
def sR {H:Hp}{As:List At}{xs:List V}{i:Nat}{x:V}(h:Wy (As.map dA))(e:xs[i]?=some x):∃a,As[i]?=some a/\Has K H (dA a) x:=by
 let(d,b,c):=h.get e;rw[List.getElem?_map]at b;cases q:As[i]? with
 |none=>erw[q]at b
 |some t=>
  erw[q]at b;exact Nd t c
def yK (h:JlT (dA (.plain z)) x):∃q,GN q/\SqT K H q (Jp6 (.str z)):=by unfold dA at h;simp only[Has,ar]at h;let(a,xs,rfl,hs,v,r,rfl,rfl,b,c,rfl,rfl,rfl):=h;exact Nd a hs
def yL (h:JlT (dA (.same a b)) x):∃q,GN q/\SqT K H q (Jdd a b):=by unfold dA at h;simp only[Has,ar]at h;let(q,xs,rfl,hs,v,r,rfl,rfl,d,f,rfl,rfl,c,e,rfl,rfl,rfl):=h;exact Nd q hs
def jj (h0:0<=i)(b:i<(xs.length:Int)):∃x,xs[i.toNat]?=some x/\Jm3 i=some x:=by
 let a:Ja0 i.toNat:=by simp_all
 let e:i=(i.toNat:Int):=Jn
 let q:=ay (gG a);rw[<-e]at q;exact Q5 (gG a) q
def SmQ (K:W.Frag)(As:List At)(k:Int)(H:Hp)(Q:VK):Prop:=(Mf (MF k)->∀H',JoY H')/\∀x y,NT k (x,y,)->∀H' a,JmG (Yf H' a (Xw x y)) a
inductive jk (K)(C):Sp|m{vs H Q E9} (p tl al rl) (T) (As) (Rs) (k):vs=UJ p k->Jjj T->SmQ K As k H Q->jk K C vs H Q E9
def yM:JjH (UF "number" "atom") "number" oU:=fsc
def Ep (F:Jr_ "sameness" oU)(T:NN C):JjL (Xj "number") (jk K C):=by
 apply Jq_ yM O
 let(p,D,n,G,M,As,Rs,k,rfl,S,g,q1):=h;let((dx,o),_,(ys,r,t),_):=id S;let N:JbE As.length:=by rw[<-t.length,lM]
 apply Ym (NX (be (JR (Gx iA WA) (IX da 1 JeJ)) (Nc eC)
   aU) (Jsz 2 yM.nd (aI aM Wa (Wz gC 1))) (iT Jl5 (iY lZ UA (iX af) iW) eC))
 rfl'
 apply Jo5 _ rfl _ _ _ (bo (λc=>aD ?_) (λc=>(7,p,C,dx,_,2,o,Yt,T.nA,eV _ _ _,n,ys,rfl,Yc r,3,2,bo (λl=>?_) (λl=>?_))))
 .let L:k<1:=oDq c;exact g (by unfold smF;rw[if_neg (by lia)]) H (ap.refl H)
 .let L:((ys.length:Nat):Int)<k:=oDq l;exact g (by unfold smF;rw[if_neg (by lia)]) H (ap.refl H)
 .let W:¬k<1:=λz=>JaN z;let U:¬((ys.length:Nat):Int)<k:=λz=>l Jrb;let(a,J,R,u):=yJ (As:=As) (k:=k) Jn (by simp_all);let(x,B,v):=JsM ys (k-1) Jn Jn;let(X,ea,d):=sR t B;erw[J]at ea;apply(2,p,C,dx,_,2,o,Yt,T.nA,eV _ _ _,2,3,n,4,SqL.of r,v,?_);cases a with
  |plain z=>
   let(q,rfl,e):=yK d;apply JeK _ q _ _ _ e (Jsv 0) _ JbK
   .exact NZ (oDq c)
   .exact g u H (ap.refl H)
  |same x y=>
   let(q,rfl,e):=yL d;apply JeK _ q _ _ _ e (Jsv 0) _ JbK
   .apply JnQ _ _ rfl q _ e (by show ¬(1=0/\_);lia) (λb I=>?_);exact q1 x y u _ b (Nn I) WV
   .exact Jla rfl
def SeqJ (J:It)(ps:List Int)(H:Hp):Prop:=∃b:Hp->Prop,Wk J JrY b/\(∀H',QF (b H'))/\∀i H' x a,Xd H->Jlh a->a=H'/\∃k,ps[i]?=some k/\JdP x k
def Er (b:Jha H a):SeqJ (Itl K a) ps H:=by
 apply Jhm (λH'=>Qj H' a _) ?_ (λH' s=>s.seq b)
 .have:=dv (K:=K) (a:=a) (xs:=ps.map VG);rw[lM]at this;exact this
 .rintro i H' x d s ⟨rfl,c⟩;exact WO (ck (c _ (s.seq b)))
def Es (b:WI a):SeqJ (Itt K a) ps H:=by
 apply Jhm (λH'=>Yf H' a _) ?_ (λH' s=>s.tup b)
 .have:=cS (K:=K) (a:=a) (xs:=ps.map VG);rw[lM]at this;exact this
 .rintro i H' x d s ⟨rfl,c⟩;exact WO (ck (c _ (s.tup b)))
def iSeqI (K:W.Frag)(d:TE):L2.TI:=λc H R=>d c H λx b=>∃a ps,GN a/\SqI K b a ps/\∀J,SeqJ J ps b->R J b
def yN (y:Yp l tl):PI X tg l (iSeqI X.K tl):=by
 intro d s r H R I h;apply thn (y d s r H _ I h) λv c h_=>?_;let(x,k,i,u,q1):=h_;let(a,ps,rfl,g,q):=q1;cases u;let n:∀b∈[WX],df X d k b:=λb z=>by
  let e:b=c.heap.objs.size:=by simpa using z
  subst e;exact i.fpOk Yd (i.hok.fresh Yd)
 rcases g with g|g
 .let(j,t,p,hz):=i.list g;apply IZ Jci;exact JO WX [WX] _ _ k (i.kept (t':=c.toks) λb o e=>UD e) (vq a _) Jgd n (q _ (Er g))
 .let(j,t,p,hz):=i.tuple g;apply wpAny_pyIter_tuple (show c.heap.IsTuple a j.toArray from p) ?_;exact JO WX [WX] _ _ k (i.kept (t':=c.toks) λb o e=>UD e) (vr a _) Jgd n (q _ (Es g))
noncomputable def rf (rs:List Int)(t:Int):Int:=rs.getD t.toNat 0
def gA {rs:List Int}{t:Int}(h:Jfr t):atI (rs.map V.int) t=some (.int (rf rs t)):=by
 let(h0,a):=h;let e:t=(t.toNat:Int):=Jn
 have:rs[t.toNat]?=some (rf rs t):=by unfold rf;rw[List.getD_eq_getElem?_getD,gG ((Int.toNat_lt ‹_›).mpr ‹_›)];rfl
 let q:=qP this;rw[<-e]at q;exact q
def jT (rs:List Int)(a b:Int):List Int:=rs.map λh=>if h=rf rs a then rf rs b else h
def Et (rs)(a b):(jT rs a b).length=rs.length:=by unfold jT;rw[lM]
def yO (h:Jfr t):rf (jT rs a b) t=rtm (rf rs) a b t:=by
 let(h0,c):=h;have:rs[t.toNat]?=some (rf rs t):=by unfold rf;rw[List.getD_eq_getElem?_getD,gG (by lia)];rfl
 show(jT rs a b).getD t.toNat 0=_;unfold jT;rw[List.getD_eq_getElem?_getD,List.getElem?_map,this];rfl
inductive sS (K):Sp|m{vs H Q E9} (r) (rs) (a b):vs=JbI r a b->JnS (Qj H r (rs.map V.int)) (Jfr a) (Jfr b) rs.length ((∀H' l,JlW l (Il l ((jT rs a b).map V.int)) l)->sS K vs H Q E9)
def Eu:Jsw JdH pe:=fsc
def Ew (F:Jr_ "_law_merged" pe):JjL JdH (sS K):=by
 apply Jq_ Eu J
 let(r,rs,a,b,rfl,o,I,G,d,q):=h;apply Ym (Nc (JsA (Jkc "_law_head" "_law_other" "_law_one") [0,2,1] (λy=>JsN (ai pe) y) (λj i h=>match j,h with|0,h=>by cases h;exact JM _|1,h=>by cases h;exact JM _|2,h=>by cases h;exact JM _|n+3,h=>by simp at h) (Jes 0) (λm m m m=>(iT (IX bD 0 (UO (r:=hI K) aM 1 MJ)) (UO (r:=hI K) aM 1 UA) IN))))
 rfl'
 apply JK _ r o (λD p=>Jg8 dv (λi us H'=>Xd H/\us=(((rs.take i).map λh=>if h=rf rs a then rf rs b else h)).map VG) (λi us H' h_=>by let(g,_):=h_;exact g.seq o) p)
 .rintro i us L z x v l e ⟨g,rfl⟩ ⟨rfl,B⟩;let(k,u,rfl):=ck (B _ (g.seq o));apply(2,7,r,4,g.seq o,gA I,rfl,2,Mg XN)
  .let t:k=rf rs a:=by have:=oDq c;injection this
   apply JeM _ _ rfl r _ _ _ (g.seq o) (gA G) (XS _ (lM<|>d) v l e (g.upd p));rw[a_ u,mAq,mAq];simp only[List.map_cons,List.map_nil,if_pos t]
  .let t:¬k=rf rs a:=λz=>c (z<|>dTq rfl);apply QD (XS _ (lM<|>d) v l e (g.upd p));rw[a_ u,mAq,mAq];simp only[List.map_cons,List.map_nil,if_neg t]
 rintro us x e ⟨g,rfl⟩;rw[lM,NF _]at e;exact q x D g p e
def Ex (xs ys:List Int):eQ (xs.map Ie) (ys.map Ie)=decide (xs=ys):=by
 by_cases h:xs=ys
 .subst h;rwa[dTq rfl]at oo _
 .rw[dFq h,Bool.eq_false_iff];intro z;have:=oq _ _ (pj xs) (pj ys) z;exact h (List.map_inj_right (λa b e=>by injection e) |>.mp this)
theorem pH (g:GV Int):∀(xs ys:List Int),Xp JcW->decide (xs.map g=ys.map g)=(xs.zip ys).all λa=>decide (g a.1=g a.2)
 |[],[],_=>rfl
 |[],_::_,h=>by cases h
 |_::_,[],h=>by cases h
 | x :: xs,y :: ys,h=>by
  let b:=pH g xs ys (by simpa using h);rw[List.zip_cons_cons,List.all_cons,<-b];by_cases c:g x=g y
  .by_cases d:xs.map g=ys.map g
   .simp [c,d]
   .simp [c,d]
  .simp [c]
inductive sT (K):Sp|m{vs H Q E9} (tl r) (xs) (T) (rs) (a b):Je4 (vs=[.ref tl,.ref r,.int a,.int b]) tl (Jf0 dT->(∀t∈T,∀q∈t.2,Wi q)->(∀t∈T,Jr t.2.length)->Qj H r (rs.map V.int)->Jnl T.length->Wi a->Wi b->(∀H',QF (Ji (jS (rf rs) T a b) H'))->sT K vs H Q E9)
def sU:Je ["_law_terms","_law_roots","_law_one","_law_other","_law_first","_law_second"] JjA nD:=fsc
def Ey (F:Jr_ "_law_alike" nD)(T:NN C):JjL JjA (sT K):=by
 apply XF sU
 let(O,r,xs,N,rs,a,b,rfl,ht,hT,dm,g,hR,rl,S,R,q):=h;let hu:=gi hr;let xl:Xp N.length:=by rw[<-hT.length,lM]
 apply Ym (XT (i:=4) sU.nd (JnU 0 2) (NY (i:=5) sU.nd (JnU 0 3) (be (JR (J9 eE 4 Jrs) (aA eE (Ix (VX 4)) (Ix (VX 5)))) Jre
   aU) (Jgf hu (JsA ["_law_part","_law_roots"] [1] (λX=>JsN (ai nD) X) Xe (cU (Qg 4)) (λm m m m=>(UO (r:=hI K) aM 1 IN))) (JsA ["_law_part","_law_roots"] [1] (λX=>JsN (ai nD) X) Xe (cU Jrs) (λm m m m=>(UO (r:=hI K) aM 1 IN))))))
 rfl'
 let(x,x1,x2):=jj S.1 (xl<|>S.2);let(y,y1,y2):=jj R.1 (xl<|>R.2);let(t,W,ra,ta,rfl,ha,o):=nH hT x1;let(u,U,rb,ua,rfl,hb,l):=nH hT y1;let et:tG N a=t:=by have:=(lH S).1;erw[ta]at this;rfl
 let eu:tG N b=u:=by have:=(lH R).1;erw[ua]at this;rfl
 let tm:=mO ta;let um:=mO ua;unfold jS at q;rw[et,eu]at q;apply JeM _ _ rfl O _ _ _ ht x2 ?_;apply JeM _ _ rfl O _ _ _ ht y2 ?_;let a0:∀z r,JmR z r=some (.str z):=λz r=>ay rfl;let M:∀z r,JjV z r=some (.ref r):=λz r=>ay rfl;apply(2,W,4,ha,a0 _ _,2,U,4,hb,a0 _ _,rfl,2,bo (λc=>aD ?_) (λc=>(2,W,4,ha,M _ _,ra,2,.inr o,2,U,4,hb,M _ _,rb,2,.inr l,rfl,2,bo (λc2=>?_) (λc2=>?_))))
 .have:=Jkb H H;rw[dFq (λz:t.1=u.1=>by rw[z]at c;simp at c)]at this;exact this
 .have:=Jkb H H;rw[dFq (p:=t.2.length=u.2.length) (λz=>by simp [z]at c2)]at this;rw[Bool.false_and,Bool.and_false]at this;exact this
 let n1:t.1=u.1:=Jn
 let n2:t.2.length=u.2.length:=by apply Classical.byContradiction ?_;intro z;exact c2 Vl
 rw[dTq n1,dTq n2,Bool.true_and,Bool.true_and,<-pH (rf rs) _ _ n2]at q;apply JeI _ W _ _ _ ha (M _ _) ra rfl (Mr o) (λD hD=>Jn_ (λi us H'=>Xd H/\us=((t.2.take i).map (rf rs)).map VG) (λi us H' h_=>by let(e,_):=h_;exact e.tup o) hD)
 .rintro i us H8 z H4 Z I v ⟨e,rfl⟩ ⟨rfl,Y⟩;let(k,J,rfl):=ck (Y _ (e.tup o));let G:=dm t tm k (mO J);apply JeM _ _ rfl r _ _ _ (e.seq hR) (gA (rl<|>G)) (XS _ (lM<|>g t tm) Z I v (e.upd hD));rw[a_ J,mAq,mAq];rfl
 rintro us H4 v ⟨e,rfl⟩;rw[lM,NF _]at v;apply JeI _ U _ _ _ (e.tup hb) (M _ _) rb rfl (Mr (e.tup l)) (λD2 L=>Jn_ (λi us H'=>Xd H4/\us=((u.2.take i).map (rf rs)).map VG) (λi us H' h_=>by let(B,_):=h_;exact B.tup (e.tup l)) L)
 .rintro i us H8 z H5 Z I d ⟨B,rfl⟩ ⟨rfl,Y⟩;let(k,J,rfl):=ck (Y _ (B.tup (e.tup l)));let G:=dm u um k (mO J);apply JeM _ _ rfl r _ _ _ (B.seq (e.seq hR)) (gA (rl<|>G)) (XS _ (lM<|>g u um) Z I d (B.upd L));rw[a_ J,mAq,mAq];rfl
 rintro us H5 d ⟨B,rfl⟩;rw[lM,NF _]at d;apply(5,Jd5 (B _ _ v) _,Jd5 d _,(by simp only[dep,iO];decide),?_);show Ji (eQ ((t.2.map (rf rs)).map Ie) ((u.2.map (rf rs)).map Ie)) H5;rwa[Ex]at q H5 (e.trans B)
def l0 (a:Lk):J7 (JgL a.1 a.2.1 a.2.2)=some (.int a.1):=ay rfl
def l1 (a:Lk):Jcn (JgL a.1 a.2.1 a.2.2)=some (.int a.2.1):=ay rfl
def l2 (a:Lk):atI (JgL a.1 a.2.1 a.2.2) 2=some (.int a.2.2):=ay rfl
structure PrD (K)(C)(H)(p tl al rl)(T)(As)(Rs):Prop where
 pr:Jjj T
 dm:JkS T
 t3:∀t∈T,t.2.length<=3
 tN:NJ T.length
def PrD.same (h:Jk_ H)(s:Xd H):Jk_ H':=(h.pr.same s,h.dm,h.t3,h.tN)
def PIn (m:Nat)(p:Int):Prop:=p≠0/\-(m:Int)<=p/\p<=(m:Int)
noncomputable def ze8 (n:Nat):List Int:=(List.range n).map λi:Nat=>(i:Int)
def yQ (h:JiO t):rf (ze8 n) t=t:=by let(h0,a):=h;unfold rf ze8;rw[List.getD_eq_getElem?_getD,List.getElem?_map,List.getElem?_range (by simp_all)];show(t.toNat:Int)=t;exact Int.toNat_of_nonneg h0
def yR (n):(ze8 n).length=n:=by simp [ze8]
def Ez {H:Hp}{As:List At}{ys:List V}{k:Int}(d:Vt (As.map dA) ys)(h:Jfs k):∃x a,MY ys ((if k<0 then -k else k)-1) x/\a∈As/\JlT (dA a) x/\As[((k.natAbs:Int)-1).toNat]?=some a:=by
 let(o,n,l):=h;let j:JbE As.length:=by rw[<-d.length,lM]
 let b:(if k<0 then -k else k)=(k.natAbs:Int):=by split<;>lia
 let(x,g,e):=JsM ys (((k.natAbs:Nat):Int)-1) Jn Jn;let(a,ea,c):=sR d g;exact(x,a,by rwa[b]at e,mO ea,c,ea)
def InR.mono (h:JiO x)(l:n<=m):InR m x:=(h.1,by have:=h.2;exact Int.lt_of_lt_of_le this (Int.ofNat_le.mpr l))
def Dom.snocT (D:JkS T){z:Str}{ps:List Int}(h:∀i∈ps,Wi i):JkS (T++[(z,ps,)]):=by
 let l:T.length<=(T++[(z,ps,)]).length:=by rw[lAq];lia
 apply(λt c q a=>?_,λx y b=>((D.am x y b).1.mono l,(D.am x y b).2.mono l));rcases mPq c with h'|h'
 .exact(D.tm t h' q a).mono l
 .rw[mSq h']at a;exact(h q a).mono l
def Dom.snocA (D:JkS T){a:At}(h:∀x y,a=.same x y->Wi x/\Wi y):Dom T (As++[a]):=by
 apply(D.tm,λx y b=>?_);rcases mPq b with h'|h'
 .exact D.am x y h'
 .exact h x y (mSq h').symm
def dom0:Dom [] []:=(λx h=>(nomatch h),λx x h=>(nomatch h))
def pI (S:Jk_ H)(l:WI q)(hz:JfZ z)(b:Jr z.length)(e:Jco 3)(c:∀i∈ps,Wi i)(n:T.length<60)
  (out:∀H' a k,Jk9 H' (T++a)->Jl7 tl->Jps 1->k<(T++a).length->((z,ps,)∉T->a=[(z,ps,)])->Jgi (k:Nat)):nF K C (JmH p (.str z) q) H Q E:=by
 apply(p,tl,al,rl,q,T,As,Rs,z,ps,rfl,S.pr,l,b,hz,e,c,n,λH' a k g f m kl=>?_);let d:JkS (T++a)/\∀t∈T++a,t.2.length<=3:=by
  rcases m with ⟨rfl,_⟩|rfl
  .rwa[List.append_nil]at(S.dm,S.t3)
  .exact(S.dm.snocT c,λt j=>(mPq j).elim (S.t3 t) λh'=>by rwa[mSq h']at e)
 let ml:Jps 1:=by rcases m with ⟨rfl,_⟩|rfl<;>simp
 exact out H' a k (g,d.1,d.2,by rw[lAq];lia) f ml kl λh=>m.resolve_left λz=>h z.2
def PrD.more {H H':Hp}{p b e c:Addr}{T:List Tm}{As a:List At}{Rs:List Yk}{t:At}(S:Vq K C H p b e c T Rs)(d:JeZ K C H' p b e c T (As++a))(h:∀x y,t=.same x y->Wi x/\Wi y)(m:a=[]/\Jmv 1\/a=[t]):PrD K C H' p b e c T (As++a) Rs/\Jps 1/\1<=(As++a).length:=by
 rcases m with ⟨rfl,f⟩|rfl
 .rw[List.append_nil]at d⊢;exact((d,S.dm,S.t3,S.tN),Nat.zero_le _,f)
 .exact((d,S.dm.snocA h,S.t3,S.tN),nRq _,by rwa[lAq]at Nat.le_add_left _ _)
def pJ {H:Hp}{p i g e:Addr}{T:List Tm}{As:List At}{Rs:List Yk}{z:Str}{Q:VK}{E:XK}(S:Vq K C H p i g e T Rs)(hz:JfZ z)(d:Jr ML)(l:Jez 40)
  (out:∀H' c k,PrD K C H' p i g e T (As++c) Rs->Jip g e->c.length<=1->1<=(As++c).length->Jgi (k:Nat)):lF K C (JpI p z) H Q E :=
 (p,i,g,e,T,As,Rs,z,rfl,S.pr,d,hz,l,λH' c k j f m=>let h:=S.more (t:=.plain z) j (λx y h=>nomatch h) (m.imp (λh_=>by let(a,b):=h_;exact (a,List.length_pos_of_mem b)) id);out H' c k h.1 f h.2.1 h.2.2)
def EA (S:Jk_ H)(hz:JfZ z)(a:Jr z.length)(e:Jez 40)(d:At.plain z∉As)
  (out:∀H' k,PrD K C H' p tl al rl T (As++[.plain z]) Rs->Jod rl->Jgi (k:Nat)):lF K C (JpI p z) H Q E :=
 (p,tl,al,rl,T,As,Rs,z,rfl,S.pr,a,hz,e,λH' b k c f m=>by
  rcases m with ⟨_,m⟩|rfl
  .exact absurd m d
  .exact out H' k (S.more (t:=.plain z) c (λx y h=>nomatch h) (.inr rfl)).1 f)
def pK {H:Hp}{p g e d:Addr}{T:List Tm}{As:List At}{Rs:List Yk}{a b:Int}{Q:VK}{E:XK}(S:Vq K C H p g e d T Rs)(j:Wi a)(i:Wi b)(n:Jez 40)
  (out:∀H' c k,PrD K C H' p g e d T (As++c) Rs->Jip e d->c.length<=1->1<=(As++c).length->Jgi (k:Nat)):pB K C (JbI p a b) H Q E :=
 (p,g,e,d,T,As,Rs,a,b,rfl,S.pr,j,i,n,λH' c k l f m=>let h:=S.more l (λx y h=>by cases h;exact(j,i)) m;out H' c k h.1 f h.2.1 h.2.2)
def Fr1.after (f:Jey H1 z)(s:M9 H1):Jl7 z:=λb o e n=>f b o (s b o e) n
def Fr1.fresh (f:Jey H1 z)(s:M9 H1)(h:Nf z):Xd H:=λb o e=>f b o (s b o e) (cn e h)
def Fr2.fresh (f:JbV H1 z y)(s:M9 H1)(h:Nf z)(h':Nf y):Xd H:=λb o e=>f b o (s b o e) (cn e h) (cn e h')
def sV (k:Nf x)(d:Nf dx)(c:dx≠x)(p:(Jle x) tl=none)(n:(Jle x) al=none)
  (l:(Jle x) rl=none)(i:al≠tl)(g:rl≠tl)(f:rl≠al)(k1:Jkj x (Y_ (ff tl al rl)))(k2:Jnu tl [])(k3:Jnu al [])(j:Jnu rl [])
  (k5:∀b o,(Jle x) b=some o->b≠x->Jkj b o):PrD K C H1 x tl al rl [] [] []/\M9 H1/\Nf tl/\Nf al/\Nf rl:=by let(a,e,q,s,r):=made k d c p n l i g f k1 k2 k3 j k5;exact((a,dom0,λy h=>(nomatch h),by decide),e,q,s,r)
inductive lI (K):Sp|m{vs H Q E9} (a) (ns:List Int) (k):JfO (vs=UJ a k) (JnX H) (VO (0<=k) k ((∀i:Int,Mn i H)->lI K vs H Q E9))
def jm (ns:List Int)(k:Int):Int:=if(((ns.map VG).length:Nat):Int)=0 then k else rf ns (k%(((ns.map VG).length:Nat):Int))+3*(k/(((ns.map VG).length:Nat):Int))
inductive iP (K):Sp|m{vs H Q E9} (a) (ns) (k):JfO (vs=UJ a k) (JnX H) (VO (0<=k) k (Mn (jm ns k) H->iP K vs H Q E9))
abbrev yS:Stmt:=yA
def EB:Jsw JbB yS:=fsc
def EC (F:Jr_ "_law_cell_at" yS)(T:NN C):JjL JbB (iP K):=by
 apply Jq_ EB j
 let(a,ns,k,rfl,b,e,k0,k1,q):=h;apply Ym (QZ (be (Q4 (ME 0)) (Nc WA)
   aU) (JoA (J8 0 (Nh bz 1 (ME 0))) (aX iU af (Nh cx 1 (ME 0)))))
 rfl'
 apply Jop _ a _ (.inl b) _ (Jnj (λc=>Ym rfl))
 .let c:=oDq c;injection c with c;unfold jm at q;rw[if_pos c]at q;exact q
 let d:0<(((ns.map VG).length:Nat):Int):=by have:¬(((ns.map VG).length:Nat):Int)=0:=λz=>c (z<|>dTq rfl);lia
 unfold jm at q;rw[if_neg (Int.ne_of_gt d)]at q;let m:=cw k d;let g:JfA (((ns.map VG).length:Nat):Int):=by rw[lM];lia -ac
 let i:InR ns.length (k%(((ns.map VG).length:Nat):Int)):=by rw[lM]at m⊢;exact m
 apply(2,7,a,2,.inl b,3,d,a,4,b,gA i,7,a,2,.inl b,3,(d,g),3,Jh9 Jp,3,q)
def ED (F:JjL JbB (iP K)):JjL JbB (lI K) :=
 F.imp λvs H Q E h_=>by let(a,ns,k,h,g,e,d,c,b):=h_;exact(a,ns,k,h,g,e,d,c,b _)
def nI (z:Str):Prop:=JfZ z/\Jr ML
def nm4 (r:Int):Str:=if r=0 then "a" else if r=1 then "b" else if r=2 then "abc" else "abd"
def yT (h0:0<=i)(a:i<4):MY [V.str "a",V.str "b",V.str "abc",V.str "abd"] i (.str (nm4 i))/\nI (nm4 i):=by
 have:i=0\/i=1\/i=2\/i=3:=Jn
 rcases this with rfl|rfl|rfl|rfl<;>exact(rfl,by decide +kernel,by decide +kernel)
def EE (h0:0<=i)(g:i<4)(d:0<=j)(c:j<4)(e:nm4 i=nm4 j):i=j:=by
 let b:i=0\/i=1\/i=2\/i=3:=Jn
 let a:j=0\/j=1\/j=2\/j=3:=Jn
 rcases b with rfl|rfl|rfl|rfl<;>rcases a with rfl|rfl|rfl|rfl<;>first|rfl|exact NZ e
def ff_at (h0:0<=i)(a:i<4):∃z,MY [V.str "f",V.str "f",V.str "ffa",V.str "ffb"] i (.str z)/\nI z:=by
 have:i=0\/i=1\/i=2\/i=3:=Jn
 rcases this with rfl|rfl|rfl|rfl<;>exact JdM _
def f2_at (h0:0<=i)(a:i<2):∃z,MY (JgM "f" (V.str "ffa")) i (.str z)/\nI z:=by
 have:i=0\/i=1:=Jn
 rcases this with rfl|rfl<;>exact JdM _
def pq_at (h0:0<=i)(a:i<3):∃z,MY [V.str "p",V.str "q",V.str "a"] i (.str z)/\nI z:=by
 have:i=0\/i=1\/i=2:=Jn
 rcases this with rfl|rfl|rfl<;>exact JdM _
def EF (h0:0<=i)(a:i<5):∃n:Int,MY [V.int 1,V.int 1,V.int 1,V.int 2,V.int 3] i (.int n)/\(n=1\/n=2\/n=3):=by
 have:i=0\/i=1\/i=2\/i=3\/i=4:=Jn
 rcases this with rfl|rfl|rfl|rfl|rfl<;>exact QD Jp
inductive sW (K)(C):Sp|m{vs H Q E9} (p tl al rl) (T) (As) (Rs) (c):Jol (vs=UJ p c) H (T.length<60->(∀H' more k,Jk9 H' (T++more)->Jl7 tl->more.length<=1->1<=(T++more).length->Jgi (k:Nat))->sW K C vs H Q E9)
def pL:Je (JoC "_law_cell" "_law_many" "_law_rest" "_law_parts") Gr sD:=fsc
def EG (F:Jr_ "_law_term_by" sD)(T:NN C)(G:Own P w K mg base C fI fA fQ fS dI dA' dQ dS):JA 5 Gr (sW K C):=by
 apply XF pL
 let(p,tl,al,rl,j,As,Rs,c,rfl,S,I,q):=h;apply Ym (XT (i:=2) pL.nd JeJ (Qb (be (JR (Gx iA UA) (Jgn 1)) (Nc (JH 0 G.mA G.A hr G.bA (Qh (Jg_ (aa ba Jim) 1) (cb ac))))
   aU) (Jsz 3 pL.nd (Jb2 1)) (XT (i:=4) pL.nd (cb (X8 (JjG bz 3 2) (JbH bz (JjG cx 3 2) 2) (JbH bz (JbH cx (JjG cx 3 2) 2) 2))) (Nc (JH 0 G.mA G.A hr G.bA (Qh (Jg_ (aa ba Jim) 1) (iY xf JeA iW (iX (Jg_ JrF 1)))))))))
 rfl'
 let((dx,ho),(ts,ht,hT),_):=id S.pr;let D:Jnr j.length:=by rw[<-hT.length,lM]
 let U:=cw (c/5) (show Ge 4 by decide);let b5:=cw (c/20) (show Ge 5 by decide);apply(2,p,C,dx,_,2,ho,Yt,T.nT,eU _ _ _,tl,2,Yc ht,?_);apply Jo5 _ rfl _ _ _ (bo (λc1=>aD ?_) (λc1=>JnL _ _ _ rfl (by show Ge 5;decide) rfl _ (bo (λc2=>?_) (λc2=>?_))))
 rotate_left 2
 .let g:0<(ts.length:Int):=Jn
  let x:JfA (ts.length:Int):=by lia -ac
  let t:=cw (c/100) g;let R:=cw (c/100/Xk) g;let m3:=cw (c/100/(ts.length:Int)/Xk) g;rw[D]at t R m3;let(z,hz,g1,g2):=ff_at U.1 U.2;let(n,hn,n3):=EF b5.1 b5.2;apply Jov _ rfl _ _ rfl Jhj ?_;apply(7,3,g,7,3,(g,x),2,3,g,7,3,(g,x),2,3,(g,x),2,3,g,lS3,λb hb=>?_);rw[D];dsimp only;let u:=Ja_ hb (Gu (c/100%(j.length:Int)) (c/100/(j.length:Int)%(j.length:Int)) (c/100/(j.length:Int)/((j.length:Nat):Int)%((j.length:Nat):Int)));let v:=Jsu H b (JkZ (c/100%((j.length:Nat):Int)) (c/100/((j.length:Nat):Int)%((j.length:Nat):Int)) (c/100/((j.length:Nat):Int)/((j.length:Nat):Int)%((j.length:Nat):Int)));generalize c/100%((j.length:Nat):Int)=N at t u v⊢;generalize c/100/((j.length:Nat):Int)%((j.length:Nat):Int)=X at R u v⊢;generalize c/100/((j.length:Nat):Int)/((j.length:Nat):Int)%((j.length:Nat):Int)=x3 at m3 u v⊢;generalize Gb H b (Gu N X x3)=H1 at u v⊢;apply JX _ p dx _ rfl (u _ _ ho) Jro lS4 VE;let(H2,M,J,n2):=IF hl [V.str "f",V.str "f",V.str "ffa",V.str "ffb"];rw[M];let O:=u.trans J;let k2:=J _ _ v;apply(2,3,Id Jp,3,(by show Ge 4;decide),l,4,SqL.of n2,hz,2,(by show Qd 5;decide),λe he=>?_);let(H3,M,J,n3'):=IF he [V.int 1,V.int 1,V.int 1,V.int 2,V.int 3];rw[M];let Y:=O.trans J;let k3:=J _ _ k2;apply(2,3,Id Jp,3,(by show Ge 5;decide),e,4,SqL.of n3',hn,2,?_);let B:∀(W:Hp) (d:Addr) (ps:List Int),M9 W->Yf W d UE->Jco 3->(∀i∈ps,InR j.length i)->nF K C (JmH p (.str z) d) W Q E0:=λW d ps s4 L l3 hps=>
   pI (S.same s4) L g1 g2 l3 hps I (λH' r k Z f t kl m=>q H' r k Z (f.after s4) t (Nat.one_le_of_lt kl))
  rcases n3 with rfl|rfl|rfl
  .exact .inl (VV b _ Jq1 (by show ¬(0=0/\(1:Nat)=3);lia -ac) (λd L=>B _ d [N] (Y.trans (Nn L)) WV (by show 1<=3;decide) (λi y=>by rwa[mSq y]at t)))
  .exact .inl (VV b _ Jq1 (by show ¬(0=0/\(2:Nat)=3);lia -ac) (λd L=>B _ d [N,X] (Y.trans (Nn L)) WV (by show 2<=3;decide) (λi y=>by
    simp only[List.mem_cons,List.not_mem_nil,or_false]at y;rcases y with rfl|rfl
    .exact t
    .exact R)))
  .exact .inr (VV b _ Jq1 (by show(0=0/\(3:Nat)=3);exact Wf rfl) (B _ b [N,X,x3] Y Jq1 (by show 3<=3;decide) (λi y=>by
    simp only[List.mem_cons,List.not_mem_nil,or_false]at y;rcases y with rfl|rfl|rfl
    .exact t
    .exact R
    .exact m3)))
 all_goals
  let(hz,g1,g2):=yT U.1 U.2;apply JX _ p dx _ rfl ho Jro lS4 VE;let(H1,M,u,v):=IF hl [V.str "a",V.str "b",V.str "abc",V.str "abd"];rw[M];apply(2,3,Id Jp,3,(by show Ge 4;decide),l,4,SqL.of v,hz,lS0,λe he=>?_);let O:=u.trans (Ja_ he []);exact pI (S.same O) WV g1 g2 (ps:=[]) (by show 0<=3;decide) (λm h=>nomatch h) I (λH' r k Z f t kl m=>q H' r k Z (f.after O) t (Nat.one_le_of_lt kl))
inductive sX (K)(C):Sp|m{vs H Q E9} (p tl al rl) (T) (As) (Rs) (a c):Jol (vs=JbI p a c) H (Wi a->(∀H' k,QF (Wi k->Jgi k))->sX K C vs H Q E9)
def sY:Je (JoC "_law_one" "_law_cell" "_law_many" "_law_kin") JjC pd:=fsc
def yU {H:Hp}{T:List Tm}{xs:List V}{a:Int}(b:Jf0 dT)(h:Wi a):∃q z r,Jm3 a=Ja q/\SqT K H q (JiI z r):=by
 let c:Xp T.length:=by rw[<-b.length,lM]
 let(x,e,d):=jj h.1 (c<|>h.2);let(t,j,g,n,rfl,l,k):=nH b e;exact(j,t.1,g,d,l)
def EH (F:Jr_ "_law_other_by" pd)(T:NN C)(o:Jg "range"):JjL JjC (sX K C):=by
 apply XF sY
 let(p,N,al,rl,R,As,Rs,a,c,rfl,S,z,q):=h;let hu:=gi hr;apply Ym (Nm (i:=3) sY.nd JeJ (wo (i:=4) (N':=["_law_k","_law_one","_law_problem"]) (ix:=[1,0]) sY.nd rfl (Or.inl rfl) rfl rfl Jv Jv rfl (λok=>JsD (ai pd)) Jv rfl rfl (λj i h=>match j,h with|0,h=>by cases h;exact JM _|1,h=>by cases h;exact JM _|n+2,h=>by simp at h) (Jn6 o 3) (λ_ _ _ _=>(JcX (aA bD (aI (r:=du K) aQ (aI (r:=hI K) aM (rQ K rfl UA rfl) IN) af) (aI (r:=du K) aQ (aI (r:=hI K) aM (rQ K rfl UA rfl) WA) af)) (IX eE 0 WA))) (λ_ _ _ _=>IN)) (QZ (be (JcX (Jgn 2) (JiM (qM hu) JeA (bK ac))) (Nc (J8 4 (aX bz (Jb2 2) (ME 4))))
   aU) (JbH bz (Nh cu 1 (Jb2 2)) 3)))
 rfl'
 let((dx,ho),(ts,Z,hT),_):=id S.pr;let U:Jnr R.length:=by rw[<-hT.length,lM]
 let tN:=S.tN;let b:0<(ts.length:Int):=by let h1:=z.1;let h2:=z.2;lia
 apply(2,p,C,dx,_,2,ho,Yt,T.nT,eU _ _ _,N,2,Yc Z,?_);apply Jje _ _ Jn (by lia -ac) (λD hD=>gH wC (λi us H'=>Xd H/\∃ks:List Int,us=ks.map VG/\(∀k∈ks,InR R.length k)) (λ_ _ _ _=>trivial) (Gz (Nn hD) [] (λ_ h=>nomatch h)) ?_ ?_)
 .rintro i us H8 x H2 O v d ⟨g,ks,rfl,B⟩ ⟨rfl,rfl⟩;rw[Int.toNat_natCast]at O;let G:InR R.length (0+(i:Int)):=W4 (by simp_all);let M:=hT.keep g.kt (jf _);let(q1,z1,r1,a1,a2):=yU M G;let(q2,z2,r2,a3,a4):=yU M z;let J:=g _ _ ho;let I:=SqL.of (K:=K) (g _ _ Z);apply(2,p,C,dx,_,2,J,Yt,T.nT,eU _ _ _,2,N,4,I,a1,q1,4,a2,Jsv 0,2,p,C,dx,_,2,J,Yt,T.nT,eU _ _ _,2,N,4,I,a3,q2,4,a4,Jsv 0,rfl,2,bo (λ_=>Jk6 _ rfl _ _ rfl (bo (λ_=>QD (MC _ (by rw[Int.toNat_natCast];lia) (Int.toNat_natCast<|>O) v d (g.upd hD,ks++[0+Qq],by rw[mAq];rfl,λk L=>?_))) (λ_=>gj (Int.toNat_natCast<|>O) v d (Gz g ks B)))) (λ_=>JgP (Int.toNat_natCast<|>O) v d (Gz g ks B)));rcases mPq L with h | h
  .exact B k h
  .rwa[mSq h]at G
 rintro us H2 d ⟨g,ks,rfl,B⟩;let t:∀H',Xd H->Q (.int ((a+c/2)%((ts.length:Nat):Int))) H':=λH' s'=>q H' _ s' (by have:=cw (a+c/2) b;rw[U]at this⊢;exact this);apply JnL _ _ _ rfl QL rfl _ (bo (λ_=>JoQ lS0 VE) (λ_=>bq (GX _ _ rfl _ _ rfl rfl Jhj _ _ rfl rfl _ rfl _ _ rfl rfl b (t H2 g))));let(H3,eN,X,n3):=IF hl [];rw[eN];let Y:=g.trans X;let y:=X _ _ d;apply(.lst (ks.map Ie),.lst [],Jd5 y _,Ww n3 Jks,(by simp only[dep,iO];decide),2,?_);by_cases L:ks=[]
 .subst L;exact bq (GX _ _ rfl _ _ rfl rfl Jhj _ _ rfl rfl _ rfl _ _ rfl rfl b (t H3 Y))
 .let e:Yw (peq (.lst (ks.map Ie)) (.lst [])):=by
   cases ks with
   |nil=>exact JC L
   |cons x xs=>rfl
  rw[e];let u:Ge (((ks.map VG).length:Nat):Int):=by rw[lM];have:=List.length_pos_iff.mpr L;lia
  let m:=cw (c/2) u;let W:InR ks.length (c/2%(((ks.map VG).length:Nat):Int)):=by rw[lM]at m⊢;exact m
  apply aD (7,3,Id Jp,2,D,2,Yc y,3,u,D,4,SqL.of y,gA W,q H3 _ Y (B _ ?_));unfold rf;rwa[List.getD_eq_getElem?_getD,gG (by let h1:=W.1;let h2:=W.2;exact (Int.toNat_lt ‹_›).mpr ‹_›)]at List.getElem_mem _
noncomputable def wv (c:Int)(i:Nat):List Tm:=(List.range i).map λj:Nat=>((nm4 ((0+(j:Int)+c/3)%4),[],):Tm)
def yV (c)(i):(wv c i).length=i:=by simp [wv]
def EI (c)(i):wv c (i+1)=wv c i++[(nm4 ((0+(i:Int)+c/3)%4),[],)]:=by unfold wv;rw[List.range_succ,mAq];rfl
def wv_new (h:i<4):(nm4 ((0+(i:Int)+c/3)%4),([]:List Int),)∉wv c i:=λz=>by let(j,g,e):=List.mem_map.mp z;let d:=List.mem_range.mp g;let k:=(Prod.mk.inj e).1;let b:=cw (0+(j:Int)+c/3) (show Ge 4 by decide);let a:=cw (0+(i:Int)+c/3) (show Ge 4 by decide);have:=EE b.1 b.2 a.1 a.2 k;lia
inductive sZ (K)(C):Sp|m{vs H Q E9} (a) (ns:List Int) (fs):JfO (vs=UJ a fs) (JnX H) (Jkt (0<=fs) fs ((∀H' p tl al rl T As,VQ p (Jgk tl al (Ms rl (Jma (MR K C H' p T []) (1<=T.length) (MX 20) (Mz 7) p))))->sZ K C vs H Q E9))
def gY:Je ["_law_script","_law_first","_law_cell","_law_problem","_law_many","_law_k","_law_tops","_law_turn"] Jg7 sG:=fsc
def PrD.keep (S:Jk_ H)(f:Jl7 z)(hz:Qr z zs)(c:z≠tl)(b:z≠al)(a:z≠rl):Jk_ H':=(S.pr.keep f hz c b a,S.dm,S.t3,S.tN)
def s_ (h0:0<=i)(a:i<2):∃k,MY (Q7 x y) i (.int k)/\(k=x\/k=y):=by
 have:i=0\/i=1:=Jn
 rcases this with rfl|rfl
 .exact Nd x (.inl rfl)
 .exact Nd y (.inr rfl)
def pM (h:InR ns.length t):rf ns t∈ns:=by unfold rf;rwa[List.getD_eq_getElem?_getD,gG (by let b:=h.1;let a:=h.2;lia)]at List.getElem_mem _
def ixN_of (h:JiO i):ixN n i=some i.toNat:=by unfold ixN;rw[if_pos h.1,if_pos h.2]
def EJ (F:Jr_ "_law_woven" sG)(T:NN C)(mlist:Jg "list")(r:Jg "range")(G:Own P w K mg base C fI fA fQ fS dI dA' dQ dS)(U:Jk4 1 fC dC (lI K)):JA 5 Jg7 (sZ K C):=by
 apply XF gY
 let(a,ns,fs,rfl,hS,J,f0,f1,Q0):=h;let hr1:Jhw 1:=hr.mono Jp;let hr2:Jhw 2:=hr.mono Jp;apply Ym (Jdb (i:=2) gY.nd (J5 U.ok hr1 U.m U.kp U.b 0 1) (i:=3) gY.nd Jmx (Nm (i:=4) gY.nd (JoB (Jgm 2)) (JsF (Jn6 r 4) 5 gY.nd (QS 3 G.mA G.A hr G.bA (Qh (Jg9 (aa ba Jim) (JcU (Nh cu 5 (Jb2 2)))) (cb ac)))) (XT (i:=6) gY.nd (UB (xw rfl) rfl mlist (Yb (xv rfl r (Uc 4)))) (Qb (JlS (Jet r (Yb (JoB (JcV 2)))) (i:=7) gY.nd (JlS (Jn6 r 4) (i:=5) gY.nd (ps_asg (JH 3 G.mA G.A hr G.bA (Qh (Jg_ (Qh ba ba) 2) (cb (Yb (JnU 6 5))))) (pg_sub (pv 6) JqO AR)))) (JsF (Jet r (Yb (Wz gC 4))) 5 gY.nd (XT (i:=2) gY.nd (WJ U.ok hr1 U.m U.kp U.b 0 (JbH cu (Wz cu 1) 5)) (QS 3 G.mS G.S hr G.bS (Qh (Jp4 (WG 5 (Wz cu 5)) 2) (Jp4 (IT (Wz cu 5) 5) 2))))) (Qb (ak (JH 3 G.mS G.S hr G.bS (Qh (Uf aM 6) (J8 6 (Wz gC 4))))) (Jsz 2 gY.nd (WJ U.ok hr1 U.m U.kp U.b 0 (Wz cu 1))) (NX (be (Jgn 2) (QS 3 G.mS G.S hr G.bS (Qh (JbH bz (Jb2 2) 4) (J8 6 (JbH bz (Jb2 2) 4))))
   aU) (be (Jgn 2) (QS 3 G.mQ G.Q hr G.bQ (Yb (Jg_ Jim 2)))
   aU) MJ))))))
 rfl'
 apply JN _ _ rfl a ns fs rfl hS J f0 Jn XN;intro p dx np ndx nex;apply Qp p dx ao (λtl al rl H1 ht ha hrr na nr nx k1 k2 k3 k4 k5=>Qm rfl);let(S1,s1,ft,fa,fr):=sV (K:=K) (C:=C) np ndx nex ht ha hrr na nr nx k1 k2 k3 k4 k5;let b3:=cw c (show Ge 3 by decide);apply GF _ _ _ rfl rfl QW _ _ rfl rfl ?_;apply Jje _ _ (by show -(2^62)<=2+c%3;lia) (by show 2+c%3<2^62;lia) (JsB 0 ((2+c%3).toNat) (λi D H'=>∃(R:Option V),JlJ (D=[Ja a,Ya fs,Ya c,Ja p,Ya (2+c%3),R,none,none]) H (PrD K C H' p tl al rl (wv c i) [] [])) (Ml none s1 S1) ?_ ?_)
 .rintro i D H2 hi ⟨R,rfl,s2,S2⟩;let hi4:i<4:=Jn
  let((dx2,ho2),_):=id S2.pr;let b4:=cw (0+((i:Nat):Int)+c/3) (show Ge 4 by decide);let(hz,g1,g2):=yT b4.1 b4.2;apply JX _ p dx2 _ rfl ho2 Jro lS4 VE;let(H3,eN,s3,n3):=IF hl [V.str "a",V.str "b",V.str "abc",V.str "abd"];rw[eN];apply(7,3,Id Jp,3,3,(by show Ge 4;decide),l,4,SqL.of n3,hz,lS0,λe he=>?_);let s4:=s3.trans (Ja_ he []);dsimp only [hF];apply pI (S2.same s4) WV g1 g2 (ps:=[]) (by show 0<=3;decide) (λ_ h=>nomatch h) (by rw[yV];lia) (λH' d k X f m1 kl hn=>JoQ (f.fresh (s2.trans s4) ft) ?_);rwa[EI,<-hn (wv_new hi4)]at X
 rintro D H2 ⟨R,rfl,s2,S2⟩;let wl:=yV c (2+c%3).toNat;generalize wv c (2+c%3).toNat=T0 at S2 wl;apply Jnw _ _ (λr0 hr0=>?_);apply nwC hr0 (.rng 0 (2+c%3)) λH3 sN n3=>?_;let s3:=s2.trans sN;let S3:=S2.same sN;apply(r0,2,n3,Jn,Jn,λu Z=>?_);let e0:(((List.range (2+c%3).toNat).map λi:Nat=>(i:Int)).map VG)=(ze8 (2+c%3).toNat).map V.int:=rfl;rw[e0];let((dx3,ho3),(_,ht3,_),(_,ha3,_),(_,hr3,_),_):=id S3.pr;let ntl:u≠tl:=(cn ht3 Z).symm;let nal:u≠al:=(cn ha3 Z).symm;let nrl:u≠rl:=(cn hr3 Z).symm;let ftp:Nf u:=s3.free Z;apply nwC Z (.lst ((ze8 (2+c%3).toNat).map VG)) λH4 sN n4=>?_;let s4:=s3.trans sN;let S4:=S3.same sN;let b2:=cw (c/12) (show Ge 2 by decide);let rin:∀k∈ze8 (2+c%3).toNat,InR T0.length k:=λk hk=>by unfold ze8 at hk;let(j,hj,rfl):=List.mem_map.mp hk;have:=List.mem_range.mp hj;exact W4 Jn
 apply GX _ _ _ rfl rfl Jhj _ _ rfl rfl QL _ _ rfl rfl _ rfl Jn (by show 1+c/12%2<2^62;lia) (JsB 0 ((1+c/12%2).toNat) (λi D H'=>Ex4 λ(R v7:Option V) (v:List Tm) (us:List Int)=>An8 (D=[Ja a,Ya fs,Ya c,Ja p,Ya (2+c%3),R,Ja u,v7]) Jdx JqG Jql (us.length=(2+c%3).toNat) ((∀k∈us,Jnk k)) (2+c%3<=(v.length:Int)) (v.length<=4+4*i)) (R,none,T0,2,s4,S4,n4,by rw[yR],rin,Jn,by rwa[wl]at lqP) ?_ ?_)
 .rintro i D H5 hi ⟨v5',v7,v,us,rfl,s5,S5,Y,ul,W,t1,t2⟩;apply Jje _ _ (by show -(2 ^ 62)≤2+c % 3;lia) (by show 2+c % 3<2 ^ 62;lia) (JsB 0 ((2+c % 3).toNat) (λj D H'=>Ex3 λ(R:Option V) (v:List Tm) (us:List Int)=>An8 (D=[Ja a,Ya fs,Ya c,Ja p,Ya (2+c % 3),R,Ja u,Ya (0+Qq)]) Jdx JqG Jql (us.length=(2+c % 3).toNat) ((∀k∈us,Jnk k)) (2+c % 3≤(v.length:Int)) (v.length≤4+4 * i+j)) (v5',v,us,rfl,s5,S5,Y,ul,W,t1,Jn) ?_ ?_)
  .rintro j D H6 hj ⟨v5'',T6,B,rfl,s6,S6,q,ul6,L,t16,t26⟩;let((dx6,ho6),_):=id S6.pr;let b6:=cw (c / 24) (show Ge 2 by decide);let(z,hz,g1,g2):=f2_at b6.1 b6.2;let jin:InR Jqs (0+((j:Nat):Int)):=W4 Jn;apply JX _ p dx6 _ rfl ho6 Jro lS2 VE;let(H7,eN,s7,n7):=IF hl (JgM "f" (V.str "ffa"));rw[eN];apply(2,3,Id Jp,3,QL,l,4,SqL.of n7,hz,7,u,4,SqL.of (s7 _ _ q),gA jin,lS1,λe he=>?_);let M:=s7.trans (Ja_ he (X3 (rf B (0+((j:Nat):Int)))));dsimp only [hF];apply pI (S6.same M) WV g1 g2 (ps:=[rf B (0+((j:Nat):Int))]) (by show 1≤3;decide) (λk hk=>by rwa[mSq hk]at L _ (pM jin)) (Nat.lt_of_le_of_lt t26 (Vk (Nat.add_le_add (Nat.add_le_add_left (Nat.mul_le_mul_left 4 (WD hi lqQ)) 4) (WD hj lqP)))) (λH' d k X f m1 kl hn=>?_);let htp9:H' u=some (.lst (B.map VG)):=f _ _ (M _ _ q) ntl;apply JeM _ _ rfl u _ _ _ htp9 (lM<|>ixN_of jin) ?_;let fr9:Fr1 H' (Va H' u ((B.map VG).set (0+((j:Nat):Int)).toNat (.int ((k:Nat):Int)))) u:=λb o h n=>by rwa[aq n]at h
   let tl9:T6.length<=(T6++d).length:=by rw[lAq];lia
   apply(_,T6++d,B.set (0+((j:Nat):Int)).toNat ((k:Nat):Int),rfl,(f.fresh (s6.trans M) ft).upd ftp,X.keep fr9 htp9 ntl nal nrl,by rw[ao,List.map_set],by rwa[List.length_set]at ul6,λx hx=>?_,Jn,by rw[lAq];lia);rcases List.mem_or_eq_of_mem_set hx with h|h
   .exact(L x h).mono tl9
   .rwa[h]at W4 Jn
  .rintro D H6 ⟨v5'',T6,B,rfl,s6,S6,q,ul6,L,t16,t26⟩;exact(5,T6,B,rfl,s6,S6,q,ul6,L,t16,Jn)
 rintro D H5 ⟨v5',v7,v,us,rfl,s5,S5,Y,ul,W,t1,t2⟩;let t12:v.length<=12:=Jn
 apply JnK _ _ _ rfl _ rfl Jn (by show 2+c%3-1<2^62;lia) (JsB 0 ((2+c%3-1).toNat) (λi D H'=>Ex3 λ(c2:Int) (R:Option V) (As:List At)=>An5 (D=[Ja a,Ya fs,Ya c2,Ja p,Ya (2+c%3),R,Ja u,v7]) Jdx (MR K C H' p v []) Jql (Mz i)) (JS c _ [] s5 S5 Y Yd) ?_ ?_)
 .rintro i D H6 hi ⟨c2,R,As,rfl,s6,S6,q,al6⟩;apply(7,3,2,3,a,ns,2,s6.seq hS,J,Jn,Jn,λc3=>?_);let((dx6,ho6),_):=id S6.pr;let b6:=cw c3 (show Ge 2 by decide);let(x1,hx1,ex1):=s_ (x:=0+Qq) (y:=0+((i:Nat):Int)+1) b6.1 b6.2;let(x2,hx2,ex2):=s_ (x:=0+((i:Nat):Int)+1) (y:=0+Qq) b6.1 b6.2;apply(2,p,dx6,2,ho6,pF _ _ _,7,3,lS2,λl hl=>?_);let(H7,eN,s7,n7):=IF hl (Q7 (0+Qq) (0+((i:Nat):Int)+1));rw[eN];apply(2,3,QL,l,4,SqL.of n7,hx1,2,3,2,lS2,λe he=>?_);let(O,eN,sN,n8):=IF he (Q7 (0+((i:Nat):Int)+1) (0+Qq));rw[eN];let M:=s7.trans sN;apply(2,3,QL,e,4,SqL.of n8,hx2,pK (S6.same M) (W4 Jn) (W4 Jn) Jn (λH' d k X f m1 _=>?_));exact JS _ _ (As++d) (Je1 (s6.trans M) fr) X (f _ _ (M _ _ q) nal nrl) (by rw[lAq];lia)
 rintro D H6 ⟨c2,R,As,rfl,s6,S6,q,al6⟩;let al4:Mz 4:=Jn
 let((dx6,ho6),_):=id S6.pr;let i0:JlF 0:=Id Jn;let i1:JlF (2+c%3-1):=W4 Jn;apply(2,p,dx6,2,ho6,pF _ _ _,2,u,4,SqL.of q,gA i0,7,3,u,4,SqL.of q,gA i1,pK S6 (W _ (pM i0)) (W _ (pM i1)) Jn (λH7 d k S7 f7 m7 _=>?_));let s7:=f7.fresh s6 fa fr;let htp7:=f7 _ _ q nal nrl;apply(7,3,a,ns,2,s7.seq hS,J,(by show 0<=fs+5;lia),(by show Jr (fs+5);lia),λc3=>?_);let al7:(As++d).length<=5:=by rw[lAq];lia
 generalize As++d=As7 at S7 al7;let fin:∀(O:Hp) (t:List At) (Dn:g_) (σ8:St),M9 O->PrD K C O p tl al rl v t []->t.length<=7->Q (.ref p) O:=λO t _ _ M S8 l8=>Q0 O p tl al rl v t M np ft fa fr S8 Jn Jn Jn;let tail:∀(O:Hp) (t:List At),M9 O->PrD K C O p tl al rl v t []->t.length<=6->∀(z:Str) (l:Addr),nI z->∀H9,ap O H9->lF K C (JpI p z) H9 (λx H'=>Mc p H') E0:=λO t M S8 l8 z l g H9 s9=>pJ (S8.same s9) g.1 g.2 Jn (λH' d k X f m1 _=>fin H' (t++d) QE [] (Je1 (M.trans s9) fr) X (by rw[lAq];lia));let b5:=cw (c3/5) (show Ge 3 by decide);let(z,hz,gz):=pq_at b5.1 b5.2;let N:(0:Int)<2+c%3:=Jn
 let m1:=cw (c3/3) N;let m2:=cw (c3/12) N;let i3:Jnk (c3/3%(2+c%3)):=(m1.1,by have:=m1.2;lia);let i4:JlF (c3/12%(2+c%3)):=(m2.1,by have:=m2.2;lia);let((dx7,ho7),_):=id S7.pr;apply JnL _ _ _ rfl QW rfl _ (Go (λ_=>?_))
 .apply(2,p,dx7,2,ho7,pF _ _ _,2,3,Id Jp,2,3,N,7,3,Id Jp,2,3,N,u,4,SqL.of htp7,gA i4,pK S7 i3 (W _ (pM i4)) Jn (λO d k S8 f8 m8 _=>?_));let M:=f8.fresh s7 fa fr;let al8:(As7++d).length≤6:=by rw[lAq];lia
  let((dx8,ho8),_):=id S8.pr;apply JnL _ _ _ rfl (by show Ge 5;decide) rfl _ (Go (λ_=>QD (fin O _ QE [] M S8 Jn)));apply JX _ p dx8 _ rfl ho8 (pE _ _ _) lS3 (λl hl=>GX _ _ _ rfl rfl Jhj _ _ rfl rfl QW l _ _ _ rfl rfl Jce hz (pJ (S8.same Jrd) gz.1 gz.2 Jn (λH' more' k X f m1 _=>QD (fin H' _ QE [] (Je1 (M.trans Jrd) fr) X (by rw[lAq];lia)))))
 .apply JnL _ _ _ rfl (by show Ge 5;decide) rfl _ (Go (λ_=>QD (fin H7 _ QE [] s7 S7 Jn)));apply JX _ p dx7 _ rfl ho7 (pE _ _ _) lS3 (λl hl=>GX _ _ _ rfl rfl Jhj _ _ rfl rfl QW l _ _ _ rfl rfl Jce hz (pJ (S7.same Jrd) gz.1 gz.2 Jn (λH' more' k X f m1 _=>QD (fin H' _ QE [] (Je1 (s7.trans Jrd) fr) X (by rw[lAq];lia)))))
inductive tf (K)(C):Sp|m{vs H Q E9} (a) (ns:List Int) (fs tn an):JfO (vs=[.ref a,.int fs,.int tn,.int an]) (JnX H) (Jkt (0<=fs) fs (1<=tn->tn<=20->0<=an->an<=7->(∀H' p tl al rl T As,VQ p (Ms tl (Jgk al rl (Jma (MR K C H' p T []) (1<=T.length) (MX 20) (Mz 7) p))))->tf K C vs H Q E9))
def lJ:Je ["_law_script","_law_first","_law_terms","_law_atoms","_law_problem","_law_k","_law_cell","_law_one"] Jf8 sI:=fsc
def EK (F:Jr_ "_law_problem_by" sI)(T:NN C)(e:Jg "range")(G:Own P w K mg base C fI fA fQ fS dI dA' dQ dS)(j:Jk4 1 fC dC (lI K))(BW:Xu 5 "_law_woven" fW dW Jg7 (sZ K C))(BT:Xu 5 "_law_term_by" fT dT' Gr (sW K C))(BO:Xu 1 "_law_other_by" fO dO JjC (sX K C)):JA 6 Jf8 (tf K C):=by
 apply Jq_ lJ U
 let(a,ns,v,u,J,rfl,Z,c,f0,f1,t0,t1,a0,a1,Q0):=h;let q:Jhw 1:=U.mono Jp;let hr2:Jhw 2:=U.mono Jp;let R:Jhw 4:=U.mono Jp;apply Ym (Qb (be (Q4 (Jjg j.ok q j.m j.kp j.b 0 af)) (Nc (J5 BW.ok U BW.m BW.kp BW.b 0 1))
   aU) (Jsz 4 lJ.nd Jmx) (NX (JsF (Jn6 e 2) 5 lJ.nd (Gq (WJ BT.ok U BT.m BT.kp BT.b 4 (WJ j.ok q j.m j.kp j.b 0 (JjG cu 1 5))))) (JsF (Jn6 e 3) 5 lJ.nd (Jdb (i:=6) lJ.nd (WJ j.ok q j.m j.kp j.b 0 (JbH cu (JjG cu 1 2) 5)) (i:=7) lJ.nd (aX bz (Jb2 6) (NU 4)) (Jh2 (Jgn 6) (QS 4 G.mQ G.Q R G.bQ (Yb (Jg_ Jim 6))) (QS 4 G.mS G.S R G.bS (WG 7 (Iu BO.ok q BO.m BO.kp BO.b 4 (WG 7 (aX cx (Jb2 6) (NU 4))))))))) JeA))
 rfl'
 apply JnK _ a ns 5 Z c Jp Jp (λc0=>(3,QL,rfl,2,Go (λ_=>?_)))
 .exact JN _ _ rfl a ns v rfl Z c f0 f1 Q0
 intro p dx np ndx nex;apply Qp p dx ao (λB X M H1 ht ha hrr na nr nx k1 k2 k3 k4 k5=>Qm rfl);let(S1,s1,ft,fa,fr):=sV (K:=K) (C:=C) np ndx nex ht ha hrr na nr nx k1 k2 k3 k4 k5;apply Jje _ _ (by show -(2^62)<=u;lia) (by show u<2^62;lia) (JsB 0 u.toNat (λi y H'=>Ex2 λ(D:Option V) (g:List Tm)=>An5 (y=[Ja a,Ya v,Ya u,Ya J,Ja p,D,none,none]) Jdx (PrD K C H' p B X M g [] []) (g.length<=i) ((1<=i->1<=g.length))) (none,[],rfl,s1,S1,nRq _,λh=>XC h) ?_ ?_)
 .rintro i y H2 hi ⟨D,g,rfl,Y,S2,lT,pT⟩;apply GX _ _ rfl _ rfl _ rfl _ _ rfl rfl a ns _ rfl (Y.seq Z) c Jn (Int.le_trans (Int.add_le_add f1 (Int.add_le_add_left (Int.ofNat_le.mpr (Jd8 hi t1)) 0)) Jp) (λW=>(p,B,X,M,g,[],[],W,rfl,S2,Jn,λH3 N k x f3 m3 l3=>?_));exact(_,g++N,rfl,f3.fresh Y ft,x,by rwa[lAq]at Nat.add_le_add lT m3,λ_=>l3)
 rintro y H2 ⟨D,g,rfl,Y,S2,lT,pT⟩;let lT1:1<=g.length:=pT Jn;apply Jje _ _ (by show -(2^62)<=J;lia) (by show J<2^62;lia) (JsB 0 J.toNat (λi y H'=>Ex4 λ(D v6 v7:Option V) (As:List At)=>An4 (y=[Ja a,Ya v,Ya u,Ya J,Ja p,D,v6,v7]) Jdx (Vq K C H' p B X M g []) (Mz i)) (Jov D none none [] Y S2 Yd) ?_ ?_)
 .rintro i y H3 hi ⟨v5',v6,v7,As,rfl,L,x,lA⟩;apply(2,7,3,2,3,a,ns,2,L.seq Z,c,Jn,(Int.le_trans (Int.add_le_add (Int.add_le_add f1 t1) (Int.add_le_add_left (Int.ofNat_le.mpr (Jd8 hi a1)) 0)) Jp),λW=>?_);let((t,r),(ts,O,hT3),_):=id x.pr;let tl':Jnr g.length:=by rw[←hT3.length,lM]
  let o:Ge ((ts.length:Nat):Int):=Jn
  let msm:JfA ((ts.length:Nat):Int):=Int.ofNat_lt.mpr (Vk (tl'▸Nat.le_trans lT (Int.toNat_le.mpr t1)))
  let m1:=cw (W/9) o;let i1:InR g.length (W/9%((ts.length:Nat):Int)):=by rwa[<-tl']at m1
  apply(2,3,Id Jp,2,p,C,t,_,2,r,Yt,T.nT,eU _ _ _,B,2,Yc O,3,o,?_);apply JnL _ _ _ rfl (by show Ge 9;decide) rfl _ (Go (λ_=>?_))
  .let b5:=cw (W/9) (show Ge 3 by decide);let(z,hz,gz):=pq_at b5.1 b5.2;exact JX _ p t _ rfl r (pE _ _ _) lS3 (λl hl=>GX _ _ _ rfl rfl Jhj _ _ rfl rfl QW l _ _ _ rfl rfl Jce hz (pJ (x.same Jrd) gz.1 gz.2 Ng (λH' d k pr f m1 _=>Jov _ _ _ (As++d) (Je1 (L.trans Jrd) fr) pr (by rw[lAq];lia -ac))))
  .exact(2,p,t,2,r,pF _ _ _,7,7,3,Id Jp,2,p,C,t,_,2,r,Yt,T.nT,eU _ _ _,B,2,Yc O,3,(o,msm),p,B,X,M,g,As,[],_,2,x,i1,λH4 k s4 kin=>pK (x.same s4) i1 kin Ng (λH' d k pr f m1 _=>Jov _ _ _ (As++d) (Je1 (L.trans s4) fr) pr (by rw[lAq];lia -ac)))
 rintro y H3 ⟨v5',v6,v7,As,rfl,L,x,lA⟩;exact QD (Q0 H3 p B X M g As L np ft fa fr x lT1 Jn Jn)
def hsF (As:List At)(ps:List Int):List Int:=ps.filter λk=>(MF k).isSome
def gsF (As:List At)(ps:List Int):Mm Int:=ps.filterMap (smF As)
def jU (h:NT k pr):1<=k/\k<=(As.length:Int):=by
 unfold smF at h;by_cases c:1<=k/\k<=(As.length:Int);exact c;erw[if_neg c]at h
theorem pN:∀{ps:List Int},(Ny ps).map (smF As)=(Vx ps).map some
 |[]=>rfl
 |k::ps=>by
  unfold hsF gsF;let a:=JsL As ps;unfold hsF gsF at a;cases e:MF k with
  |none=>rwa[List.filter_cons_of_neg (by rw[e];decide),List.filterMap_cons_none e]at a
  |some b=>rw[List.filter_cons_of_pos (by rw[e];rfl),List.filterMap_cons_some e,List.map_cons,List.map_cons,a,e]
def yW:(Ny ps).length=(Vx ps).length:=by have:=Mt (JsL As ps);simpa using this
def yX (h:k∈Ny ps):k∈ps/\∃c,MF k=some c:=by let(a,b):=List.mem_filter.mp h;exact(a,Option.isSome_iff_exists.mp b)
def EL (h:pr∈Vx ps):∃k∈ps,MF k=some pr:=List.mem_filterMap.mp h
def gs_of (a:k∈ps)(e:NT k pr):pr∈gsF As ps:=Jbt k a e
def gs_at {As:List At}{ps:List Int}{i:Nat}{a:Int×Int}(h:(Vx ps)[i]?=some a):∃k,(Ny ps)[i]?=some k/\NT k a/\k∈ps:=by let e:=congrArg (λl=>l[i]?) (JsL As ps);rw[List.getElem?_map,List.getElem?_map,h]at e;let(k,b,c):=Option.map_eq_some_iff.mp e;exact(k,b,c,(yX (mO b)).1)
def EM (n:Wi a)(l:Wi b):Vi (jS f T a b)↔jO T f a b:=by
 let⟨k⟩:=lH n;let⟨j⟩:=lH l;unfold jS jO;constructor
 .intro h;rw[Bool.and_eq_true,Bool.and_eq_true]at h;let(e,d,c):=h;apply(5,k,j,oDq e,?_);rw[<-pH f _ _ (oDq d)]at c;exact oDq c
 .rintro ⟨t,u,e,d,c,i⟩;cases k.symm.trans e;cases j.symm.trans d;let g:(tG T a).2.length=(tG T b).2.length:=by have:=Mt i;simpa using this
  rwa[Bool.and_eq_true,Bool.and_eq_true]at(dTq c,dTq g,by rw[<-pH f _ _ g];exact dTq i)
def EN (A:ir n f (rf rs))(h:Jnl n)(g:JiO a)(e:JiO b):ir n (mrg f a b) (rf (jT rs a b)):=λt u d c=>by rwa[yO (by rw[h];exact d),yO (by rw[h];exact c)]at Eo A g e t u d c
def EO:∀{xs ys:List Int},xs.Perm ys->xs.Pairwise (·<=·)->ys.Pairwise (·<=·)->xs=ys:=λe d c=>e.eq_of_pairwise (λa b x x g f=>Jn) d c
def yY {As:List At}{ps:List Int}{i:Nat}{k:Int}(h:ps[i]?=some k):JmC Xi=JmC i++(if(MF k).isSome=true then [k] else []):=by
 unfold hsF;rw[a_ h,List.filter_append];congr 1;by_cases c:(MF k).isSome=true
 .simp [c]
 .simp [c]
noncomputable def ngF (ps:List Int):List Int:=(ps.filter λk=>decide (k<0)).map λk=>-k
def yZ {ps:List Int}{i:Nat}{k:Int}(h:ps[i]?=some k):JkT Xi=JkT i++(if k<0 then [-k] else []):=by
 unfold ngF;rw[a_ h,List.filter_append,mAq];congr 1;by_cases c:k<0
 .simp [c]
 .simp [c]
def ER (ps):(ngF ps).length<=ps.length:=by unfold ngF;rwa[lM]at GC _
inductive pO (K)(C):Sp|m{vs H Q E9} (p tl al rl q) (T) (As) (Rs) (ps):vs=Iw p q->JcG (Jk_ H) (SqI K H q ps) ((∀H' l,JlW l (Il l ((Ny ps).map V.int)) l)->pO K C vs H Q E9)
def ES:JjH Joo "held" mY:=fsc
def ET (F:Jr_ "held_same" mY)(o:JdB 1 fS dS (jk K C)):JA 2 Joo (pO K C):=by
 apply Jq_ ES T
 let(p,z,L,B,q,M,As,Rs,ps,rfl,S,U,t,X):=h;apply Ym (Nc (WE (N':=["part","problem"]) (ix:=[0]) rfl rfl rfl (λu=>JsN (ai mY) u) rfl rfl Xe (yN WA) (λ_ _ _ _=>(aA kx (J5 o.ok T o.m o.kp o.b 1 0) eC)) (λ_ _ _ _=>IN)))
 rfl'
 apply(2,q,ps,rfl,U,λJ (Ok,W,u,r) D v=>gH W (λi us H'=>Xd H/\us=(JmC i).map VG) (λi us H' h_=>by let(R,_):=h_;exact u _ R) (UI v) ?_ ?_)
 .rintro i us H9 x N I l c ⟨d,rfl⟩ O;let(rfl,k,G,rfl):=r _ _ _ _ d O;apply(7,p,z,L,B,M,As,Rs,k,rfl,(S.same d).pr,λe Y g=>?_,λx y e Y a g Z=>?_)
  .apply Gz rfl _ (JkD I l (g _ _ c) (d.trans g));rw[yY G,e];show _=(_++[]).map _;rw[List.append_nil]
  .apply Gz rfl _ (JoV (JbA _ I l (g _ _ c) ((d.trans g).upd v)));rw[yY G,e,if_pos (show(some _).isSome=true from rfl),mAq];rfl
 .rintro us N c ⟨d,rfl⟩;rw[NF _]at c;exact X N D d v c
inductive tu (K)(C):Sp|m{vs H Q E9} (p tl al rl q) (T) (As) (Rs) (ps):vs=Iw p q->JcG (Jk_ H) (SqI K H q ps) ((∀H' l us L,QF (Il l us->V3 (L.map dL) us->Jma (JgX T ps L) (JbG (Vx ps) L) (Jev T L) (L=JlY ps) l))->tu K C vs H Q E9)
def EU:JjH Joo "held" mZ:=fsc
def EV (F:Jr_ "same_links" mZ)(T:NN C)(J:JdB 1 fS dS (jk K C))(N:Jbc 2 "held_same" fH dH "held" (pO K C))(M:Xu 4 "links" fL dL' JpM (W53.sp_links K)):JA 5 Joo (tu K C):=by
 apply Jq_ EU Y
 let(p,B,al,O,q,I,As,Rs,ps,rfl,S,hq,d,Q0):=h;let X:Jhw 1:=Y.mono Jp;let W:Jhw 2:=Y.mono Jp;let((dx,ho),(ts,ht,hT)):=id S.pr;let hl:(Ny ps).length<=1000:=Jcv _ d;apply Ym (Nc (X0 M.ok Y M.m M.kp M.b (Qh Wa (JsA ["part","problem"] [0] (λok=>JsD (ai mZ)) Xe (dr (J5 N.ok W N.m N.kp N.b 0 1)) (λV V V V=>(J5 J.ok X J.m J.kp J.b 1 0))))))
 rfl'
 apply(2,p,C,dx,_,2,ho,Yt,T.nT,eU _ _ _,7,p,B,al,O,q,I,As,Rs,ps,rfl,S,hq,d,λH1 hl1 s1 V h1=>?_);apply JmE hl1 h1 (λD hD=>dw dv (λi us H'=>Xd H1/\V3 (((Vx ps).take i).map dP) us) (λi us H' h_=>by let(u,_):=h_;exact u.seq (SqL.of h1)) (Nn hD,Jks) ?_ ?_)
 .rintro i us H9 x H2 hi hly o ⟨u,g⟩ ⟨rfl,hx⟩;let(k,hk,rfl):=GY _ (u.seq (SqL.of h1));let(_,(x,y),e):=yX (mO hk);let c:=s1.trans u;apply(7,p,B,al,O,I,As,Rs,k,rfl,(S.same c).pr,λz=>(by erw[e]at z),λx' y' z H3 a v ha=>?_);erw[e]at z;let hg:(Vx ps)[i]?=some (x,y,):=by
   let r:=congrArg (λl=>l[i]?) (JsL As ps);rw[List.getElem?_map,List.getElem?_map,hk]at r;let r:some _=((Vx ps)[i]?).map some:=r;rw[e]at r;cases q:(Vx ps)[i]? with
   |none=>erw[q]at r
   |some pr=>erw[q]at r;rfl
  let kt:=JsC (JhB us a) (v _ _ o);apply XS _ (lM<|>hl) hi hly (v _ _ o) ((u.trans v).upd hD);rwa[a_ hg,mAq]at Ip (Vz (v.kt.trans kt) _ g) (Jbd (kt.sq ha) Jgz Jgz)
 rintro us H2 o ⟨u,g⟩;rw[lM,yW,NF _]at g;let c:=s1.trans u;apply(B,D,ts,us,Vx ps,I,rfl,SqL.of (c _ _ ht),Je7 c.kt _ hT,SqL.of o,g,λpr Z=>?_,(λt U=>Jd (S.t3 t U)),S.tN,by rwa[<-yW]at hl,λH3 l L zs v V h3 hL R G Cl e=>Q0 H3 l zs L (c.trans v) h3 hL R G Cl e);let(k,_,e):=EL Z;exact pG S.dm e
inductive tw (K)(C):Sp|m{vs H Q E9} (p tl al rl q l) (T) (As) (Rs) (ps) (us) (L):Jol (vs=Jdg p q l) H (SqI K H q ps->ps.length<64->Qj H l us->JmB dL us->Jkt (InN T.length L) L.length ((∀ms:List Int,JkU ps->ms.Pairwise (·<=·)->((JbJ L As=[]->∀H',JoY H')/\∀d r,JbJ L As=d::r->∀H',QF (Jgi d)))->tw K C vs H Q E9))
def pP:Je ["problem","held","found","least","atom","pair"] JqB oW:=fsc
def EW (F:Jr_ "clashing_atom" oW)(T:NN C)(r:Jg "sorted")(X:JdB 1 fS dS (jk K C))(Y:Xu 4 "heads" fD dD ["many","links"] (W53.sp_heads K)):JA 5 JqB (tw K C):=by
 apply XF pP
 let(p,tl,al,rl,q,l,M,As,Rs,ps,us,L,rfl,S,hq,p64,hS,hL,inn,l100,Q0):=h;let hr1:Jhw 1:=hr.mono Jp;let((dx,ho),(ts,ht,hT),_):=id S.pr;let tl':Jnr M.length:=by rw[<-hT.length,lM]
 let tN:=S.tN;apply Ym (NY (i:=3) pP.nd (X0 Y.ok hr Y.m Y.kp Y.b (IT JeJ 2)) (JG (dr (UN oQ r (Yb (WE (N':=["part"]) (ix:=[]) rfl rfl rfl (λ_=>JfH []) rfl rfl Xf (yN WA) (λ_ _ _ _=>(Gx iA IN)) (λ_ _ _ _=>Jrg))))) (i:=4) pP.nd (XT (i:=5) pP.nd (J5 X.ok hr1 X.m X.kp X.b 0 4) (aj (be (JcX (IX kx 5 eC) (aA bD (JfU 3 5) (JfU 3 5))) (Nc JeA)
     aU)))) eC)
 rfl'
 apply(2,p,C,dx,_,2,ho,Yt,T.nT,eU _ _ _,tl,2,Yc ht,2,l,Wm,us,L,Jrk,rfl,hS,hL,inn,tN,Jn,Jn,λH1 U s1 _ h1=>?_);let h1':H1 U=some (.lst ((hdsG (hdL L) Jrk).map VG)):=by rwa[<-tl']at h1
 apply(2,q,ps,rfl,hq.same s1,λJ (Ok,W,ok,Z) D hD=>gH W (λi us H'=>Xd H1/\us=(JkT i).map VG) (λi us H' h_=>by let(O,_):=h_;exact ok _ O) (UI hD) ?_ ?_)
 .rintro i us H9 x H3 hi I d ⟨n,rfl⟩ yy;let(rfl,k,u,rfl):=Z _ _ _ _ n yy;apply Jo5 _ rfl _ _ _ JbK
  .apply Jnw _ _ (JbA _ hi I d (n.upd hD));rw[yZ u,if_pos (oDq c),mAq];rfl
  .apply gj hi I d (Qm n);rw[yZ u,if_neg (λz=>JaN z),List.append_nil]
 rintro vs H2 d ⟨O,rfl⟩;rw[NF _]at d;let nl:=ER ps;apply VV D (ngF ps) (SqL.of d) (Nat.lt_of_le_of_lt nl p64) (λso t hso pm pw=>?_);let n:=Jax hso (t.map VG);let R:=Jsu H2 so (.lst (t.map VG));generalize JhQ H2 so=H3 at n R;let(q0,q1):=Q0 t pm pw;let G:=(s1.trans O).trans n;let h3:=(O.trans n) _ _ h1';apply JmE so R (JcP dv (λi N H'=>Ex2 λ v4 v5=>JlJ (N=[Ja p,Ja q,Ja l,Ja U,v4,v5]) H3 ((t.take i).filter (X2 L As)=[])) (λi N H' h=>by let(_,_,_,g,_):=h;exact g.seq (SqL.of R)) (Qp none none JqY rfl))
 .rintro i N H9 x H4 hi ⟨v4,v5,rfl,g,no⟩ ⟨rfl,hx⟩;let(k,u,rfl):=GY _ (g.seq (SqL.of R));let B:=G.trans g;apply(7,p,tl,al,rl,M,As,Rs,k,rfl,(S.same B).pr,λe H5 v=>?_,λx y e H5 a v ha=>?_)
  .apply Jf9 (bq (bq Jr5));have:Yw (Jn7 L k):=by unfold cm;rw[e]
   rw[a_ u,List.filter_append,no,List.filter_cons_of_neg (by rw[this];decide)];rfl
  .let(ix,iy):=pG S.dm e;let sk:Jn7 L k=decide (JiL x=JiL y):=by unfold cm;rw[e]
   let h5:=(g.trans v) _ _ h3;let b0:JmK x y=some (.int x):=ay rfl;let b1:Jjf x y=some (.int y):=ay rfl;apply Jp2 (7,a,4,ha,b0,U,4,SqL.of h5,xS _ ix.1 ix.2,7,a,4,ha,b1,U,4,SqL.of h5,xS _ iy.1 iy.2,rfl,2,?_);rw[kY,<-sk];cases es:Jn7 L k with
   |true=>
    apply JoV (q1 k ((t.drop Xi).filter (X2 L As)) ?_ H5 (B.trans v));let(lt,ek):=gEq u
    conv=>lhs;rw[<-N_ t,List.drop_eq_getElem_cons lt,ek]
    rw[List.filter_append,no,List.nil_append,List.filter_cons_of_pos es]
   |false=>
    apply bq Jr5;rw[a_ u,List.filter_append,no,List.filter_cons_of_neg (by rw[es];decide)];rfl
 .rintro N H4 ⟨v4,v5,rfl,g,no⟩;rw[lM,List.take_length]at no;exact q0 no H4 (G.trans g)
noncomputable def mk1 (hs:List Int)(l:Lk):Lk:=(l.1,l.2.1,if l.2.2=-1 then 0 else hs.getD l.2.2.toNat 0,)
noncomputable def ptF (d:Int)(B:List Lk):List Int:=d::(B.filter λb=>decide (b.2.2>0)).map λb=>-b.2.2
def tD (K:W.Frag)(H:Hp)(a:Addr)(d:Int)(B:List Lk):Prop:=∃b c bs,Vo a (JnV b c)/\Vo b ((Jfu B).map VG)/\Vo c bs/\Vt (B.map dL) bs
def y_ (F:W53.Forest L)(P:W53.PathOk L π a b)(d:q∈π)(R:W53.PathOk L ρ a b):q∈ρ:=by
 apply Decidable.byContradiction λn=>?_;let(c,f):=W53.cut_at F (P.inn q d);apply P.cut q d c f ?_;let e:=R.walk (λt=>if Vi (c t) then 1 else 0) λr g l h=>by have:=f r l h;lia
 lia
def za (h:J0 T L y M)(h':J0 T L y M')(R:cc T gs L):∀q∈M,q∈M':=by
 let F:=W53.RightL_forest R;let f:∀n,∀q∈M,Jpz (q+n)->q∈M':=λn=>by
  induction n with
  |zero=>intro q d s;have:=h.inn q d;exact absurd ‹_› (Nat.not_lt.mpr ‹_›)
  |succ n o=>
   intro q d s;let(t,a,b,P,c,w):=h.why q d;rcases w with ⟨rfl,rfl⟩|⟨p,r,l,i,e⟩
   .let(j,g,sub):=h'.top;exact sub q (y_ F P c g)
   .let k:=P.below F (W53.pairs_joined R i (a,b,) e) q c;let(j,g,sub):=h'.all p (o p r Jn) l i (a,b,) e;exact sub q (y_ F P c g)
 intro q d;exact f L.length q d Jn
theorem zb:∀{M N:List Nat},M.Pairwise Q3->N.Pairwise Q3->(∀q,q∈M↔q∈N)->M=N
 |[],[],_,_,_=>rfl
 |[],n::N,_,_,h=>by have:=(h n).mpr Js;simp at this
 |m::M,[],_,_,h=>by have:=(h m).mp Js;simp at this
 | m :: M,n :: N,f,d,h=>by
  rw[List.pairwise_cons]at f d;let e:m=n:=by
   rcases List.mem_cons.mp ((h m).mp Js) with a|a
   .exact a
   .rcases List.mem_cons.mp ((h n).mpr Js) with b | b
    .exact b.symm
    .have:=f.1 n b;have:=d.1 m a;lia
  subst e;congr 1;apply zb f.2 d.2 λq=>(λc=>?_,λc=>?_)
  .rcases List.mem_cons.mp ((h q).mp (Jb c)) with a | a
   .have:=f.1 q c;lia
   .exact a
  .rcases List.mem_cons.mp ((h q).mpr (Jb c)) with a | a
   .have:=d.1 q c;lia
   .exact a
def EY (h:J0 T L y M)(h':J0 T L y M')(R:cc T gs L)(b:M.Pairwise Q3)(a:M'.Pairwise Q3):M=M' :=
 zb b a λq=>(za h h' R q,za h' h R q)
def zc {B:List Lk}{i:Nat}{b:Lk}(h:B[i]?=some b):((B.take Xi).filter λb=>decide (b.2.2>0)).map (λb=>-b.2.2)=((B.take i).filter λb=>decide (b.2.2>0)).map (λb=>-b.2.2)++(if b.2.2>0 then [-b.2.2] else []):=by
 rw[a_ h,List.filter_append,mAq];congr 1;by_cases c:b.2.2>0
 .simp [c]
 .simp [c]
inductive tE (K)(C):Sp|m{vs H Q E9} (p tl al rl q l) (T) (As) (Rs) (ps) (us) (L) (d x y):vs=[.ref p,.ref q,.ref l,.int d]->JcG (Jk_ H) (SqI K H q ps) (Qj H l us->JmB dL us->JgX T ps L->MX 60->NT d (x,y,)->JiL x=JiL y->(∀H' a M,QF (Jgp (tD K H' a d ((IG L).map (GS ps))) (J0 T L y M) (M.Pairwise Q3) a))->tE K C vs H Q E9)
def lK:Je ["problem","held","found","atom","told","pair","needed","marked","parts"] Jlz m_:=fsc
def EZ (F:Jr_ "equal_line" m_)(T:NN C)(v:Jg "tuple")(BS:JdB 1 fS dS (jk K C))(BH:Jbc 2 "held_same" fH dH "held" (pO K C))(BW:Xu 2 "ways" fW dW Jqb (W53.sp_ways K)):JA 3 Jlz (tE K C):=by
 apply XF lK
 let(p,tl,al,rl,q,l,T',As,Rs,ps,us,L,d,x,y,rfl,S,hq,p1000,hS,hL,R,t60,e,hj,Q0):=h;let hr1:Jhw 1:=hr.mono Jp;let((dx,ho),(ts,ht,hT),_):=id S.pr;let ll:=R.len;apply Ym (ae (JfW (i:=4) lK.nd rfl rfl (J5 BH.ok hr BH.m BH.kp BH.b 0 1)) (Jdb (i:=5) lK.nd (J5 BS.ok hr1 BS.m BS.kp BS.b 0 3) (i:=6) lK.nd (X0 BW.ok hr BW.m BW.kp BW.b (aa Wa (Qa 2 (JU 5 5)))) (NX (wm (i:=7) (N':=["link","told"]) (ix:=[4]) lK.nd rfl (Or.inl rfl) rfl rfl Jv Jv rfl (λok=>JsD (ai m_)) Jv rfl rfl Xe (Jes 6) (λ_ _ _ _=>(cb (X8 (JsO (du K)) (JsO (du K)) (iT (aA bD (JsO (du K)) JdK) af (UO (r:=hI K) aM 1 (JsO (du K)))))))) (Jsz 8 lK.nd (aX qz (JoL 3) (WE (N':=["link"]) (ix:=[]) rfl rfl rfl (λ_=>JfH []) rfl rfl Xf (Jes 7) (λ_ _ _ _=>(Ji5 (JsO (du K)))) (λ_ _ _ _=>(Jlm (r:=du K)))))) (cb (X8 ba (Qz jz rfl v (Uc 8)) (Qz jz rfl v (Uc 7)))))))
 rfl'
 apply(7,p,tl,al,rl,q,T',As,Rs,ps,rfl,S,hq,p1000,λH1 tol s1 _ h1=>?_);apply(7,p,tl,al,rl,T',As,Rs,d,rfl,(S.same s1).pr,λz=>(by erw[e]at z),λx' y' z H2 pa s2 hpa=>?_);erw[e]at z;let(ix,iy):=pG S.dm e;let I:=s1.trans s2;let b0:JmK x y=some (.int x):=Jsv 0;let b1:Jjf x y=some (.int y):=Jsv 1;apply(2,p,C,dx,_,2,I _ _ ho,Yt,T.nT,eU _ _ _,7,pa,4,hpa,b0,2,pa,4,hpa,b1,tl,l,x,y,ts,us,T',Vx ps,L,rfl,SqL.of (I _ _ ht),Je7 I.kt _ hT,I.seq hS,JpE I.kt hL,(λt htt=>(S.t3 t htt,S.dm.tm t htt)),R,t60,ix,iy,hj,λH3 nl M rs s3 _ h3 hrs N lt=>?_);let s03:=I.trans s3;let h1':=(s2.trans s3) _ _ h1;let rl':Jnl M.length:=by rw[<-hrs.length,lM];unfold W53.atP;rw[lM]
 let ml:Jkg M.length:=jK _ (lt.imp λh=>Nat.ne_of_lt h) Jn3;let aml:(IG L).length=M.length:=by unfold W53.atP;rw[lM]
 apply MA _ nl (UC h3) (λD hD=>dw dv (λi zs H'=>Xd H3/\JpS ((((IG L).map (GS ps)).take i).map dL)) (λi zs H' h_=>by let(s4,_):=h_;exact Jh5 h3) (Nn hD,Jks) ?_ ?_)
 .rintro i zs H9 z H4 hi hly hDs ⟨s4,J⟩ ⟨rfl,hz⟩;let(k,pk,hk,rfl,Z):=iJ hrs (hz _ (Jh5 h3));let G:=s4.tup Z;let hmk:((IG L).map (GS ps))[i]?=some (JnC ps k):=by rw[List.getElem?_map,hk];rfl
  let fin:∀(n:Int),n=(JnC ps k).2.2->∀(r:Addr),Mf (H4 r)->ov rs.length D (λi zs H'=>Xd H3/\JpS ((((IG L).map (GS ps)).take i).map dL)) i zs (.ref r) (Gb H4 r (Gu k.1 k.2.1 n)):=λn en r u=>by let Y:IB H4 H4 r (Gu k.1 k.2.1 n):=Nn u;let n5:=Jsu H4 r (JkZ k.1 k.2.1 n);generalize Gb H4 r (Gu k.1 k.2.1 n)=H5 at Y n5;let kt:=JsC (JhB zs r) (Y _ _ hDs);apply JbA _ hi hly (Y _ _ hDs) ((s4.trans Y).upd hD);rw[a_ hmk,mAq];rw[en]at n5;exact Ip (JpE (Y.kt.trans kt) J) (oH (l:=JnC ps k) (Jju n5))
  apply(2,pk,4,G,l0 k,2,pk,4,G,l1 k,2,pk,4,G,l2 k,_,6,2,?_);rw[kY];by_cases c:k.2.2=-1
  .rwa[dTq c]at aD (lS3,λr u=>fin 0 (by unfold mk1;rw[if_pos c]) r u)
  .rw[dFq c];let(qi,hqi,eqi):=W53.of_atP Jn3 (mO hk);rcases(R qi k eqi).how with ⟨k0,hg⟩ | ⟨z,_⟩
   .let(m,hm,_,_):=gs_at hg;let at1:atI ((Ny ps).map VG) k.2.2=some (.int m):=by have:atI ((Ny ps).map VG) ((k.2.2.toNat:Nat):Int)=some (.int m):=ay (by rw[List.getElem?_map,hm];rfl);rw[show((k.2.2.toNat:Nat):Int)=k.2.2 by exact Int.toNat_of_nonneg k0]at this;exact this
    exact bq (7,pk,4,G,l2 k,tol,4,Jh5 h1',at1,lS3,λr u=>fin m (by unfold mk1;rw[if_neg c,List.getD_eq_getElem?_getD,hm];rfl) r u)
   .exact MS c
 rintro zs H4 hDs ⟨s4,J⟩;rw[tO (by rw[lM,aml];lia)]at J;let zl:JcR M.length:=by rw[<-J.length,lM,lM,aml]
 generalize eB:(IG L).map (GS ps)=B at J;let bl:B.length=M.length:=by rw[<-eB,lM,aml]
 let s04:=s03.trans s4;apply JoQ lS1 (λo ho'=>?_);let Y:=Jax ho' (X3 d);let n5:=Jsu H4 o (.lst (X3 d));let W:=Y _ _ hDs;let U:=JpE Y.kt J;generalize Va H4 o (X3 d)=H5 at Y n5 W U;apply MA _ D (UC W) (λD2 hD2=>gH dv (λi vs H'=>Xd H5/\vs=(((B.take i).filter λb=>decide (b.2.2>0)).map λb=>-b.2.2).map VG) (λi vs H' h_=>by let(X,_):=h_;exact X.seq (SqL.of W)) (UI hD2) ?_ ?_)
 .rintro i vs H9 z H6 hi hly g ⟨X,rfl⟩ ⟨rfl,hz⟩;let(k,pk,hk,rfl,Z):=iJ U (hz _ (X.seq (SqL.of W)));apply(2,pk,4,X.tup Z,l2 k,3,2,Mg XN)
  .apply JN _ pk _ _ _ rfl rfl (X.tup Z) (l2 k) _ rfl (JbA _ hi hly g (X.upd hD2));rw[zc hk,if_pos (oDq c),mAq];rfl
  .apply gj hi hly g (Qm X);rw[zc hk,if_neg (λz=>JaN z),List.append_nil]
 rintro vs H6 g ⟨X,rfl⟩;rw[zl,<-bl,List.take_length]at g;let fl:((B.filter λb=>decide (b.2.2>0)).map λb=>-b.2.2).length<=60:=by rw[lM];have:=List.length_filter_le (λb:Lk=>decide (b.2.2>0)) B;lia
 apply(o,D2,3,X _ _ n5,g,bsz _ (by rw[lM];show Jr (1+_);lia),λo7 ho7=>?_);let s7:=Jax ho7 (X3 d++((B.filter λb=>decide (b.2.2>0)).map λb=>-b.2.2).map VG);let n7:=Jsu H6 o7 (.lst (X3 d++((B.filter λb=>decide (b.2.2>0)).map λb=>-b.2.2).map VG));generalize Va H6 o7 (X3 d++((B.filter λb=>decide (b.2.2>0)).map λb=>-b.2.2).map VG)=H7 at s7 n7;let n7:H7 o7=some (.lst ((Jfu B).map VG)):=n7;apply G0 _ o7 _ (JcT n7 (λt8 ht8=>?_));let s8:=Ja_ ht8 ((Jfu B).map VG);let n8:=Jsu H7 t8 (.tup ((Jfu B).map VG));generalize Gb H7 t8 ((Jfu B).map VG)=H8 at s8 n8;let s58:=(X.trans s7).trans s8;apply G0 _ D _ (JcT (s58 _ _ W) (λt9 ht9=>?_));let s9:=Ja_ ht9 zs;let n9:=Jsu H8 t9 (.tup zs);generalize Gb H8 t9 zs=H9 at s9 n9;apply(lS3,λr u=>?_);let O:=Ja_ u (JnV t8 t9);let n10:=Jsu H9 r (.tup (JnV t8 t9));generalize Gb H9 r (JnV t8 t9)=H10 at O n10;apply Q0 H10 r M (((s04.trans Y).trans s58).trans (s9.trans O)) ?_ N lt;rwa[eB]at(t8,t9,zs,SqT.of n10,SqT.of (O _ _ (s9 _ _ n8)),SqT.of (O _ _ n9),JpE (s58.trans (s9.trans O)).kt U)
inductive tH (K)(C):Sp|m{vs H Q E9} (p tl al rl q) (T) (As) (Rs) (ps):Jol (vs=Iw p q) H (SqI K H q ps->ps.length<64->MX 60->(∀L (ms:List Int),L=JlY ps->JgX T ps L->JbG (Vx ps) L->Jev T L->JkU ps->ms.Pairwise (·<=·)->(JbJ L As=[]->∀H',JoY H')/\∀d r x y M H' a,JbJ L As=d::r->NT d (x,y,)->JiL x=JiL y->J0 T L y M->M.Pairwise Q3->JmG (tD K H' a d ((IG L).map (GS ps))) a)->tH K C vs H Q E9)
def tI:JjH Jlz "held" oX:=fsc
def E2 (F:Jr_ "clash" oX)(B:Jbc 5 "same_links" fL dL' "held" (tu K C))(I:Xu 5 "clashing_atom" fA dA' JqB (tw K C))(D:Xu 3 "equal_line" fE dE Jlz (tE K C)):JA 6 Joo (tH K C):=by
 apply Jq_ tI W
 let(p,n,u,t,q,v,As,Rs,ps,rfl,S,X,O,J,Q0):=h;let U:Jhw 3:=W.mono Jp;apply Ym (XT (i:=2) tI.nd (J5 B.ok W B.m B.kp B.b 0 1) (NY (i:=3) tI.nd (Iu I.ok W I.m I.kp I.b 0 (VJ 1 2)) (be (IX nY 3 eC) (Nc eC)
   aU) (Iu D.ok U D.m D.kp D.b 0 (Qa 1 Jrr))))
 rfl'
 apply(7,p,n,u,t,q,v,As,Rs,ps,rfl,S,X,Jn,λH1 l us L o h1 hL R G Cl eL=>?_);let ll:=R.len;apply(2,7,p,n,u,t,q,l,v,As,Rs,ps,us,L,rfl,S.same o,X.same o,O,SqL.of h1,hL,R.inn,Jn,λT pm Y=>(λe H2 j=>?_,λd r e H2 j=>?_))
 .exact Jp2 ((Q0 L T eL R G Cl pm Y).1 e H2 (o.trans j))
 .apply Jf9 (Jnj (λc=>absurd (oDq c) (by intro z;cases z)));let k:=(List.mem_filter.mp (e<|>List.mem_cons_self:d∈T.filter _)).2;obtain⟨x,y,e1,e2⟩:∃x y,NT d (x,y,)∧JiL x=hdL L y:=by
   unfold cm at k;cases z:MF d with
   |none=>erw[z]at k
   |some Z=>lia
  let g:=o.trans j;exact(7,7,p,n,u,t,q,l,v,As,Rs,ps,us,L,d,x,y,rfl,S.same g,X.same g,Jn,SqL.of (j _ _ h1),JpE j.kt hL,R,J,e1,e2,λH3 a M s3 hA N lt=>(Q0 L T eL R G Cl pm Y).2 d r x y M H3 a e e1 e2 N lt (g.trans s3) hA)
theorem pQ:∀As:List At,MU (As.map dA)
 |[]=>by rfl
 |.plain z::As=>by simp [bX,dA,nol,pQ As]
 |.same a b::As=>by simp [bX,dA,nol,pQ As]
def zd {H:Hp}{T:List Tm}{As:List At}{ys:List V}{k:Int}{f:Int->Int}(D:JkS T)(g:Vt (As.map dA) ys)(h0:1<=k)(p:k<=(As.length:Int)):∃x,MY ys (k-1) x/\((∃z q,GN q/\Vo q (Jp6 (.str z))/\Yw (cm f As k)/\Mf (MF k))\/∃a b q,GN q/\Vo q (Jdd a b)/\Wi a/\Wi b/\NT k (a,b,)/\cm f As k=decide (f a=f b)):=by
 let r:JbE As.length:=by rw[<-g.length,lM]
 let(x,l,j):=JsM ys (k-1) Jn Jn;let(a,ea,c):=sR g l;let(t,h,s,d):=yJ h0 p;erw[ea]at h;apply Gc x j;cases a with
 |plain z=>
  let(q,rfl,e):=yK c;exact .inl (VV z q e (by unfold cm;rw[d]) d)
 |same a b=>
  let(q,rfl,e):=yL c;let(o,n):=pG D d;exact .inr (a,b,q,rfl,e,o,n,d,by unfold cm;rw[d])
def EqR (T:List Tm)(As:List At)(ps:List Int):Prop:=∀g:GV Int,gR T g->(∀p∈ps,∀x y,NT (-p) (x,y,)->g x=g y)->∃d∈ps,Vi (cm g As d)
def ze (h:NT d (x,y,)):cm g As d=decide (g x=g y):=by unfold cm;rw[h]
set_option tactic.hygienic true in
def E3 (h:Vi (cm g As d)):∃x y,NT d (x,y,)/\g x=g y:=by
 unfold cm at h;split at h
 .rename_i q e;exact(q.1,q.2,e,oDq h)
 .cases h
def E4 (h:J0 T L y M)(R:cc T gs L){g:Int→Int}(C:gR T g)(told:∀q∈M,∀l,L[q]?=some l→l.2.2≠-1→g l.1=g l.2.1):g x=g y:=by
 let F:W53.Forest L:=λi l c=>(R i l c).new;let o:∀n q l,q<n→q∈M→L[q]?=some l→g l.1=g l.2.1:=by
  intro n
  induction n with
  |zero=>lia
  | succ n B =>
   intro q l j s c;by_cases e:l.2.2=-1
   .rcases(R q l c).how with ⟨z,_⟩ | ⟨_,t,u,h1,h2,h3,h4⟩
    .lia
    .let w:=W53.pairs_joined R c;let ln:t.2.length=u.2.length:=by have:=Mt h4;rw[lM,lM]at this;exact this
     have:=C l.1.toNat l.2.1.toNat t u h1 h2 h3 (W53.eq_map_zip ln λp D=>by
      let f:p∈W53.pairsF T l:=by unfold W53.pairsF;rwa[if_pos e,h1,h2]at D
      let(v,P,sub):=h.all q s l c p f;exact P.walk g λk d A r=>B k A (by have:=P.below F (w p f) k d;lia) (sub k d) r)
     let a:=(R q l c).a;let b:=(R q l c).b;rw[show(l.1.toNat:Int)=l.1 by exact Int.toNat_of_nonneg (And.left ‹_›),show(l.2.1.toNat:Int)=l.2.1 by exact Int.toNat_of_nonneg (And.left ‹_›)]at this;exact this
   .exact told q s l c e
 let(v,P,sub):=h.top;exact P.walk g λq j l c=>o _ q l JoD (sub q j) c
def lN (R:JgX T hs L){q:Nat}{l:Lk}(c:L[q]?=some l)(h:l.2.2≠-1):∃k,(Ny hs)[l.2.2.toNat]?=some k/\JnC hs l=(l.1,l.2.1,k,)/\NT k (l.1,l.2.1,)/\k∈hs/\0<k:=by
 rcases(R q l c).how with ⟨_,z⟩|⟨z,_⟩
 .let(k,b,a,e):=gs_at z;apply(k,b,?_,a,e,by have:=jU a;lia);unfold mk1;rw[if_neg h,List.getD_eq_getElem?_getD,b];rfl
 .exact MS h
def pR (hs)(h:l.2.2=-1):(mk1 hs l).2.2=0:=by unfold mk1;rw[if_pos h]
def nJ (R:JgX T hs L)(i:∀q∈M,Jaw q){p:Int}:p∈Jfu ((IG L).map (GS hs))↔p=d\/∃q∈M,∃l k,L[q]?=some l/\l.2.2≠-1/\(Ny hs)[l.2.2.toNat]?=some k/\NT k (l.1,l.2.1,)/\k∈hs/\0<k/\p=-k:=by
 unfold ptF;rw[List.mem_cons,List.mem_map];apply or_congr Iff.rfl (λh=>?_,λh=>?_)
 .let(b,n,e):=h;let(n,h0):=List.mem_filter.mp n;let h0:=oDq h0;let(l,a,rfl):=List.mem_map.mp n;let(q,j,a):=W53.of_atP i a;let g:l.2.2≠-1:=λz=>by rw[pR _ z]at h0;exact XC h0
  let(k,r,t,s,o,u):=lN R a g;exact(q,j,l,k,a,g,r,s,o,u,by rw[<-e,t])
 .let(q,j,l,k,a,g,r,t,s,o,e):=h;let(w,f,c,_):=lN R a g;rw[r]at f;injection f with v;subst v;exact Q5 (Ni (JfB l (W53.mem_atP j a)) (c<|>dTq o)) (by rw[c,e])
def zf (R:JgX T hs L)(N:J0 T L y M)(f:NT d (x,y,)):Jnm T (Jfu ((IG L).map (GS hs))):=λg C h=>by apply Gc d ((nJ R Jn3).mpr (.inl rfl));rw[ze f,decide_eq_true_eq];apply E4 N R C λq e l b a=>?_;let(k,n,_,c,j,i):=lN R b a;exact h _ ((nJ R Jn3).mpr (.inr (q,e,l,k,b,a,n,c,j,i,rfl))) _ _ (Int.neg_neg<|>c)
def tJ (R:JgX T hs L)(a:∀q∈M,Jaw q)(c:-d∈hs):∀p∈Jfu ((IG L).map (GS hs)),-p∈hs:=λp b=>by
 rcases(nJ R a).mp b with rfl|⟨q,_,l,k,_,_,_,_,h3,_,rfl⟩
 .exact c
 .rwa[Int.neg_neg]at h3
def tK (R:JgX T hs L)(a:∀q∈M,Jaw q)(v:M.Pairwise Q3)(A:hs.Nodup)(O:0<d):(Jfu ((IG L).map (GS hs))).Nodup:=by
 let G:=λp=>nJ (p:=p) (d:=0) R a;apply List.nodup_cons.mpr (Qm (λz=>?_))
 .let(b,n,e):=List.mem_map.mp z;let h0:=oDq (List.mem_filter.mp n).2;lia
 .apply List.pairwise_map.mpr ?_;let w:(M.map λq=>JnC hs (L.getD q (0,0,0,))).Pairwise λb c=>0<b.2.2→0<c.2.2→b.2.2≠c.2.2:=by
   apply List.pairwise_map.mpr (v.imp_of_mem λ{q r} u t D s o e=>?_);let i:=gG (a q u);let g:=gG (a r t);generalize L[q]'(a q u)=l at i;generalize L[r]'(a r t)=m at g;rw[W53.getD_at i]at s e;rw[W53.getD_at g]at o e;let C:l.2.2≠-1:=λz=>by rw[pR _ z]at s;lia
   let B:m.2.2≠-1:=λz=>by rw[pR _ z]at o;lia
   let(k,k1,k2,k3,_):=lN R i C;let(F,E,j,f,_):=lN R g B;rw[k2,j]at e;let e:=e;subst e;rw[k3]at f;injection f with f;injection f with ea K;have:=W53.take_link i D;rw[ea,K]at this;exact(R r m g).new this
  let e:(IG L).map (GS hs)=M.map λq=>mk1 (Ny hs) (L.getD q (0,0,0,)):=by unfold W53.atP;rw[List.map_map];rfl
  rw[e];apply(w.filter _).imp_of_mem λ{b c} n H h z=>?_;let J:=oDq (List.mem_filter.mp n).2;simp_all
def zg (G:JbG (Vx hs) L)(C:Jev T L){f:List Int}(i:f.Perm (ngF hs))(h:f.filter (X2 L As)=[]):∀r,Jnm T r->∃p∈r,-p∉hs:=λr e=>Decidable.byContradiction λz=>by let a:∀p∈r,-p∈hs:=λp c=>Decidable.byContradiction λw=>z (p,c,w);let(d,k,g):=e _ C λp c x y b=>G _ (gs_of (a p c) b);let(x,y,b,_):=E3 g;have:=jU b;let j:d∈ngF hs:=Md (-d) (Jnx (a d k) Jn) (Int.neg_neg _);have:=Ni (i.mem_iff.mpr j) g;erw[h]at this
def eqD (ps:List Int)(ls:List Lk):Dt:=.tup [.str "equal",.tup (ps.map Ie),.tup (ls.map dL)]
def clD (T:List Tm)(As:List At)(hs:List Int)(d:Int)(M:List Nat):Dt×List Int :=
 let B:=(IG Jrv).map (GS hs)
 (Jp0 B B,Jfu B,)
structure ClY (T:List Tm)(As)(hs ms:List Int)(q):Prop where
 ex:∃(d:Int) (r:List Int) (x y:Int) (M:List Nat),JbJ Jrv As=d::r/\NT d (x,y,)/\J0 T Jrv y M/\M.Pairwise Q3/\JgX T hs Jrv/\q=clD T As hs d M
def clR (T:List Tm)(As:List At):Cl:=λts o=>∃a:List Int,a.Perm (ngF (ts.map Yy))/\a.Pairwise (·<=·)/\match o with
 |none=>a.filter (X2 (JmT Yy) As)=[]/\JbG (Vx (ts.map Yy)) (JmT Yy)/\Jev T (JmT Yy)
 |some q=>ClY T As (ts.map Yy) a q
def jV (T)(As):(QC T).One:=λts a b h_ h_1=>by
 let(j,t,p,i):=h_;let(ns,s,o,f):=h_1
 let e:=List.Perm.eq_of_pairwise (λa b m m h h'=>Int.le_antisymm h h') p o (t.trans s.symm);subst e;cases a with
 | none =>
  cases b with
  |none=>rfl
  |some q=>
   let(d,r,x,y,M,g,_):=f.ex;let i:=i.1;erw[i]at g
 | some q =>
  let(d,r,x,y,M,g,B,A,z,w,u):=i.ex;cases b with
  |none=>
   let f:=f.1;erw[f]at g
  |some G=>
   let(d',F,E,D,I,g',c,n,l,v,k):=f.ex;rw[g]at g';injection g' with C H;subst C;erw[B]at c;cases EY A n w z l;rw[u,k]
theorem tL (q):∀ps acc,q∈Jm_ acc->q∈acc\/q∈ps
 |[],acc,h=>.inl (by simpa [bp] using h)
 | p :: ps,acc,h=>by
  simp only[bp]at h;split at h
  .rcases tL q ps _ h with h | h
   .exact .inl h
   .exact .inr (Jb h)
  .rcases tL q ps _ h with h | h
   .rcases mPq h with h | h
    .exact .inl h
    .exact .inr (by rw[mSq h];simp)
   .exact .inr (Jb h)
set_option tactic.hygienic true in
theorem zh:∀ps acc,acc.Nodup->(Jm_ acc).Nodup
 |[],_,h=>h
 |p::ps,acc,h=>by
  rw[bp];apply zh ps _ ?_;split
  .exact h
  .rename_i c;apply Vp h (M8 List.not_mem_nil Jn4) (λa e b d=>?_);rw[mSq d];rintro rfl;exact c e
def eK (m:Nat)(r:List Int):Prop:=(∀k∈r,PIn m k)/\r.length<=20/\r.Nodup
def lO {H:Hp}{p d c b q:Addr}{T:List Tm}{As:List At}{Rs:List Yk}{ps:List Int}{Q:VK}{E:XK}(S:Vq K C H p d c b T Rs)(l:Jha H q)(a:∀k∈ps,Jfs k)(e:Jco 20)(g:Rs.length<200)
  (h:∀H' r v,Vq K C H' p d c b T (Rs++[r])->Jip c b->Qw r->Q v H'):ji K C (Iw p q) H Q E:=by
 apply(p,d,c,b,q,T,As,Rs,ps,rfl,S.pr,l,e,a,g,λH' j i o=>h H' _ _ (i,S.dm,S.t3,S.tN) o (λk n=>?_,?_,zh _ _ Jn4))
 .exact(tL k ps [] n).elim (λh=>nomatch h) (a k)
 .have:=qX ps [];rw[List.length_nil]at this;lia
noncomputable def forB (s:Stmt):List Stmt:=match s with
 |.For _ _ b _ _=>b
 |_=>[]
abbrev NUn:List Str:=Xt "_law_cell" "_law_atom"
def tM:Je NUn Gr lB:=fsc
abbrev unB:List Stmt:=forB ((zas lB).getD 0 JdT)
def unit1 (T:NN C)(R:JhI 2 fR dR' (ji K C))(O:JdN dR')(I:Jdz fR)
  {cdv:Value}{A:Around}{outer:List Env}{s:Shared}{H0:Hp}{E:XK}(n:Jl3 2 "_law_units_added" lB):
  ∃t,Jjn (JmQ P w K mg NUn "_law_units_added" lB f A s H0 E).nox (unB.drop 1)/\
   ∀D H p g d a q As Rs c k,Vq K C H p g d a q Rs->Mz 100->Rs.length<200->1<=k->k<=(As.length:Int)->
    (∀H' u N,Vq K C H' p g d a q (Rs++u)->Jip d a->(∀r∈u,Qw r)->u.length<=1->D.nx [Ja p,Ya N,Ya k] H')->t D [Ja p,Ya c,Ya k] H:=by
 apply Ym (JdY (be (Jgn 1) (QS 0 I R n O (Jh8 (Yb (JaS 2))))
     aU) (Jsz 1 tM.nd (Jb2 1)))
 rfl'
 intro D H p g d a q As Rs c k S aN B k1 k2 z;apply JnL _ _ _ rfl (by show Ge 4;decide) rfl _ (Go (λm=>Jov _ rfl _ _ rfl Jhj (z H [] _ (List.append_nil<|>S) (Jai _) (λr n=>nomatch n) Jp)));let(dx,J):=S.pr.ob;apply XX _ p dx _ rfl J Jqh _ rfl _ rfl lS1 (λl L=>?_);let y:=Jax L [V.int (-k)];apply lO (ps:=[-k]) (S.same y) Jce (λx j=>?_) Js B λH' r v Q M h=>?_
 .rwa[mSq j]at Job (by simp_all)
 .apply Jov _ rfl _ _ rfl Jhj (z H' [r] _ Q (λb o e G F=>M _ _ (y _ _ e) G F) (λx j=>?_) Js);rwa[mSq j]at h
inductive tP (K)(C):Sp|m{vs H Q E9} (p tl al rl) (T) (As) (Rs) (c):Jol (vs=UJ p c) H (Jkt (Mz 20) JiZ ((∀H' R',MR K C H' p T (Rs++R')->Jod rl->(∀r∈R',Qw r)->R'.length<=2*As.length->UQ H')->tP K C vs H Q E9))
def E5 (F:Jr_ "_law_units_added" lB)(T:NN C)(GR:JhI 2 fR dR' (ji K C))(bR:JdN dR')(mR:Jdz fR):JA 3 Gr (tP K C):=by
 apply Jq_ tM a
 let(p,y,d,g,z,As,Rs,c,rfl,S,aN,rN,q):=h;let(t1,h1,g1):=unit1 (cdv:=cdv) (outer:=outer) T GR bR mR a;apply Ym (aj (JG (Af rfl T.range (Qh af (XI cu JeJ))) (i:=2) tM.nd (ae (be (Jgn 1) (QS 0 mR GR a bR (Jh8 Jqi))
     aU) h1)))
 rfl'
 let(dx,ys,ho,Y,yl):=S.pr.lenA;apply(2,p,C,dx,_,2,ho,Yt,T.nA,eV _ _ _,d,ys,rfl,Yc Y,3,_,2,(by apply Jhm ?_ ?_ ?_<;>lia -ac),gh (λi M H'=>Jip d g/\∃c D k,M=[Ja p,Ya c,D]/\Vq K C H' p y d g z (Rs++k)/\(∀r∈k,Qw r)/\k.length<=2*i) (Jov (Jai _) c _ [] (List.append_nil<|>S) (λr a=>nomatch a) Js) ?_ ?_)
 .rintro i M B hi ⟨f2,c2,D,R2,rfl,J,U,l2⟩;let hi':i<As.length:=by simp_all
  let rl2:(Rs++R2).length<=140:=by rw[lAq];lia
  let G:∀u L,Fr2 B u d g->(∀r∈L,Qw r)->Jpz 1->∀t j I,Vq K C t p y d g z (Rs++R2++L++j)->Fr2 u t d g->(∀r∈j,Qw r)->j.length<=1->
    (Fr2 H t d g/\∃c D k,[Jmw p,some (V.int I),some (V.int (1+(i:Int)))]=[Ja p,Ya c,D]/\Vq K C t p y d g z (Rs++k)/\(∀r∈k,Qw r)/\k.length<=2*Xi):=λu L f3 R l3 t j I S4 Z O l4=>
   (f2.trans (f3.trans Z),I,_,R2++L++j,rfl,by rwa[←List.append_assoc,←List.append_assoc]at S4,λr a=>by
    rcases mPq a with a|a
    .rcases mPq a with a | a
     .exact U r a
     .exact R r a
    .exact O r a,by rw[lAq,lAq];lia)
  apply JnL _ _ _ rfl (by show Ge 4;decide) rfl _ (Go (λn=>g1 _ B p y d g z As (Rs++R2) c2 (1+(i:Int)) J Jn Jn Jn Jn λt j I S4 Z O l4=>G B [] (Jai _) (λr a=>nomatch a) Js t j I (List.append_nil<|>S4) Z O l4));let(dx2,X):=J.pr.ob;apply GF _ p dx2 _ rfl X Jqh _ rfl lS1 (λl Y=>?_);let s1:=Jax Y [V.int (1+(i:Int))];apply lO (ps:=[1+(i:Int)]) (J.same s1) Jce (λx W=>?_) Js Jn λu r v S3 f3 N=>?_
  .rwa[mSq W]at Job Jn
  .let f23:Fr2 B u d g:=λb o e n1 n2=>f3 _ _ (s1 _ _ e) n1 n2;let R:∀x∈[r],eK WR x:=λx W=>by rwa[mSq W]at N
   exact g1 _ u p y d g z As _ c2 (1+(i:Int)) S3 Jn (by rw[lAq,lS];lia) Jn Jn (G u [r] f23 R Js)
 .rintro M B ⟨f2,c2,D,R2,rfl,J,U,l2⟩;exact q B R2 J f2 U (by simp_all)
def jW:Je ["_law_problem","_law_script","_law_first","_law_many","_law_k","_law_cell","_law_row","_law_j","_law_turn"] Jhi nC:=fsc
inductive tQ (K:W.Frag)(C:Addr):Sp|m{vs H Q E9} (p tl al rl a:Addr) (T:List Tm) (As:List At) (Rs:List Yk) (ns:List Int) (fs n:Int):vs=[.ref p,.ref a,.int fs,.int n]->JfO (Jk_ H) (∀H',Jod rl->JnX H') (Jkt (0<=fs) fs (0<=n->n<=40->Jkt (Mz 20) JiZ ((∀(H':Hp) (R':Xg Int),MR K C H' p T (Rs++R')->Jod rl->JpO (∀r∈R',Qw r) ((R'.length:Int)=n))->tQ K C vs H Q E9)))
def E6 (h0:0<=i)(a:i<9):∃n:Int,MY [V.int 1,V.int 2,V.int 2,V.int 3,V.int 2,V.int 1,V.int 3,V.int 2,V.int 5] i (.int n)/\1<=n/\n<=5:=by
 have:i=0\/i=1\/i=2\/i=3\/i=4\/i=5\/i=6\/i=7\/i=8:=Jn
 rcases this with rfl|rfl|rfl|rfl|rfl|rfl|rfl|rfl|rfl<;>exact QD Jp
abbrev NRw:List Str:=["_law_problem","_law_script","_law_first","_law_many","_law_k","_law_cell","_law_row","_law_j","_law_turn"]
abbrev rwB:List Stmt:=forB ((forB ((zas nC).getD 0 JdT)).getD 2 JdT)
def rows1 (T:NN C)(G:Jg "max"){cdv:Value}{A:Around}{outer:List Env}{s:Shared}{H0:Hp}{E:XK} :
  ∃t,Jjn (JmQ P w K mg NRw "_law_rows_added" nC f A s H0 E).nox rwB/\
   ∀(D:g_) (H:Hp) (p r a g:Addr) (dx N Q:Addr) (ys:List V) (n:Nat) (v m k c j:Int) (M:Option V) (ps:List Int),Jc0 p (ff N r Q)->Qr r ys->JbE n->n<=20->Qr g (ps.map V.int)->NJ JrY->0<=j->NJ j->
    (∀(H':Hp) (B:List Int) (d:Option V),Jl7 g->Il g (B.map V.int)->B.length<=ps.length+1->(∀q∈B,q∈ps\/PIn n q)->D.nx [Ja p,Ja a,Ya v,Ya m,Ya k,Ya c,Ja g,Ya j,d] H')->
    t D [Ja p,Ja a,Ya v,Ya m,Ya k,Ya c,Ja g,Ya j,M] H:=by
 apply Ym (Jdb (i:=8) jW.nd (JcU (XI iU (XI cu (JoA (Jb2 5) (JbH iU af 7))))) (i:=8) jW.nd (aX bz (XI cx (JcU (JoA (JjG iU 8 8) (JbH iU af 8)))) (QU (qo rfl) G (Qh af (aX iU af JeJ)))) (aj (be (JcX (Ji5 JeJ) (Gx eE (Jgm 5))) (Jg3 6 (Yb (aX iU (Jp4 (Qh af JdK) 8) (JoB (Jb2 8)))))
       aU)))
 rfl'
 intro D H p r a g dx N Q ys n v m k c j M ps W X yl n20 I pl j0 j1 R;let m1:=cw ((c/9+7919*j+1)*48271) (show Ge 1000003 by decide);apply(2,3,Id Jp,2,3,Jh9 Jp,3,3,3,.inr Jhj,3,(by show Ge 1000003;decide),?_);generalize (c/9+7919*j+1)*48271%1000003=u at m1;let S:Ge (if 2*((ys.length:Nat):Int)>1 then 2*((ys.length:Nat):Int) else 1):=by split<;>lia
 let U:=cw ((u*u+40692*u)%2147483399/7) S;apply(7,3,Qk Jn Jn,2,3,Jh9 Jp,3,3,Jn,3,Id Jp,2,p,C,dx,_,2,W,Yt,T.nA,eV _ _ _,r,ys,rfl,Yc X,3,Jh9 Jp,_,2,3,S,?_);generalize (u*u+40692*u)%2147483399/7%(if 2*((ys.length:Nat):Int)>1 then 2*((ys.length:Nat):Int) else 1)=z at U
 let no:∀d,D.nx [Ja p,Ja a,Ya v,Ya m,Ya k,Ya c,Ja g,Ya j,d] H:=λd=>R H ps d (λ_ _ e _=>e) I Jn λq J=>.inl J;apply(2,p,C,dx,_,2,W,Yt,T.nA,eV _ _ _,r,ys,rfl,Yc X,3,2,bo (λZ=>JnL _ _ _ rfl (by show Ge 81;decide) rfl _ (Go (λ_=>no _))) (λ_=>no _));let Z:Ge ((ys.length:Nat):Int):=oDq Z;rw[if_pos (by lia)]at U;let b2:=cw z (show Ge 2 by decide);apply(2,U_ I,2,lS2,λl L=>?_);let(H1,eN,O,n1):=IF L (Q7 1 (-1));rw[eN];let(e,he,Y):=s_ (x:=1) (y:=-1) b2.1 b2.2;apply(2,3,QL,l,4,SqL.of n1,he,2,3,Id Jp,3,3,.inl (by rcases Y with rfl|rfl<;>exact Id Jp),g,3,O _ _ I,dV Q9,?_);apply R _ (ps++[e*(1+z/2)]) _ (λb o e n=>by rwa[aq n]at O _ _ e) (by rw[ao,mAq];rfl) (lAq<|>nRq _) λq J=>?_;rcases mPq J with h|h
 .exact .inl h
 .apply .inr ?_;rw[mSq h];unfold PIn;rcases Y with rfl|rfl<;>lia
def E7 (F:Jr_ "_law_rows_added" nC)(T:NN C)(nMx:Jg "max")(GR:JhI 2 fR dR' (ji K C))(bR:JdN dR')(mR:Jdz fR)(R:Jk4 1 fC dC (lI K)):JA 3 Jhi (tQ K C):=by
 apply Jq_ jW L
 let(p,Y,N,J,a,Tt,As,Rs,ns,t,n,rfl,S,kS,l,fs0,fs1,n0,n1,aN,rN,q):=h;let hr1:Jhw 1:=L.mono Jp;let(t1,h1,g1):=rows1 (P:=P) (w:=w) (base:=base) (f:=f) (cdv:=cdv) (A:=A) (outer:=outer) (s:=s) (H0:=H) (E:=E) T nMx;apply Ym (aj (JsF (JpZ 3) 4 jW.nd (XT (i:=5) jW.nd (WJ R.ok hr1 R.m R.kp R.b 1 (JjG cu 2 4)) (Nm (i:=6) jW.nd (bK ac) (JsF (Jeu (Yb (Jp4 (JlD af af (JlD af af JrF)) 5))) 7 jW.nd h1) (QS 0 mR GR L bR (Uc 6))))))
 rfl'
 apply Jje _ n Jn Jn (JsB 0 n.toNat (λi d H'=>Jip N J/\∃(X W U y u:Option V) (R':Xg Int),d=[Ja p,Ja a,Ya t,Ya n,X,W,U,y,u]/\Vq K C H' p Y N J Tt (Rs++R')/\(∀r∈R',Qw r)/\R'.length=i) (Jai _,none,none,none,none,none,[],rfl,by rwa[List.append_nil]at S,(λr L=>nomatch L),rfl) ?_ ?_)
 .rintro i d I hi ⟨M,X,W,U,y,u,R2,rfl,O,r2,l2⟩;let hi':i<n.toNat:=hi;let hS2:JnX I:=kS I M;apply(2,7,3,a,ns,2,hS2,l,(by show Jni (t+(0+(i:Int)));lia),(by show Jr (t+(0+(i:Int)));lia),λc=>?_);apply JfX (λlw G=>?_);apply nwC G (.lst []) λH3 s3 n3=>?_;let b3:=cw c (show Ge 9 by decide);let(m,hm,m1,m5):=E6 b3.1 b3.2;apply((by show Qd 9;decide),λl9 hl9=>?_);let(H9,eN,s9,n9):=IF hl9 [V.int 1,V.int 2,V.int 2,V.int 3,V.int 2,V.int 1,V.int 3,V.int 2,V.int 5];rw[eN];apply(2,3,(by show Ge 9;decide),l9,4,SqL.of n9,hm,2,Jn,Jn,JsB 0 m.toNat (λj d H'=>Xd I∧∃(y u:Option V) (ps:List Int),d=[Ja p,Ja a,Ya t,Ya n,Ya (0+(i:Int)),Ya c,Ja lw,y,u]∧Il lw UE∧Jco j∧∀k∈ps,Jfs k) (Jov (s3.trans s9) _ _ [] (s9 _ _ n3) Yd (λk hk=>nomatch hk)) ?_ ?_)
  .rintro j d H4 hj ⟨B,w7,w8,ps,rfl,hw,pl,g⟩;let hj':j<m.toNat:=hj;let(dx,ys,ho,hl,yl):=(O.same B).pr.lenA;apply g1 _ H4 p N a lw dx Y J ys WR t n _ c _ w8 ps ho hl yl aN hw Jn Jn Jn λH' qs v8' f' hw' ql qin=>?_;exact Jov (λb o e=>f' b o (B b o e) (λz=>by erw[z,G]at e)) _ _ qs hw' (Nat.le_trans ‹_› (Nat.succ_le_succ ‹_›)) (λk hk=>(qin k hk).elim (g k) id)
  .rintro d H4 ⟨B,w7,w8,ps,rfl,hw,pl,g⟩;let S4:=O.same B;let(dx,ho):=S4.pr.ob;apply JnL _ p dx _ ho Jqh _ ?_;apply lO (ps:=ps) S4 (SqL.of hw) g Jn (lAq<|>Vk (Nat.add_le_add rN (l2▸Jd8 hi n1))) λH5 r v S5 f5 Z=>?_;apply(M.trans (λb o e m1 m2=>f5 _ _ (B _ _ e) m1 m2),5,8,R2++[r],rfl,by rwa[←List.append_assoc]at S5,λx D=>?_,by rw[lAq,l2];rfl);rcases mPq D with D | D
   .exact r2 x D
   .rwa[mSq D]at Z
 .rintro d I ⟨M,X,W,U,y,u,R2,rfl,O,r2,l2⟩;exact q I R2 O M r2 Jn
end K53
namespace Le53
open PySem L2
abbrev s_levels:Stmt:=K53.s_levels
abbrev s_part_levels:Stmt:=K53.s_part_levels
abbrev s_is_replaced:Stmt:=K53.s_is_replaced
abbrev s_learnt:Stmt:=K53.s_learnt
structure Txt (K)(mg:QT Str):Prop where
 len:Jg "len"
 dict:Jg "dict"
 range:Jg "range"
 tuple:Jg "tuple"
 list:Jg "list"
 any:Jg "any"
 zip:Jg "zip"
 reversed:Jg "reversed"
 max:Jg "max"
 isinstance:Jg "isinstance"
 int:Jg "int"
 bool:Jg "bool"
 abs:Jg "abs"
 ib:JmM K "int" "bool" false
inductive tR (K):Sp|m{vs H Q E9} (a) (xs) (ts):Je4 (vs=Vj a) a (Jo6 (VZ dP) ((∀H' l,JlW l (Il l ((Jnn ts).map V.int)) l)->tR K vs H Q E9))
def nM:Je ["trail","found","level","step"] ["trail"] s_levels:=fsc
def ok_levels (F:Jr_ "levels" s_levels):JjL ["trail"] (tR K):=by
 apply Jq_ nM G
 let(a,xs,ts,rfl,v,y,I,q):=h;let d:Xp ts.length:=by rw[<-y.length,lM]
 apply Ym (Jdb (i:=1) nM.nd (bK ac) (i:=2) nM.nd af (QZ (JG (Jes 0) (i:=3) nM.nd (Jp3 (be (J9 bD 3 JdK) (aj (ps_aug (i:=2) nM.nd rfl (Or.inl rfl) af ip_add))
     aU) 1 Jqi)) WA))
 rfl'
 apply(Nat.zero_le _,λl e=>MA _ a (xs,(Nn e).seq v) (Ai (xs:=xs) (λi j H'=>Ex3 λ c st ys=>An5 (j=[Ja a,Ja l,Ya c,st]) (c=Mo i) Jdx (Ji3 l) (ys=(gu ts i).map VG))
  (Jk6 0 none [] (Nn e) ao rfl) ?_ ?_ ?_))
 .rintro i j H' _ ⟨c,st,ys,_,_,s⟩;exact s.seq v
 .rintro i x j H' u ⟨c,st,ys,rfl,rfl,s,b,rfl⟩;let(t,p,C,rfl,D):=hU y u;let J:Ja0 i:=(gEq u).1;let n:=s.tup D;let k:=kK C;let B:=Cc ts i;let r:((gu ts i).map VG).length<sizeLine:=by rwa[lM,xg]at dV Jn
  apply(2,p,4,n,rfl,_,6,2,Mg XN)
  .let o:t.2=-1:=by have:=oDq c;injection this
   let g:zaS t=1:=by unfold zaS;rw[if_pos o]
   apply(2,3,2,U_ b,2,l,3,b,r,5,2,?_,s.upd e,ao,?_)
   .rw[k,g]
   .rw[B,k,g,mAq];rfl
  .let o:¬t.2=-1:=λz=>JaN (by rw[z]);let g:zaS t=0:=by unfold zaS;rw[if_neg o]
   apply(2,U_ b,2,l,3,b,r,5,2,?_,s.upd e,ao,?_)
   .rw[k,g,Int.add_zero]
   .rw[B,k,g,Int.add_zero,mAq];rfl
 .rintro j H' ⟨c,st,ys,rfl,rfl,s,b,rfl⟩;apply QD (q H' l s e ?_);rw[b,d]
inductive tS (K):Sp|m{vs H Q E9} (a) (xs) (ts):vs=Vj a->XR a->VZ dP->NJ ts.length->(negs ts).Nodup->(∀H' d,JlW d (JiC H' d) d)->tS K vs H Q E9
def pS:Je ["trail","found","step","level"] ["trail"] s_part_levels:=fsc
def ok_part_levels {P:Program}{w:World}{K:W.Frag}{mg:Str→Option Value}{base:Heap}{f fL:Addr}{fd dL:FuncData}(F:Jr_ "part_levels" s_part_levels)(T:Jfq K)(g:Xu 1 "levels" fL dL ["trail"] (tR K)):JA 2 ["trail"] (tS K):=by
 apply XF pS
 let(a,xs,ts,rfl,G,Y,hn,nd,q):=h;let hu:=dc hr;let n:Xp ts.length:=by rw[<-Y.length,lM]
 apply Ym (NY (i:=1) pS.nd gJ (Mb rfl (BV rfl T.zip (WG 0 (JfP g.ok hr g.m g.kp g.b 0))) (ko rfl (JsH 2 pS.nd 3 pS.nd kj)) (aj (JiK hu WA (Jk2 2) MJ))) WA)
 rfl'
 apply λd X=>?_;apply nwC X (.dK []) λH0 M U=>?_;apply GF _ _ rfl a xs ts rfl (M.seq G) (Vz M.kt _ Y) hn (λH1 l s1 hl v=>?_);let u:=M.trans s1;let S:=s1 _ _ U;let el:((Jnn ts).map VG).length=xs.length:=by rw[lM,xg,n]
 apply VV a l (Mr (u.seq G)) (UC v) (JcP (BJ el.symm) (λi B H'=>Ex3 λ L J kvs=>An6 (B=[Ja a,Ja d,L,J]) Jdx (Il l ((Jnn ts).map VG)) (Jgh d kvs) (GQ i) (∀p:Int,Q_ p=if p∈JdZ i then Ya (Yr p) else none)) (λi B H' h=>by let(_,_,_,_,o,r):=h;exact(o.seq G,SqL.of r)) (none,none,[],rfl,u,v,S,nRq _,λp=>by rfl))
 .rintro i B H' x H'' hi ⟨L,J,kvs,rfl,o,r,j,lk,D⟩ ⟨p,y,z,rfl,hp,rfl,hy,hz⟩;let(t,Z,ht,rfl,R):=hU Y (hy _ (o.seq G));let O:=hz _ (SqL.of r);let(c,hc,rfl):=ck O;erw[Cd ts (by lia)]at hc;let C:IB H' H' p (UJ Z (Mo Xi)):=Nn hp;apply(p,2,SqT.of ao,rfl,_,2,3,?_);let N:l≠d:=λe=>by erw[e,j]at r
  apply GX _ _ rfl _ rfl Z _ _ _ rfl rfl ((o.trans C).tup R) rfl _ rfl d _ rfl (fj.k (k:=Sum.inl _) (C _ _ j) (dV Jn)) ?_;apply(5,2,(o.trans C).upd X,?_,ao,?_,λq=>?_)
  .rwa[aq N]at C _ _ r
  .have:=Jj9 kvs X1 (.int (Mo Xi));exact Jap this lk
  .rw[hX,D];let em:JdZ Xi=JdZ i++[-t.1]:=by unfold negs;rw[a_ ht,mAq];rfl
   rw[em];by_cases e:q=-t.1
   .subst e;rw[if_pos rfl,JoJ (by simp),dZ nd ht]
   .rw[if_neg (λz=>e (by cases z;rfl))];by_cases I:q∈JdZ i
    .rw[if_pos I,JoI I]
    .rw[if_neg I,if_neg (λz=>by
      rcases mPq z with z|z
      .exact I z
      .exact e (mSq z))]
 .rintro B H' ⟨L,J,kvs,rfl,o,r,j,lk,D⟩;rw[n,NF _]at D;exact QD (q H' d o X (kvs,j,D))
def lvK (ts:Mm Int):Key->Int
 |.inl m=>Yr m
 |.inr _=>0
inductive nN (K:W.Frag):Sp|m{vs H Q E9} (p y last) (kd ld) (ks) (n) (ts):vs=[.int p,.int y,.ref kd,.ref ld,.int last]->Kst H kd ks n->JiC H ld->kd≠ld->JbP n->(∀m∈ks,Jok m)->(∀H',QF (Ji (cG ts ks last p y) H'))->nN K vs H Q E9
def E8:Jsw Jeq s_is_replaced:=fsc
def any_ks {ts:List We}{ks:List Int}{kvs:List (JeY V)}{p a:Int}(k:∀m:Int,(Q_ m).isSome=decide (m∈ks))(r:∀c∈kvs,∃m:Int,XV c.1 m):
  (((kvs.filter λc=>decide (JiP c.1 p)).map λc=>decide (lvK ts c.1=a)).any id)=ks.any λo=>decide (o≠p)&&decide (Yr o=a):=by
 rw[Bool.eq_iff_iff,List.any_eq_true,List.any_eq_true];constructor
 .rintro ⟨b,n,s⟩;let(c,i,e):=List.mem_map.mp n;let(f,q):=List.mem_filter.mp i;let(m,g):=r c f;let h:m∈ks:=by
   have:(Q_ m).isSome=true:=by rwa[<-hV]at List.any_eq_true.mpr (c,f,dTq g)
   rw[k]at this;exact oDq this
  apply Gc m h;let j:=oDq q;rw[g]at j e;let l:m≠p:=λz=>j (by rw[z]);let t:decide (Yr m=a)=true:=by
   have:decide (lvK ts (Sum.inl m)=a)=true:=by rwa[e]at s
   exact this
  rw[dTq l,t];rfl
 .rintro ⟨m,h,e⟩;rw[Bool.and_eq_true]at e;have:(Q_ m).isSome=true:=by rwa[k]at dTq h
  rw[<-hV]at this;let(c,f,g):=List.any_eq_true.mp this;let d:=oDq g;apply XA true (List.mem_map.mpr (Gc c (Ni f (dTq λz=>(oDq e.1) ?_))))
  .erw[d]at z;rfl
  .rwa[d]at e.2
def ok_is_replaced {P:Program}{w:World}{K:W.Frag}{mg:Str→Option Value}{base:Heap}{f:Addr}{fd:FuncData}(F:Jr_ "is_replaced" s_is_replaced)(T:Jfq K):JjL Jeq (nN K):=by
 apply XF E8
 let(p,y,a,t,ld,ks,n,ts,rfl,hk,hl,ne,n5,sub,q):=h;let X:=dc hr;let(kvs,k1,k2,k3,k4):=id hk;let(N,l1,l2):=id hl;apply Ym (Qb (be (JR (Jl6 X IN 2) (IX bD 1 JdK)) Jre
   aU) (be (Q4 (Jpr X 3 0 (λ_ _=>rfl))) Jre
   aU) (QZ (be (aA eE (Jpr X 3 0 (λ_ _=>rfl)) JeA) Jre
   aU) (Ve (wK rfl) T.any PyProof.Rows.Boot.any (Yb (BZ (WE (N':=["other","last","level_of","part"]) (ix:=[4,3,0]) rfl rfl rfl (λok=>JsD (ai s_is_replaced)) rfl rfl (λj i h=>match j,h with|0,h=>by cases h;exact JM _|1,h=>by cases h;exact JM _|2,h=>by cases h;exact JM _|n+3,h=>by simp at h) (BY UA) (λ_ _ _ _=>(IX eE 0 MJ)) (λ_ _ _ _=>(cP bD (Jpr X 2 0 (λ_ _=>rfl)) WA))))))))
 rfl'
 apply(7,t,2,Jsx (Sum.inl p) k1,2,?_);rw[k2];let l:=Jkb H _;unfold cG at l;by_cases e:p∈ks
 .rw[dTq e]at l ⊢;apply bq (Jk6 _ rfl _ _ rfl JbK)
  .let Y:y=-1:=by have:=oDq c;injection this
   rw[dFq (λz=>z Y)]at l;exact l
  .let Y:y≠-1:=λz=>JaN (by rw[z]);rw[dTq Y]at l;let hp:Vh N p=some (.int (Yr p)):=by rw[l2,if_pos (sub p e)]
   let g:=Jsx (Sum.inl p) l1;rw[hp]at g;apply WQ _ _ rfl ld _ g rfl _ rfl (bo (λc0=>?_) (λc0=>?_))
   .let e0:Yr p=0:=by have:=oDq c0;injection this
    rw[dTq e0]at l;exact l
   .let e0:Yr p≠0:=λz=>c0 (dTq (by rw[z]));rw[dFq e0]at l;apply JeH _ _ rfl ld _ g _ rfl rfl _ rfl (bo (λU=>?_) (λU=>?_))
    .let Z:Yr p≠a:=λz=>Jn
     rw[dFq Z]at l;exact l
    .let Z:Yr p=a:=by
      lia
     rw[dTq Z]at l;apply(2,t,kvs,rfl,k1,λo D R=>gH BQ (λi ys H'=>Uk t _/\(∀b u,b≠t->Jik b u b u)/\ys=(((kvs.take i).filter λC=>decide (JiP C.1 p)).map λC=>decide (lvK ts C.1=a)).map V.bl) (λi ys H' h_=>by let(G,_):=h_;exact G) ?_ ?_ ?_)
     .let M:t≠D:=λz=>by erw[←z,ao]at R
      apply XA ?_ (λb u L B=>?_)
      .rwa[aq M]at ao
      .let I:b≠D:=λz=>by rw[z]at B;erw[aq (λr=>L (z.trans r)),B]at R
       rwa[aq I,aq L]at B
     .rintro i ys H' x H'' hi O d ⟨G,S,rfl⟩ ⟨rfl,k,v,J,rfl⟩;let(m,em):=k4 _ (mO J);let em':=em;subst em';let hm:m∈ks:=by
       have:(Q_ m).isSome=true:=by rwa[<-hV]at List.any_eq_true.mpr (Q5 (mO J) (dTq rfl))
       rw[k2]at this;exact oDq this
      let et:((kvs.take Xi).filter λC=>decide (JiP C.1 p))=if m≠p then((kvs.take i).filter λC=>decide (JiP C.1 p))++[(Sum.inl m,v,)] else(kvs.take i).filter λC=>decide (JiP C.1 p):=by
       rw[a_ J,List.filter_append];by_cases z:m=p
       .rw[if_neg (λh=>h z),List.filter_cons,if_neg (by simp [z]),List.filter_nil,List.append_nil]
       .rw[if_pos z,List.filter_cons,if_pos (by lia),List.filter_nil]
      apply Jk6 _ rfl _ _ rfl ?_;by_cases z:m=p
      .subst z;rw[show Yw (!decide _) by let z:kV (Sum.inl m)=V.int m:=rfl;rw[z,dTq rfl];rfl]
       apply JgP hi O d (Gc G S);rw[et,if_neg (λh=>h rfl)]
      .rw[show Vi (!decide _) by let z2:¬(Jot (kV (Sum.inl m)) p):=λr=>z (by injection (show Jou m p from r));rw[dFq z2];rfl]
       let hl2:=S ld _ (Ne.symm ne) l1;let g2:=Jsx (Sum.inl m) hl2;rw[l2,if_pos (sub m hm)]at g2;apply aD (WQ _ _ rfl ld _ g2 _ rfl rfl (cv (Nat.le_trans k3 (by rw[sizeLine_eq];lia)) hi O d (Gc ?_ (λb u L B=>?_))))
       .let M:t≠D:=λz=>by erw[z,d]at G
        rwa[aq M]at G
       .let I:b≠D:=λz=>by rw[z]at B;have:=R;erw[aq (λr=>L (z.trans r)),B]at this
        rwa[aq I]at S b u L B
       .rw[et,if_pos z,mAq,mAq];let e5:decide (Jou (Yr m) a)=decide (Yr m=a):=JbR (λz=>by injection z) (λz=>by rw[z]);rw[e5];rfl
     .rintro ys H' d ⟨G,S,rfl⟩;rw[NF _]at d;apply(t,o,kvs,G,λo' u' z=>?_,?_)
      .let r:=z;erw[k1]at r
      .let M:D≠t:=λz=>by erw[z,G]at d
       let s1:M9 (Vc H' t kvs):=λb u B=>by
        by_cases z:b=t
        .subst z;rwa[ao,<-k1]at B
        .rwa[aq z]at S b u z B
       apply Ji4 D _ (aq M<|>d) ?_;let q1:=q _ s1;unfold cG at q1;rw[dTq e,dTq Y,dFq e0,dTq Z,<-any_ks (kvs:=kvs) k2 k4]at q1;exact q1
 .rw[dFq e]at l⊢;exact aD (aD l)
inductive sp_learnt (K):Sp|m{vs H Q E9} (rl tl) (f) (xs zs) (Rs) (ts):Je4 (vs=UV rl tl f) rl (W_ zcM->Qj H tl zs->Jko dP zs->Jo6 (JgH f) ((∀r∈Rs,NJ r.length)->(∀H' t tp th m,VQ t (Jma (Vy t (UV tp th m)) (Vy tp ((JJ f).map V.int)) (Vy th ((Jjs f).reverse.map V.int)) (jJ (((JJ f).drop 1).map (lvF ts)) m) t))->sp_learnt K vs H Q E9))
def jn:Je ["rows","trail","fails","level_of","last","kept","hints","step","parts","level"] ["rows","trail","fails"] s_learnt:=fsc
abbrev NLn:List Str:=["rows","trail","fails","level_of","last","kept","hints","step","parts","level"]
def E_ (T:Jfq K)
  {cdv:Value}{A:Around}{outer:List Env}{s:Shared}{H0:Hp}{E:XK}(hr:Jl3 2 "learnt" s_learnt):
  ∃t,Jjn (JmQ P w K mg NLn "learnt" s_learnt f A s H0 E).nox ((zas s_learnt).drop 5)/\
   ∀(D:g_) (W H:Hp) (X ld kd R:Addr) (zs:List V) (Rs:Xg Int) (ts:Mm Int) (fl:Int) (n:Nat) (v0 v2 v4 v7:Option V),ap W H->Qj H X zs->Jko dP zs->JgH fl->NJ Wm->Kst H kd (gK Rs ts fl) n->JiC H ld->Qr R ((Jjs fl).map V.int)->
    (∀(H':Hp) (t o a:Addr) (m:Int),No W (Mf (W t)->Vy t (UV o a m)->Vy o ((JJ fl).map V.int)->Vy a ((Jjs fl).reverse.map V.int)->jJ (((JJ fl).drop 1).map Jem) m->Jpc (.ref t)))->
    t D [v0,Ja X,v2,Ja ld,v4,Ja kd,Ja R,v7,none,none] H:=by
 let hu:=dc hr;apply Ym (NY (i:=8) jn.nd (Qz jz rfl T.tuple (Yb (WE (N':=["step","kept"]) (ix:=[5]) rfl rfl rfl (λZ=>JsN (ai s_learnt) Z) rfl rfl Xe Jrn (λ_ _ _ _=>(JkV hu (Jlm (r:=du K)) WA)) (λ_ _ _ _=>(Jlm (r:=du K)))))) (Jsz 9 jn.nd (B9 rfl rfl T.max (Jsy ["part","level_of"] [3] (λZ=>JsN (ai s_learnt) Z) Xe (cU (iY xf (pv 8) (iX af) iW)) (λ_ _ _ _=>(Jpr hu 1 0 (λ_ _=>rfl)))) (AH af AG))) (cb (Qa 8 (IT (Ca rfl rfl T.tuple rfl T.reversed (Uc 6)) 9))))
 rfl'
 rintro D W H X ld kd R zs Rs ts fl n v0 v2 v4 v7 L hS hL Z l100 hk hv hh q;let zl:JcR ts.length:=by rw[<-hL.length,lM]
 let(kvs,k1,k2,k3,k4):=id hk;let(lvs,l1,l2):=id hv;let np:(negs ts).reverse.length=ts.length:=by rw[List.length_reverse,ig]
 apply(2,X,zs,rfl,hS,λDl S=>gH rq (λi ys H'=>Xd H/\ys=(((negs ts).reverse.take i).filter λp=>decide (p∈gK Rs ts fl)).map VG) (λi ys H' h_=>by let(d,_):=h_;exact d.seq hS) (UI S) ?_ ?_)
 .rintro i ys H' x H'' hi v l ⟨d,rfl⟩ ⟨rfl,hx⟩;let(t,p,B,rfl,J):=hU hL (hx _ (d.seq hS));let e0:zs.length-1-i=Gp 1-i:=by rw[zl]
  rw[e0]at B;let hr':(negs ts).reverse[i]?=some (-t.1):=by rw[xn,List.getElem?_map,ja (by lia),B];rfl
  let et:(((negs ts).reverse.take Xi).filter λp=>decide (p∈gK Rs ts fl))=if -t.1∈gK Rs ts fl then(((negs ts).reverse.take i).filter λp=>decide (p∈gK Rs ts fl))++[-t.1] else((negs ts).reverse.take i).filter λp=>decide (p∈gK Rs ts fl):=by
   rw[a_ hr',List.filter_append];by_cases e:-t.1∈gK Rs ts fl
   .rw[if_pos e,List.filter_cons,Jah e];rfl
   .rw[if_neg e,List.filter_cons,if_neg (by simp [e]),List.filter_nil,List.append_nil]
  apply GX _ p _ _ _ rfl rfl (d.tup J) rfl _ rfl _ rfl kd _ rfl (Jsx (Sum.inl X1) (d _ _ k1)) _ rfl ?_;rw[k2];by_cases e:-t.1∈gK Rs ts fl
  .rw[dTq e];apply aD (JN _ p _ _ _ rfl rfl (d.tup J) rfl _ rfl (JbA _ hi v l (d.upd S)));rw[et,if_pos e,mAq];rfl
  .rw[dFq e];apply JkD hi v l d;rw[et,if_neg e]
 rintro ys H1 l ⟨d,rfl⟩;rw[zl,tO (Nat.le_of_eq np)]at l;apply Gz Dl _ (JcT l (λo O=>?_));let s2:IB H1 H1 o ((JJ fl).map VG):=Nn O;let ntp0:Mf (W o):=(L.trans d).free O;let M:=d.trans s2;let y:∀p∈(JJ fl).drop 1,p∈negs ts:=λp J=>List.mem_reverse.mp (List.mem_filter.mp (List.mem_of_mem_drop J)).1;let N:((JJ fl).drop 1).length<=100:=by let h1:(JJ fl).length<=(negs ts).reverse.length:=GC _;rwa[List.length_drop]at Nat.le_trans (JmU _) (Nat.le_trans h1 (np▸l100))
 apply Jnw _ _ (Ck (ps:=JJ fl) WV λH3 tq Y hq=>?_);generalize hpt:(JJ fl).drop 1=pt at hq y N q;apply Ml tq (Mr hq) (λDe U=>Jn_ (λi ys H'=>Xd H3/\ys=((pt.take i).map Jem).map VG) (λi ys H' h_=>by let(u,_):=h_;exact u.tup hq) U)
 .rintro i ys H' x H'' hi v b ⟨u,rfl⟩ ⟨rfl,hx⟩;let(p,J,rfl):=GY _ (u.tup hq);let g:=Jsx (Sum.inl p) (((M.trans Y).trans u) _ _ l1);rw[l2,if_pos (y p (mO J))]at g;apply(7,ld,2,g,cv (lM<|>Jdr _) hi v b (Qm (u.upd U)));rw[a_ J,mAq,mAq];rfl
 rintro ys C b ⟨u,rfl⟩;rw[lM,NF _]at b;let c:=(M.trans Y).trans u;apply Jk6 De (pt.map Jem) 0 (Yc b) (λe=>?_) (λm hm Q=>?_)
 .apply(7,R,2,SqL.of (c _ _ hh),λa I=>?_);let G:IB C C a ((Jjs fl).map VG).reverse:=Nn I;apply JoQ lS3 (λt B=>?_);let F:IB (Gb C a ((Jjs fl).map VG).reverse) (Gb C a ((Jjs fl).map VG).reverse) t (UV o a 0):=Nn B;apply q _ t o a 0 (L.trans ((c.trans G).trans F)) ((L.trans (c.trans G)).free B) ao ?_ ?_ (λ_=>rfl,λz=>JlA z)
  .exact F _ _ JrA
  .rwa[List.map_reverse]at F _ _ ao
 .apply(7,R,2,SqL.of (c _ _ hh),λa I=>?_);let G:IB C C a ((Jjs fl).map VG).reverse:=Nn I;apply JoQ lS3 (λt B=>?_);let F:IB (Gb C a ((Jjs fl).map VG).reverse) (Gb C a ((Jjs fl).map VG).reverse) t (UV o a m):=Nn B;apply q _ t o a m (L.trans ((c.trans G).trans F)) ((L.trans (c.trans G)).free B) ao ?_ ?_ (λz=>(by erw[z]at hm),λ_=>(hm,Q))
  .exact F _ _ JrA
  .rwa[List.map_reverse]at F _ _ ao
def atI_row (a:W_ zcM)(h0:0<=h)(b:h<Vd):∃q,Jm3 h=Ja q/\SqT K H q ((Jy h).map V.int):=by
 let(q,d,c):=wM a (jb h0 b);let e:h=(h.toNat:Int):=Jn
 apply(q,?_,c);rwa[e]at ay d
structure LnW (K:W.Frag)(Hb H)(rl tl ld kd hl:Addr)(xs zs:List V)(Rs)(ts)(fl)(i):Prop where
 sb:ap Hb H
 k:Kst H kd (JpG i).1 (100+100*i)
 v:JiC H ld
 h:Qr hl ((JpG i).2.map V.int)
 nk:Mf (Hb kd)
 nv:Mf (Hb ld)
 nh:Mf (Hb hl)
 kv:kd≠ld
def LnW.same (W:LnW K Hb H rl tl ld kd hl xs zs Rs ts fl i)(s:Xd H):LnW K Hb H' rl tl ld kd hl xs zs Rs ts fl i :=
 (W.sb.trans s,W.k.same s,W.v.same s,s _ _ W.h,W.nk,W.nv,W.nh,W.kv)
def Fb (T:Jfq K)(a:Xu 1 "is_replaced" fR dR' Jeq (nN K))
  {cdv:Value}{A:Around}{outer:List Env}{s:Shared}{H0:Hp}{E:XK}(hr:Jl3 2 "learnt" s_learnt):
  ∃t,Jjn (JmQ P w K mg NLn "learnt" s_learnt f A s H0 E).nox ((zas s_learnt).drop 4)/\
   ∀(D:g_) (o H:Hp) (S N ld c I:Addr) (xs zs:List V) (Rs:Xg Int) (ts:Mm Int) (fl:Int),Uv o S->Ql o Jss xs->Qj o N zs->Ql o (ts.map dP) zs->JgH fl->NJ Wm->(∀r∈Rs,NJ r.length)->LnW K o H S N ld c I xs zs Rs ts fl 0->
    (∀(H':Hp) (t tp th:Addr) (m:Int),No o (Mf (o t)->Vy t (UV tp th m)->Vy tp ((JJ fl).map V.int)->Vy th ((Jjs fl).reverse.map V.int)->jJ (((JJ fl).drop 1).map Jem) m->Jpc (.ref t)))->
    t D [Ja S,Ja N,Ya fl,Ja ld,Ya (cnt ts),Ja c,Ja I,none,none,none] H:=by
 let hu:=dc hr;let hr1:Jhw 1:=hr.mono Jp;let(t5,h5,q5):=E_ (P:=P) (w:=w) (base:=base) (f:=f) (outer:=outer) (H0:=H0) (E:=E) T hr;apply Ym (ae (Mb rfl Jrn (bb (i:=7) jn.nd rfl (Or.inr rfl)) (aj (be (cM (X0 a.ok hr1 a.m a.kp a.b (JlD (Jk2 7) (Qg 7) (Qa 5 (VJ 3 4))))) (Qb (ak (wI JqO (Jk2 7) Jft)) (ak (cC Mi JrJ PySem.F.type_dict_update B0 JqO (Yb (JdI (qW rfl) rfl T.dict (Yb (WE (N':=["part","step"]) (ix:=[7]) rfl rfl rfl (λok=>JsD (ai s_learnt)) rfl rfl (λj i h=>match j,h with | 0,h=>by cases h;exact JM _ | n+1,h=>by simp at h) (cU (JfU 0 7)) (λ_ _ _ _=>(IX eE 0 (Jkv (r:=du K) 1))) (λ_ _ _ _=>(cb (WG 0 cZ))))))))) (Jg3 6 (VX 7)))
     aU))) h5)
 rfl'
 rintro D o H S N ld c I xs zs Rs ts fl hS hL hZ hT ok l100 r100 W0 q;let zl:JcR ts.length:=by rw[<-hT.length,lM]
 apply(2,N,zs,rfl,W0.sb.seq hZ,JcP rq (λi σ H'=>∃v7,σ=[Ja S,Ja N,Ya fl,Ja ld,Ya (cnt ts),Ja c,Ja I,v7,none,none]/\LnW K o H' S N ld c I xs zs Rs ts fl i) (λi σ H' h=>by let(_,_,W):=h;exact W.sb.seq hZ) (Nd none W0))
 .rintro i σ H' x H'' hi ⟨v7,rfl,W⟩ ⟨rfl,hx⟩;let hi':Iz i:=Jn
  let(t,p,ht,rfl,hp):=hU hT (hx _ (W.sb.seq hZ));rw[zl]at ht;let hr':ts.reverse[i]?=some t:=by rwa[ja hi']at ht
  let es:=jI (Rs:=Rs) (f:=fl) hr';let Z:=W.sb.tup hp;let tm:t∈ts:=mO ht;apply(2,p,4,Z,rfl,7,p,4,Z,rfl,2,7,-t.1,t.2,cnt ts,c,ld,5,ts,rfl,W.k,W.v,W.kv,Jn,mq ok i,λH3 s3=>Ym rfl);let M:=W.same s3;let hp3:=s3.tup Z;cases eb:VS ts (JpG i).1 ts X1 t.2 with
  |false=>
   let e2:JpG Xi=lrn Rs ts fl i:=by rw[es];unfold e_;rw[eb];rfl
   let(kvs,k1,k2,k3,k4):=M.k;exact bq (QD (M.sb,Jmo kvs k1 (e2<|>k2) k4,M.v,by rwa[e2]at M.h,W.nk,W.nv,W.nh,W.kv))
  | true =>
   let e2:JpG Xi=(((JpG i).1.filter λm=>decide (m≠-t.1))++(Jy t.2).filter (λm=>decide (m≠t.1)),(JpG i).2++[t.2],):=by rw[es];unfold e_;rw[eb];rfl
   let L:=eb;unfold cG at L;rw[Bool.and_eq_true,Bool.and_eq_true]at L;let pin:-t.1∈(JpG i).1:=oDq L.1;let yn:t.2≠-1:=oDq L.2.1;let(y0,y1,_):=ok.why t tm yn;let(kvs,k1,k2,k3,k4):=M.k;obtain⟨v,hv⟩:∃v,Q_ X1=some v:=by have:=k2 X1;rw[dTq pin]at this;exact Option.isSome_iff_exists.mp this
   apply aD (2,c,rfl,Jbb kvs k1,2,p,4,hp3,rfl,2,kvs,Sum.inl X1,v,k1,rfl,hv,?_);let hK4:Kst (Joc H3 c X1) c _ _:=Kst.pop (p:=-t.1) k2 k3 k4;let O:cL c H3 (Joc H3 c X1):=Jfo _;let kt34:=O.kt k1;let y:ap o (Joc H3 c X1):=M.sb.upd W.nk;let v4:JiC (Joc H3 c X1) ld:=by let(g,l1,l2):=M.v;exact(g,O _ _ (Ne.symm W.kv) l1,l2)
   let U:I≠c:=λe=>by erw[<-e,M.h]at k1
   let h4:(Joc H3 c X1) I=_:=O _ _ U M.h;let G:=kt34.sq hp3;generalize Joc H3 c X1=H4 at hK4 y v4 h4 G;let(l,j1,j2,j3,j4):=hK4;let(q',hq1,Y):=atI_row (ar.keep y.kt JfM hL) y0 y1;let R:(Jy t.2).length<=100:=r100 _ (mO (jb y0 y1));apply(2,JaL (Qk rfl (Qk l j1)),7,p,4,G,rfl,S,4,y.seq hS,hq1,q',rfl,Mr Y,λDl hDl=>gH cS (λj ys H'=>Xd H4/\V3 ((((Jy t.2).take j).filter λm=>decide (m≠t.1)).map dQT) ys) (λj ys H' h_=>by let(B,_):=h_;exact B.tup Y) (Nn hDl,.nil) ?_ ?_)
   .rintro j ys H5 x H6 hj hly J ⟨B,hy⟩ ⟨rfl,hx'⟩;let(m,hm,rfl):=ck (hx' _ (B.tup Y));let et:(((Jy t.2).take (j+1)).filter λm=>decide (m≠t.1))=if m≠t.1 then(((Jy t.2).take j).filter λm=>decide (m≠t.1))++[m] else((Jy t.2).take j).filter λm=>decide (m≠t.1):=by
     rw[a_ hm,List.filter_append];by_cases z:m=t.1
     .rw[if_neg (λh=>h z),List.filter_cons,if_neg (by simp [z]),List.filter_nil,List.append_nil]
     .rw[if_pos z,List.filter_cons,Jah z,List.filter_nil]
    apply(7,p,4,B.tup G,6,2,?_);by_cases z:m=t.1
    .rw[show Yw (!decide (Jou m t.1)) by rw[dTq (by rw[z])];rfl];apply JkD hj hly J B;simp_all
    .rw[show Vi (!decide (Jou m t.1)) by lia];apply aD (JoR (λu hu'=>?_));let Q:IB H6 H6 u (JeD m):=Nn hu';let hD6:=Q _ _ J;apply cv (lM<|>Jdr _) hj hly hD6 (Qm ((B.trans Q).upd hDl));rwa[et,if_pos z,mAq]at Ip (ar.keep (Q.kt.trans (bj.lst hD6)) (rn _) hy) (wY ((bj.lst hD6).sq WV))
   rintro ys H5 J ⟨B,hy⟩;rw[lM,NF _]at hy;let(pl,pp):=wZ hy;generalize hpt:((Jy t.2).filter λm=>decide (m≠t.1))=d at pl pp hy e2;let lpt:NJ d.length:=by rwa[<-hpt]at Jcv _ R
   apply JS Dl ys (tkv d) (SqL.of J) pl pp (λb hb=>?_);let Q:ap H5 (Jb1 H5 b d):=Nn hb;let X:=B _ _ j1;let nkb:c≠b:=cn X hb;let lm:(Jb0 d).length<=d.length:=(kJ d).2;apply JO c b l (Jb0 d) rfl nkb (Q _ _ X) ao (by rw[sizeLine_eq];lia) ?_;let C:=B.trans Q;let x7:cL c JqD (Vc JqD c (bE l (Jb0 d))):=Jfo _;let hp7:=(x7.kt (Q _ _ X)).sq (C.tup G);let h7:=x7 _ _ U (C _ _ h4);let v7':JiC (Vc JqD c (bE l (Jb0 d))) ld:=by let(g,l1,l2):=v4;exact(g,x7 _ _ (Ne.symm W.kv) (C _ _ l1),l2)
   let hl2:=Cj Rs ts fl i;apply GX _ (U_ h7) _ rfl p _ _ _ rfl rfl hp7 rfl I _ _ rfl rfl h7 (dV Q9) ?_;apply QD (((y.trans C).upd W.nk).upd W.nh,(bE l (Jb0 d),?_,λm=>?_,?_,xi (xm d) j4),9,W.nk,W.nv,W.nh,W.kv)
   .rwa[UK U]at ao
   .rw[Ce,j2,e2];show(decide (m∈_)||decide (m∈d))=decide (m∈_++d);by_cases z1:m∈(JpG i).1.filter λm=>decide (m≠-t.1)
    .rw[dTq z1,dTq (Ma z1)];rfl
    .rwa[dFq z1,Bool.false_or]at JbR (λz=>Xb z) (λz=>(mPq z).resolve_left z1)
   .have:=Cg (Jb0 d) l;lia
   .let(g,l1,l2):=v7';apply(g,?_,l2);rwa[aq (Lev.ne (g,l1,l2) h7).symm]at l1
   .rw[e2];show Xa _ (HO.lst (List.map VG (_++[t.2])));rwa[mAq]at ao
 .rintro σ H' ⟨v7,rfl,W⟩;rw[zl]at W;exact q5 D o H' N ld c I zs Rs ts fl _ _ _ _ v7 W.sb (W.sb.seq hZ) (Vz W.sb.kt _ hT) ok l100 W.k W.v W.h q
def Fc (T:Jfq K)(a:Xu 1 "is_replaced" fR dR' Jeq (nN K))
  {cdv:Value}{A:Around}{outer:List Env}{s:Shared}{H0:Hp}{E:XK}(hr:Jl3 2 "learnt" s_learnt):
  ∃t,Jjn (JmQ P w K mg NLn "learnt" s_learnt f A s H0 E).nox ((zas s_learnt).drop 2)/\
   ∀(D:g_) (b H:Hp) (y L ld:Addr) (xs zs:List V) (Rs:Xg Int) (ts:Mm Int) (fl:Int),Uv b y->Ql b Jss xs->Qj b L zs->Ql b (ts.map dP) zs->JgH fl->NJ Wm->(∀r∈Rs,NJ r.length)->ap b H->JpB ld->JiC H ld->
    (∀(H':Hp) (t Z th:Addr) (m:Int),No b (JpB t->Vy t (UV Z th m)->Vy Z ((JJ fl).map V.int)->Vy th ((Jjs fl).reverse.map V.int)->jJ (((JJ fl).drop 1).map Jem) m->Jpc (.ref t)))->
    t D [Ja y,Ja L,Ya fl,Ja ld,Ya (cnt ts),none,none,none,none,none] H:=by
 let(t4,h4,q4):=Fb (f:=f) (outer:=outer) (H0:=H0) (E:=E) T a hr;apply Ym (Qb (JfW (i:=5) jn.nd rfl rfl (JdI (qW rfl) rfl T.dict (Jsy ["part"] [] (λ_=>JfH []) Xf (cU (JnU 0 2)) (λ_ _ _ _=>(cb (WG 0 cZ)))))) (Jsz 6 jn.nd (JoL 2)) h4)
 rfl'
 rintro D b H y L ld xs zs Rs ts fl hS hL hZ hT z B g M R hv q;let(q',X,n):=atI_row (ar.keep M.kt JfM hL) z.f0 z.f1;let Q:(Jy fl).length<=100:=g _ (mO (jb z.f0 z.f1));apply(7,y,4,M.seq hS,X,q',rfl,Mr n,λDl G=>dw cS (λj ys H'=>Xd H/\V3 (((Jy fl).take j).map dQT) ys) (λj ys H' h_=>by let(c,_):=h_;exact c.tup n) (Nn G,.nil) ?_ ?_)
 .rintro j ys J x I hj Y o ⟨c,N⟩ ⟨rfl,U⟩;let(m,hm,rfl):=ck (U _ (c.tup n));apply JoR (λu W=>?_);let v:IB I I u (JeD m):=Nn W;let p:=v _ _ o;apply cv (lM<|>Jdr _) hj Y p (Qm ((c.trans v).upd G));rwa[a_ hm,mAq]at Ip (ar.keep (v.kt.trans (bj.lst p)) (rn _) N) (wY ((bj.lst p).sq WV))
 rintro ys J o ⟨c,N⟩;rw[lM,NF _]at N;let(pl,pp):=wZ N;apply JS Dl ys (tkv (Jy fl)) (SqL.of o) pl pp (λl d=>?_);let v:ap J (Jb1 J l (Jy fl)):=Nn d;let hk:Kst (Jb1 J l (Jy fl)) l (Jy fl) (Jy fl).length:=Kst.of;let C:=(hv.same c).same v;let k:=(M.trans c).trans v;let S:JpB l:=(M.trans c).free d;let kv:l≠ld:=λe=>by let(lvs,l1,_):=hv.same c;erw[e,l1]at d
 generalize Jb1 J l (Jy fl)=I at hk C k;apply JoQ lS1 (λhl F=>?_);let O:Jd3 I I hl (X3 fl):=Nn F;let(kvs,k1,k2,k3,k4):=hk.same O;exact q4 D b _ y L ld l hl xs zs Rs ts fl hS hL hZ hT z B g (k.trans O,Jmo kvs k1 k2 k4,C.same O,ao,S,R,k.free F,kv) q
def ok_learnt (F:Jr_ "learnt" s_learnt)(T:Jfq K)(a:Xu 2 "part_levels" fP dP' ["trail"] (tS K))(d:Xu 1 "is_replaced" fR dR' Jeq (nN K)):JA 3 ["rows","trail","fails"] (sp_learnt K):=by
 apply Jq_ jn M
 let(S,o,fl,xs,zs,Rs,ts,rfl,hS,hL,B,C,G,n,r,q):=h;let hu:=dc M;let(t2,h2,Y):=Fc (f:=f) (outer:=outer) (H0:=H) (E:=E) T d M;let l:JcR ts.length:=by rw[<-C.length,lM]
 apply Ym (Qb (JfW (i:=3) jn.nd rfl rfl (JfP a.ok M a.m a.kp a.b 1)) (Jsz 4 jn.nd (iT (Ji5 (ME 1)) (Jpq hu 3 (NG Jme) (λV V=>rfl)) af)) h2)
 rfl'
 apply JnK _ o zs ts B C n G.nd (λH1 ld y I v=>?_);let x:=λD'=>Y D' H H1 S o ld xs zs Rs ts fl hS hL B C G n r y I v;apply Jgu _ o zs (.inl (y.seq B)) _ _ _ rfl JbK
 .let X:Ge ((zs.length:Nat):Int):=oDq c;let W:ts≠[]:=λz=>by rw[z]at l;simp at l;rw[l]at X;simp at X
  obtain⟨j,t,rfl⟩:∃j t,ts=j++[t]:=(ts.dropLast,ts.getLast W,(List.dropLast_concat_getLast W).symm);let O:=Vz y.kt _ C;let L:(j++[t])[j.length]?=some t:=by rw[List.getElem?_append_right (nRq _),Nat.sub_self];rfl
  rw[lAq]at l;simp only[lS]at l;obtain⟨D,z,R⟩:∃D z,zs=D++[z]:=by
   let U:zs≠[]:=λe=>by rw[e]at l;simp at l
   exact(zs.dropLast,zs.getLast U,(List.dropLast_concat_getLast U).symm)
  let Z:D.length=j.length:=by rw[R,lAq]at l;simp only[lS]at l;lia
  let hz:zs[j.length]?=some z:=by rw[R,<-Z,List.getElem?_append_right (nRq _),Nat.sub_self];rfl
  let(t',p,u,rfl,hp):=hU O hz;erw[L]at u;let N:atI zs (-1)=some (.ref p):=by rwa[R]at n_ _ _
  let(lvs,l1,l2):=id v;let g:=Jsx (Sum.inl X1) l1;let J:-t.1∈negs (j++[t]):=mO (kL L);let lv:lvF (j++[t]) X1=cnt (j++[t]):=by rw[dZ G.nd L,tO (lAq<|>nRq _)]
  rw[l2,if_pos J,lv]at g;exact(2,7,o,4,y.seq B,N,p,4,hp,rfl,2,ld,2,g,x _ q)
 .let e0:ts=[]:=by let h1:¬(Ge ((zs.length:Nat):Int)):=λz=>JaN z;exact List.length_eq_zero_iff.mp Jn
  subst e0;exact x _ q
end Le53
namespace H53
open PySem L2 K53
abbrev bmV:List Value:=[.type "ValueError",.type "Exception",.type "BaseException",.type "object"]
def Fun.okX (F:Xv x qual st)(S:Je N ps st)
  (a:∀(cdv:Value) (A:Around) (outer:List Env) (s:Shared) (H:Hp) (vs:List V) (Q:VK) (E:XK),Jl3 k qual st→sp vs H Q E →
   ∃t,Jjn (JfN (CX1 P w) P w K mg N qual st f A s H E) (zas st)/\t { nx:=λy H'=>Q .non H',rt:=Q } (JhR N) H)(b:∀vs H Q E,sp vs H Q E->N1 vs.length:=by intro _ _ _ _ h;cases h;subst_vars;rfl):Jc9 P w K mg P w (k+1) f fd ps sp:=by let(l,od,kV,i,j,o,cdv,n,e,rfl,g,d):=F.ex;exact qu g d S b λA outer s H vs Q E h c=>a cdv A outer s H vs Q E h c
def xe1:Xe1 (UX (CX1 P w) P w K mg N qual scope f cd A s H E) E:=Jcw rfl
structure TxH (K)(C):Prop where
 cl:Jj3 K
 n_problem:Jml "problem"
 n_most:Jml "most"
 n_known:Jml "known"
 n_paper:Jml "paper"
 n_trail:Jml "trail"
 n_held:Jml "held"
 n_looked:Jml "looked"
 n_begins:Jml "begins"
 n_watched:Jml "watched"
 n_watching:Jml "watching"
 n_order:Jml "order"
 n_lately:Jml "lately"
def Fd:(JeQ A).lookup ("problem":Str)=some (.ref pr):=rfl
def Fe:(JeQ A).lookup ("most":Str)=some (.int most):=rfl
def jX:(JeQ A).lookup ("known":Str)=some (.ref A.kn):=rfl
def tT:(JeQ A).lookup ("paper":Str)=some (.ref A.pp):=rfl
def iu:(JeQ A).lookup ("trail":Str)=some (.ref A.tr):=rfl
def iv:(JeQ A).lookup ("held":Str)=some (.ref A.hd):=rfl
def tU:(JeQ A).lookup ("looked":Str)=some (.int lk):=rfl
def tV:(JeQ A).lookup ("begins":Str)=some (.ref A.bg):=rfl
def tW:(JeQ A).lookup ("watched":Str)=some (.ref A.wd):=rfl
def nO:(JeQ A).lookup ("watching":Str)=some (.ref A.wg):=rfl
def tX:(JeQ A).lookup ("order":Str)=some (.ref A.od):=rfl
def zi:(JeQ A).lookup ("lately":Str)=some (.ref A.lt):=rfl
abbrev zj:Stmt:=yj
abbrev zk:Stmt:=yk
abbrev zm:Stmt:=yo
def cV (p:Int):Prop:=-100<=p/\Jfm p
inductive jY (K)(C):Sp|m{vs H Q E9} (A) (F O) (pr) (most) (S) (R) (p y):JnS (vs=JbI A.h p y) (Jdf F O H A S R) (cV p) S.ts.length ((∀H' O' R',JpO (GE F O' H' A (S.hold p y) (S.hold p y).hs R') (eJ R R'))->jY K C vs H Q E9)
def Ff:Jsw JdF zj:=fsc
def Fg (S:HS)(p y):(S.hold p y).hs=S.hs++[p]:=by show(S.ts++[(p,y,)]).map Yy=_;rw[mAq];rfl
def Hu.zlen (U:G_ F):NV R.zs.length:=by rw[<-U.u.tr.length,lM]
def Fh (F:Xv "hold" "Hunt.hold" zj)(T:Jfv C):JjL JdF (jY K C):=by
 apply Jq_ Ff n
 let(A,x,O,i,a,S,R,p,y,rfl,U,o,z,q):=h;let j:=dc n;apply Ym (JdY (Jjh Wa (JoK (VJ 1 2))) (Jo7 j 0 1 cZ));rfl'
 let d:=Jbp 3;apply(2,Ig,C,Ui,_,2,JeN,Yt,Nt,iu,U_ d,7,lS2,λl c=>?_);let e:=JlV c p y;let b:=e.at' 3 rfl rfl;let(D,B,v,r):=U.hold o c;let g:=e.setTr (ts:=S.ts++[(p,y,)]) (mAq<|>Ip e.u.tr (of_dP WV))
 apply Jk6 A.tr _ _ b (hln (by rw[Hu.zlen U];lia)) ?_;apply(2,Ig,C,Ui,_,2,g.ins,Yt,Jel,iv,2,A.hd,2,Jc7 (k:=Sum.inl p) (g.at' 4 rfl rfl) U.u.hd.len,?_);exact q _ _ _ (Fg<|>v) r
inductive pU (K)(C):Sp|m{vs H Q E9} (A) (F O) (pr) (most) (S) (R) (r a b):vs=[.ref A.h,.int r,.int a,.int b]->Jdf F O H A S R->cV r->cV a->cV b->(S.wg a).length<=199000->(S.wg b).length<=199000->(∀H' O' R',JmO F O' H' A (S.watch r a b) R' (JpN (R'.xs=R.xs)))->pU K C vs H Q E9
def Fj:Jsw JaB zk:=fsc
def Fl (F:Xv "watch" "Hunt.watch" zk)(T:Jfv C):JjL JaB (pU K C):=by
 apply Jq_ Fj N
 let(A,p,O,L,d,S,R,r,a,b,rfl,U,i,Y,X,la,Z,q):=h;let M:=dc N;apply Ym (Qb (Jo7 M 0 1 (cb Jrr)) (Jog (mX Wa (WG 2 (bK ac))) 1) (Jbk cR Jsj (Uc 1)));rfl'
 apply MA _ _ lS2 (λl v=>?_);let J:IB p p l (Xw a b):=Nn (U.t.none v).2;let o:=JlV v a b;let n:=(o.setWd i WV).base J;apply(2,Ig,C,Ui,_,2,o.ins,Yt,T.n_watched,tW,2,A.wd,2,Jc7 (k:=Sum.inl r) (o.at' 6 rfl rfl) U.u.wd.len,?_);apply(2,Ig,C,Ui,_,2,n.ins,Yt,JkF,nO,Gz A.wg _ (n.at' 7 rfl rfl),2,lS0,λe W=>?_);apply n.setd (r:=r) Y W λl1 H1 B h_=>?_;let(O3,R3,g,_,I):=h_;apply(U_ B,2,l1,3,B,hln (by rw[lM];show(S.wg a).length<=_;lia),?_);rw[mAq]at g;apply(2,Ig,C,Ui,_,2,g.ins,Yt,JkF,nO,Gz A.wg _ (g.at' 7 rfl rfl),2,lS0,λe2 j=>?_);apply g.setd (r:=r) X j λl2 H2 z h_=>?_;let(O4,R4,D,_,G):=h_;apply(U_ z,2,l2,3,z,hln ?_,?_)
 .rw[lM];show(if b=a then Jhs b [r] else S.wg b).length≤_
  split
  .rw[lAq];show _+1<=_;lia
  .lia
 .rw[mAq]at D;exact q _ _ _ D (G.trans I)
def Fm (h:Mf (fu (row.take i) o hs))(b:row[i]?=some k)(f:k≠o)(d:-k∉hs):fu row o hs=some k:=by
 let c:=(gEq b).1;let e:row=row.take i++k::row.drop (i+1):=by have:=N_ row;rw[List.drop_eq_getElem_cons c]at this;let a:=gG c;lia
 unfold fu at h⊢;rw[e,List.find?_append,h,List.find?_cons_of_pos]
 .rfl
 .simp [f,d]
def zo {a hs:List Int}{o k:Int}{i:Nat}(h:Mf (fu (a.take i) o hs))(c:a[i]?=some k)(b:k=o\/-k∈hs):Mf (fu (a.take Xi) o hs):=by
 rw[a_ c];unfold fu at h⊢;rw[List.find?_append,h,List.find?_cons_of_neg]
 .rfl
 lia
def FinQ (K:W.Frag)(C:Addr)(F:Hp)(A:HA)(d:Addr)(a:Int)(S:HS)(R:HC)(r o:Int)(Q:VK):Option Int->Prop
 |some q=>∀H' c b,Hu K C F c H' A d a ((JgI o q).addG q r) S.hs b->eJ R b->QB H'
 |none=>∀H' c b,Hu K C F c H' A d a S S.hs b->eJ R b->JlN H'
inductive tY (K)(C):Sp|m{vs H Q E9} (A) (F O) (pr) (most) (S) (R) (r o):vs=JbI A.h r o->JmO F O H A S R (cV r->0<=r->r<(S.rs.length:Int)->(∀p∈U8 r,cV p)->(∀c,(S.wg c).length<=199000)->FinQ K C F A pr most S R r o Q (fu (U8 r) o S.hs)->tY K C vs H Q E9)
def zp:Je ["self","number","other","part"] (Ur "number") zm:=fsc
def Fn (F:Xv "finds" "Hunt.finds" zm)(T:Jfv C):JjL (Ur "number") (tY K C):=by
 apply XF zp
 let(A,L,O,pr,j,S,R,r,o,rfl,U,kr,r0,r1,X,hw,q):=h;let M:=dc hr;apply Ym (QZ (JlS (cU (aI aM Wa WA)) (i:=3) zp.nd (be (JcX (IX eE 3 UA) (Jex M (JaS 3) Wa)) (NX (Jo7 M 0 1 (cb Jrr)) (Jog Jsj 1) cZ)
     aU)) cZ);rfl'
 let(a,e1,p):=Le53.atI_row U.u.kn r0 r1;generalize N:U8 r=B at p X q;apply(2,Ig,C,Ui,_,2,JeN,Yt,JiY,jX,2,A.kn,4,Jgs 1,e1,a,rfl,Mr p,JcP cS (λi n H'=>∃v:Option V,An3 (n=[Ja Ig,Ya r,Ya o,v]) (H'=H) (Mf (fu (B.take i) o S.hs))) (λi n H' h=>by let(_,_,e):=h;exact e▸p) (Jcw none))
 .rintro i n H1 x H2 hi ⟨v,rfl,rfl,g⟩ ⟨rfl,hx⟩;let(k,b,rfl):=GY _ p;let kk:=X k (mO b);let Z:=je S.hs (-k);apply Jk6 _ rfl _ _ rfl JbK
  .let G:k≠o:=λz=>by rw[z]at c;simp at c
   apply(2,7,Ig,C,Ui,_,2,JeN,Yt,Jel,iv,A.hd,2,U.held _,2,bo (λd=>?_) (λd=>?_))
   .rw[Z]at d;let D:-k∉S.hs:=λz=>by erw[dTq z]at d
    let ef:=Fm g b G D;rw[ef]at q;apply MA _ _ lS2 (λl W=>?_);let sF:IB L L l (Xw o k):=Nn (U.t.none W).2;let J:=JlV W o k;let I:=(J.setWd kr WV).base sF;apply(2,Ig,C,Ui,_,2,J.ins,Yt,T.n_watched,tW,2,A.wd,2,Jc7 (k:=Sum.inl r) (J.at' 6 rfl rfl) U.u.wd.len,?_);apply(2,Ig,C,Ui,_,2,I.ins,Yt,JkF,nO,Gz A.wg _ (I.at' 7 rfl rfl),2,lS0,λe he=>?_);apply I.setd (r:=r) kk he λl1 H3 Y h_=>?_;let(O3,R3,U3,g3):=h_;apply(U_ Y,2,l1,3,Y,hln (by rw[lM];have:=hw k;show(S.wg k).length<=_;lia),?_);rw[mAq]at U3;exact q _ _ _ U3 g3
   .rw[Z]at d;let D:=Decidable.byContradiction λz=>by rw[dFq z]at d;exact d rfl
    exact Jbj _ (zo g b (.inr D))
  .let G:k=o:=Decidable.byContradiction λz=>c (by simp [z]);exact Jbj _ (zo g b (.inl G))
 .rintro n H' ⟨v,rfl,rfl,g⟩;rw[lM,List.take_length]at g;rw[g]at q;exact q _ _ _ U (Wf (λy y z=>z))
abbrev zq:Stmt:=yp
def eJ.trans {e R2 d:HC}(a:eJ e R2)(b:eJ R2 d):eJ e d:=(λc v h=>b.1 c v (a.1 c v h),b.2.trans a.2)
noncomputable def oI:JlG Int V
 |none=>.non
 |some f=>.int f
def WOk.glen (W:WOk S g k)(x):(g x).length<=S.rs.length:=ip _ (W.nd x) λr c=>by let(a,b,h,_):=(W.gw r x).mp c;exact(W.is r a b h).2.2.2
def LkI.glen (a:WOk S0 S0.wg k)(I:LkI n k c S0 (S0.wg c) i st)(x):(st.1.wg x).length<=S0.rs.length:=by
 by_cases e:x=c
 .rwa[e,I.wc]at Jgg a
 .have:=WOk.glen I.w x;rw[if_neg e,I.rs]at this;exact this
structure SpL (n)(B)(Y)(S)(c):Prop where
 m:cB n B Y S
 n40:n<=40
 rl:Jh7 199000
 t0:∃t0,S.ts[S.lk]?=some t0/\c=-t0.1
inductive tZ (K)(C):Sp|m{vs H Q E9} (A) (F O) (pr) (most) (S) (R) (c) (n) (B) (Y):vs=UJ A.h c->JmO F O H A S R (SpL n B Y S c->(∀H' O' R',GE F O' H' A (eH S c).1 (eH S c).1.hs R'->Q (oI (eH S c).2) H')->tZ K C vs H Q E9)
def jZ:JgV ["self","part","fails","stay","number","pair","other"] "part" zq:=fsc
def Hu.pair (U:G_ F){r a b:Int}(h:N4 r (a,b,)):∃q,cg H A.wd (.int r) (Ja q)/\SqT K H q (Xw a b):=by
 let d:=Jsx (Sum.inl r) (Jbp 6);rw[U.u.wd.val]at d;let w:=U.u.wr r;rw[h]at w;generalize e:R.gw r=g at w d;cases w with
 |is c=>exact Q5 d c
set_option tactic.hygienic true in
def Fo (F:Xv "look_at" "Hunt.look_at" zq)(T:Jfv C)(mF:XY "finds" fF)(BF:Jid 1 fF dF "number" (tY K C))(bF:JaI dF "number")
  (mH:Jjd fH)(BH:Vn 1 fH dH JdF (jY K C))(bH:JnN dH):JA 2 (Wo "part") (tZ K C):=by
 apply XF jZ
 let(A,F',O,pr,d,S,R,c,n,B,Y,rfl,U,L,q):=h;let hu:=dc hr;apply Ym (Jdb (i:=2) jZ.nd eC (i:=3) jZ.nd (bK ac) (NX (JG (dr (kF hu Wa WA (bK ac) Jft)) (i:=4) jZ.nd (Jdb (i:=5) jZ.nd (i_ hu Wa JeA (λ_ _=>rfl)) (i:=6) jZ.nd (iT (J9 bD 5 WA) Jrs Jrs) (Jh2 (JkV hu (pv 6) Wa) (Jg3 3 (Uc 4)) (aj (be (GK (JH 0 mF BF hr bF (VJ 4 6))) (JdY (Jog MJ 4) (be (JkV hu (JaS 6) Wa) (aj (Jsz 2 jZ.nd JeA)) (QS 0 mH BH hr bH (VJ 6 4))))
       aU))))) (Jo7 hu 0 1 MJ) UA));rfl'
 let(t0,ht0,ec):=L.t0;let hc:-c∈S.hs:=by rwa[ec,Int.neg_neg]at eG ht0
 let I:=LkI.all L.m (by have:=L.n40;lia) hc;let hrng:∀r,0<=r->r<(S.rs.length:Int)->∀p∈U8 r,cV p:=λr h0 h1 p hp=>by have:=((L.m.b.row _ (oJ h0 h1)).2 p hp).2;have:=L.n40;unfold cV;lia
 let hkc:cV c:=by have:=L.m.b.rng t0 (mO ht0);have:=L.n40;unfold cV;let z:=lqR (Nat.le_trans ‹_› this);rwa[ec]at(Int.le_trans Jp (Int.neg_le_neg z.2),Int.lt_of_le_of_lt (Int.neg_le_of_neg_le z.1) Jp)
 apply JfX VE;let fl0:=(U.t.none hl).2;let U1:=U.newF hl (.lst []);let s1:ap F' (GB F' l):=Nn fl0;let hl1:=Jsu F' l (.lst []);generalize GB H l=H1 at U1;generalize GB F' l=F1 at U1 s1 hl1;apply(2,Ig,C,Ui,_,2,U1.ins,Yt,JkF,nO,A.wg,rfl,Jbb _ (U1.at' 7 rfl rfl),2,lS0,λe he=>?_);let U2:=U1.newF he (.lst []);let fe1:=(U1.t.none he).2;let s2:ap F1 (JmD F1):=Nn fe1;let he2:=Jsu F1 e (.lst []);let hl2:=s2 _ _ hl1;let nle:e≠l:=λz=>by erw[z,hl1]at fe1
 let s02:=s1.trans s2;generalize JmD H1=H2 at U2;generalize JmD F1=M at U2 s2 he2 hl2 s02;let dg:=Jsx (Sum.inl c) (U2.at' 7 rfl rfl);rw[U2.u.wg.val]at dg;obtain⟨a,ea,ha⟩:∃a,(R.gg c).getD (.ref e)=.ref a/\(R.gg c=Ja a\/(a=e/\S.wg c=[])):=by
  cases h:R.gg c with
  |none=>exact Nd e (Jl rfl (U.gg0 h))
  |some v=>
   let(l1,rfl,_):=U.gg1 h;exact Nd l1 (.inl rfl)
 let lst:∀{i:Nat} {Fi Oi Hi:Hp} {st:LkS} {N:HC},Hu K C Fi Oi Hi A pr d st.1 st.1.hs N->eJ R N->st.1.wg c=S.wg c->(∀b,b≠l->Fi b=M b)->Hi a=some (.lst ((S.wg c).map VG)):=λ{i Fi Oi Hi st N} g Z wc fi=>by
  rcases ha with ha|⟨ha,hw⟩
  .let(l1,e1,h1):=g.gg1 (Z.1 _ _ ha);lia
  .rwa[hw,ha]at g.t.f _ _ (by rw[fi _ nle];exact he2)
 let fiN:∀(o:HO) b,b≠l->upd M l o b=M b:=λo b nb=>aq nb;apply Ym dg;rw[ea];apply JmE a (lst (i:=0) (st:=(S,[],none,)) U2 (Wf (λ_ _ z=>z)) rfl λ_ _=>rfl) (JcP (dv (xs:=(S.wg c).map VG)) (λi σ H'=>Ex5 λ(v4 v5 v6:Option V) (Oi:Hp) (N:HC)=>An4 (σ=[Ja Ig,Ya c,some (oI (di S c i).2.2),Ja l,v4,v5,v6]) (i<=(S.wg c).length) (Hu K C (Va M l ((di S c i).2.1.map VG)) Oi H' A pr d (di S c i).1 (di S c i).1.hs N) (eJ R N)) (λi σ H' h=>by let(_,_,_,_,_,_,hi,g,Z):=h;exact SqL.of (lst (i:=i) g Z (I i hi).wc (fiN _))) (none,none,none,O,R,rfl,Nat.zero_le _,?_,Wf (λ_ _ z=>z)))
 .let e0:Va M l ((di S c 0).2.1.map VG)=M:=by
   funext b;unfold upd;split
   .rename_i z;rwa[z]at hl2.symm
   .rfl
  rwa[e0]at U2
 .rintro i σ H' x H'' hi ⟨v4,v5,v6,Oi,N,rfl,hi',g,Z⟩ ⟨rfl,hx⟩;let Ii:=I i hi';let(r,hr1,rfl):=GY _ (SqL.of (lst (i:=i) g Z Ii.wc (fiN _)));let hi1:i+1≤(S.wg c).length:=(gEq hr1).1;let sE:=xH hr1;generalize hst:di S c i=st at g Ii sE;let(y,sy,fl):=st;dsimp only at g;let hrc:r∈(λx=>if x=c then sy++(S.wg c).drop i else y.wg x) c:=by
   show r∈if c=c then sy++(S.wg c).drop i else y.wg c
   rwa[if_pos rfl]at Xb (by have:=List.getElem?_drop (xs:=S.wg c) (i:=i) (j:=0);rw[Nat.add_zero,hr1]at this;exact mO this)
  let(ow,oc,W,crow,r0,r1):=xI Ii.w hrc;let Irs:y.rs=S.rs:=Ii.rs;dsimp only at ow oc W crow r1;rw[Irs]at W crow r1;let hko:cV (UT y):=hrng r r0 r1 _ W;let hkr:cV r:=by have:=L.rl;unfold cV;lia
  let syl:sy.length<=199000:=by have:=Jgg Ii.w;rw[if_pos rfl,Ii.rs,lAq]at this;let this:sy.length+_<=_:=this;have:=L.rl;lia
  obtain⟨a',b',wab,oab⟩:∃a b,Xa (y.wt r) (a,b,)/\UT y=if a=c then b else a:=by
   rcases ow with z|z
   .exact(5,z,(if_pos rfl).symm)
   .exact(5,z,(if_neg oc).symm)
  let(pq,dq,hq):=Hu.pair g wab;let at0:JmK a' b'=some (.int a'):=Jsv 0;let at1:Jjf a' b'=some (.int b'):=Jsv 1;let stay:∀{Fx Ox Hx:Hp} {Sx:HS} {hx:List Int} {Rx:HC},Hu K C (Va M l (sy.map VG)) Ox Hx A pr d Sx hx Rx->Ia (Hx l) (sy.map VG)/\Hu K C (Va M l ((sy++[r]).map VG)) Ox (Va Hx l (sy.map VG++X3 r)) A pr d Sx hx Rx:=λ{Fx Ox Hx Sx hx Rx} Ux=>by let h1:=Ux.frmL (u:=.lst (sy.map VG++X3 r)) ao;rw[vk]at h1;apply Qm (Ux.t.f _ _ ao);rwa[mAq]at h1
  apply(2,Ig,C,Ui,_,2,g.ins,Yt,T.n_watched,tW,2,A.wd,2,dq,?_);apply(2,pq,4,hq,at0,_,6,2,?_);let o1:a'=c->b'=zat y c r:=λz=>by rw[oab,if_pos z]
  let o2:a'≠c->a'=zat y c r:=λz=>by rw[oab,if_neg z]
  apply(λk=>bo (λJ=>(2,pq,4,hq,at1,by rwa[o1 (by have:=oDq J;injection this)]at k)) (λJ=>(2,pq,4,hq,at0,by simp_all))) ?_;let D:=sE;unfold L2.stepK at D;dsimp only at D;generalize UT y=o at *;let fin:∀(st:LkS),di S c Xi=st->∀(v4 v5 v6:Option V) Ox Rx Hx,Hu K C (Va M l (st.2.1.map VG)) Ox Hx A pr d st.1 st.1.hs Rx->eJ R Rx->
    Ex5 λ(w4 w5 w6:Option V) (Oi:Hp) (N:HC)=>An4 ([Ja Ig,Ya c,some (oI st.2.2),Ja l,v4,v5,v6]=[Ja Ig,Ya c,some (oI (di S c Xi).2.2),Ja l,w4,w5,w6]) (i+1<=(S.wg c).length) (Hu K C (Va M l ((di S c Xi).2.1.map VG)) Oi Hx A pr d (di S c Xi).1 (di S c Xi).1.hs N) (eJ R N):=λst e v4 v5 v6 Ox Rx Hx h1 h2=>by subst e;exact(v4,v5,v6,Ox,Rx,rfl,hi1,h1,h2)
  let g1:=je y.hs o;let g2:=je y.hs (-o);apply GX _ _ rfl Ig C Ui _ _ rfl g.ins Yt Jel iv A.hd _ rfl (g.held o) _ rfl (bo (λJ=>?_) (λJ=>?_))
  .rw[g1]at J;let J:=oDq J;rw[if_pos J]at D;let(X,U3):=stay (Fx:=M) g;apply Jgu _ (U_ X) _ l _ _ X (hln Q9) ?_;exact fin _ D _ _ _ _ _ _ U3 Z
  .rw[g1]at J;let J:o∉y.hs:=λz=>J Jrb;rw[if_neg J]at D;apply(2,Ig,Ui,2,g.ins,rfl,7,A,_,Oi,pr,d,y,N,r,o,rfl,g,hkr,r0,(Irs<|>r1),(Irs<|>hrng r r0 r1),(λx=>Nat.le_trans (LkI.glen L.m.w Ii x) L.rl),?_);cases hf:fu (aY y.rs r) o y.hs with
   |some qq=>
    rw[hf]at D;intro H3 O3 R3 U3 g3;apply QD (IP (λG=>XC G));exact fin _ D _ _ _ _ _ _ U3 (Jpt Z)
   | none =>
    rw[hf]at D;dsimp only at D;intro H3 O3 R3 U3 g3;apply QD (Go (λG=>absurd (show Vi (!false) from rfl) G));let(X,U4):=stay (Fx:=M) U3;apply Jgu _ (U_ X) _ l _ _ X (hln Q9) ?_;apply(2,7,Ig,C,Ui,_,2,U4.ins,Yt,Jel,iv,A.hd,2,U4.held (-o),2,bo (λG=>?_) (λG=>?_))
    .rw[g2]at G;let G:=oDq G;rw[if_pos G]at D;apply Ym rfl;exact fin _ D _ _ _ _ _ _ U4 (Jpt Z)
    .rw[g2]at G;let G:-o∉y.hs:=λz=>G Jrb;rw[if_neg G]at D;apply(2,Ig,Ui,2,U4.ins,rfl,7,A,_,O3,pr,d,y,R3,o,r,rfl,U4,hko,?_,λH5 O5 R5 U5 g5=>?_)
     .have:=Ii.tok.len;lia
     .exact fin _ D _ _ _ _ _ _ U5 (eJ.trans (Jpt Z) g5)
 .rintro σ H' ⟨v4,v5,v6,Oi,N,rfl,hi',g,Z⟩;rw[lM]at g hi';let sF:Jd3 F' M l ((di S c (S.wg c).length).2.1.map VG):=λb o h=>by rwa[aq (λz=>by erw[z,fl0]at h)]at s02 b o h
  let(O3,R3,U3,_,_):=g.give hkc ao fl0 sF;apply GX _ _ rfl Ig C Ui _ _ rfl g.ins Yt JkF nO _ rfl A.wg _ rfl (Jc7 (k:=Sum.inl c) (g.at' 7 rfl rfl) g.u.wg.len) ?_;apply Ym rfl;rwa[lM]at q _ _ _ U3
abbrev t_:Stmt:=yt
def Fp:Yp e (λx x x=>False):=λx x x x x x h=>h.elim
structure TxB (K)(mg:QT Str)(CL):Prop where
 len:Jg "len"
 reversed:Jg "reversed"
 abs:Jg "abs"
 enumerate:Jg "enumerate"
 sorted:Jg "sorted"
 tuple:Jg "tuple"
 list:Jg "list"
 range:Jg "range"
 blong:Jo2 "TooLong" CL
 xlong:Vi (W.excIn K CL bmV "ValueError.__new__")
def gP (ts:Mm Int)(ps:List Int):List Int:=(negs ts).reverse.filter λp=>decide (p∈ps)
structure SpP (K)(H)(S:HS)(ln tp)(l)(ps:List Int):Prop where
 has:Qx K H l ln
 nl:Jcc l
 sq:∃x0 x2,Vo ln [x0,.ref tp,x2]
 tp:WI tp
 pl:JpA 199000
 rl:Jh7 198000
 tl:NJ Jb6
 tr:∀t∈IR,-60<=t.1/\t.1<=60
 nd:(negs IR).Nodup
 gl:∀c,(S.wg c).length<=198000
inductive pV (K)(C CL):Sp|m{vs H Q E} (A) (F O) (pr) (most) (S) (R) (ln tp) (l) (ps):vs=Iw A.h ln->JmO F O H A S R (SpP K H S ln tp l ps->(most<=(S.pp.length:Int)->JdG CL H)->((S.pp.length:Int)<most->∀H' O' R',JmO F O' H' A (JpV (JiG ps)) R' (Jgi (S.rs.length:Int)))->pV K C CL vs H Q E)
def zr:JgV (Wr "line" "latest") "line" t_:=fsc
theorem zt:∀b bs,bX (b++bs)=(bX b&&bX bs)
 |[],bs=>by rfl
 |a::b,bs=>by simp only[List.cons_append,bX,zt b bs,Bool.and_assoc]
def ok_put (F:Xv "put" "Hunt.put" t_)(T:Jfv C)(W:Jjm K)(mW:XY "watch" fW)(BW:Vn 1 fW dW JaB (pU K C))(bW:Yj dW JaB):Jc9 P w K mg P w 2 f fd (Wo "line") (pV K C CL):=by
 apply Fun.okX F zr λcdv A outer s H vs Q E hr h=>?_
 let(A,F',O,pr,d,S,R,ln,D,l,ps,rfl,U,L,qE,qQ):=h;apply Ym (ae (be (aA jv JiD Wa) (aj (Dz xe1 rfl rfl W.blong PySem.F.excBase_ValueError W.xlong (Yb ba)))
   aU) (Qb (Jog Wa 1) (Jjh Wa (VX 1)) (NX (wo (i:=2) (N':=["step","line"]) (ix:=[1]) zr.nd rfl (Or.inl rfl) rfl rfl Jv Jv rfl (λok=>JsD (ai t_)) Jv rfl rfl Xe (rz rfl W.reversed (Mv 0)) (λm m m m=>(aA (r:=rIn K false) vS (Jlm (r:=du K)) (Jkv (r:=du K) 1) rfl)) (λm m m m=>(Jlm (r:=du K)))) (be (Ji5 (Ve ah W.len bLq Jqi)) (QS 0 mW BW hr bW (X8 (XI gC JiD) (Uf aM 2) (Uf aM 2)))
   aU) (XI gC JiD))));rfl'
 let yl:R.ys.length=S.pp.length:=by rw[<-U.u.pp.length]
 let xl:R.xs.length=S.rs.length:=by rw[<-U.u.kn.length,lM]
 let(x0,x2,sq):=L.sq;apply(2,Ig,C,Ui,_,2,JeN,Yt,T.n_paper,tT,A.pp,2,Yc (Jbp 2),2,Ig,C,Ui,_,2,JeN,Yt,T.n_most,Fe,3,2,Mg XN)
 .let q:=oDq c;rw[yl]at q;exact((by show Qd 1;decide),qE q)
 let q:¬d<=(R.ys.length:Int):=λz=>JaN z;rw[yl]at q;let qQ:=qQ (by simp_all);let G:=U.setPp (Ip U.u.pp L.has) (by rw[zt,U.u.pn];simp only[bX,L.nl,Bool.and_self]);apply(2,Ig,C,Ui,_,2,JeN,Yt,T.n_paper,tT,U_ (Jbp 2),2,A.pp,3,Jbp 2,hln (by rw[yl];have:=L.pl;lia),?_);let k1:Jjk A.pp (JhB R.ys ln):=bj.oth (Jbp 2) cH.1 cH.2;let y:=k1.sq sq;let v:=k1.sq L.tp;generalize N8 A.pp (JhB R.ys ln)=H1 at G y v;clear k1;let at1:Jcn [x0,V.ref D,x2]=some (.ref D):=Jsv 1;apply(2,Ig,C,Ui,_,2,G.ins,Yt,JiY,jX,U_ (G.at' 1 rfl rfl),2,ln,4,y,at1,A.kn,3,G.at' 1 rfl rfl,hln (by rw[xl];have:=L.rl;lia),?_);let X:=G.setKn (rs:=Jne ps) (xs:=JhB R.xs D) (mAq<|>Ip G.u.kn (kG v));let k2:bj H1 (JhC H1 A.kn R.xs D):=bj.oth (G.at' 1 rfl rfl) cH.1 cH.2;let Z:=k2.sq y;let Y:=k2.sq v;generalize JhC H1 A.kn R.xs D=H2 at X Z Y;clear k2 y v G;let hS:Qj H2 A.tr R.zs:=SqL.of (X.at' 3 rfl rfl);let hL:Ql H2 (S.ts.map dP) R.zs:=X.u.tr;let zl:NV R.zs.length:=Hu.zlen U;let np:(negs IR).reverse.length=S.ts.length:=by rw[List.length_reverse,ig]
 let tl:=L.tl;apply(2,Ig,C,Ui,_,2,X.ins,Yt,Nt,iu,A.tr,R.zs,rfl,hS,λDl B=>gH rq (λi ys H'=>Xd H2/\ys=(((negs IR).reverse.take i).filter λp=>decide (p∈ps)).map VG) (λi ys H' h_=>by let(k,_):=h_;exact k.seq hS) (UI B) ?_ ?_)
 .rintro i ys H' x H'' hi hly g ⟨k,rfl⟩ ⟨rfl,hx⟩;let(t,p,ht,rfl,hp):=hU hL (hx _ (k.seq hS));let e0:R.zs.length-1-i=S.ts.length-1-i:=by rw[zl]
  rw[e0]at ht;let hr':(negs IR).reverse[i]?=some (-t.1):=by rw[xn,List.getElem?_map,ja (by simp_all),ht];rfl
  let et:(((negs IR).reverse.take Xi).filter λp=>decide (p∈ps))=if -t.1∈ps then(((negs IR).reverse.take i).filter λp=>decide (p∈ps))++[-t.1] else((negs IR).reverse.take i).filter λp=>decide (p∈ps):=by
   rw[a_ hr',List.filter_append];by_cases e:-t.1∈ps
   .rw[if_pos e,List.filter_cons,Jah e];rfl
   .rw[if_neg e,List.filter_cons,if_neg (by simp [e]),List.filter_nil,List.append_nil]
  apply(2,p,4,k.tup hp,rfl,7,ln,4,k.tup Z,at1,D,2,.inr (k.tup Y),rfl,kH _,2,?_);rw[if_neg (by decide:¬Vi false),jH];by_cases e:-t.1∈ps
  .rw[dTq e];apply aD (JN _ p _ _ _ rfl rfl (k.tup hp) rfl _ rfl (JbA _ hi hly g (k.upd B)));rw[et,if_pos e,mAq];rfl
  .rw[dFq e];apply JkD hi hly g k;rw[et,if_neg e]
 rintro ys H3 g ⟨k,rfl⟩;rw[zl,tO (Nat.le_of_eq np)]at g;let eLat:((negs IR).reverse.filter λp=>decide (p∈ps))=gP IR ps:=rfl;rw[eLat]at g;let N:=X.more k B g;let sF:Jd3 F' F' Dl ((JiG ps).map VG):=Nn (X.t.none B).2;let I:∀a∈JiG ps,cV a:=λa ha=>by have:=(List.mem_filter.mp ha).1;let(i,t,ht,e):=mw (List.mem_reverse.mp this);have:=L.tr t (mO ht);unfold cV;lia
 let kr:cV ((S.rs.length:Nat):Int):=by have:=L.rl;unfold cV;lia
 let J:∀H' O' R',Hu K C F' O' H' A pr d (JpV (JiG ps)) S.hs R'->Q (.int (((R'.xs.length:Nat):Int)-1)) H':=λH' O' R' U'=>by
  let e:R'.xs.length=S.rs.length+1:=by rw[<-U'.u.kn.length,lM];show(Jne ps).length=_;rw[lAq];rfl
  rwa[e,show((S.rs.length+1:Nat):Int)-1=(S.rs.length:Int) by lia]at qQ H' O' R' U'
 let h3:=SqL.of (K:=K) (N.t.f _ _ ao);generalize JiG ps=lat at N sF I J h3 g;apply Jgu _ Dl _ (.inl h3) _ _ _ rfl JbK
 .let q:(1:Int)<(((lat.map VG).length:Nat):Int):=oDq c;rw[lM]at q;rcases lat with _ | ⟨a,_ | ⟨b,o⟩⟩
  .exact XC q
  .exact Yn q
  .let a0:J7 ((a :: b :: o).map VG)=some (.int a):=Jsv 0;let a1:Jcn ((a :: b :: o).map VG)=some (.int b):=Jsv 1;let xe:R.xs.length+1=S.rs.length+1:=by rw[xl]
   let gl:∀c,(S.wg c).length<=199000:=λc=>Jd (L.gl c);let nE:(((R.xs++[V.ref D]).length:Nat):Int)-1=((S.rs.length:Nat):Int):=by rw[lAq,xl];show((S.rs.length+1:Nat):Int)-1=_;lia
   apply(2,Ig,Ui,2,N.ins,rfl,2,Ig,C,Ui,_,2,N.ins,Yt,JiY,jX,A.kn,2,Yc (N.at' 1 rfl rfl),3,2,Dl,4,h3,a0,2,Dl,4,h3,a1,A,5,pr,d,5,((S.rs.length:Nat):Int),a,b,?_,N,kr,I a Js,I b Js,gl a,gl b,λH4 O4 R4 U4 m=>?_)
   .exact congrArg (λz=>[V.ref Ig,.int z,.int a,.int b]) nE
   .let M:=U4.base sF;exact GX _ Ig C Ui _ _ rfl M.ins Yt JiY jX A.kn _ rfl Jso _ _ rfl rfl (J _ _ _ M)
 .let q:¬(1:Int)<(((lat.map VG).length:Nat):Int):=λz=>JaN z;rw[lM]at q;let M:=N.base sF;rcases lat with _ | ⟨a,_ | ⟨b,o⟩⟩
  iterate 2
   .exact GX _ Ig C Ui _ _ rfl M.ins Yt JiY jX A.kn _ rfl Jso _ _ rfl rfl (J _ _ _ M)
  .exact absurd (by simp only[List.length_cons];lia) q
abbrev s_cut:Stmt:=yu
def sIx_nat (h:j<=n):JhX n d (j:Int)=j:=by
 unfold HT.sIx;exact Nat.min_eq_left h
theorem o_ {xs:List V}{j:Nat}(h:Jhn j):Jo_ xs (j:Int)=xs.take j:=by unfold eY;rw[sIx_nat h];rfl
def Fq {xs:List V}{j:Nat}(h:Jhn j):eY xs (some (j:Int)) none=xs.drop j:=by unfold eY;rwa[sIx_nat h]at tO (by rw[List.length_drop];exact nRq _)
def Fs (h:∀x,x∈hs↔x=p\/x∈hs')(n:p∉hs'):(λx=>if x=p then none else gW hs x)=gW hs':=by
 funext x;unfold gW;by_cases e:x=p
 .rw[if_pos e,if_neg (e▸n)]
 .rw[if_neg e];by_cases c:x∈hs'
  .rw[if_pos c,if_pos ((h x).mpr (.inr c))]
  .rw[if_neg c,if_neg (λz=>((h x).mp z).elim e c)]
def j_ (la:JfF Int):Prop:=∀a x,Xa (la a) x->x=a\/x=-a
def j_.put (h:j_ la)(p):j_ λz=>if z=(if p<0 then -p else p) then some p else la z:=λa x e=>by
 let e:(if a=(if p<0 then -p else p) then some p else la a)=some x:=e
 by_cases c:a=(if p<0 then -p else p)
 .erw[if_pos c]at e;rw[c];split;exact .inr (Int.neg_neg _).symm;exact .inl rfl
 .rw[if_neg c]at e;exact h a x e
structure LaX (S:HS)(j)(la):Prop where
 ok:j_ la
 p:LaP IR (λx=>j<=x) S.la la
structure SpC (S:HS)(m:Int):Prop where
 tok:JhY Jqf
 bs:S.bs=Jnb IR
 m0:0<=m
 la:j_ S.la
inductive pW (K)(C):Sp|m{vs H Q E9} (A) (F O) (pr) (most) (S) (R) (m):vs=UJ A.h m->JmO F O H A S R (SpC S m->(∀A' H' O' R' j la,JkL m j->LaX S j la->JpO (A'.h=A.h) (GE F O' H' A' (JaE j) (JaE j).hs R'))->pW K C vs H Q E9)
def uc:JgV ["self","level","begin","step"] "level" s_cut:=fsc
def ok_cut (F:Xv "cut" "Hunt.cut" s_cut)(T:Jfv C)(TB:Jjm K):JjL (Wo "level") (pW K C):=by
 apply XF uc
 let(A,N,O,pr,G,S,R,m,rfl,U,L,q):=h;let hu:=dc hr;apply Ym (JdY (JbU (aA da (Jll 0) WA) (Nm (i:=2) uc.nd (Jc2 qy Wa) (JsF (dr (iY vQ Wa (iX UA) iW)) 3 uc.nd (JdY (ak (wI Wa JqP Jft)) (JkE hu 0 (IC jw TB.abs (VX 3)) JqP))) (aj (JmI (iY vQ Wa iW (iX UA)))))) (JmI (Jll 0)));rfl'
 apply Gc (λk W H'=>Ex7 λ v2 X A' O' B j la=>An7 (W=[Ja Ig,Ya m,v2,X]) (k=(GJ 0 j).length) (A'.h=Ig) (Jpu j) ((JdU j->m<NI (j+1))) (LaX S j la) (Hu K C N O' H' A' pr G { S with ts:=S.ts.take j,bs:=bsF 0 Yl,la:=la } ((S.ts.take j).map Yy) B)) (_,none,none,A,O,R,Jb6,S.la,rfl,6,nRq _,λz=>Mu z _,(L.la,λz=>(λi t hi ht=>absurd (gEq ht).1 Jn,λ_=>rfl)),?_)
 .rwa[List.take_length,<-L.bs]at U
 rintro k W H1 ⟨v2,X,A',O',B,j,la,rfl,ek,I,jl,hj,b,U1⟩;let hbg:=U1.at' 5 rfl rfl;let i1:=U1.ins;rw[I]at i1;apply(2,Ig,C,A'.dx,_,2,i1,Yt,T.n_begins,tV,A'.bg,2,Yc hbg,2,3,2,Mg XN)
 .let c1:=oDq c;rw[lM,oM]at c1;let ne:GJ 0 j≠[]:=λz=>by let h1:=oM Yl;rw[z]at h1;let h1:(0:Int)=_:=h1;have:=L.m0;lia
  let(i,t,ht,t1,eb,ec):=CO _ ne;let it:=iK ht;let tt:(S.ts.take j).take i=S.ts.take i:=by rw[List.take_take,Nat.min_eq_left (by lia)]
  rw[tt]at eb ec;apply Ym (λ_ _ z=>z);let jl2:(S.ts.take j).length=j:=by rw[List.length_take];lia
  let U2:=U1.setBg (GJ 0 i);generalize JhQ O' A'.bg=O2 at U2;let dl:((GJ 0 j).map VG).dropLast=(GJ 0 i).map V.int:=by rwa[eb,mAq]at List.dropLast_concat
  let Y:((GJ 0 j).map VG)[((GJ 0 j).map VG).length-1]?=some (.int (i:Int)):=by rw[eb,mAq];simp
  apply GX _ Ig C A'.dx _ _ rfl i1 Yt T.n_begins tV (U_ hbg) A'.bg _ _ rfl rfl hbg Y ?_;show(_:Prop);rw[dl];generalize JhQ H1 A'.bg=H2 at U2;let i2:=U2.ins;rw[I]at i2;let zl:B.zs.length=j:=by rwa[Hu.zlen U1]at jl2
  let htr:=U2.at' 3 rfl rfl;apply GX _ Ig C A'.dx _ _ rfl i2 Yt Nt iu _ rfl _ rfl A'.tr _ rfl (SqL.of htr) (λn hn=>?_);rw[Fq (by rw[zl];lia)];let U3:=U2.newF hn (.lst Jek);let fn:=(U2.t.none hn).2;let sF:Jd3 N N n (B.zs.drop i):=Nn fn;let J:=Jsu N n (.lst Jek);generalize Va H2 n Jek=H3 at U3;generalize Va N n Jek=F3 at U3 sF J;let D:=L.tok.take j;apply JmE n (U3.t.f _ _ J) (JcP (dv) (λd W H'=>Ex4 λ X Ox y la=>An5 (W=[Ja Ig,Ya m,Ya (i:Int),X]) ((j_ la/\LaP IR (λx=>j<=x\/i<=x/\x<i+d) S.la la)) (y.zs=B.zs) (i+d<=j) (Hu K C F3 Ox H' A' pr G { S with ts:=S.ts.take j,bs:=bsF 0 (S.ts.take i),la:=la } ((S.ts.take i++(S.ts.take j).drop (i+d)).map Yy) y)) (λd W H' h=>by let(_,_,_,_,_,_,_,_,r):=h;exact SqL.of (r.t.f _ _ J)) (JeW X O2 B la (b.ok,b.p.imp λx _=> or_iff_left (λe=>absurd e.2 (Nat.not_lt.mpr e.1))) rfl Jn ?_))
  .let e0:S.ts.take i++(S.ts.take j).drop (i+0)=S.ts.take j:=by rw[←tt,Nat.add_zero,List.take_append_drop]
   rwa[e0]at U3
  .rintro d W H' x H'' hd ⟨X,Ox,y,la,rfl,b,ez,hd2,r⟩ ⟨rfl,hx⟩;let hx:=hx _ (SqL.of (r.t.f _ _ J));rw[List.getElem?_drop,←ez]at hx;let(u,p,g,rfl,hp):=hU r.u.tr hx;let g:=g;let hd3:i+d<j:=by have:=(gEq g).1;simp_all
   let dE:(S.ts.take j).drop (i+d)=u::(S.ts.take j).drop (i+(d+1)):=by rw[List.drop_eq_getElem_cons (by simp [*])];let e2:=gG (l:=S.ts.take j) (i:=i+d) (by simp [*]);lia
   let hin:∀x,x∈(S.ts.take i++(S.ts.take j).drop (i+d)).map Yy↔x=u.1\/x∈(S.ts.take i++(S.ts.take j).drop (i+(d+1))).map Prod.fst:=λx=>by
    rw[dE];simp only[mAq,List.map_cons,List.mem_append,List.mem_cons];exact or_left_comm
   let hnot:u.1∉(S.ts.take i++(S.ts.take j).drop (i+(d+1))).map Prod.fst:=λz=>by
    rw[mAq]at z;rcases mPq z with z|z
    .rw[<-tt]at z;let(a,v,ha,hv):=jc z;let h1:=iK ha;have:=D.same_ix g h1.2 hv.symm;lia
    .let(a,v,ha,hv):=jc z;rw[List.getElem?_drop]at ha;have:=D.same_ix g ha hv.symm;lia
   let uE:-60<=u.1/\u.1<=60:=(D _ _ g).2.1;let ix:=r.ins;rw[I]at ix;let M:=r.setHd (kh:=WF y.kh u.1) (hs':=(S.ts.take i++(S.ts.take j).drop (i+(d+1))).map Yy) (by rwa[<-Fs hin hnot]at r.u.hd.drop u.1);let val:Vh y.kh u.1=some (.bl true):=by rwa[r.u.hd.val]at if_pos ((hin _).mpr (.inl rfl))
   apply(2,Ig,C,A'.dx,_,2,ix,Yt,Jel,iv,A'.hd,rfl,Jbb _ (r.at' 4 rfl rfl),2,p,4,hp,rfl,y.kh,Sum.inl u.1,_,r.at' 4 rfl rfl,rfl,val,?_);let k1:bj H'' (Jij H'' A'.hd y.kh u.1):=bj.oth (r.at' 4 rfl rfl) ee.1 ee.2;let Z:=k1.sq hp;generalize Jij H'' A'.hd y.kh u.1=H4 at M Z;let iy:=M.ins;rw[I]at iy;let kp:-100<=(if u.1<0 then -u.1 else u.1)/\Jfm (if u.1<0 then -u.1 else u.1):=by split<;>lia
   let Uz:=M.setLt (c:=if u.1<0 then -u.1 else u.1) kp u.1
   apply(2,p,4,Z,rfl,2,Ig,C,A'.dx,_,2,iy,Yt,T.n_lately,zi,2,p,4,Z,rfl,2,A'.lt,2,Jc7 (k:=Sum.inl (if u.1<0 then -u.1 else u.1)) (M.at' 9 rfl rfl) M.u.lt.len,?_)
   apply JeW _ _ _ _ (b.1.put u.1,b.2.put L.tok (iK g).2 λx=>Jn) ?_ ?_ Uz
   .exact ez
   .lia
  .rintro W H' ⟨X,Ox,y,la,rfl,b,ez,hd2,r⟩;let dn:(B.zs.drop i).length=j-i:=by rw[List.length_drop,zl]
   rw[dn,show i+(j-i)=j by exact Nat.add_sub_of_le (Nat.le_of_add_right_le hd2),List.drop_of_length_le (by lia),List.append_nil]at r;let ix:=r.ins;rw[I]at ix;apply GX _ Ig C A'.dx _ _ rfl ix Yt Nt iu _ rfl _ rfl A'.tr _ rfl (SqL.of (r.at' 3 rfl rfl)) (λn2 hn2=>?_);let zl2:y.zs.length=j:=by rw[ez,zl]
   rw[o_ (by rw[zl2];lia)];let M:=r.newF hn2 (.lst (y.zs.take i));let fn2:=(r.t.none hn2).2;let sF2:Jd3 F3 F3 n2 (y.zs.take i):=Nn fn2;let f02:Mf (N n2):=by
    cases e:N n2 with
    |none=>rfl
    |some o=>have:=sF _ _ e;erw[fn2]at this
   let hz:Ql (Va H' n2 (y.zs.take i)) ((S.ts.take i).map dP) (y.zs.take i):=by rwa[<-tt,List.map_take]at ar.take i M.u.tr
   let(O5,U5):=M.moveTr (ts:=S.ts.take i) ao hz f02 (sF.trans sF2);let iy:=M.ins;rw[I]at iy;apply WQ _ Ig C A'.dx _ iy Yt Nt (by show JcN 12;decide) ?_;apply(_,?_,5,{ A' with tr:=n2 },O5,{ y with zs:=y.zs.take i },i,la,6,I,Jn,λ_=>?_,(b.1,b.2.imp λx _=>by rwa[dn,Nat.add_sub_of_le (Nat.le_of_lt it.1)]at(λh=>(Nat.lt_or_ge _ j).elim (λg=>Jl h g) .inl,λh=>h.elim (Nat.le_trans (Nat.le_of_lt it.1)) And.left)),?_)
   .rw[ek,eb,lAq];show _<_+1;lia
   .rw[kK it.2];unfold zaS;rw[if_pos t1];simp_all
   .rwa[<-I]at U5
 .let c1:¬m<((((GJ 0 j).map VG).length:Nat):Int):=λz=>JaN z;rw[lM,oM]at c1;let zl:B.zs.length=j:=by rw[Hu.zlen U1];show(S.ts.take j).length=j;rw[List.length_take];lia
  apply(2,Ig,C,A'.dx,_,2,i1,Yt,Nt,iu,A'.tr,2,Yc (U1.at' 3 rfl rfl),2,Ig,C,A'.dx,2,i1,Yt,Jrj,(by show JcN 12;decide),?_);rw[zl,<-I];apply q A' _ _ _ j la (jl,λi hi=>?_,hj) b I (U1.setLk j);have:=JsG IR (i+1) j;lia
abbrev zu:Stmt:=yx
abbrev ud:Stmt:=yz
def Ft {b:Type}{p:b->Bool}{xs:List b}{i:Nat}{k:b}(h:(xs.take i).find? p=none)(c:xs[i]?=some k)(f:Vi (p k)):xs.find? p=some k:=by
 let d:=(gEq c).1;let e:xs=xs.take i++k::xs.drop (i+1):=by have:=N_ xs;rw[List.drop_eq_getElem_cons d]at this;let a:=gG d;lia
 rw[e,List.find?_append,h,List.find?_cons_of_pos f];rfl
def zv {a:Type}{p:a->Bool}{xs:List a}{i:Nat}{k:a}(h:(xs.take i).find? p=none)(c:xs[i]?=some k)(b:Yw (p k)):(xs.take Xi).find? p=none:=by rw[a_ c,List.find?_append,h,List.find?_cons_of_neg (by rw[b];decide)];rfl
def ChQ (K:W.Frag)(C:Addr)(F O H:Hp)(A:HA)(c:Addr)(b:Int)(S:HS)(R:HC)(Q:VK):Option Int->Prop
 |some a=>∀H' e d,Hu K C F e H' A c b (S.pick a) (S.pick a).hs d->QB H'
 |none=>JlN H
structure SpCh (S:HS):Prop where
 tl:NJ Jb6
 bl:Jr S.bs.length
 od:∀a∈S.od,1<=a/\a<=60
 la:j_ S.la
inductive ue (K)(C):Sp|m{vs H Q E9} (A) (F O) (pr) (most) (S) (R):vs=Vj A.h->JmO F O H A S R (SpCh S->ChQ K C F O H A pr most S R Q (kT S)->ue K C vs H Q E9)
def zw:Je (Wo "atom") ["self"] zu:=fsc
def Fu (F:Xv "choose" "Hunt.choose" zu)(T:Jfv C)(TB:Jjm K)(W:Jjd fH)(BH:Vn 1 fH dH JdF (jY K C))(bH:JnN dH):JA 2 ["self"] (ue K C):=by
 apply Jq_ zw D
 let(A,M,O,B,b,S,R,rfl,U,L,q):=h;let t:=dc D;apply Ym (QZ (JlS (dr Wa) (i:=1) zw.nd (be (JcX (Jex t WA Wa) (Jex t (JaS 1) Wa)) (NX (Jjh Wa (Yb (Jll 0))) (ak (JH 0 W BH D bH (Qh (kF t Wa WA (JaS 1) Jft) JdK))) cZ)
     aU)) cZ);rfl'
 let g:=Jbp 8;apply(2,Ig,C,Ui,_,2,JeN,Yt,T.n_order,tX,A.od,rfl,UC g,JcP dv (λi o H'=>∃r:Option V,An3 (o=[Ja Ig,r]) (H'=H) ((S.od.take i).find? (λa=>decide (a∉S.hs)&&decide (-a∉S.hs))=none)) (λi o H' h=>by let(_,_,e,_):=h;exact e▸SqL.of g) (Jcw none))
 .rintro i o H1 x H2 hi ⟨r,rfl,rfl,d⟩ ⟨rfl,X⟩;let(a,p,rfl):=ck (X _ (SqL.of g));let I:=je S.hs a;let G:=je S.hs (-a);let aR:=L.od a (mO p);apply GX _ _ rfl Ig C Ui _ _ rfl JeN Yt Jel iv A.hd _ rfl (U.held a) _ rfl JbK
  .rw[I]at c;let y:a∉S.hs:=λz=>by erw[dTq z]at c
   apply(2,7,Ig,C,Ui,_,2,JeN,Yt,Jel,iv,A.hd,2,U.held _,2,bo (λj=>?_) (λj=>?_))
   .rw[G]at j;let v:-a∉S.hs:=λz=>by erw[dTq z]at j
    let Z:kT S=some a:=Ft d p (by simp [y,v]);rw[Z]at q;let n:=Jbp 5;let l:=U.setBg (S.bs++[(S.ts.length:Int)]);rw[mAq]at l;apply(2,Ig,C,Ui,_,2,JeN,Yt,T.n_begins,tV,U_ n,2,Ig,C,Ui,_,2,JeN,Yt,Nt,iu,A.tr,2,Yc (Jbp 3),A.bg,3,n,hln (by rw[lM];have:=L.bl;lia),?_);rw[Hu.zlen U];let J:=Jsx (Sum.inl a) (l.at' 9 rfl rfl);rw[l.u.lt.val]at J;let N:((S.la a).map VG).getD (.int (-a))=.int ((S.la a).getD (-a)):=by cases S.la a<;>rfl
    let Y:(S.la a).getD (-a)=a\/(S.la a).getD (-a)=-a:=by
     cases e:S.la a with
     |none=>exact .inr rfl
     |some x=>exact L.la a x e
    apply(2,Ig,Ui,2,l.ins,rfl,2,Ig,C,Ui,_,2,l.ins,Yt,T.n_lately,zi,A.lt,rfl,Jbb _ (l.at' 9 rfl rfl),2,7,_,J,?_);apply(2,A,M,_,B,b,5,(S.la a).getD (-a),-1,?_,l,9,λH' O' R' U' m=>?_)
    .exact congrArg (λz=>Wu (V.ref Ig) z (-1)) N
    .unfold cV;lia
    .have:=L.tl;lia
    .exact q H' O' R' U'
   .rw[G]at j;let v:=Decidable.byContradiction λz=>by rw[dFq z]at j;exact j rfl
    exact Jbj _ (zv d p (by simp [v]))
  .rw[I]at c;let y:=Decidable.byContradiction λz=>by rw[dFq z]at c;exact c rfl
   exact Jbj _ (zv d p (by simp [y]))
 .rintro o H' ⟨r,rfl,rfl,d⟩;rw[lM,List.take_length]at d;let d:Mf (kT S):=d;rw[d]at q;exact q
theorem zx:∀{c bs:List Int},c.Pairwise Q3->bs.Pairwise Q3->(∀x,x∈c↔x∈bs)->c=bs
 |[],[],_,_,_=>rfl
 |[],b::bs,_,_,h=>absurd ((h b).mpr VI) (λz=>nomatch z)
 |a::c,[],_,_,h=>absurd ((h a).mp VI) (λz=>nomatch z)
 | a :: c,b :: bs,k,j,h=>by
  let(d,i):=List.pairwise_cons.mp k;let(q1,g):=List.pairwise_cons.mp j;let e:a=b:=by
   rcases List.mem_cons.mp ((h a).mp VI) with z|z
   .exact z
   .rcases List.mem_cons.mp ((h b).mpr VI) with y | y
    .exact y.symm
    .have:=d b y;have:=q1 a z;lia
  subst e;rw[zx i g λx=>?_];constructor
  .intro z;rcases List.mem_cons.mp ((h x).mp (Jb z)) with y | y
   .have:=d x z;lia
   .exact y
  .intro z;rcases List.mem_cons.mp ((h x).mpr (Jb z)) with y | y
   .have:=q1 x z;lia
   .exact y
noncomputable def upN (n:Nat):List Int:=(List.range n).map λi:Nat=>(i:Int)+1
def lP:a∈upN n↔1<=a/\a<=n:=by
 unfold upN;rw[List.mem_map];constructor
 .rintro ⟨i,b,rfl⟩;have:=List.mem_range.mp b;lia
 .intro h;exact((a-1).toNat,List.mem_range.mpr Jn,by rw[Int.toNat_of_nonneg (Int.sub_nonneg_of_le h.1),Int.sub_add_cancel])
def uf (n):(upN n).Pairwise (· < ·):=by apply List.pairwise_map.mpr (List.pairwise_lt_range.imp λ{a b} h=>?_);simp_all
def eA (n:Nat)(hs:List Int):List Int:=(upN n).map λa=>if a∈hs then a else -a
inductive ug (K)(C):Sp|m{vs H Q E9} (A) (F O) (pr) (most) (S) (R) (n:Nat):vs=Vj A.h->JmO F O H A S R (n<=40->(∀a:Int,a∈S.od↔1<=a/\a<=n)->S.od.Nodup->(∀H' l,JlW l (Vy l ((Jbx n).map V.int)) l)->ug K C vs H Q E9)
def Fw:Jsw ["self"] ud:=fsc
def Fy (F:Xv "held_parts" "Hunt.held_parts" ud)(T:Jfv C)(TB:Jjm K):JjL ["self"] (ug K C):=by
 apply XF Fw
 let(A,F',O,pr,v,S,R,n,rfl,U,n40,od,u,q):=h;let hu:=dc hr;apply Ym (Nc (Qz jz rfl TB.tuple (Jsy ["atom","self"] [0] (λok=>JsD (ai ud)) Xe (dr (UN oQ TB.sorted (Mv 0))) (λm m m m=>(iT (JkV hu IN (rQ K rfl WA rfl)) IN Jrg)))));rfl'
 let odl:S.od.length<=n:=by
  have:=ip n (xs:=S.od.map λa=>a-1) (List.pairwise_map.mpr (u.imp λ{a b} h z=>h Jn)) λx J=>by let(a,L,rfl):=List.mem_map.mp J;have:=(od a).mp L;lia
  rw[lM]at this;exact this
 apply(2,Ig,C,Ui,_,2,JeN,Yt,T.n_order,tX,A.od,S.od,rfl,Jgs 8,Vk (Nat.le_trans ‹_› ‹_›),λl W hl Y so=>?_);let k:W=upN n:=by
  apply zx ?_ (uf n) λx=>by rw[Y.mem_iff,od,lP]
  let nd:=Y.nodup_iff.mpr u;exact(so.and nd).imp λ{a b} h=>by have:=h.1;have:=h.2;lia
 subst k;let I:M9 (N8 l ((upN n).map VG)):=Nn hl;let B:=Jsu H l (.lst ((upN n).map VG));generalize Jm l _=H1 at I B;let p:(upN n).length=n:=by unfold upN;rw[lM,List.length_range]
 apply JmE l B (λD M=>Jg8 dv (λi us H'=>Xd H1/\us=((Jbx n).take i).map VG) (λi us H' h_=>by let(g,_):=h_;exact Jno _ _ B) M)
 .rintro i us H2 x H3 hi y d ⟨g,rfl⟩ ⟨rfl,J⟩;let(a,L,rfl):=ck (J _ (Jno _ _ B));let U2:=U.same (I.trans g);let Z:=je S.hs a;let hH:(Jbx n)[i]?=some (if Jnc a then a else -a):=by unfold eA;rw[List.getElem?_map,L];rfl
  let G:((Jbx n).take Xi).map VG=((Jbx n).take i).map VG++X3 (if Jnc a then a else -a):=by rw[a_ hH,mAq];rfl
  rw[lM,p]at hi;apply GX _ _ rfl Ig C Ui _ _ rfl U2.ins Yt Jel iv A.hd _ rfl (U2.held a) _ rfl JbK
  .rw[Z]at c;let N:=oDq c;rw[if_pos N]at G;exact QD (MC _ (by rw[lM,p];lia) (by rw[lM,p];lia) y d (g.upd M,G.symm))
  .rw[Z]at c;let N:a∉S.hs:=λz=>JaN z;rw[if_neg N]at G;exact Jnw _ _ (MC _ (by rw[lM,p];lia) (by rw[lM,p];lia) y d (g.upd M,G.symm))
 .rintro us H2 d ⟨g,rfl⟩;let e:(Jbx n).take ((upN n).map VG).length=eA n S.hs:=by apply tO ?_;unfold eA;rwa[lM,lM]at nRq _
  rw[e]at d;apply Gz D _ (JcT d (λt X=>?_));let r:=I.trans g;exact q _ t (r.trans (Nn X)) (r.free X) ao
abbrev lQ:Stmt:=yw
def nP:JgV ["self","fails","told","parts","forcing","fresh"] "fails" lQ:=fsc
def zy {ps od:List Int}{n:Nat}(e:∀p∈ps,Joj 0)(b:∀a:Int,a∈od↔1<=a/\a<=n)(a):a∈gM ps od↔1<=a/\a<=n:=by
 unfold gM;rw[List.mem_append,List.mem_filter,decide_eq_true_eq];constructor
 .rintro (z | ⟨z,_⟩)
  .let(p,d,rfl):=List.mem_map.mp z;have:=e p d;unfold zaW;split<;>lia
  .exact(b a).mp z
 .intro h;by_cases c:a∈ps.map zaW
  .exact .inl c
  .exact Jl ((b a).mpr h) c
def zA (g:(ps.map zaW).Nodup)(f:od.Nodup):(gM ps od).Nodup:=by apply Vp g (f.filter _) (λa d b c e=>?_);have:=(List.mem_filter.mp c).2;lia
structure TlF (K)(H)(S)(t tp th)(ps:List Int)(m y:Int)(n):Prop where
 t:Vo t (UV tp th m)
 tp:WI tp
 c:SpC S m
 n40:n<=40
 pr:∀p∈ps,Joj 0
 pl:NJ JrY
 od:∀a:Int,a∈S.od↔1<=a/\a<=n
 odn:S.od.Nodup
def odlen {od:List Int}{n:Nat}(h:∀a:Int,a∈od↔1<=a/\a<=n)(c:od.Nodup):od.length<=n:=by
 have:=ip n (xs:=od.map λa=>a-1) (List.pairwise_map.mpr (c.imp λ{a b} h z=>h Jn)) λx d=>by let(a,e,rfl):=List.mem_map.mp d;have:=(h a).mp e;lia
 rw[lM]at this;exact this
def learn3 (T:Jfv C)(TB:Jjm K)(mH:Jjd fH)(BH:Vn 1 fH dH JdF (jY K C))(bH:JnN dH)
  (mC:XY "cut" fC)(BC:X4 1 fC dC "level" (pW K C))(bC:VA dC "level")
  {cdv:Value}{Ar:Around}{outer:List Env}{s:Shared}{H0:Hp}{E:XK}(hr:ag 1 (Ar.deeper (J6 "Hunt.learn" lQ f cdv))):
  ∃z,PSs (JfN (CX1 P w) P w K mg ["self","fails","told","parts","forcing","fresh"] "Hunt.learn" lQ f Ar s H0 E) ((zas lQ).drop 3) z/\
   ∀D A F O H pr d S R t B th ps fl m y n,Hu K C F O H A pr d S S.hs R->TlF K H S t B th ps m y n->(ps=[]->D.rt (.bl false) H)->
    (∀a rest,ps=Nx a->∀A' H' O' R' j la,JkL m j->LaX S j la->A'.h=A.h->Hu K C F O' H' A' pr d { (JaE j).hold a y with od:=gM ps S.od } ((JaE j).hold a y).hs R'->Jpc (.bl true))->
    z D [Ja A.h,Ya fl,Ja t,Ja B,Ya y,none] H:=by
 apply Ym (ae (be (Q4 (Jp5 3)) Jre
   aU) (Qb (ak (JH 0 mC BC hr bC (VX 2))) (ak (JH 0 mH BH hr bH (IT JqP 4))) (NX (JfW (i:=5) nP.nd rfl rfl (JsA ["part"] [] (λ_=>JfH []) Xf (V7 3) (λ_ _ _ _=>(IC jw TB.abs Jqj)))) (JmI (Nh qz 5 (WE (N':=["atom","fresh"]) (ix:=[5]) rfl rfl rfl (λok=>JsD (ai lQ)) rfl rfl Xe (dr Wa) (λ_ _ _ _=>(aA (r:=rIn K true) kA IN WA rfl)) (λ_ _ _ _=>IN)))) cZ)));rfl'
 rintro D A F O H pr d S R t B th ps fl m y n U L q0 q1;let pl:=L.pl;apply Jop _ B _ (.inr L.tp) _ JbK
 .let c1:=oDq c;injection c1 with c1;rw[lM]at c1;exact q0 JqH
 rcases ps with _|⟨a,rest⟩
 .exact W7 (by rfl)
 clear c q0;let q1:=q1 a rest rfl;let aP:=L.pr a VI;let n40:=L.n40;let at2:atI (JgJ (V.ref B) (V.ref th) m) 2=some (.int m):=ay rfl;let at0:J7 ((Nx a).map VG)=some (.int a):=ay rfl;let(M,sF1,U1,Z):=U.sqF L.tp;apply(2,Ig,Ui,2,JeN,rfl,2,t,4,L.t,at2,A,M,O,pr,d,S,R,m,rfl,U1,L.c,λY H2 O2 R2 j la hcut hla X U2=>?_);let i2:=U2.ins;rw[X]at i2;let tl:((JaE j).ts).length<=1000:=by
  let h1:=(L.c.tok.take j).len;let h2:(S.ts.take j).length<=1000:=Jn
  exact h2
 apply(2,Ig,Y.dx,2,i2,rfl,2,B,4,U2.t.f.tup Z,at0,2,Y,M,O2,pr,d,JaE j,R2,a,y,by rw[X];rfl,U2,by unfold cV;lia,tl,λH3 O3 R3 U3 _=>?_);let v:=U3.t.f.tup Z;let fl1:((Nx a).map zaW).length=rest.length+1:=by rw[lM];rfl
 apply JK _ B v (λN q=>Jn_ (λi us H'=>Xd H3/\us=(((Nx a).map zaW).take i).map VG) (λi us H' h_=>by let(Q,_):=h_;exact Q.tup v) q)
 .rintro i us H4 x H5 W k l ⟨Q,rfl⟩ ⟨rfl,hx⟩;let(p,hp,rfl):=GY _ (Q.tup v);let hA:((Nx a).map zaW)[i]?=some (zaW p):=by rw[List.getElem?_map,hp];rfl
  apply Jnw _ _ (XS _ Q9 W k l (Q.upd q));rw[a_ hA,mAq];rfl
 rintro us H4 l ⟨Q,rfl⟩;let e4:((Nx a).map zaW).take ((Nx a).map VG).length=(Nx a).map zaW:=tO (by rwa[lM,lM]at nRq _);rw[e4]at l;let U4:=U3.more Q q l;let f4:=(U3.t.none q).2;let G:Jd3 M M N (((Nx a).map zaW).map VG):=Nn f4;let J:=Jsu M N (.lst (((Nx a).map zaW).map VG));generalize JhQ M N=F4 at U4 G J;generalize hfr:(Nx a).map zaW=g at *;let i4:=U4.ins;rw[X]at i4;let I:=U4.at' 8 rfl rfl;let odl:=odlen L.od L.odn;apply(7,Ig,C,Y.dx,_,2,i4,Yt,T.n_order,tX,Y.od,rfl,UC I,λD2 hD2=>gH dv (λi us H'=>Xd H4/\us=((S.od.take i).filter λz=>decide (z∉g)).map VG) (λi us H' h_=>by let(u,_):=h_;exact SqL.of (u _ _ I)) (UI hD2) ?_ ?_)
 .rintro i us H5 x H6 W k b ⟨u,rfl⟩ ⟨rfl,hx⟩;let(z,hz,rfl):=GY _ (SqL.of (u _ _ I));let et:((S.od.take Xi).filter λz=>decide (z∉g))=if z∈g then(S.od.take i).filter λz=>decide (z∉g) else((S.od.take i).filter λz=>decide (z∉g))++[z]:=by
   let hz:S.od[i]?=some z:=hz;rw[a_ hz,List.filter_append];by_cases e:z∈g
   .rw[if_pos e,List.filter_cons,if_neg (by simp [e]),List.filter_nil,List.append_nil]
   .rw[if_neg e,List.filter_cons,Jah e];rfl
  let hil:i<S.od.length:=by rw[lM]at W;exact W
  apply Q8 _ _ rfl N _ rfl (Yc (u _ _ (U4.t.f _ _ J))) (kH _) _ rfl ?_;rw[if_pos rfl,jH];by_cases e:z∈g
  .rw[dTq e];apply JkD W k b u;rw[et,if_pos e]
  .rw[dFq e];apply JoV (XS _ (by rw[lM];show S.od.length<=_;lia) W k b (u.upd hD2));rw[et,if_neg e,mAq];rfl
 rintro us H5 b ⟨u,rfl⟩;let e5:S.od.take (S.od.map VG).length=S.od:=tO (lM<|>nRq _);let b:H5 D2=some (.lst (((S.od.take (S.od.map VG).length).filter λz=>decide (z∉g)).map VG)):=b;rw[e5]at b;let U5:=U4.same u;let frl:NJ g.length:=by rwa[<-hfr,lM]at pl
 let h1:H5 N=some (.lst (g.map VG)):=U5.t.f _ _ J;apply(N,D2,3,h1,b,?_,λn1 hn1=>?_)
 .have:=List.length_filter_le (λz=>decide (z∉g)) S.od;rwa[lM,lM]at Nat.le_of_lt (hln Jn)
 rw[<-mAq];let eN:g++S.od.filter (λz=>decide (z∉g))=gM JaY S.od:=by unfold gM;rw[hfr]
 rw[eN];let U6:=U5.newF hn1 (.lst ((gM JaY S.od).map VG));let f6:=(U5.t.none hn1).2;let sF6:Jd3 F4 F4 n1 ((gM JaY S.od).map VG):=Nn f6;let sF:ap F _:=(sF1.trans G).trans sF6;let f0:Mf (F n1):=by
  cases e:F n1 with
  |none=>rfl
  |some o=>have:=(sF1.trans G) _ _ e;erw[f6]at this
 let(O7,U7):=U6.moveOd ao f0 sF;let i6:=U6.ins;rw[X]at i6;apply WQ _ Ig C Y.dx _ i6 Yt T.n_order (by show JcN 12;decide) ?_;have:=q1 { Y with od:=n1 } _ O7 R3 j la hcut hla X U7;rwa[<-X]at this
structure LrnTo (n)(B)(Y)(most)(S:HS)(f)(S'):Prop where
 mid:cB n B Y S'
 wgt:Jjc 0<WP 0 S'.ts
 st:LStp most S f S'
 to:(S'.pp=S.pp/\S'.rs=Jqf)\/((S.pp.length:Int)<most/\S'.pp=S.pp++[lnD (GA f) (MD f).reverse]/\S'.rs=Jnf f)
structure SpLn (n)(B)(Y)(S)(f):Prop where
 c:dy n B Y S f
 n40:n<=40
 rl:Jh7 197000
 pl:JpA 197000
 gl:∀c,(S.wg c).length<=197000
inductive uh (K)(C CL):Sp|m{vs H Q E} (A) (F O) (pr) (most) (S) (R) (f) (n) (B) (Y):vs=UJ A.h f->JmO F O H A S R (SpLn n B Y S f->(¬((MD f).length=1/\GA f≠[])->most<=(S.pp.length:Int)->∀H',No F (JdG CL H'))->(GA f=[]->(S.pp.length:Int)<most->∀H' O' R',JmO F O' H' A (S.put (J_ (MD f).reverse) [] []) R' (JlN H'))->(∀A' H' O' R' S',A'.h=A.h->LrnTo n B Y most S f S'->GE F O' H' A' S' S'.hs R'->QB H')->uh K C CL vs H Q E)
section
variable {P:Program} {w:World} {K:W.Frag} {mg:Str->Option Value} {base:Heap} {C CL f fH fC fP fL:Addr} {fd dH dC dP' dL:FuncData}
def Fz (ps hs):Jcc (lnD ps hs):=by simp only[lnD,nol,bX,jG,Bool.and_self]
def FA (h:Vo l (Jlf tp th))(b:WI tp)(a:Jji th):Qx K H (lnD ps hs) l :=
 Has.tup' h (Ye (by rfl) (kG b) (JF (kG a)))
def FC (F:Xv "learn" "Hunt.learn" lQ)(T:Jfv C)(TB:Jjm K)(mH:Jjd fH)(BH:Vn 1 fH dH JdF (jY K C))(bH:JnN dH)
  (mC:XY "cut" fC)(BC:X4 1 fC dC "level" (pW K C))(bC:VA dC "level")
  (mP:XY "put" fP)(BP:Jc9 P w K mg P w 2 fP dP' (Wo "line") (pV K C CL))(bP:VA dP' "line")
  (BL:Xu 3 "learnt" fL dL ["rows","trail","fails"] (Le53.sp_learnt K)):Jc9 P w K mg P w 4 f fd (Wo "fails") (uh K C CL):=by
 apply Fun.okX F nP λcdv Ar outer s H vs Q E hr h=>?_
 let(A,F',O,pr,D,S,R,fl,n,B,Y,rfl,U,L,qE,qN,qY):=h;let hr1:=JsE 1;let hr2:=JsE 2;let(z3,h3,q3):=learn3 (P:=P) (w:=w) (base:=base) (f:=f) T TB mH BH bH mC BC bC (cdv:=cdv) (Ar:=Ar) (outer:=outer) (s:=s) (H0:=H) (E:=E) hr1;apply Ym (Jdb (i:=2) nP.nd (X0 BL.ok hr BL.m BL.kp BL.b (aa Wa (IT Wa 1))) (i:=3) nP.nd Jqk (ae (Jsz 4 nP.nd (iT (JcX (Q4 (Jhc (VX 2))) (Ji5 (Jp5 3))) WA (Qo 0 mP BP hr2 bP Jqv (JoK (aa ba (WG 3 Jqk))))))
  h3));rfl'
 let g:=L.c.b.tok;let n40:=L.n40;let tl:NJ S.ts.length:=by have:=g.len;lia
 apply(2,Ig,C,Ui,_,2,JeN,Yt,JiY,jX,2,Ig,C,Ui,_,2,JeN,Yt,Nt,iu,2,A.kn,A.tr,fl,R.xs,R.zs,Jqf,IR,rfl,Jgs 1,U.u.kn,Jgs 3,U.u.tr,L.c.ln,tl,L.c.b.rlen n40,λH1 t J N m s1 _ h1 h2 h3' mx=>?_);let U1:=U.same s1;let at0:J7 Jrf=some (.ref J):=Jsv 0;let at1:Jcn Jrf=some (.ref N):=Jsv 1;generalize d:GA fl=ps at *;generalize hhs:(MD fl).reverse=hh at *;let hpl:(ps.map VG).length=ps.length:=lM _;let hhl:(hh.map VG).length=(MD fl).length:=by rw[lM,<-hhs,List.length_reverse]
 let inP:∀q∈ps,q≠0/\q.natAbs<=n:=λq hq=>by rw[<-d]at hq;let(i,u,hi,e,_):=ih g hq;let h1:=(g i u hi).1;let h2:=L.c.b.rng u (mO hi);simp [*]
 let psl:NJ ps.length:=by rw[<-d];unfold aZ;have:=List.length_filter_le (λp=>decide (p∈gK Jqf IR fl)) (negs IR).reverse;rw[List.length_reverse,ig]at this;lia
 let m0:0<=m:=by
  by_cases e:(ps.drop 1).map (lvF IR)=[]
  .rw[mx.1 e];decide
  .let(x,_,e2):=List.mem_map.mp (mx.2 e).1;rwa[<-e2]at kM x
 let absn:(ps.map zaW).Nodup:=by
  apply List.pairwise_map.mpr ((show ps.Nodup from d▸mM g).imp_of_mem λ{x y} hx Z ne z=>?_);rw[<-d]at hx Z;let(i,u,hi,e,_):=ih g hx;let(j,v,hj,e',_):=ih g Z;unfold zaW at z;have:x=y\/x=-y:=by rw[PyProof.Rows.ite_abs',PyProof.Rows.ite_abs']at z;exact lqJ (Int.ofNat.inj z)
  rcases this with z|z
  .exact ne z
  .exact g.cons (q:=u.1) (eG hi) (by rwa[show -u.1=v.1 by simp_all]at eG hj)
 apply(2,t,4,SqT.of h1,at0,?_);let rest:∀(M:HS) (O2 W:Hp) (R2:HC) (y:Int),M.ts=S.ts->M.bs=S.bs->M.la=S.la->M.od=S.od->TOk M.rs M.ts->Hu K C F' O2 W A pr D M M.hs R2->Yf W t (UV J N m)->Yf W J UE->(ps=[]->JlN W)->
   (∀a rs j la,ps=a::rs->JkL m j->LaX S j la->LrnTo n B Y D S fl { (M.cut j la).hold a y with od:=gM ps S.od })->
   z3 { nx:=λ_ H'=>Q .non H',rt:=Q } [Ja Ig,Ya fl,Ja t,Ja J,Ya y,none] W:=by intro M O2 W R2 y e1 e2 e3 e4 tok1 U2 g1 g2 n0 n1;apply q3 _ A F' O2 W pr D M R2 t J N ps fl m y n U2 (g1,g2,(tok1,by rwa[e2,e1]at L.c.b.bs,m0,by rwa[e3]at L.c.b.la),n40,inP,psl,by rwa[e4]at L.c.b.od,by rwa[e4]at L.c.b.odn) n0 λa rs ea A' H' O' R' j la r G eh U'=>?_;rw[e4]at U';exact qY A' H' O' R' _ eh (n1 a rs j la ea (e1▸r) (G.ok,e1▸e3▸G.p)) U'
 let od1:=zy inP L.c.b.od;let od2:=zA absn L.c.b.odn;apply(λ(k:¬((MD fl).length=1/\ps≠[])->_) (k2:((MD fl).length=1/\ps≠[])->_)=>(2,t,4,SqT.of h1,at1,N,2,XW h3',rfl,2,bo (λc1=>Jgu _ J _ (XW h2) _ _ _ rfl (bo (λc2=>k2 ?_) (λc2=>k ?_))) (λc1=>k ?_))) (λhn=>?_) (λZ=>?_)
 .apply(2,Ig,Ui,2,U1.ins,rfl,7,t,4,SqT.of h1,at1,lS3,λl hl=>?_);let s2:IB H1 H1 l (Jlf J N):=Nn hl;let l2:=Jsu H1 l (.tup (Jlf J N));generalize Gb H1 l (Jlf J N)=W at s2 l2;let U2:=U1.same s2;let t2:=SqT.of (K:=K) (s2 _ _ h1);let X:=SqT.of (K:=K) (s2 _ _ h2);let th2:=SqT.of (K:=K) (s2 _ _ h3');let(F3,sF3,U3,t3):=U2.sqF t2;let(F4,sF4,U4,tp4):=U3.sqF X;let t4:=sF4.tup t3;let lat:JiG ps=ps:=by rwa[←d]at CT _ _ _
  let tr60:∀u∈IR,-60<=u.1/\u.1<=60:=λu hu=>by let(i,hi):=List.getElem?_of_mem hu;exact(g i u hi).2.1
  apply(A,F4,O,pr,D,S,R,l,J,lnD ps hh,ps,rfl,U4,(FA (SqT.of l2) X th2,Fz _ _,Q5 _ (SqT.of l2),X,Jd L.pl,Jd L.rl,tl,tr60,g.negs,λc=>Jd (L.gl c)),λhm=>qE hn hm _ U2.t.f,λhm H5 O5 R5 U5=>?_);rw[lat]at U5;let U6:=U5.base (sF3.trans sF4);apply rest (JbQ (lnD ps hh) ps) O5 H5 R5 _ rfl rfl rfl rfl (g.more:JhY (Jne ps)) U6 (U5.t.f.tup t4) (U5.t.f.tup tp4) (λe=>?_) λa rs j la ea r G=>?_
  .subst e;exact qN rfl hm _ _ _ U6
  .let ne:GA fl≠[]:=by rw[d,ea];exact λz=>nomatch z
   let(a',rs',I,c1,c2,c3):=L.c.next Jn ne (d<|>mx) r G.ok od1 od2;rw[d]at I c1;let e2:a'=a:=Jn
   subst e2;subst ea;exact(c1 (lnD _ hh),c3 _ Jn,(_,rs,m,j,la,d,by rwa[d]at mx,r,G.p,JfV (λz=>hn (z,λw=>nomatch w)) hm (by rw[hhs])),JfV hm (by rw[d,hhs];rfl) (by rw[d];rfl))
 .apply QD (rest S O H1 R fl rfl rfl rfl rfl g U1 (SqT.of h1) (SqT.of h2) (λe=>JlA Z.2) λa rs j la ea r G=>?_);let ne:GA fl≠[]:=by rwa[d]at Z.2
  let(a',rs',I,c1,c2,c3):=L.c.next Jn ne (d<|>mx) r G.ok od1 od2;rw[d]at I;let e2:a'=a:=Jn
  subst e2;subst ea;exact(c2 Z.1,c3 _ (by have:=L.c.ln.f0;lia),(_,rs,m,j,la,d,by rwa[d]at mx,r,G.p,JaO Z.1),JaO rfl)
 .let d1:=oDq c1;injection d1 with d1;let d2:Ge (((ps.map VG).length:Nat):Int):=oDq c2;rw[hhl]at d1;rw[hpl]at d2;exact(Int.ofNat.inj ‹_›,λz=>by rw[z]at d2;exact XC d2)
 .let d2:¬Ge (((ps.map VG).length:Nat):Int):=λz=>c2 Jrb;rw[hpl]at d2;exact λz=>z.2 JqH
 .exact λz=>c1 (dTq (by rw[hhl,z.1];rfl))
end
abbrev zB:Stmt:=yq
structure SpG (n)(B)(T)(As)(S):Prop where
 m:Jdw n B T S
 n40:n<=40
 rl:Jh7 197000
 pl:JpA 197000
 t60:MX 60
structure CfG (n)(B)(T)(As)(most)(S S')(f):Prop where
 r:Jfa T (S,.grow,) (S',.odds f,)
 w:Jjc 0<=WP 0 S'.ts
 p:S'.pp.length<=Jmy 1
 q:(S.pp.length:Int)<=most->(S'.pp.length:Int)<=most
 c:dy n B (IO T) S' f
 g:∀c,(S'.wg c).length<=S'.rs.length
structure RsG (n)(B)(T)(As)(most)(S S'):Prop where
 r:Jfa T (S,.grow,) (S',.rest,)
 e:fz S S'
 m:Jdw n B T S'
 l:S'.lk=S'.ts.length
 nc:∀r,Jnm T r->∃p∈r,-p∉S'.hs
structure LgG (T)(As)(most)(S S'):Prop where
 r:Jfa T (S,.grow,) (S',.ask,)
 f:Jmq (QC T) (S',.ask,) .long
 p:S'.pp=S.pp
inductive nQ (K)(C CP CL):Sp|m{vs H Q E} (A) (F O) (pr tl al rl) (most) (S) (R) (n) (B) (T) (As) (Rs):vs=Vj A.h->JmO F O H A S R (SpG n B T As S->Jk7 CP F pr T->(∀H' S',LgG T As most S S'->No F (JdG CL H'))->(∀H' O' R' S',JpO (RsG n B T As most S S') (GE F O' H' A S' S'.hs R'))->(∀H' O' R' S' f,CfG n B T As most S S' f->GE F O' H' A S' S'.hs R'->Jgi f)->nQ K C CP CL vs H Q E)
set_option tactic.hygienic true in
def FE (g:lat.Nodup)(c):(putG r lat wg c).length<=(wg c).length+1:=by
 unfold putG;split
 .rename_i a b f;let ab:a≠b:=λe=>(List.nodup_cons.mp g).1 (e ▸ VI);by_cases d:c=b
  .rwa[if_pos d,if_neg (λz=>ab (z.symm.trans d)),lAq]at nRq _
  .rw[if_neg d];split
   .rwa[lAq]at nRq _
   .lia
 .lia
def FF (h:tD K H a d B):Qx K H (Jp0 B B) a/\Jcc (Jp0 B B)/\∃b f,Vo a [.str "equal",.ref b,f]/\SqT K H b ((Jfu B).map V.int):=by let(b,j,bs,e,c,i,g):=h;exact(Has.tup' e (.cons (by rfl) (MG (kG c) (Has.tup' i g))),by simp only[eqD,nol,bX,jG,cT,Bool.and_self],b,_,e,c)
def ui:Je (Wr "fails" "line") ["self"] zB:=fsc
section
variable {P:Program} {w:World} {K:W.Frag} {mg:Str->Option Value} {base:Heap} {C CP CL f fL fK fP:Addr} {fd dL dK' dP':FuncData}
def FG (F:Xv "grow" "Hunt.grow" zB)(T:Jfv C)(TB:Jjm K)(mL:XY "look_at" fL)(BL:X4 2 fL dL "part" (tZ K C))(bL:JnI dL)
  (mP:XY "put" fP)(BP:Jc9 P w K mg P w 2 fP dP' (Wo "line") (pV K C CL))(bP:VA dP' "line")(BK:Jbc 6 "clash" fK dK' "held" (tH K CP)):Jc9 P w K mg P w 7 f fd ["self"] (nQ K C CP CL):=by
 apply Fun.okX F ui λcdv Ar outer s H vs Q E hr h=>?_
 let(A,F',O,pr,ptl,pal,prl,q,S,R,n,B,Tm,As,Rs,rfl,U,L,PP,qL,qN,qF):=h;let hr2:=JsE 2;apply Ym (NX (kq Jqo (aA iA Wa (Jll 0)) (Nm (i:=1) ui.nd (JH 0 mL BL hr2 bL (Yb (NG (aI aQ (aI aM Wa Wa) af)))) (Az IN af in_add) (aj (be (IX kx 1 eC) (Nc WA)
     aU)))) (Jsz 2 ui.nd (X0 BK.ok hr BK.m BK.kp BK.b (Qh Wa (JsA ["step"] [] (λ_=>JfH []) Xf (dr Wa) (λ_ _ _ _=>(JsO (du K))))))) (iT (IX nY 2 eC) eC (Qo 0 mP BP hr2 bP Jqv Jqi)));rfl'
 let n40:=L.n40;apply Gc (λk σ H'=>Ex4 λ v1 S' O' R'=>An6 (σ=[Ja Ig,v1,none]) (k=n-S'.lk) (fz S S') (Rch Jrc q (S,.grow,) (S',.grow,)) (Jdw n B Tm S') (Hu K C F' O' H' A pr q S' S'.hs R')) (JO _ none S O R rfl (fz.refl S) .refl L.m U);rintro k σ H1 ⟨v1,o,O1,R1,rfl,ek,Z,r1,M1,v⟩;let zl:=Hu.zlen v;let tln:=M1.b.tlen;apply(2,Ig,C,Ui,_,2,v.ins,Yt,Jrj,tU,2,Ig,C,Ui,_,2,v.ins,Yt,Nt,iu,A.tr,2,Yc (v.at' 3 rfl rfl),3,2,Mg XN)
 .let c1:=oDq c;let X:o.lk<o.ts.length:=by simp_all
  let ht:=gG X;generalize o.ts[o.lk]=J at ht;let hx:=gG (l:=R1.zs) (i:=o.lk) (by simp_all);let(t1,p,W,ex,hp):=hU v.u.tr hx;rw[ht]at W;injection W with W;subst W;let at1:atI R1.zs (o.lk:Int)=some (.ref p):=by rwa[<-ex]at ay hx
  let LK:=M1.look Jn ht;let LKI:=LkI.all M1 Jn (Int.neg_neg<|>eG ht) _ Yd;let gl:∀c,((eH o (-J.1)).1.wg c).length<=o.rs.length:=λc=>by have:=Jgg LKI.w;rw[LKI.rs,List.drop_length,List.append_nil]at this;exact this
  apply Ym (λ_ _ z=>z);apply(2,Ig,Ui,2,v.ins,rfl,2,Ig,C,Ui,_,2,v.ins,Yt,Nt,iu,2,Ig,C,Ui,_,2,v.ins,Yt,Jrj,tU,A.tr,4,SqL.of (v.at' 3 rfl rfl),at1,p,4,hp,rfl,2,A,F',O1,pr,q,o,R1,-J.1,n,B,2,v,(M1,n40,by rw[Z.rs];have:=L.rl;lia,J,ht,rfl),λH2 O2 R2 U2=>?_);let lkE:(eH o (-J.1)).1.lk=o.lk:=LKI.eq.2.1;let U3:=U2.setLk (o.lk+1);let rsE:=LK.1.rs;generalize hlr:eH o (-J.1)=lr at *;let(S2,fl):=lr;dsimp only at U2 U3 LK gl lkE rsE;apply GX _ Ig C Ui _ _ rfl U2.ins Yt Jrj tU _ _ rfl rfl _ _ U2.ins (by show JcN 12;decide) ?_;let eI:(upd H2 Ig (N5 C (zbu "looked" (.int ((S2.lk:Int)+1)) (zby A pr q S2.lk))))=upd H2 Ig (N5 C (zby A pr q (o.lk+1))):=by rw[lkE];rfl
  rw[eI];generalize upd H2 Ig (N5 C (zby A pr q (o.lk+1)))=H3 at U3;let EX:fz S { S2 with lk:=o.lk+1 }:=Z.trans (LK.1.rs,LK.1.pp,LK.1.ts);let gF:∀ph,phO fl=ph->Rch Jrc q (S,.grow,) ({ S2 with lk:=o.lk+1 },ph,):=λph e=>r1.step (by show _=gO o;unfold gO;simp_all)
  cases fl with
  |none=>
   apply Jf9 (IP (λc=>absurd c (show ¬Vi (!decide (V.non=V.non)) by decide)));apply(_,?_,_,4,EX,gF _ rfl,LK.2.1 rfl,U3);show n-(o.lk+1)<k;rwa[ek]at Nat.sub_succ_lt_self _ _ (Nat.lt_of_lt_of_le (zl▸Int.ofNat_lt.mp (oDq c)) tln)
  |some g=>
   apply Jf9 (Go (λc=>W7 (by rfl)));apply QD (qF _ _ _ { S2 with lk:=o.lk+1 } g (gF _ rfl,EX.wgt n,by rw[EX.pp];lia,(λz=>by rwa[EX.pp]at z),LK.2.2 g rfl,λc=>?_) U3);show(S2.wg c).length<=S2.rs.length;rwa[rsE]at gl c
 .let X:o.lk=o.ts.length:=by have:=M1.lk;lia
  let G:=r1.step (by show _=gO o;unfold gO;rw[List.getElem?_eq_none (by lia)])
  let htr:=v.at' 3 rfl rfl;apply(2,Ig,C,Ui,_,2,v.ins,Yt,T.n_problem,Fd,2,Ig,C,Ui,_,2,v.ins,Yt,Nt,iu,A.tr,rfl,UC htr,λD hD=>Jg8 dv (λi us H'=>Xd H1/\us=(o.hs.take i).map VG) (λi us H' h_=>by let(s2,_):=h_;exact SqL.of (s2 _ _ htr)) hD)
  .rintro i us H2 x H3 hi hly Y ⟨s2,rfl⟩ ⟨rfl,hx⟩;let(t,p,ht,rfl,hp):=hU v.u.tr (hx _ (SqL.of (s2 _ _ htr)));let hH:o.hs[i]?=some t.1:=by show(o.ts.map Yy)[i]?=_;rw[List.getElem?_map,ht];rfl
   apply(2,p,4,s2.tup hp,rfl,XS _ (by rw[zl];lia) hi hly Y (s2.upd hD));rw[a_ hH,mAq];rfl
  .rintro us H2 Y ⟨s2,rfl⟩;let e:o.hs.take R1.zs.length=o.hs:=tO (by rwa[lM,zl]at nRq _);rw[e]at Y;let U2:=v.same s2;let h64:o.hs.length<64:=by rwa[lM]at Vk (Nat.le_trans ‹_› ‹_›)
   let I:=M1.b.tok;let hn:o.hs.Nodup:=by rw[List.Nodup,List.pairwise_map];exact(List.pairwise_map.mp I.negs).imp λh z=>h (by rw[z])
   apply(pr,ptl,pal,prl,D,Tm,As,Rs,o.hs,rfl,PP.same U2.t.f,Yc Y,h64,L.t60,λLs ms eL RL GL CL' pm so=>(λe H3 s3=>?_,λd r x y M H3 a e hd _ N ms2 s3 la=>?_))
   .exact Jf9 (bo (λ_=>qN _ _ _ o (G.step (XA none (ms,pm,so,eL▸(e,GL,CL'))),Z,M1,X,zg GL CL' pm e) (U2.same s3)) (λc=>W7 Jp))
   .let U3:=U2.same s3;let hdm:d∈ms.filter (X2 Ls As):=by rwa[e]at VI
    let d0:=jU hd;let dn:-d∈o.hs:=by let(k,hk,ek):=List.mem_map.mp (pm.mem_iff.mp (List.mem_filter.mp hdm).1);rwa[<-ek,Int.neg_neg]at(List.mem_filter.mp hk).1
    let er:=zf RL N hd;let nd:=tK RL Jn3 ms2 hn (show 0<d by lia);let fl:=tJ RL Jn3 dn;let(l1,l2,pa,x2,l3,l4):=FF la;subst eL;let cY:clR Tm As o.ts (some (clD Tm As o.hs d M)):=(ms,pm,so,(d,r,x,y,M,e,hd,N,ms2,RL,rfl));let rk:(o.pp.length:Int)<q->Rch Jrc q (S,.grow,) (o.put (clD Tm As o.hs d M).1 (clD Tm As o.hs d M).2 (gP o.ts (clD Tm As o.hs d M).2),.odds (o.rs.length:Int),):=λhm=>G.step (_,cY,hm,rfl);dsimp only [clD]at rk;generalize Jp0 ((IG JrU).map (GS o.hs)) ((IG JrU).map (GS o.hs))=ld at l1 l2 rk;generalize Jfu ((IG JrU).map (GS o.hs))=ps at er nd fl l4 rk;let gl:=λc=>Jgg M1.w;let tr60:∀u∈o.ts,-60<=u.1/\u.1<=60:=λu hu=>by let(i,hi):=List.getElem?_of_mem hu;exact(I i u hi).2.1
    apply Jf9 (IP (λc=>Yn c));apply(2,Ig,Ui,2,U3.ins,rfl,2,A,F',O1,pr,q,o,R1,a,pa,ld,ps,rfl,U3,(l1,l2,Q5 _ l3,l4,by rw[Z.pp];have:=L.pl;lia,by rw[Z.rs];have:=L.rl;lia,Jn,tr60,I.negs,λc=>by have:=gl c;rw[Z.rs]at this;have:=L.rl;lia),λhm=>qL _ o (G,(_,cY,hm,rfl),Z.pp) U3.t.f,λhm H4 O4 R4 U4=>?_);apply qF _ _ _ (o.put ld ps (gP o.ts ps)) _ (rk hm,Z.wgt n,?_,(λ_=>by show((o.pp++[ld]).length:Int)<=q;rw[lAq];show((o.pp.length+1:Nat):Int)<=q;lia),M1.clash X ld er nd fl,λc=>?_) U4
    .show(o.pp++[ld]).length<=_;rwa[lAq,Z.pp]at nRq _
    .let h1:=FE (r:=(o.rs.length:Int)) (wg:=o.wg) ((List.pairwise_reverse.mpr (I.negs.imp Ne.symm)).filter λp=>decide (p∈ps)) c;let h2:=gl c;show _<=(o.rs++[ps]).length;rwa[lAq]at Jap h1 h2
end
abbrev zC:Stmt:=ym
structure SpB (n)(B)(T:List MV)(S):Prop where
 t60:MX 60
 b:cD n B 0 S
 hB:∀r∈B,r.Nodup/\∀p∈r,Joj 0
 n40:n<=40
 bl:Jr B.length
structure RsB (n)(B)(T)(As)(most)(S S'):Prop where
 r:Jfa T (S,.beg 0,) (S',.rest,)
 m:Jdw n B T S'
 nc:∀r,Jnm T r->∃p∈r,-p∉S'.hs
 l:S'.lk=S'.ts.length
 p:S'.pp=[]
structure CfB (n)(B)(T)(As)(most)(S S')(f):Prop where
 r:Jfa T (S,.beg 0,) (S',.odds f,)
 c:dy n B (IO T) S' f
 g:∀c,(S'.wg c).length<=S'.rs.length
 p:S'.pp.length<=1
inductive uj (K)(C CP CL):Sp|m{vs H Q E} (A) (F O) (pr tl al rl) (most) (S) (R) (n) (B) (T) (As) (Rs):vs=Vj A.h->JmO F O H A S R (SpB n B T S->Jk7 CP F pr T->(∀H' S',Jfa T (S,.beg 0,) (S',.ask,)->Jmq (QC T) (S',.ask,) .long->S'.pp=[]->No F (JdG CL H'))->(∀H' O' R' S',JpO (RsB n B T As most S S') (GE F O' H' A S' S'.hs R'))->(∀H' O' R' S' f,CfB n B T As most S S' f->GE F O' H' A S' S'.hs R'->Jgi f)->uj K C CP CL vs H Q E)
def uk:Je (Wr "number" "row") ["self"] zC:=fsc
def cD.glen (h:cD n B i S)(c):(S.wg c).length<=B.length:=by have:=Jgg h.w;let this:=this;rw[List.length_take]at this;exact Nat.le_trans this (Jfd _)
def FH (F:Xv "begin" "Hunt.begin" zC)(T:Jfv C)(TB:Jjm K)(mW:XY "watch" fW)(BW:Vn 1 fW dW JaB (pU K C))(bW:Yj dW JaB)
  (mH:Jjd fH)(BH:Vn 1 fH dH JdF (jY K C))(bH:JnN dH)
  (mG:XY "grow" fG)(BG:Jc9 P w K mg P w 7 fG dG ["self"] (nQ K C CP CL))(bG:JjJ dG):Jc9 P w K mg P w 8 f fd ["self"] (uj K C CP CL):=by
 apply Fun.okX F uk λcdv Ar outer s H vs Q E hr h=>?_
 let(A,F',O,pr,ptl,pal,prl,d,S,R,n,B,Tm,As,Rs,rfl,U,L,PP,qL,qN,qF):=h;let hu:=dc hr;let hr1:=JsE 1;apply Ym (QZ (bY Jqo rfl (mj rfl TB.enumerate (Mv 0)) (ko rfl (JsH 1 uk.nd 2 uk.nd kj)) (Jh2 (Ji5 (Jp5 2)) (QS 0 mW BW hr1 bW (Qa 1 Jry)) (Jh2 (JR (Q4 (Jp5 2)) (JkV hu (Jk2 2) Wa)) (Nc WA) (aj (be (Jex hu Jqk Wa) (QS 0 mH BH hr1 bH (IT Jqk 1))
         aU))))) (lY IN Yt mG BG hr bG .nil Jqv));rfl'
 let n40:=L.n40;let bl:=L.bl;let kn0:∀{Fx Ox Hx:Hp} {Sx:HS} {hx:List Int} {Rx:HC},Hu K C Fx Ox Hx A pr d Sx hx Rx->Rx.xs=R.xs->Hx A.kn=some (.lst R.xs):=λUx e=>e▸Ux.at' 1 rfl rfl;apply(2,Ig,C,Ui,_,2,JeN,Yt,JiY,jX,A.kn,rfl,UC (Jbp 1),JcP (mi) (λi σ H'=>Ex5 λ v1 v2 S' O' R'=>An4 (σ=[Ja Ig,v1,v2]) (R'.xs=R.xs) ((cD n B i S'/\Rch Jrc d (S,.beg 0,) (S',.beg i,))) (Hu K C F' O' H' A pr d S' S'.hs R')) (λi σ H' h=>by let(_,_,_,_,_,_,e,_,Ux):=h;exact SqL.of (kn0 Ux e)) (none,none,S,O,R,6,(L.b,.refl),U))
 .rintro i σ W x H3 hi ⟨v1,v2,D,O1,R1,rfl,X,⟨G,r1⟩,Z⟩ ⟨t,y,rfl,ht,rfl,hy⟩;let(v,q,k,rfl,hq):=Bx Z.u.kn (X ▸ hy _ (SqL.of (kn0 Z X)));let st:=r1.step (by show _=gN D i;unfold gN;rw[k])
  rw[G.rs]at k;let N:=L.hB v (mO k);let s3:IB W W t (X5 i q):=Nn ht;let n3:=Jsu W t (Jkq i q);generalize Gb W t (X5 i q)=H3 at s3 n3;let M:=Z.same s3;let I:=s3.tup hq;let iB:i<B.length:=(gEq k).1;let kI:cV (i:Int):=by unfold cV;lia
  let kR:∀p∈v,cV p:=λp hp=>by have:=(N.2 p hp).2;unfold cV;lia
  let gl:∀c,(D.wg c).length<=199000:=λc=>by have:=cD.glen G c;lia
  apply(t,2,SqT.of n3,rfl,_,2,3,?_);apply Jgu _ q _ (.inr I) _ _ _ rfl JbK
  .let c1:=oDq c;rw[lM]at c1;rcases v with _ | ⟨a,_ | ⟨b,J⟩⟩
   iterate 2
    .exact Yn c1
   .let a0:J7 ((a::b::J).map VG)=some (.int a):=ay rfl;let a1:Jcn ((a::b::J).map VG)=some (.int b):=Jsv 1;apply(2,Ig,Ui,2,M.ins,rfl,7,q,4,I,a0,2,q,4,I,a1,A,F',O1,pr,d,D,R1,i,a,b,rfl,M,kI,Jnp a,Jnp b,gl a,gl b,λH4 O4 R4 U4 e4=>?_);exact(_,8,2,e4.trans X,(G.add k N.1 Js (λx e=>by injection e with _ e;cases e) rfl,st),U4)
  .let c1:¬(1:Int)<(((v.map VG).length:Nat):Int):=λz=>JaN z;rw[lM]at c1;let rl:((v.map VG).length:Nat)=v.length:=lM _;let fin:(∀p∈v,-p∈D.hs)→Rch Jrc d (S,.beg 0,) (D,.odds (i:Int),)→Q (.int (i:Int)) H3:=λhf rr=>qF _ _ _ D _ (rr,G.fail L.hB k hf,λc=>by rwa[G.rs]at cD.glen G c,by rwa[G.pp]at Nat.zero_le _) M;apply Jop _ q _ (.inr I) _ (bo (λc2=>?_) (λc2=>?_))
   .let c3:=oDq c2;injection c3 with c3;rw[rl]at c3;let e0:v=[]:=List.length_eq_zero_iff.mp (Int.ofNat.inj ‹_›);subst e0;exact QD (fin (λp hp=>nomatch hp) st)
   .rcases v with _ | ⟨a,_ | ⟨b,J⟩⟩
    .exact absurd (by rfl) c2
    rotate_left
    .exact absurd (by simp only[List.length_cons];lia) c1
    .let a0:J7 ([a].map VG)=some (.int a):=Jsv 0;let g1:=je D.hs a;let g2:=je D.hs (-a);apply(2,q,4,I,a0,7,Ig,C,Ui,_,2,M.ins,Yt,Jel,iv,A.hd,2,M.held (-a),2,bo (λc4=>?_) (λc4=>?_))
     .rw[g2]at c4;let c5:=oDq c4;exact QD (fin (λp hp=>by rwa[mSq hp]at c5) ((show kU D i [a]=_ from if_pos c5)▸st))
     .rw[g2]at c4;let c5:-a∉D.hs:=λz=>c4 Jrb;apply(2,q,4,I,a0,2,Ig,C,Ui,_,2,M.ins,Yt,Jel,iv,A.hd,2,M.held a,2,bo (λY=>?_) (λY=>?_))
      .rw[g1]at Y;let c7:a∉D.hs:=λz=>by erw[dTq z]at Y
       let tl:Jr D.ts.length:=by have:=G.tok.len;lia
       apply(2,Ig,Ui,2,M.ins,rfl,2,q,4,I,a0,2,A,F',O1,pr,d,D,R1,a,i,rfl,M,Jnp a,tl,λH4 O4 R4 U4 e4=>?_);exact(_,8,2,e4.2.trans X,(G.hold Jn k (N.2 a Js) c7 c5,(show kU D i [a]=_ from(if_neg c5).trans (if_neg c7))▸st),U4)
      .rw[g1]at Y;let c7:a∈D.hs:=Decidable.byContradiction λz=>by rw[dFq z]at Y;exact Y rfl
       exact(_,8,2,X,(G.add k N.1 Js (λx e=>Jn) rfl,(show kU D i [a]=_ from(if_neg c5).trans (if_pos c7))▸st),M)
 .rintro σ H' ⟨v1,v2,D,O1,R1,rfl,X,⟨G,r1⟩,Z⟩;let xl:R.xs.length=B.length:=by rw[←X,←Z.u.kn.length,lM,G.rs]
  rw[xl]at G r1;let r2:Rch Jrc d (S,.beg 0,) (D,.grow,):=r1.step (by show _=gN D Jqs;unfold gN;rw[G.rs,List.getElem?_eq_none (nRq _)]);let M1:=G.mid (E:=IO Tm) L.hB;apply(2,Ig,Ui,2,Z.ins,rfl,A,F',O1,pr,ptl,pal,prl,d,D,R1,n,B,Tm,As,Rs,rfl,Z,(M1,n40,by rw[G.rs];lia,by rwa[G.pp]at Nat.zero_le _,L.t60),PP,λW S2 r s2=>qL W S2 (r2.trans r.r) r.f (r.p.trans G.pp) s2,λW O2 R2 S2 r U2=>?_,λW O2 R2 S2 f r U2=>?_)
  .exact qN _ _ _ S2 (r2.trans r.r,r.m,r.nc,r.l,r.e.pp.trans G.pp) U2
  .exact qF _ _ _ S2 f (r2.trans r.r,r.c,r.g,by have:=r.p;rw[G.pp]at this;exact this) U2
end H53
namespace L2
open PySem PySem.Spec PyProof.Rows
set_option maxRecDepth 100000
def FI:Jc3 X "range" (λxs H Q=>∃i j:Int,xs=Xw i j/\∀r,Jdu r r (Jm r (.rng i j))):=by intro a s f H xs us Q I r h;let(i,j,rfl,q):=h;let(u,v,rfl,d,c):=r.two;let(t,rfl):=d;let(t',rfl):=c;apply call_range_2 ?_;apply VB _ (I.laid (λb g e=>UD e) Yd ?_) Jjw;exact(8,Heap.get?_push_size _ rfl)
def FJ (D:Vi X.calm):Jc3 X "list" (λxs H Q=>∃r lo j,xs=Vj r∧Ic r (.rng lo (lo+j))∧0≤j∧JbP j∧0≤lo∧JbP lo∧∀l,Jdu l l (N8 l (((List.range j.toNat).map λi:Nat=>lo+(i:Int)).map V.int))):=by
 intro k s J H xs us Q I r h;let(z,lo,j,rfl,C,P,O,l0,l1,q):=h;let(u,rfl,y):=eX r;cases y;let(N,M,K,e):=VM z C;let E:Builtin.Range.rangeSize lo (lo+j) 1=(j.toNat:Int):=by rw[rangeSize_one];split<;>lia
 apply call_list_range (I.ok.hd D) e Jr2 E Jn λh' tk acc c A F a=>?_;let G:Jc8 j.toNat:=by rwa[Array.length_toList]at a.1
 let d:bc (((List.range Jkd).map λi:Nat=>lo+(i:Int)).map VG) acc.toList:=by
  let f:∀n L o,L.length=n->(∀i v,L[i]?=some v->∃t,v=UU (lo+(((o+i:Nat):Nat):Int)*1))->bc (((List.range' o n).map λi:Nat=>lo+(i:Int)).map VG) L:=by
   intro n
   induction n with
   |zero=>
    intro L o b _;cases L with
    |nil=>exact .nil
    |cons _ _=>cases b
   |succ n B=>
    intro L o b p;rcases L with _|⟨x,L⟩
    .cases b
    apply Jlx (B L _ (by simpa using b) λi v e=>?_)
    .let(t,e):=p 0 x rfl;exact(t,by rw[e];congr 1;lia)
    .let(t,g):=p Xi v e;exact(t,by rw[g];congr 1;lia)
  have:=f Jkd Jku 0 G λi v e=>by let(t,g):=a.2 i v (by rwa[<-Array.getElem?_toList]at e);exact(t,by rw[g,Nat.zero_add])
  rwa[List.range_eq_range']at this
 apply JsJ _ tk A _ (show JpR _ h' _ (((List.range Jkd).map λi:Nat=>lo+(i:Int)).map VG) from(?_,Jku,c,d,by rwa[Array.toArray_toList]at F)) Jjw;rw[lM,lM,List.length_range,sizeLine_eq];lia
end L2
namespace H53
open PySem L2 K53
abbrev zD:Stmt:=yi
def hS0 (Rs:Xg Int)(n:Nat):HS:=(Rs,[],[],0,[],λx=>none,λx=>[],upN n,λx=>none)
def gB (H:Hp)(x:Addr):Hp:=λb=>if b=x then none else H b
structure Bld (C x dx)(F O H)(as)(os:List HO)(fs):Prop where
 t:Jmd F
 n:NoT O
 nd:(x::as).Nodup
 ins:Xa (O x) (Y_ fs)
 at_:∀(i:Nat) (a) (o),as[i]?=some a->os[i]?=some o->Xa (O a) o
 len:as.length=os.length
def Bld.all {C x dx:Addr}{F O H:Hp}{d:List Addr}{b:List HO}{g:List (Jiv V)}(h:Bld C x dx F O H d b g){a:Addr}(f:a∈x::d):Jm5 (O a):=by
 rcases List.mem_cons.mp f with z|z
 .rw[z,h.ins];exact λz=>nomatch z
 .let(i,c):=List.getElem?_of_mem z;let e:Jkf i:=by rwa[←h.len]at(gEq c).1
  rw[h.at_ i a _ c (gG e)];exact λz=>nomatch z
def Bld.hi {C x dx:Addr}{F O H:Hp}{c:List Addr}{b:List HO}{a:List (Jiv V)}(h:Bld C x dx F O H c b a):H x=some (Y_ a):=h.t.o _ _ h.ins
def Bld.put {C x dx:Addr}{F O H:Hp}{e:List Addr}{c:List HO}{j:List (Jiv V)}(h:Bld C x dx F O H e c j)(b):Bld C x dx F (NC O x C b) (Jm x (Y_ b)) e c b:=by apply(h.t.own (h.ins<|>λz=>nomatch z) _,h.n.upd gX,h.nd,ao,λi a o d g=>?_,h.len);let f:a≠x:=λz=>(List.nodup_cons.mp h.nd).1 (z▸mO d);rwa[aq f]at h.at_ i a o d g
def Bld.new {C x dx:Addr}{F O H:Hp}{g:List Addr}{j:List HO}{l:List (Jiv V)}(h:Bld C x dx F O H g j l){n:Addr}(k:Nf n){o:HO}(no:NTup o):Bld C x dx F (upd O n o) (Jm n o) (g++[n]) (j++[o]) l:=by
 let p:=(h.t.none k).1;let nm:n∉x::g:=λz=>h.all z p;let q:x≠n:=λz=>nm (z▸VI);apply(h.t.newO k o,h.n.upd no,?_,by rwa[aq q]at h.ins,λi a u d f=>?_,by rw[lAq,lAq,h.len];rfl)
 .rwa[<-List.cons_append]at JbY h.nd (λa v b s e=>nm (by rw[mSq s]at e;exact e▸v))
 .rcases Nat.lt_or_ge i g.length with c | c
  .rw[List.getElem?_append_left c]at d;rw[List.getElem?_append_left (by rwa[<-h.len]at c)]at f;let r:a≠n:=λz=>nm (Jb (z▸mO d));rwa[aq r]at h.at_ i a u d f
  .rw[List.getElem?_append_right c]at d;rw[List.getElem?_append_right (by rwa[<-h.len]at c),<-h.len]at f;let y:=mSq (mO d);let w:=mSq (mO f);rwa[y,w]at ao
def Bld.putE {C x dx:Addr}{F O H:Hp}{c:List Addr}{b:List HO}{a:List (Jiv V)}(h:Bld C x dx F O H c b a)(n)(v):∃d H',Jm x (Y_ (zbu n v a))=H'/\Bld C x dx F d H' c b (zbu n v a):=Gz _ _ (h.put _)
def Bld.newE {C x dx:Addr}{F O H:Hp}{c:List Addr}{a:List HO}{b:List (Jiv V)}(h:Bld C x dx F O H c a b){n:Addr}(d:Nf n)(o)(no:NTup o):∃e H',Jm n o=H'/\Bld C x dx F e H' (c++[n]) (a++[o]) b:=Gz _ _ (h.new d no)
inductive uo (K)(C CP):Sp|m{vs H Q E9} (x dx p tl al rl) (most) (T) (As) (Rs):vs=UV x p most->JjO x [] (VO (Jgw CP H tl al rl T) WR ((∀A O R H',JpO (A.h=x) (Ug K C (gB H x) O H' A p (JaF Rs) [] R))->uo K C CP vs H Q E9))
def FK:Jsw Je0 zD:=fsc
def bld0 (h:Jc0 x []):Bld C x dx (gB H x) (λb=>if b=x then some (Y_ []) else none) H [] [] []:=by
 apply((λb o e=>?_,λb o e=>?_,λb e=>?_),λb o e=>?_,by simp,if_pos rfl,λi a o h=>(by cases h),rfl)
 .unfold gB at e;simp_all
 .lia
 .unfold gB;lia
 .split at e
  .injection e with e;exact e▸gX
  .cases e
def FL (F:JoS "Hunt.__init__" zD)(c:Jfv C)(TB:Jjm K)(T:NN CP):JjL Je0 (uo K C CP):=by
 apply F.ok FK λcdv Ar outer s H vs Q E hr h=>?_
 let(x,dx,p,W,N,A,r,T',As,Rs,rfl,hx,S,a1000,q):=h;apply Ym (Qb (JmI WA) (JmI UA) (ae (JmI (UB og rfl TB.list (Mv 1))) (Qb Jqz Jqz (Qb JqA (JmI af) (Qb Jqz JqA (Qb JqA (JmI (UB (FJ rfl) rfl TB.list (Yb (dz FI rfl TB.range PyProof.Rows.Boot.range (Qh af (XI cu (Jll 1))))))) (aj JqA)))))));rfl'
 let Y:JgF (gB H x):=λb xs h=>by
  let nb:b≠x:=λz=>by rw[z]at h;rcases h with h|⟨o,h⟩<;>rw[hx]at h<;>cases h
  unfold Rd gB at *;rwa[if_neg nb]at h
 let B:∀b o,Ic b o->(∀d,o≠.ins C d [])->gB H x b=some o:=λb o h n=>by unfold gB;rwa[if_neg (λz=>n dx (by lia))]at h
 let S0:Jgw CP (gB H x) W N A T':=by let((d,h1),(xs,Z,h3),(ys,h4,h5),(U,h6,h7),h8,h9,h10):=S;apply((d,B _ _ h1 λd' e=>?_),(xs,B _ _ Z λm e=>(nomatch e),h3.keep Y (jf _)),(ys,B _ _ h4 λm e=>(nomatch e),h5.keep Y JfJ),(U,B _ _ h6 λm e=>(nomatch e),h7.keep Y JfI),h8,h9,h10);injection e with _ _ e;have:=eU W N A;erw[e]at this
 let b0:=bld0 hx;clear Y B S;generalize gB H x=F0 at *;let pr:∀{O' H' as os fs},Bld C x dx F0 O' H' as os fs->bu K CP H' p W N A T' As Rs:=λb=>S0.same b.t.f;apply XX _ _ rfl x C dx _ rfl b0.hi c.cl c.n_problem Jp ?_;let(O1,H1,e,b1):=b0.putE "problem" (.ref p);rw[e];apply XX _ _ rfl x C dx _ rfl b1.hi c.cl c.n_most (by show JcN 1;decide) ?_;let(O2,H2,e,b2):=b1.putE "most" (.int r);rw[e];let((d2,g1),_,_,(U,g2,g3),_):=pr b2;apply(2,p,CP,d2,_,2,g1,Yt,T.nR,lD _ _ _,A,2,Yc g2,λkn hkn=>?_);let(O3,H3,e,b3):=b2.newE hkn (.lst U) cH;rw[e];apply WQ _ x C dx _ b3.hi c.cl c.n_known (by show JcN 2;decide) ?_;let(O4,H4,e,b4):=b3.putE "known" (.ref kn);rw[e];apply JfX (λpp hpp=>?_);let(O5,H5,e,b5):=b4.newE hpp (.lst []) cH;rw[e];apply WQ _ x C dx _ b5.hi c.cl c.n_paper (by show JcN 3;decide) ?_;let(O6,H6,e,b6):=b5.putE "paper" (.ref pp);rw[e];apply JfX (λtr htr=>?_);let(O7,H7,e,b7):=b6.newE htr (.lst []) cH;rw[e];apply WQ _ x C dx _ b7.hi c.cl c.n_trail (by show JcN 4;decide) ?_;let(O8,H8,e,b8):=b7.putE "trail" (.ref tr);rw[e];apply λhd hhd=>?_;let(O9,H9,e,b9):=b8.newE hhd (.dK []) ee;rw[e];apply WQ _ x C dx _ b9.hi c.cl c.n_held (by show JcN 5;decide) ?_;let(O10,H10,e,M):=b9.putE "held" (.ref hd);rw[e];apply WQ _ x C dx _ M.hi c.cl c.n_looked (by show JcN 6;decide) ?_;let(O11,H11,e,b11):=M.putE "looked" (.int 0);rw[e];apply JfX (λbg hbg=>?_);let(O12,H12,e,L):=b11.newE hbg (.lst []) cH;rw[e];apply WQ _ x C dx _ L.hi c.cl c.n_begins (by show JcN 7;decide) ?_;let(O13,H13,e,b13):=L.putE "begins" (.ref bg);rw[e];apply λwd hwd=>?_;let(O14,H14,e,J):=b13.newE hwd (.dK []) ee;rw[e];apply WQ _ x C dx _ J.hi c.cl c.n_watched (by show JcN 8;decide) ?_;let(O15,H15,e,b15):=J.putE "watched" (.ref wd);rw[e];apply λwg hwg=>?_;let(O16,H16,e,I):=b15.newE hwg (.dK []) ee;rw[e];apply WQ _ x C dx _ I.hi c.cl c.n_watching (by show JcN 9;decide) ?_;let(O,l,e,g):=I.putE "watching" (.ref wg);rw[e];let((d3,g4),_,(ys,g5,g6),_):=pr g;let yl:JbE As.length:=by rw[<-g6.length,lM]
 apply(2,p,CP,d3,_,2,g4,Yt,T.nA,eV _ _ _,N,2,Yc g5,3,1,2,λX hrg=>?_);let s1:ap l (upd l X (.rng 1 (((ys.length:Nat):Int)+1))):=Nn hrg;apply(X,1,(ys.length:Int),rfl,by rw[ao,Int.add_comm],Jn,Jn,by decide,by decide,λod D=>?_);let u:Bld C x dx F0 O _ _ _ _:=((g.t.f.trans s1,g.t.o.trans s1,g.t.d),g.n,g.nd,g.ins,g.at_,g.len);generalize JhQ l X=R at u D;let eO:(List.range (ys.length:Int).toNat).map (λi:Nat=>(1:Int)+(i:Int))=upN As.length:=by rw[Int.toNat_natCast,yl];exact List.map_congr_left λi m=>Int.add_comm _ _
 rw[eO];let k:=u.new (o:=.lst ((upN WR).map VG)) D cH;generalize JhQ R od=H18 at k;generalize JhQ O od=O18 at k;apply WQ _ x C dx _ k.hi c.cl c.n_order (by show JcN 10;decide) ?_;let(O19,H19,e,b19):=k.putE "order" (.ref od);rw[e];apply λlt hlt=>?_;let(O20,H20,e,G):=b19.newE hlt (.dK []) ee;rw[e];apply WQ _ x C dx _ G.hi c.cl c.n_lately (by show JcN 11;decide) ?_;let(O21,H21,e,j):=G.putE "lately" (.ref lt);rw[e];apply q (x,dx,kn,pp,tr,hd,bg,wd,wg,od,lt) _ (U,[],[],[],[],λm=>none,[],λm=>none,[]) _ rfl (j.n,j.t,?_,9,Jks,rfl,Jks,DI.nil,DI.nil,λm=>.no,DI.nil,λm=>.no rfl,DI.nil)
 .exact j.nd
 .intro i a o h1 Z;cases i with
  |zero=>
   cases h1;cases Z;exact j.ins
  |succ i=>exact j.at_ i a o h1 Z
 .let(_,_,_,(w0,k0,_),_):=S0;let(_,_,_,(w1,k1,k2),_):=pr j;let y:=b2.t.f _ _ k0;let v:=j.t.f _ _ k0;rw[g2]at y;rw[k1]at v;injection y with y;injection y with y;injection v with v;injection v with v;rw[v,<-y]at k2;exact k2
def FN (h:p∈hs)(h0:p≠0)(a:QJ n)(no:p<0->-p∉hs):p∈eA n hs:=by
 rcases Int.lt_or_gt_of_ne h0 with c|c
 .exact Md (-p) (lP.mpr (Int.neg_pos_of_neg c,Int.neg_le_of_neg_le (lqR a).1)) (by rw[if_neg (no c),Int.neg_neg])
 .exact Md p (lP.mpr Jn) (by rw[if_pos h])
structure FD (K)(x)(st)(f td)(fd)(tk):Prop where
 a:Jo2 x f
 ex:∃(oc:Value) (od:Option Addr) (kV doc pm:Value) (an:Option Addr) (cdv ct:Value) (osl:Jjp Value),
  fd=Jkz x x st st (ai st) (.ref td) kV doc pm an cdv ct/\Jd7 f oc od fd osl/\JgU K cdv x
 k:JkA f
 t:∃(od:Option Addr) (n:Nat) (sl:Jjp Value),Jd6 td (.type "tuple") od (.seq #[JaX tk] n) sl
def fd_in {K:W.Frag}{x:Str}{st:Stmt}{f g:Addr}{p kV b h cdv i:Value}{od j e:Option Addr}{d o:Array Jf3}{tk:Tok}{n:Nat}(a:Jo2 x f)(l:Jd7 f p od (Jkz x x st st (ai st) (.ref g) kV b h j cdv i) d)(c:JgU K cdv x)(k:JkA f)
  (t:Jd6 g (.type "tuple") e (.seq #[JaX tk] n) o):FD K x st f g (Jkz x x st st (ai st) (.ref g) kV b h j cdv i) tk:=(a,(p,od,kV,b,h,j,cdv,i,d,rfl,l,c),k,e,n,o,t)
def FD.okX {P:Program}{w:World}{K:W.Frag}{mg:Str->Option Value}{base:Heap}{x:Str}{st:Stmt}{f g:Addr}{e:FuncData}{tk:Tok}{N ps:List Str}{k:Nat}{sp:Sp}(F:FD K x st f g e tk)(S:Je N ps st)
  (a:∀(cdv:Value) (A:Around) (outer:List Env) (s:Shared) (H:Hp) (vs:List V) (Q:VK) (E:XK),Jl3 k x st→sp vs H Q E →
   ∃t,Jjn (JfN (CX1 P w) P w K mg N x st f A s H E) Jn5/\t { nx:=λy H'=>Q .non H',rt:=Q } (JhR N) H)(b:∀vs H Q E,sp vs H Q E->N1 vs.length:=by intro _ _ _ _ h;cases h;subst_vars;rfl):Jc9 P w K mg P w (k+1) f e ps sp:=by let(o,od,kV,l,n,q,cdv,p,h,rfl,i,d):=F.ex;exact qu i d S b λA outer s H vs Q E j c=>a cdv A outer s H vs Q E j c
def bindD (F:FD K x st f td fd tk)
  (h:∀kV d i l cdv j a b,∃k:JlG (Array Value) (Sem (JcB Value)),JcZ (Jkz x x st st (ai st) (.ref td) kV d i l cdv j) [a,b]=seqItems? (.ref td)>>=k/\JdQ (k (some #[JaX tk])) [(p,a,),(q,b,)]):Yj fd [p,q]:=by
 let(A,od,kV,d,i,l,cdv,j,o,e,B,v):=F.ex;let(r,n,z,u):=F.t;intro s us X g;rw[List.append_nil]at g⊢;rcases us with _|⟨a,_|⟨b,_|⟨c,us⟩⟩⟩
 .cases g
 .cases g
 .let(k,y,w):=h kV d i l cdv j a b;subst e;exact BindsTo.of_defaults rfl (X _ _ u) rfl y w
 .cases g
def bind1 (F:FD K x st f td fd tk)
  (h:∀kV c d i cdv g a,∃k:JlG (Array Value) (Sem (JcB Value)),JcZ (Jkz x x st st (ai st) (.ref td) kV c d i cdv g) [a]=seqItems? (.ref td)>>=k/\JdQ (k (some #[JaX tk])) [(p,a,),(q,JaX tk,)]):aw K fd [p,q] [JaX tk]:=by
 let(z,od,kV,c,d,i,cdv,g,l,e,A,u):=F.ex;let(o,n,y,r):=F.t;intro s us X j;rcases us with _|⟨a,_|⟨b,us⟩⟩
 .simp at j
 .let(k,w,v):=h kV c d i cdv g a;subst e;exact BindsTo.of_defaults rfl (X _ _ r) rfl w v
 .simp at j
structure uq (n)(B:Xg Int):Prop where
 row:∀r∈B,r.Nodup/\∀p∈r,Joj 0
 n40:n<=40
 bl:Jr Jqs
structure SrQ (K)(CL)(H)(n)(T)(As)(Rs)(most)(Q:VK)(E:XK):Prop where
 long:∀x,Jfx T most n x .long->most<2^(n+2)->∀H',QF (JdG CL H')
 yes:∀H' t th S,Jfx T most n (S,.rest,) .yes->VQ t (Jma (Uk t (JY "yes" th)) (Vy th ((Jbx n).map V.int)) (∀r∈Rs,∃p∈r,p∈Jbx n) (∀r,Jnm T r->∃p∈r,-p∉Jbx n) t)
 no:∀H' t pl ys S f,Jfx T most n (S,.odds f,) .no->VQ t (Ms pl (Uk t (Jgq pl)->Jma (Ji3 pl) (V3 (S.pp++[J_ (MD f).reverse]) ys) (MU (S.pp++[J_ (MD f).reverse])) (∀v,kQ (IO T) v->¬gL v Rs) t))
inductive pX (K)(CP CL):Sp|m{vs H Q E} (p tl al rl) (T) (As) (Rs) (most):vs=UJ p most->Jk8 CP H T->MX 60->uq WR Rs->1<=most->JbP most->SrQ K CL H WR T As Rs most Q E->pX K CP CL vs H Q E
def pY:JjH Jrz "most" lx:=fsc
structure HG (P)(w)(K)(mg)(base)(C CP CL fI fB fN fC fG fP)(dI dB dN dC dG dP'):Prop where
 mI:Mk K C fI
 I:Vn 1 fI dI Je0 (uo K C CP)
 bI:Yj dI Je0
 gI:mg "Hunt"=Ja C
 mB:XY "begin" fB
 B:Jc9 P w K mg P w 8 fB dB ["self"] (uj K C CP CL)
 bB:JjJ dB
 mN:XY "learn" fN
 N:Jc9 P w K mg P w 4 fN dN (Wo "fails") (uh K C CL)
 bN:VA dN "fails"
 mC:XY "choose" fC
 C':Vn 2 fC dC ["self"] (ue K C)
 bC:JjJ dC
 mG:XY "grow" fG
 G:Jc9 P w K mg P w 7 fG dG ["self"] (nQ K C CP CL)
 bG:JjJ dG
 mP:XY "held_parts" fP
 P':Vn 1 fP dP' ["self"] (ug K C)
 bP:JjJ dP'
theorem zE:∀ts:Mm Int,cnt ts<=(ts.length:Int)
 |[]=>Int.le_refl _
 |t::ts=>by have:=zE ts;show zaS t+cnt ts<=(ts.length+1:Int);unfold zaS;split<;>lia
inductive HSt (n)(B)(T)(As)(most)(S):V->Prop
 |rest:Jdw n B T S->NV S.lk->(∀r,Jnm T r->∃p∈r,-p∉S.hs)->S.pp.length<=2*Jjc 0->Jfa T (hS0 B n,.beg 0,) (S,.rest,)->HSt n B T As most S .non
 |odds {f:Int}:dy n B (IO T) S f->(∀c,(S.wg c).length<=S.rs.length)->S.pp.length<=2*Jjc 0+1->Jfa T (hS0 B n,.beg 0,) (S,.odds f,)->HSt n B T As most S (.int f)
def HSt.b (h:HSt n B T As most S v):HB n B (IO T) S/\S.pp.length<=2*Jjc 0+1:=by
 cases h with
 |rest h _ _ p _=>exact(h.b,Jn)
 |odds h _ p _=>exact(h.b,p)
inductive SI (K)(C)(H)(p x)(most)(n)(Rs)(Ts)(As)(m)(σ)(H'):Prop|m (v) (A') (S') (O') (R'):σ=[Ja p,Ya most,Ja x,some v]->m=2^(n+1)-WP 0 S'.ts->A'.h=x->HSt n Rs Ts As most S' v->(S'.pp.length:Int)<=most->Ug K C H O' H' A' p S' S'.hs R'->SI K C H p x most n Rs Ts As m σ H'
set_option tactic.hygienic true in
def FO (T:Jfv C)(G:HG P w K mg base C CP CL fI fB fN fC fG fP dI dB dN dC dG dP'){cdv:Value}{Ar:Around}{outer:List Env}{s:Shared}{H0:Hp}{E:XK}(hr:ag 8 (Ar.deeper (J6 "search" lx f cdv))) :
  ∃z,PSs (JfN (CX1 P w) P w K mg Jrz "search" lx f Ar s H0 E) ((zas lx).drop 2) z/\
   ∀H Q p x tl al rl Ts As Rs k n A H2 v,As.length=n->Jk8 CP H Ts->Ts.length<=60->uq n Rs->1<=k->JbP k->SrQ K CL H n Ts As Rs k Q E->A.h=x->(∃X O2 R2,HSt n Rs Ts As k X v/\(X.pp.length:Int)<=k/\Hu K C H O2 H2 A p k X X.hs R2)->
    z { nx:=λ_ H'=>Q .non H',rt:=Q } [Ja p,Ya k,Ja x,some v] H2:=by
 let hr1:=JsE 1;let hr2:=JsE 2;let hr4:=JsE 4;let hr7:=JsE 7;apply Ym (aj (kq Jqo (cM cZ) (JdY (be (IX kx 3 eC) (aj (be (GK (Qo 2 G.mN G.N hr4 G.bN Jqv (Uc 3))) (Nc (cb (Qh ba (Wg 2))))
       aU)) (aj (be (GK (lY UA Yt G.mC G.C' hr2 G.bC .nil aJ)) (Nc (cb (Qh ba (lY UA Yt G.mP G.P' hr1 G.bP .nil aJ))))
       aU))) (Jsz 3 pY.nd (lY UA Yt G.mG G.G hr7 G.bG .nil Jqv)))));rfl'
 rintro H Q p x tl al rl' Ts As Rs k n A H2 v hn PP t60 ro m1 m2 q J ⟨X,O2,R2,h2,p2,U2⟩;let U:=ro.n40;apply Gc (SI K C H p x k n Rs Ts As) (_,v,A,X,O2,R2,6,J,h2,p2,U2)
 clear h2 p2 U2 X O2 R2 v H2 J A;rintro m σ H1 ⟨v,A,o,O1,R1,rfl,em,J,st,pmx,U1⟩;let wl:WP 0 o.ts+2<=2^(n+1):=by have:=mK n o.ts 0 (by have:=st.b.1.tlen;lia);lia
 let rl:o.rs.length<=101000:=by have:=st.b.1.len;have:=ro.bl;lia
 let i1:=U1.ins;rw[J]at i1;apply QD (Go (λc=>JC c));apply Ym (λ_ _ z=>z);let gr:∀{I O3:Hp} {R3:HC} {S:HA} {B:HS} {v3:V},S.h=x->Jdw n Rs Ts B->Rch (QC Ts) k (Jfw n,.beg 0,) (B,.grow,)->WP 0 o.ts<WP 0 B.ts->B.pp.length<=2*WP 0 B.ts->(B.pp.length:Int)<=k->Hu K C H O3 I S p k B B.hs R3->
   (JjX (qr C "grow" (nQ K C CP CL) [] E (jr 2) hF) 3) { nx:=λσ' H'=>∃m',m'<m/\SI K C H p x k n Rs Ts As m' σ' H',rt:=Q,bk:=λ_ _=>False,ct:=λ_ _=>False } [Ja p,Ya k,Ja x,some v3] I:=by
  intro I O3 R3 S B v3 W M3 O w3 pw3 pm3 D;let i3:=D.ins;rw[W]at i3;let wl3:WP 0 B.ts+2<=2^(n+1):=by have:=mK n B.ts 0 (by have:=M3.b.tlen;lia);lia
  let wl4:(wgt n 0 B.ts:Int)+2<=(2:Int)^(n+1):=by exact_mod_cast wl3
  let pl3:JbP B.pp.length:=Jn
  let rl3:B.rs.length<=197000:=by have:=M3.b.len;have:=ro.bl;lia
  let fin:∀Y O4 R4 F v4,WP 0 B.ts<=WP 0 F.ts->HSt n Rs Ts As k F v4->(F.pp.length:Int)<=k->Hu K C H O4 Y S p k F F.hs R4->∃m',m'<m/\SI K C H p x k n Rs Ts As m' [Jmw p,Ya k,Ja x,some v4] Y:=by intro Y O4 R4 F v4 w4 st4 p4 U4;let wl5:=mK n F.ts 0 (by have:=st4.b.1.tlen;lia);rw[Nat.sub_zero]at wl5;exact(_,by rwa[em]at Nat.sub_lt_sub_left (Nat.lt_of_lt_of_le Jrt (Nat.le_of_add_right_le wl5)) Jrt,v4,S,F,O4,R4,6,W,st4,p4,U4)
  exact(2,x,S.dx,2,i3,rfl,S,H,O3,p,tl,al,rl',k,B,R3,n,Rs,Ts,As,Rs,by rw[W];rfl,D,Jmo M3 U rl3 t60,PP,λY F lg s4=>q.long _ (O.trans lg.r,lg.f) (by let(_,_,h,_):=lg.f;let h:k<=(F.pp.length:Int):=h;rw[lg.p]at h;lia) Y s4,λY O4 R4 F r U4=>fin _ _ _ _ _ (r.e.wgt n) (.rest r.m r.l r.nc (by rw[r.e.pp];have:=r.e.wgt n;lia) (O.trans r.r)) (r.e.pp<|>pm3) U4,λY O4 R4 F g r U4=>fin _ _ _ _ _ r.w (.odds r.c r.g (by have:=r.p;have:=r.w;lia) (O.trans r.r)) (r.q pm3) U4)
 cases st with
 | odds Cf gl pw Z =>
  rename_i fl;let sp:SpLn n Rs (IO Ts) o fl:=Jmo Cf U Jn (λc=>by have:=gl c;lia);apply Jf9 (Go (λc=>W7 (by rfl)));apply(2,x,Ui,2,i1,rfl,2,A,H,O1,p,k,o,R1,fl,n,Rs,_,by rw[J];rfl,U1,sp,λhn' hm H' s'=>q.long _ (Z,.inl (XA hn' hm)) Jn H' s',λR hm I O3 R3 D=>?_,λS I O3 R3 B e3 O D=>?_)
  .apply QD (Go (λc=>W7 (by rfl)));let i3:=D.ins;rw[J]at i3;apply XX _ x C Ui _ _ rfl i3 Yt T.n_paper tT lS2 (λt ht=>?_);let s3:IB I I t (JiI "no" A.pp):=Nn ht;exact q.no _ t A.pp _ o fl (Z,.inr (XA R hm)) (D.t.f.trans s3) (D.t.f.free ht) (D.t.d _ (D.u.at_ 2 _ _ rfl rfl<|>λz=>nomatch z)) ao (s3 _ _ (D.at' 2 rfl rfl)) (D.u.pp.keep s3.kt D.u.pn) D.u.pn λv ve=>Cf.no R v ve
  .apply QD (IP (λc=>XC c));let w3:=O.wgt;let pp3:B.pp.length≤o.pp.length+1∧(B.pp.length:Int)≤k:=by
    rcases O.to with ⟨e,_⟩|⟨e1,e,_⟩
    .rwa[e]at W4 pmx
    .rw[e,lAq];show _+1<=_/\((_+1:Nat):Int)<=_;lia
   exact gr (e3.trans J) O.mid (Z.step (Wf O.st)) w3 Jn pp3.2 D
 | rest M hl nc pw Z =>
  apply Jf9 (IP (λc=>absurd c (show ¬Vi (!decide (V.non=V.non)) by decide)));let tln:=M.b.tlen;let bsl:Jr o.bs.length:=by let h1:=oM o.ts;let h2:=zE o.ts;rw[<-M.b.bs]at h1;lia
  apply(2,x,Ui,2,i1,rfl,A,H,O1,p,k,o,R1,by rw[J];rfl,U1,(by lia,bsl,λa L=>by have:=(M.b.od a).mp L;lia,M.b.la),?_);cases R:kT o with
  | none =>
   apply QD (Go (λc=>W7 (by rfl)));apply(2,x,Ui,2,i1,rfl,A,H,O1,p,k,o,R1,n,by rw[J];rfl,U1,U,M.b.od,M.b.odn,λI th s3 n3 h3=>(lS2,λt ht=>?_));let s4:IB I I t (JiI "yes" th):=Nn ht;let sH:=U1.t.f.trans s3;let all:∀a∈o.od,a∈o.hs\/-a∈o.hs:=λa L=>by
    have:=List.find?_eq_none.mp R a L;lia
   apply q.yes _ t th o (XA Z R) (sH.trans s4) (sH.free ht) ao (s4 _ _ h3) (λr hr'=>?_) λr er=>?_
   .let(z,z1,z2):=M.yes hl all r hr';let z3:=(ro.row r hr').2 z z1;exact(z,z1,FN z2 z3.1 z3.2 λ_ y=>M.b.tok.cons z2 y)
   .let(z,z1,z2):=nc r er;apply(z,z1,λz3=>z2 ?_);unfold eA at z3;let(a,L,e):=List.mem_map.mp z3;rw[←e];let L:=(M.b.od a).mpr (lP.mp L);split
    .assumption
    .rename_i c;exact(all a L).resolve_left c
  |some a=>
   intro I O3 R3 D;apply QD (IP (λc=>XC c));let L:=List.mem_of_find?_eq_some R;let hb:=List.find?_some R;simp only[Bool.and_eq_true,decide_eq_true_eq]at hb;let w3:=CM n o.ts ((o.la a).getD (-a),-1,);exact gr J (M.pick Jn hl L hb.1 hb.2 nc) (Z.step (XA a R)) w3 (Nat.le_trans pw (Nat.mul_le_mul_left 2 (Nat.le_of_lt w3))) pmx D
def FP {td:Addr}{tk:Tok}(F:FD K "search" lx f td fd tk)(T:Jfv C)(G:HG P w K mg base C CP CL fI fB fN fC fG fP dI dB dN dC dG dP'):Jc9 P w K mg P w 9 f fd JqZ (pX K CP CL):=by
 apply FD.okX F pY λcdv Ar outer s H vs Q E hr h=>?_
 let(p,t,J,v,Ts,As,Rs,d,rfl,S,k,u,m1,m2,q):=h;let hr2:=JsE 2;obtain⟨z2,h2,q2⟩:_:=FO (base:=base) T G (cdv:=cdv) (outer:=outer) hr;apply Ym (XT (i:=2) pY.nd (AF G.mI G.I hr2 rfl G.gI G.bI .nil aJ (VJ 0 1)) (ae (Jsz 3 pY.nd (lY UA Yt G.mB G.B hr G.bB .nil Jqv))
  h2));rfl'
 generalize hn:As.length=n at *;let Y:=u.n40;apply Jnw _ _ (λx dx hx D nd=>?_);let y:(Jle x) x=some _:=ao;let s1:M9 (gB (Jle x) x):=λb o e=>by
  let M:b≠x:=λz=>by erw[z,hx]at e
  let Z:b≠dx:=λz=>by erw[z,D]at e
  unfold gB;rwa[if_neg M,aq M,aq Z]at e
 let X:M9 (Jle x):=λb o e=>by
  let M:b≠x:=λz=>by erw[z,hx]at e
  let Z:b≠dx:=λz=>by erw[z,D]at e
  rwa[aq M,aq Z]at e
 apply(x,dx,p,t,J,v,d,Ts,As,Rs,rfl,y,S.pr.same X,Jn,λA O R H1 N U=>Qm rfl);rw[hn]at U;let U:=U.base s1;let sb:cD n Rs 0 (Jfw n):=cD.zero rfl rfl rfl rfl (λa=>lP) ((uf n).imp λ{a b} h e=>Jn) (λV=>rfl) rfl (λV=>rfl) λV=>rfl;let i1:=JeN;rw[N]at i1;apply(2,x,Ui,2,i1,rfl,A,H,O,p,t,J,v,d,Jfw n,R,n,Rs,Ts,As,Rs,by rw[N];rfl,U,(k,sb,u.row,Y,u.bl),S,λW L V fn e X=>absurd m1 (by let(_,_,h,_):=fn;let h:=h;rw[e]at h;let h:d<=0:=h;lia),λW O2 R2 L r U2=>?_,λW O2 R2 L fl r U2=>?_)
 .exact q2 H Q p x t J v Ts As Rs d n A W .non hn S k u m1 m2 q N (L,O2,R2,.rest r.m r.l r.nc (r.p<|>Nat.zero_le _) r.r,by rw[r.p];show Jni d;lia,U2)
 .exact q2 H Q p x t J v Ts As Rs d n A W _ hn S k u m1 m2 q N (L,O2,R2,.odds r.c r.g (by have:=r.p;exact Nat.le_add_left_of_le this) r.r,by have:=r.p;lia,U2)
def ur (K)(n:String):Jbz K n n=some true:=by unfold W.kitOne;simp
theorem zF:∀xs ys:List Dt,bx (xs++ys)=Jm7 (bx xs) ys
 |[],ys=>(Nat.zero_max _).symm
 |x::xs,ys=>by show Jm7 (dep x) (xs++ys)=Jm7 (Jm7 (dep x) xs) ys;rw[zF xs ys,Nat.max_assoc]
theorem zG (c):∀(L:List Int) st,(L.foldl (L2.stepK c) st).1.pp=st.1.pp
 |[],_=>rfl
 | r :: L,st=>(zG c L (L2.stepK c st r)).trans (by
  unfold L2.stepK;split
  .rfl
  .split
   .rfl
   .split<;>rfl)
def zH (S:HS)(i:Nat):(gN S i).1.pp=S.pp:=by
 unfold gN;split
 .rfl
 .unfold kU;split
  .rfl
  .split
   .rfl
   .split<;>rfl
  .rfl
def zI (S):(gO S).1.pp=S.pp:=by
 unfold gO;split
 .rfl
 .exact zG _ _ _
def uu (ps hs):dep (lnD ps hs)<=3:=by simp only[lnD,dep,bx,iO];decide
def dep_eq (ps)(ls):dep (eqD ps ls)<=3:=by have:=xB ls;simp only[eqD,dep,bx,iO];simp_all
def pZ (h:JiR ds 3)(a:dep d<=3):JiR (ds++[d]) 3:=by rw[zF];show max _ (max (dep d) 0)<=3;lia
def stp_pp (s:Jmp (QC T) x y)(h:JiR x.1.pp 3):JiR y.1.pp 3:=by
 let(S,p):=x;cases p with
 |beg i=>
  rwa[show y=gN S i from s,zH]at h
 |grow=>
  rwa[show y=gO S from s,zI]at h
 | ask =>
  let(o,(g,_,_,c),b):=s;cases o with
  |none=>
   rwa[show y=(S,.rest,) from b]at h
  |some q=>
   let(_,_,_,_,_,_,_,_,_,_,e):=c.ex;rw[b.2];apply pZ h ?_;rwa[e]at dep_eq _ _
 |rest=>
  let(a,_,e):=s;rwa[e]at h
 |odds f=>
  let(a,rest,m,j,la,_,_,_,_,d):=s.1.ex;rcases d with ⟨_,e⟩|⟨_,_,e⟩
  .rwa[e]at h
  .rwa[e]at pZ h (uu _ _)
def zJ (r:Jfa T (S,.beg 0,) x)(h:JiR S.pp 3):JiR x.1.pp 3:=by
 induction r with
 |refl=>exact h
 |step _ s a=>exact stp_pp s a
def fdD (n:Nat)(x:HS×Ph):Dt:=match x.2 with
 |.odds f=>JpD "no" (x.1.pp++[J_ (bM x.1.rs x.1.ts f).reverse])
 |_=>Ul "yes" (.tup ((eA n x.1.hs).map Ie))
inductive Fdt (K)(H:Hp)(t)(n)(T)(As)(Rs:Xg Int):HS×Ph->Wd->Prop
 |yes (S) (th):QG t (JY "yes" th) (Jil th ((Jbx n).map V.int) ((∀r∈Rs,∃p∈r,p∈Jbx n)->(∀r,Jnm T r->∃p∈r,-p∉Jbx n)->Fdt K H t n T As Rs (S,.rest,) .yes))
 |no (S) (f) (pl) (ys):QG t (Jgq pl) (Qr pl ys->Vt (S.pp++[J_ (MD f).reverse]) ys->MU (S.pp++[J_ (MD f).reverse])->(∀v,kQ (IO T) v->¬gL v Rs)->Fdt K H t n T As Rs (S,.odds f,) .no)
structure iw (K)(H)(t)(n)(T)(As)(Rs)(most)(x)(w:Wd):Prop where
 a:Jfx T most n x w
 f:Fdt K H t n T As Rs x w
def iw.same (a:iw K H t n T As Rs most x w)(s:Xd H):iw K H' t n T As Rs most x w:=by
 let(a,f):=a;apply Qm a;cases f with
 |yes S g e d c b=>exact .yes S g (s _ _ e) (s _ _ d) c b
 |no S f pl ys e d c b h=>exact .no S f pl ys (s _ _ e) (s _ _ d) (c.keep (.of_same s) b) b h
def iw.has (a:iw K H t n T As Rs most x w):Qx K H (fdD n x) t:=by
 cases a.f with
 |yes S g c b d e=>exact JhG c (Jo b (ar.ints _))
 |no S f pl ys c b d e h=>exact JhG c (Ww b d)
def iw.dep (a:iw K H t n T As Rs most x w):L2.dep (fdD n x)<=60:=by
 cases a.f with
 |yes S i h g e c=>
  simp only[fdD,L2.dep,bx,iO];decide
 |no S f pl ys h g e c j=>
  let b:=pZ (d:=J_ (MD f).reverse) (zJ a.a.1 Zq) (uu _ _);let b:JiR (S.pp++[J_ (MD f).reverse]) 3:=b;simp only[fdD,L2.dep,bx];lia
def pow_le (h:n<=8):(2:Int)^(n+2)<=2000:=by
 have:(2:Nat)^(n+2)<=2^10:=Nat.pow_le_pow_right Jp Jn;exact Int.ofNat_le.mpr (Nat.le_trans ‹_› Jp)
abbrev p_:Stmt:=K53.top 31
abbrev uv:Stmt:=K53.top 32
abbrev uw:Stmt:=K53.top 34
abbrev qa:Stmt:=K53.top 35
abbrev ux:Stmt:=K53.top 36
abbrev uy:Stmt:=K53.top 38
abbrev qb:Stmt:=K53.top 39
abbrev uz:Stmt:=K53.top 61
abbrev uA:Stmt:=K53.top 62
abbrev uB:Stmt:=K53.top 63
abbrev uC:Stmt:=K53.top 64
abbrev uD:Stmt:=K53.top 65
abbrev uG:Stmt:=K53.top 67
abbrev uH:Stmt:=K53.top 68
abbrev uI:Stmt:=K53.top 80
abbrev uJ:Stmt:=K53.top 81
abbrev qd:Stmt:=K53.top 82
abbrev uK:Stmt:=K53.top 83
abbrev uL:Stmt:=K53.top 84
abbrev uM:Stmt:=K53.top 85
abbrev uO:Stmt:=K53.top 87
def iQ (Rs:Xg Int)(h:Int)(a out:List Int):Prop:=Yw ((Jy h).any λq=>decide (q∈a))/\opn (Jy h) a=out
def nf_opn (h:Yw (row.any λq=>decide (q∈hs))):nf row hs=opn row hs:=by unfold nf opn;congr 1;apply List.filter_congr λp a=>?_;have:=List.any_eq_false.mp h p a;simp [*]
def iQ.nf (l:iQ Rs h held out):L2.nf (Jy h) held=out:=(nf_opn l.1).trans l.2
def iQ.new (l:iQ Rs h held [a]):a∉held:=(wX.mp (l.2<|>VI)).2.1
structure LnG (n:Nat)(Rs:Xg Int)(ps hs:List Int):Prop where
 rng:∀h∈hs,0<=h/\h<Vd
 ex:∃xs:List Int,hs.length=JjE 1/\(∀i h x,hs[i]?=some h->xs[i]?=some x->iQ Rs h (ps.map (λp=>-p)++xs.take i) [x])/\∀h,hs[xs.length]?=some h->iQ Rs h (ps.map (λp=>-p)++xs) []
 h:NJ JrZ
theorem zK:∀i,(JiF i).length<=i
 |0=>nRq _
 | i+1=>by
  have:=zK (Rs:=Rs) (ts:=ts) (f:=f) i;unfold bO;split
  .split
   .rw[lAq];show _+1<=_;lia
   .lia
  .lia
def LnG.of (b:My Rs)(j:JgH f)(C:Jmn 60):LnG n Rs (JJ f) (Jjs f).reverse:=by
 rw[Cw];let D:=zK (Rs:=Rs) (ts:=ts) (f:=f) Wm;generalize l:(J4 f).reverse=a;let u:(J4 f).length=a.length:=by rw[<-l,List.length_reverse]
 let o:∀k,fm Rs ts f k=(JJ f).map (λp=>-p)++(a.map Yy).take k:=λk=>by rw[<-l,<-List.map_take];rfl
 let q:∀{k t},a[k]?=some t->_:=λ{k t} h=>Cu b j (k:=k) (t:=t) (l<|>h);let B:∀{h},(a.map Jbr++[f])[a.length]?=some h->h=f:=λ{h} e=>by rw[List.getElem?_append_right (lM<|>nRq _),lM,Nat.sub_self]at e;injection e with e;exact Jkm
 apply Gc (λh A=>?_) (Jho (a.map Yy) (λi h x d c=>?_) (λh d=>?_))
 .rcases mPq A with z | z
  .let(t,v,rfl):=List.mem_map.mp z;let(k,w):=List.getElem?_of_mem v;exact(q w).1
  .rwa[mSq z]at(j.f0,j.f1)
 .rw[List.getElem?_map]at c;cases e:a[i]? with
  |none=>erw[e]at c
  |some t=>
   erw[e]at c;let y:i<a.length:=(gEq e).1;erw[List.getElem?_append_left (lM<|>y),List.getElem?_map,e]at d;let(_,s,r,_):=q e;rw[o]at s r;exact(s,r)
 .rw[lM]at d;cases B d;let g:=Cv b j;rw[u,o,tO (lM<|>nRq _)]at g;exact g
 .rw[lAq,lM,<-u];show _+1<=_;exact Vk (Nat.le_trans ‹_› ‹_›)
structure LkR (T:List MV)(As:List At)(ps:List Int)(hd)(l):Prop where
 inn:LkIn T.length WR l
 how:(l.2.2=0/\jO T hd l.1 l.2.1)\/(0<l.2.2/\-l.2.2∈ps/\NT l.2.2 (l.1,l.2.1,))
structure EqG (T)(As)(ps)(ls:List Lk):Prop where
 lk:∀i l,ls[i]?=some l->LkR T As ps (Jcb i) l
 says:∃d∈ps,Vi (Jn7 ls d)
 len:NJ JiW
structure PtG (n)(ps:List Int):Prop where
 p:∀p∈ps,Joj 0
 a:(ps.map zaW).Nodup
inductive iz (T)(As:List At)(Rs):Dt->List Int->Prop
 |ln (ps hs):N7 ps->LnG WR Rs ps hs->iz T As Rs (lnD ps hs) ps
 |eq (ps) (ls):N7 ps->EqG T As ps ls->iz T As Rs (eqD ps ls) ps
def zL (hs:List Int):∀ls:List Lk,hdL (ls.map (mk1 hs))=hdL ls:=λls=>by unfold hdL;rw[List.foldl_map];rfl
def FQ (h:J0 ts L y M)(R:Jep L)(w:M.Pairwise Q3){i:Nat}{l:Lk}{q:Nat}(g:M[i]?=some q)(p:L[q]?=some l)(A:l.2.2=-1):jO ts (hdL ((IG L).take i)) l.1 l.2.1:=by
 rcases(R q l p).how with ⟨a,_⟩|⟨_,t,u,t1,t2,t3,t4⟩
 .lia
 let e:t.2.length=u.2.length:=by have:=Mt t4;simpa using this
 apply(t,u,t1,t2,t3,W53.eq_map_zip e λab o=>?_);let v:ab∈W53.pairsF ts l:=by unfold W53.pairsF;rwa[if_pos A,t1,t2]at o
 let(C,P,sub):=h.all q (mO g) l p ab v;let d:=P.below (W53.RightL_forest R) (W53.pairs_joined R p ab v);apply P.walk _ λr s m f=>?_;unfold W53.atP;rw[<-List.map_take];apply oF _ m (W53.mem_atP (q:=r) ?_ f);let(j,k):=List.mem_iff_getElem?.mp (sub r s);let b:=gEq k;let c:=gEq g;let z:j<i:=by
  apply Decidable.byContradiction λn=>?_;let D:=d r s;by_cases B:j=i
  .lia
  .have:=List.pairwise_iff_getElem.mp w i j c.1 b.1 Jn;rw[c.2,b.2]at this;lia
 exact JsK j (by rwa[List.getElem?_take,if_pos z]at k)
section
variable {n:Nat} {B:List Yk} {T:List MV} {As:List At} {most:Int} {S:HS}
def FR (c:ClY T As hs ms q)(E:JkU hs)(H:hs.Nodup)(no:∀p∈hs,-p∉hs)(D:MX 60)(Rs:Xg Int):iz T As Rs q.1 q.2:=by
 let(d,r,x,y,M,e,A,N,u,R,rfl):=c.ex;let v:d∈ms.filter (X2 Jrv As):=by rwa[e]at VI
 let d0:=jU A;let Y:-d∈hs:=by let(k,O,X):=List.mem_map.mp (E.mem_iff.mp (List.mem_filter.mp v).1);rwa[<-X,Int.neg_neg]at(List.mem_filter.mp O).1
 dsimp only [clD];generalize JlY hs=L at *;let g:=λp=>nJ (d:=d) (p:=p) R Jn3;let F:=tK R Jn3 u H (show 0<d by lia);apply .eq _ _ (λp K=>?_,List.pairwise_map.mpr (F.imp_of_mem λ{a b} U Q G z=>?_)) (Gc (λi l t=>?_) (Gc d ((g d).mpr (.inl rfl))))
 .rcases(g p).mp K with rfl | ⟨_,_,_,k,_,_,_,h3,_,h5,rfl⟩
  .exact lqN d0 (.inl rfl)
  .have:=jU h3;exact lqN this (.inr rfl)
 .rcases rK z with z | z
  .exact G z
  .let fl:=tJ R Jn3 Y;let C:=fl a U;let W:=fl b Q;rw[z,Int.neg_neg]at C;exact no _ C W
 .rw[List.getElem?_map]at t;let(l0,j,rfl):=Option.map_eq_some_iff.mp t;rw[←List.map_take,zL];unfold W53.atP at j;rw[List.getElem?_map]at j;let(q,s,eq):=Option.map_eq_some_iff.mp j;let o:=gG (N.inn q (mO s));rw[W53.getD_at o]at eq;rw[eq]at o;let f:=R.inn l0 (mO o);by_cases c:l0.2.2=-1
  .let w:=pR (Ny hs) c;exact((f.1,f.2,by rwa[w]at Int.le_refl _,by rw[w];lia),Qk w (by have:=FQ N R u s o c;exact this))
  .let(k,k1,k2,k3,J,k5):=lN R o c;rw[k2];let I:=jU k3;exact((f.1,f.2,by show 0<=k;lia,I.2),JfV k5 ((g _).mpr (.inr (q,mO s,l0,k,o,c,k1,k3,J,k5,rfl))) k3)
 .rw[zL,ze A];let(Z,P,sub):=N.top;exact dTq (P.walk _ λq s l t=>oF _ l (W53.mem_atP (sub q s) t))
 .rw[lM];unfold W53.atP;rw[lM];have:=jK _ (u.imp λh=>Nat.ne_of_lt h) Jn3;have:=R.len;lia
def ka (n:Nat)(B:Xg Int)(T:List MV)(As:List At)(x:HS×Ph):Prop:=match x.2 with
 |.beg i=>cD n B i x.1/\i<=Jqs
 |.grow=>Jdw n B T x.1
 |.ask=>Jdw n B T x.1/\x.1.lk=x.1.ts.length
 |.rest=>Jdw n B T x.1/\x.1.lk=x.1.ts.length/\∀r,Jnm T r->∃p∈r,-p∉x.1.hs
 |.odds f=>dy n B (IO T) x.1 f
def LaP.ok (h:LaP ts (λx=>j<=x) la0 la)(o:∀a x,Xa (la0 a) x->x=a\/x=-a):∀a x,Xa (la a) x->x=a\/x=-a:=λa x e=>by
 by_cases c:∃i t,j<=i/\ts[i]?=some t/\zaW t.1=a
 .let(i,t,f,d,b):=c;rw[(h a).1 i t f d b]at e;injection e with e;unfold zaW at b;split at b<;>lia
 .rw[(h a).2 λi t f d b=>c (i,t,f,d,b)]at e;exact o a x e
def zM (C:dy n B (IO T) S f):PtG n (GA f):=by
 let a:=C.b.tok;apply(λq k=>?_,List.pairwise_map.mpr ((mM a).imp_of_mem λ{x y} h g d z=>?_))
 .let(i,u,c,e,_):=ih a k;let p:=(a i u c).1;let o:=C.b.rng u (mO c);simp [*]
 .let(i,u,c,e,_):=ih a h;let(j,v,l,r,_):=ih a g;rcases rK z with z | z
  .exact d z
  .exact a.cons (eG c) (by rwa[show -u.1=v.1 by simp_all]at eG l)
def Pap (T:List MV)(As:List At)(B:Xg Int)(pp:List Dt)(rs:Xg Int):Prop:=∃L:Nb Dt Yk,pp=L.map Yy/\rs=B++L.map Jbr/\∀i x,L[i]?=some x->iz T As (B++(L.take i).map Jbr) x.1 x.2
def Pap.more (h:Pap T As B pp rs)(r:iz T As rs d ps):Pap T As B (pp++[d]) (rs++[ps]):=by
 let(L,f,b,e):=h;apply(L++[(d,ps,)],by rw[f,mAq];rfl,by rw[b,mAq,List.append_assoc];rfl,λi x a=>?_);rcases Nat.lt_or_ge i L.length with z|z
 .rw[List.getElem?_append_left z]at a;rwa[List.take_append_of_le_length (by lia)]at e i x a
 .let c:i=L.length:=by have:=(gEq a).1;rw[lAq]at this;have:i<L.length+1:=this;exact Nat.le_antisymm (Nat.le_of_lt_succ ‹_›) ‹_›
  subst c;erw[List.getElem?_append_right (nRq _),Nat.sub_self]at a;rwa[XL _,List.take_length,<-b]at r
def hs_two (a:JhY rs):S.hs.Nodup/\∀p∈S.hs,-p∉S.hs:=(by rw[List.Nodup,List.pairwise_map];exact(List.pairwise_map.mp a.negs).imp λh z=>h (by rw[z]),λp h h'=>a.cons h h')
set_option tactic.hygienic true in
def FU (G:∀r∈B,r.Nodup∧∀p∈r,Jmb (p≠0))(n40:Mz 40)(H:MX 60){x y:HS × Ph}(s:Jmp (QC T) x y)(h:Jbh B T As x)(u:Pap T As B x.1.pp x.1.rs):Jbh B T As y∧Pap T As B y.1.pp y.1.rs:=by
 let(S,p):=x;cases p with
 | beg i =>
  obtain⟨b,E⟩:cD WR B i S/\i<=B.length:=h;rw[show y=gN S i from s];unfold gN;rw[b.rs];split
  .rename_i e;let e2:i=B.length:=by have:=List.getElem?_eq_none_iff.mp e;lia
   subst e2;exact(b.mid G,u)
  .rename_i r v;let g:=G r (mO v);let E:i+1≤B.length:=(gEq v).1
   rcases r with _|⟨a,_|⟨c,U⟩⟩
   .exact((b.fail G v (λ_ z=>nomatch z),u):Jbh B T As (S,.odds (i:Int),)/\Pap T As B S.pp Jqf)
   .rw[show kU S i [a]=if -a∈S.hs then(S,.odds i,) else if Jnc a then(S,.beg (i+1),) else(S.hold a i,.beg (i+1),) from rfl]
    by_cases c:-a∈S.hs
    .rwa[if_pos c]at(b.fail G v (λp z=>by rw[mSq z];exact c),u)
    .rw[if_neg c];by_cases A:Jnc a
     .rwa[if_pos A]at((b.add v g.1 Js (λx e=>Jn) rfl,E),u)
     .rwa[if_neg A]at((b.hold Jn v (g.2 a Js) A c,E),u)
   .exact(((b.add v g.1 Js (λz e=>by cases e) rfl,E),u):Jbh B T As (S.watch i a c,.beg Xi,)/\Pap T As B S.pp Jqf)
 | grow =>
  let m:Jdw WR B T S:=h;rw[show y=gO S from s];unfold gO;split
  .rename_i e;exact((m,Nat.le_antisymm m.lk (List.getElem?_eq_none_iff.mp e)),u)
  .rename_i t ht;let(e,a,b):=m.look Jn ht;apply(?_,by rwa[show({ (eH S X1).1 with lk:=S.lk+1 }:HS).pp=_ from e.pp,show({ (eH S X1).1 with lk:=S.lk+1 }:HS).rs=_ from e.rs]at u);cases q:(eH S X1).2 with
   |none=>exact a q
   |some f=>exact b f q
 | ask =>
  obtain⟨m,l⟩:Jdw WR B T S/\NV S.lk:=h;let(o,(Q,J,O,w),F):=s;cases o with
  |none=>
   rwa[show y=(S,.rest,) from F]at JgE m l (zg w.2.1 w.2.2 J w.1) u
  |some q=>
   let w:ClY T As S.hs Q q:=w;let(P,no):=hs_two m.b.tok;rw[F.2];apply(?_,u.more (FR w J P no H _));let(d,r,x,y,M,e,W,N,O,R,rfl):=w.ex;let K:=(List.mem_filter.mp (show d∈Q.filter _ by rwa[e]at VI)).1;let(k,hk,ek):=List.mem_map.mp (J.mem_iff.mp K);let dn:-d∈S.hs:=by rwa[<-ek,Int.neg_neg]at(List.mem_filter.mp hk).1
   exact m.clash l _ (zf R N W) (tK R Jn3 O P (by have:=jU W;lia)) (tJ R Jn3 dn)
 |rest=>
  obtain⟨m,l,nc⟩:Jdw WR B T S/\NV S.lk/\_:=h;let(a,D,e):=s;let F:=List.mem_of_find?_eq_some D;let L:=List.find?_some D;simp only[Bool.and_eq_true,decide_eq_true_eq]at L;rwa[e]at(m.pick Jn l F L.1 L.2 nc,u)
 |odds f=>
  let C:dy WR B (IO T) S f:=h;let(S',ph):=y;obtain⟨st,rfl⟩:LStp most S f S'/\ph=.grow:=s;let(a,rest,m,j,la,X,h2,h3,h4,h5):=st.ex;let I:=zM C;let(a',Z,ea,Y,A,_):=C.next Jn (X<|>λz=>nomatch z) h2 h3 (LaP.ok h4 C.b.la) (zy I.p C.b.od) (zA I.a C.b.odn);let ln:iz T As Jqf _ _:=.ln _ _ I (LnG.of C.b.tok C.ln (by have:=C.b.tlen;lia));rw[X]at ea Y A ln;cases ea;rcases h5 with ⟨q,rfl⟩|⟨q,_,rfl⟩
  .exact(A q,u)
  .exact(Y _,u.more ln)
def FV (e:∀r∈B,r.Nodup/\∀p∈r,Jmb (p≠0))(b:Mz 40)(a:MX 60){x y:HS×Ph}(r:Jfa T x y)(h:Jbh B T As x)(d:Pap T As B x.1.pp x.1.rs):Jbh B T As y/\Pap T As B y.1.pp y.1.rs:=by
 induction r with
 |refl=>exact(h,d)
 |step _ s c=>exact FU e b a s c.1 c.2
def PapN (T:List MV)(As:List At)(B:Xg Int)(most:Int)(pp:List Dt):Prop:=∃L:Nb Dt Yk,pp=L.map Yy/\(L.length:Int)<=most/\(∃a d,L=a++[(d,[],)])/\∀i x,L[i]?=some x->iz T As (B++(L.take i).map Jbr) x.1 x.2
def FW (u:∀r∈B,r.Nodup/\∀p∈r,Jmb (p≠0))(k:Mz 40)(j:MX 60){f:Int}(a:JcD T most (JaF B) (S,.odds f,) .no):PapN T As B most (S.pp++[J_ (MD f).reverse]):=by
 let t:cD WR B 0 (JaF B):=cD.zero rfl rfl rfl rfl (λa=>lP) ((uf WR).imp λ{a b} h e=>Jn) (λn=>rfl) rfl (λn=>rfl) λn=>rfl;let(C,P):=FV u k j a.1 ((t,Nat.zero_le _):Jbh B T As (JaF B,.beg 0,)) (Ml [] ((List.append_nil _).symm) (λi x h=>by cases h));let C:dy WR B (IO T) S f:=C;rcases a.2 with ⟨_,_,z⟩|⟨z,l,_⟩
 .cases z
 let z:GA f=[]:=z;let l:(S.pp.length:Int)<most:=l;let ln:iz T As Jqf _ _:=.ln _ _ (zM C) (LnG.of C.b.tok C.ln (by have:=C.b.tlen;lia));rw[z]at ln;let(L,q,y,w):=P;let q:S.pp=L.map Prod.fst:=q;let(c,s,o,v):=Pap.more ((L,q,y,w):Pap T As B S.pp Jqf) ln;let d:c.length=Jmy 1:=by have:=Mt s;rw[lM,lAq]at this;exact JqK
 apply(c,s,(‹_›:_=_)▸‹_›,?_,v);let o:Jne []=B++c.map Prod.snd:=o;let g:c≠[]:=λz=>by erw[z]at d
 apply Gc c.dropLast ((c.getLast g).1);let e:(c.getLast g).2=[]:=by have:=congrArg List.getLast? o;rw[List.getLast?_append,List.getLast?_append,List.getLast?_map,List.getLast?_eq_some_getLast g]at this;have:=Option.some.inj this;exact JqK
 rwa[<-e]at(List.dropLast_concat_getLast g).symm
end
def cF:PSs X st (λx x x=>False):=λx x x x x x h=>h.elim
structure TxL (K:W.Frag)(mg:QT Str):Prop where
 len:Jg "len"
 min:Jg "min"
 max:Jg "max"
 dict:Jg "dict"
inductive uP (K):Sp|m{vs H Q E9} (q d) (row held):JnS (vs=Iw q d) (Vo q (row.map V.int)) (fk H d held) row.length ((∀H' l,JmG (Vy l ((nf row held).map V.int)) l)->uP K vs H Q E9)
def FX:Jsw ["row","held"] p_:=fsc
def zN {a:List Int}{i:Nat}{k:Int}(p)(h:a[i]?=some k):(a.take Xi).filter p=if Vi (p k) then(a.take i).filter p++[k] else(a.take i).filter p:=by
 rw[a_ h,List.filter_append];by_cases e:Vi (p k)
 .rw[if_pos e,List.filter_cons,if_pos e];rfl
 .rw[if_neg e,List.filter_cons,if_neg e,List.filter_nil,List.append_nil]
def FY {P:Program}{w:World}{K:W.Frag}{mg:Str->Option Value}{base:Heap}{f Y:Addr}{J Z:FuncData}(F:Fun K "not_failing" "not_failing" p_ f J)(u:Xu 1 "once_each" Y Z ["parts"] (pC K)):Vn 2 f J ["row","held"] (uP K):=by
 apply Jq_ FX G
 let(q,d,g,a,rfl,v,X,r,h):=h;let S:=dc G;let(kvs,T,R,_):=id X.ex;apply Ym (Nc (X0 u.ok G u.m u.kp u.b (Yb (WE (N':=["part","held"]) (ix:=[1]) rfl rfl rfl (λN=>JsN (ai p_) N) rfl rfl Xe (V7 0) (λ_ _ _ _=>(Jl6 S Jrg 1)) (λ_ _ _ _=>IN)))));rfl'
 apply JK _ q v (λD I=>gH cS (λi ys H'=>Xd H/\ys=((g.take i).filter λp=>decide (-p∉a)).map VG) (λi ys H' h_=>by let(o,_):=h_;exact o.tup v) (UI I) ?_ ?_)
 .rintro i ys H' x H'' C t c ⟨o,rfl⟩ ⟨rfl,O⟩;let(k,B,rfl):=ck (O _ (o.tup v));let L:=zN (λp=>decide (-p∉a)) B;let z:=o _ _ T;let U:i<g.length:=by simpa using C
  apply Q8 _ _ rfl _ rfl d _ (Jsx (Sum.inl (-k)) z) _ rfl ?_;rw[R];by_cases e:-k∈a
  .rw[dTq e];apply JkD C t c o;rw[L,if_neg (by simp [e])]
  .rw[dFq e];apply JoV (cv (lM<|>bsz _ r) C t c (Qm (o.upd I)));rw[L,Jah e,mAq];rfl
 .rintro ys H' c ⟨o,rfl⟩;rw[lM,NF _]at c;apply VV D (g.filter λp=>decide (-p∉a)) (SqL.of c) (Jcv _ r) (λH2 l M y=>h H2 l (o.trans M) y)
def zO {ps:List Int}{i:Nat}{k:Int}(h:ps[i]?=some k):(ps.take Xi).map (λp=>-p)=(ps.take i).map (λp=>-p)++[-k]:=by rw[a_ h,mAq];rfl
def qe (h0:0<=h)(a:h<Vd):Rs[h.toNat]?=some (Jy h):=by unfold aY;rw[List.getD_eq_getElem?_getD,gG (by lia)];rfl
def uQ (a:W_ zcM)(h0:0<=h)(b:h<Vd):∃q,Jm3 h=Ja q/\SqT K H q ((Jy h).map V.int):=by
 let(q,d,c):=wM a (qe h0 b);let e:h=((h.toNat:Nat):Int):=Jn
 apply(q,?_,c);rwa[e]at ay d
def FZ {K:W.Frag}{H:Hp}{ys:List V}{ps:List Int}(e:N1 JcW)(h:∀(i:Nat) (y:V) (p:Int),ys[i]?=some y->ps[i]?=some p->∃a,Nk y a/\Vo a (JeD p)):
  ∀(i:Nat) y c,ys[i]?=some y->(tkv ps)[i]?=some c->∃a,Nk y a/\SqT K H a [kV c.1,c.2]:=λi y c d b=>by
 unfold tkv at b;rw[List.getElem?_map]at b;cases q:ps[i]? with
 |none=>erw[q]at b
 |some p=>
  erw[q]at b;exact h i y p d q
def dPT (p:Int):Dt:=Nw p (.bl true)
theorem zP:∀ps:List Int,MU (ps.map dPT)
 |[]=>by rfl
 |t::ts=>by simp only[List.map_cons,bX,dPT,nol,Bool.true_and];exact zP ts
def F2 (h:JlU (dPT p)):∃a,Nk v a/\SqT K H a (JeD p):=by unfold dPT at h;simp only[Has,ar]at h;let(a,xs,rfl,hs,c,r,rfl,rfl,b,d,rfl,rfl,rfl):=h;exact Nd a hs
def of_dPT (h:Vo a (JeD p)):Qx K H (dPT p) a:=Jbd h .int (by rfl)
def F5 {K:W.Frag}{H:Hp}{ps:List Int}{ys:List V}(h:Vt (ps.map dPT) ys):ys.length=(tkv ps).length/\∀(i:Nat) y kv,ys[i]?=some y->(tkv ps)[i]?=some kv->∃a,Nk y a/\SqT K H a [kV kv.1,kv.2]:=by
 let b:N1 ys.length:=by rw[<-h.length,lM]
 apply(by rw[b];simp [tkv],FZ b λi y p g f=>?_);let(d,c,e):=h.get g;erw[List.getElem?_map,f]at c;exact F2 e
def F7 (a:List V)(z:V):Jo_ (a++[z]) (-1)=a:=by
 unfold eY;let e:JhX (a++[z]).length (a++[z]).length (-1)=a.length:=by
  show(if(-1:Int)<0 then((-1:Int)+((a++[z]).length:Int)).toNat else min (-1:Int).toNat (a++[z]).length)=a.length
  rw[if_pos (by decide),lAq];simp only[lS];lia
 rw[e,HT.sIx_none,List.drop_zero,Nat.sub_zero,List.take_left]
inductive uR (K):Sp|m{vs H Q E9} (rl pt ht) (xs) (Rs) (ps hs) (n):Je4 (vs=Jdg rl pt ht) rl (W_ zcM->WI pt->Jji ht->Jkt (∀r∈Rs,NJ r.length) ps.length (LnG n Rs ps hs->(∀H',M0 H')->uR K vs H Q E9))
def qf:Je ["rows","parts","hints","held","hint","left"] ["rows","parts","hints"] uv:=fsc
def F8 {P:Program}{w:World}{K:W.Frag}{mg:Str->Option Value}{base:Heap}{f fN:Addr}{fd dN:FuncData}(F:Jr_ "is_learnt" uv)(T:TxL K mg)(y:Xu 2 "not_failing" fN dN ["row","held"] (uP K)):JA 3 ["rows","parts","hints"] (uR K):=by
 apply XF qf
 let(Y,pt,I,xs,Rs,ps,hs,n,rfl,hS,hL,hP,hH,lr,lp,R,h):=h;let lh:=R.h;let hu:=dc hr;let hlen:Xp Rs.length:=by rw[<-hL.length,lM]
 apply Ym (ae (be (Qt (Q4 (ME 2)) (cI (Gx iA (Jdt (wV rfl) T.min Jqi)) (cX (aA jv (QU (wW rfl) T.max Jqi) (ME 0)))))
   cF
   aU) (NY (i:=3) qf.nd (JdI (qW rfl) rfl T.dict (Jsy ["part"] [] (λ_=>JfH []) Xf (V7 1) (λ_ _ _ _=>(cb (Qh Jrg cZ))))) (JG (cU (iY lZ UA iW (iX JdK))) (i:=4) qf.nd (Nm (i:=5) qf.nd (X0 y.ok hr y.m y.kp y.b (IT (JnU 0 4) 3)) (be (JR (Gx eE (ME 5)) (JkV hu Jrs MJ))
     cF
     aU) (aj (JiK hu MJ Jrs cZ)))) (cP bD (Ix (Yb (X0 y.ok hr y.m y.kp y.b (IT (J8 0 (Na aQ 2 JdK)) 3)))) af)))
 rfl'
 let(fs,el,hst,hend):=R.ex;let t:hs≠[]:=λz=>by erw[z]at el
 apply Jop _ I _ (.inr hH) _ (bo (λc1=>aD ?_) (λc1=>?_))
 .let e:=oDq c1;injection e with e;rw[lM]at e;lia
 apply Jov _ rfl I hs (.inr hH) t (λm hm hmin=>W8 _ _ rfl _ rfl (bo (λc2=>aD ?_) (λc2=>?_)))
 .have:=oDq c2;have:=(R.rng m hm).1;lia
 apply Jov _ rfl I hs (.inr hH) t (λmx hm2 hmax=>Jgu _ Y xs (.inl hS) _ _ _ rfl (bo (λc3=>?_) (λc3=>?_)))
 .have:=oDq c3;have:=(R.rng mx hm2).2;lia
 let rng:=R.rng;obtain⟨c,z,rfl⟩:∃c z,hs=c++[z]:=(hs.dropLast,hs.getLast t,(List.dropLast_concat_getLast t).symm);let el2:c.length=fs.length:=by rw[lAq]at el;simpa using el
 apply JK _ pt hP (λD hD=>dw cS (λi ys H'=>Xd H/\V3 (((ps.take i).map λp=>-p).map dPT) ys) (λi ys H' h_=>by let(G,_):=h_;exact G.tup hP) (Nn hD,.nil) ?_ ?_)
 .rintro i ys H' x U hi hly N ⟨G,hy⟩ ⟨rfl,hx⟩;let(k,hk',rfl):=GY _ (G.tup hP);apply MA _ _ lS2 (λa ha=>?_);let C:IB U U a (JeD (-k)):=Nn ha;let O:=C _ _ N;apply cv (lM<|>Jdr _) hi hly O (Qm ((G.trans C).upd hD));rwa[zO hk',mAq]at Ip (ar.keep (C.kt.trans (bj.lst O)) (zP _) hy) (of_dPT ((bj.lst O).sq WV))
 rintro ys H1 N ⟨G,hy⟩;rw[lM,NF _]at hy;let(pl,pp):=F5 hy;apply JS D ys (tkv (ps.map λp=>-p)) (SqL.of N) pl pp (λd hd=>?_);let hd0:Nf d:=G.free hd;let C:M9 (Jb1 H1 d (ps.map λp=>-p)):=G.upd hd0;let S:fk (Jb1 H1 d (ps.map λp=>-p)) d (ps.map λp=>-p):=fk.of;generalize Jb1 H1 d (ps.map λp=>-p)=H2 at C S;let B:¬(HT.sIx ((c++[z]).map VG).length 0 none=0/\JhX ((c++[z]).map VG).length ((c++[z]).map VG).length (-1)=((c++[z]).map VG).length):=λq=>by
  let q2:=q.2;let q3:(if(-1:Int)<0 then((-1:Int)+(((c++[z]).map VG).length:Int)).toNat else min (-1:Int).toNat ((c++[z]).map VG).length)=((c++[z]).map VG).length:=q2
  rw[if_pos (by decide)]at q3;lia
 let ecut:Jo_ ((c++[z]).map VG) (-1)=c.map V.int:=by rwa[mAq]at F7 (c.map VG) (.int z)
 apply GF _ _ rfl _ rfl I _ rfl (C.tup hH) B (λq hq=>?_);rw[ecut];let s3:IB H2 H2 q (c.map VG):=Nn hq;let ndq:d≠q:=by let(kvs,hk,_):=S.ex;exact cn hk hq
 let lh':=lh;rw[lAq]at lh';apply Ml q (Mr WV) (JcP (cS (xs:=c.map VG)) (λi σ H'=>Ex2 λ(v4 v5:Option V)=>An4 (σ=[Ja Y,Ja pt,Ja I,Ja d,v4,v5]) Jdx (Vy q (c.map VG)) (fk H' d ((ps.map λp=>-p)++fs.take i))) (λi σ H' h=>by let(_,_,_,_,hq',_):=h;exact SqT.of hq') (VV none none (C.trans s3) ao (by rwa[List.take_zero,List.append_nil]at S.same s3)))
 .rintro i σ H' x U hi ⟨v4,v5,rfl,v,M,u⟩ ⟨rfl,hx⟩;let(k,hk,rfl):=GY _ (SqT.of M);let hi:i<c.length:=(gEq hk).1;let(k0,k1):=rng k (Ma (mO hk));let(r,L,J):=uQ hL k0 k1;let g:(Jy k).length≤1000:=Jd Jsl;let hf:=gG (l:=fs) (i:=i) (by simp_all);let lo:=hst i k _ (List.getElem?_append_left hi<|>hk) hf;let e1:=lo.nf;let e2:=lo.new;generalize fs[i]'(by simp_all)=a at hf e1 e2;apply(7,Y,4,v.seq hS,L,2,r,d,Jy k,2,v.tup J,u,g,λH5 l X o=>?_);rw[e1]at o;let ds5:=u.same X;let(kvs,hk5,Z,hn5):=id ds5.ex;let s45:=v.trans X;apply Jop _ l _ (XW o) _ (kB rfl ?_);apply(2,l,4,SqT.of o,rfl,2,d,2,Jsx (Sum.inl a) hk5,2,?_);rw[Z,dFq e2];apply bq (7,l,4,SqT.of o,rfl,d,2,fj.k (k:=Sum.inl a) hk5 (dV ?_),?_)
  .rw[lAq,lM,List.length_take]at hn5;lia
  apply VV _ _ (s45.upd hd0) (UK ndq<|>X _ _ M) ?_;rwa[a_ hf,<-List.append_assoc]at fk.put Z hn5
 .rintro σ H' ⟨v4,v5,rfl,v,M,u⟩;rw[lM,el2,NF _]at u;let hz:(c++[z])[fs.length]?=some z:=by rw[←el2,List.getElem?_append_right (nRq _),Nat.sub_self];rfl
  let(k0,k1):=rng z (mO hz);let(r,L,J):=uQ hL k0 k1;let g:(Jy z).length<=1000:=Jd Jsl;let az:atI ((c++[z]).map VG) (-1)=some (.int z):=by rwa[mAq]at n_ _ _
  apply(2,7,I,4,v.tup hH,az,Y,4,v.seq hS,L,2,r,d,Jy z,2,v.tup J,u,g,λH5 l X o=>?_);rw[(hend z hz).nf]at o;exact VV l _ (XW o) rfl (h H5 (v.trans X))
def F9 (x y:Int):U0 (QQ x y) (QQ x y):=eR _
def Has.pair (h:Vo a (Xw x y)):Qx K H (QQ x y) a:=Jbd h .int .int
inductive uS (K:W.Frag)(C:Addr):Sp|m{vs H Q E9} (p tl al rl q l:Addr) (T:List MV) (As:List At) (Rs:List Yk) (ps:List Int) (lk:Lk):vs=Jdg p q l->Jjj T->WI q->Vo l (Gu lk.1 lk.2.1 lk.2.2)->-lk.2.2∈ps->NT lk.2.2 (lk.1,lk.2.1,)->(∀H',M0 H')->uS K C vs H Q E9
def zQ:Je (JcF "link" "pair") JqE uw:=fsc
def F_ (F:Jr_ "is_told" uw)(g:JdB 1 fS dS (jk K C)):JA 2 JqE (uS K C):=by
 apply Jq_ zQ u
 let(p,n,v,t,q,l,B,As,Rs,ps,c,rfl,S,I,j,k,e,N):=h;let G:=gi u;apply Ym (NX (be (JiN kA (Jk2 2) 1)
   cF
   aU) (Jsz 3 zQ.nd (WJ g.ok u g.m g.kp g.b 0 Jqk)) (pe_or (Jgf G MJ (cb Jry)) (eW Fp)));rfl'
 apply(2,l,4,j,l2 c,7,q,2,.inr I,rfl,kH _,2,?_);show if Vi (!Jjl (-c.2.2)) then _ else _
 rw[show Vi (Jjl (-c.2.2)) from by rwa[jH]at dTq k];apply bq (7,l,4,j,l2 c,p,n,v,t,B,As,Rs,2,S,(λz=>by erw[e]at z),λx y z R a r L=>?_);erw[e]at z;let d:=r.tup j;apply(7,l,4,d,l0 c,2,l,4,d,l1 c,lS2,λb J=>?_);let(O,M,o,D):=nwH J (QQ c.1 c.2.1);rw[M];apply(5,Has.pair (o.tup L),Has.pair (SqT.of D),(by simp only[dep,bx];decide),2,?_);rwa[F9]at aD (N O (r.trans o))
inductive uT (K:W.Frag)(CG:Addr):Sp|m{vs H Q E9} (tl l g ld gd:Addr) (xs:List V) (T:List MV) (lk:Lk) (N b:Nat) (hd:Int->Int) (av:List Addr):Je4 (vs=Jdg tl l g) tl (Jf0 dT->(∀t∈T,Jr t.2.length)->Vo l (Gu lk.1 lk.2.1 lk.2.2)->Wi lk.1->Wi lk.2.1->jO T hd lk.1 lk.2.1->Jhg CG->(∀H',M0 H')->uT K CG vs H Q E9)
def uU:Je ["terms","link","groups","one","other"] ["terms","link","groups"] qa:=fsc
def map_at {f:Int->Int}:∀{xs ys:List Int} {i:Nat} {x y:Int},xs.map f=ys.map f->xs[i]?=some x->ys[i]?=some y->f x=f y:=λ{xs ys i x y} e b a=>by have:=JkH (·[i]?);simp only[List.getElem?_map,b,a,Option.map_some]at this;injection this
def Ha (F:Jr_ "is_alike" qa)(T:NN C)(G:Jh6 K CG)(mz:Jg "zip")(M:bJ K CG "together" fG)(Bg:Jie 2 fG dG (W53.sp_together CG))(bg:JaJ dG):JA 3 ["terms","link","groups"] (uT K CG):=by
 apply XF uU
 let(I,l,g,ld,gd,xs,T',o,N,b,hd,av,rfl,ht,W,e,hl,r1,r2,al,O,q):=h;let xl:Xp T'.length:=by rw[<-W.length,lM]
 apply Ym (XT (i:=3) uU.nd Jr9 (NY (i:=4) uU.nd Jr9 (be (JR (J9 eE 3 (Qg 4)) (aA eE (Ix (VX 3)) (Ix (VX 4))))
   cF
   aU) (Jad (oj rfl) T.all (Jsy (Jdq "pair") [2] (λok=>JsD (ai qa)) Xe (Di rfl mz (JU 3 4)) (λm m m m=>(Um 1 G.cl M Bg hr bg aJ (Qh (JsO (du K)) (JsO (du K)))))))));rfl'
 let(x,x1,x2):=JsM xs o.1 r1.1 (xl<|>r1.2);let(y,y1,y2):=JsM xs o.2.1 r2.1 (xl<|>r2.2);let(t,L,ra,ta,rfl,U,c):=nH W x1;let(u,J,rb,ua,rfl,p,a):=nH W y1;let(t',u',Y,X,n1,n2):=al;cases Y.symm.trans ta;cases X.symm.trans ua;let n3:t.2.length=u.2.length:=by have:=Mt n2;simpa using this
 let B:=e t (mO ta);apply GX _ _ rfl l _ _ _ rfl rfl hl (l0 o) I _ _ _ rfl rfl ht x2 ?_;apply GX _ _ rfl l _ _ _ rfl rfl hl (l1 o) I _ _ _ rfl rfl ht y2 ?_;let a0:∀(z:Str) (r:Addr),JmR z r=some (.str z):=λz r=>Jsv 0;let v:∀(z:Str) (r:Addr),JjV z r=some (.ref r):=λz r=>Jsv 1;apply(2,L,4,U,a0 _ _,2,J,4,p,a0 _ _,rfl,2,?_);rw[n1];apply kB rfl (2,L,4,U,v _ _,ra,2,.inr c,2,J,4,p,v _ _,rb,2,.inr a,rfl,2,?_);rw[lM,lM,n3];apply kB rfl ?_;apply(2,L,4,U,v _ _,2,J,4,p,v _ _,ra,rb,_,2,c,a,λD hD=>Jg8 (xW (by rwa[lM,lM]at n3)) (λi us H'=>Xd H/\us=(WS i).map V.bl) (λi us H' (d,_)=>(d.tup c,d.tup a)) hD)
 .rintro i us H8 z H4 hi S k ⟨d,rfl⟩ ⟨pp,v1,v2,rfl,R,rfl,h1,h2⟩;let(k1,Y,rfl):=ck (h1 _ (d.tup c));let(k2,X,rfl):=ck (h2 _ (d.tup a));let(H5,eN,s5,n5):=nwH R (QQ k1 k2);rw[eN];let s6:=d.trans s5;let O5:=O.same s6;let(Z,kl5,kg5,g5,_):=id O5.ex;apply(2,g,Z,2,g5,rfl,2,pp,4,SqT.of n5,Jsv 0,2,pp,4,SqT.of n5,Jsv 1,g,ld,gd,k1,k2,N,b,hd,av,rfl,O5,XS _ (lM<|>B) hi S (s5 _ _ k) (s6.upd hD));rw[List.replicate_succ',mAq,dTq (map_at n2 Y X)];rfl
 rintro us H4 k ⟨d,rfl⟩;apply Ji4 D _ k ?_;rwa[show(WS (t.2.map V.int).length).all id=true from List.all_eq_true.mpr λb p=>List.eq_of_mem_replicate p]at q H4 d
inductive uV (K)(C CG):Sp|m{vs H Q E9} (p tl al rl q l g ld gd) (T) (As) (Rs) (ps) (lk) (N b) (hd) (av):Jol (vs=[.ref p,.ref q,.ref l,.ref g]) H (WI q->Vo l (Gu lk.1 lk.2.1 lk.2.2)->LkR T As ps hd lk->Jhg CG->(∀H',M0 H')->uV K C CG vs H Q E9)
def Hc:Jsw JlQ ux:=fsc
def He (F:Jr_ "is_right" ux)(T:NN C)(G:Jh6 K CG)(v:Xu 2 "is_told" fT dT' JqE (uS K C))(x:Xu 3 "is_alike" fA dA' ["terms","link","groups"] (uT K CG)):JA 4 JlQ (uV K C CG):=by
 apply XF Hc
 let(p,r,al,Z,q,l,g,ld,gd,o,As,Rs,ps,a,N,b,hd,av,rfl,S,hq,J,R,O,Q0):=h;let D:Jhw 2:=hr.mono Jp;let B:Jhw 3:=hr.mono Jp;apply Ym (NX (be (JR (Gx iA (Jdt (wV rfl) G.min Jrq)) (aA jv (QU (wW rfl) G.max Jrq) JeJ))
   cF
   aU) (be (Q4 Jqk) (Nc (X0 x.ok B x.m x.kp x.b (aa Wa Jrr)))
   aU) (Iu v.ok D v.m v.kp v.b 0 (VJ 1 2)));rfl'
 let(i1,i2,i3,i4):=id R.inn;let k:∀m∈[a.1,a.2.1],0<=m/\m<(o.length:Int):=λm n=>by
  rcases List.mem_cons.mp n with rfl|n
  .exact i1
  .rwa[mSq n]at i2
 apply JnQ _ _ rfl l _ J (by show ¬(0=0/\(2:Nat)=3);lia) (λd M=>?_);let(H1,U,Y,n1):=nwH M (QQ a.1 a.2.1);rw[show Gb H d (Jo_ (Gu a.1 a.2.1 a.2.2) 2)=H1 from U];apply JnO d [a.1,a.2.1] (XW n1) (λm n V=>W8 _ _ rfl _ rfl ?_);rw[dFq (by have:=(k m n).1;lia)];apply bq (JnQ _ _ rfl l _ (Y.tup J) (by show ¬(0=0/\(2:Nat)=3);lia) (λe he=>?_));let(H2,U,j,n2):=nwH he (QQ a.1 a.2.1);rw[show Gb H1 e (Jo_ (Gu a.1 a.2.1 a.2.2) 2)=H2 from U];let j:=Y.trans j;let S2:=S.same j;let((dx,ho),(xs,u,hT),_):=id S2.pr;let xl:Xp o.length:=by rw[<-hT.length,lM]
 apply JnO e [a.1,a.2.1] (XW n2) (λm2 I V=>(2,p,C,dx,_,2,ho,Yt,T.nT,eU _ _ _,r,xs,rfl,Yc u,3,2,?_));rw[xl,dFq (by have:=(k m2 I).2;simp_all)];let i:=j.tup J;apply bq (JeK _ l _ _ _ i (l2 a) _ ?_);rcases R.how with ⟨c,W⟩|⟨c,L,sm⟩
 .rw[c];apply Go (λc=>JC c);rw[c]at i;exact(2,p,C,dx,_,2,ho,Yt,T.nT,eU _ _ _,7,r,l,g,ld,gd,xs,o,(a.1,a.2.1,0,),N,b,hd,av,rfl,SqL.of u,hT,(λt u=>Jd (S.t3 t u)),i,i1,i2,W,O.same j,λX y=>Q0 X (j.trans y))
 .apply IP (λz=>?_)
  .lia
  .exact(2,7,p,r,al,Z,q,l,o,As,Rs,ps,a,rfl,S2.pr,j.tup hq,i,L,sm,λX y=>Q0 X (j.trans y))
inductive uW (K:W.Frag)(C CG:Addr):Sp|m{vs H Q E9} (p tl al rl g ld gd:Addr) (T:List MV) (As:List At) (Rs:List Yk) (k:Int) (N b:Nat) (hd:Int->Int) (av:List Addr):vs=JmH p (.int k) g->Jjj T->Jhg CG->(∀H',QF (Ji (cm hd As k) H'))->uW K C CG vs H Q E9
theorem zR:Je (IY "part" "groups" "pair") JqC uy:=fsc
def Hf (F:Jr_ "says_joined" uy)(G:Jh6 K CG)(l:JdB 1 fS dS (jk K C))(M:bJ K CG "together" fG)(W:Jie 2 fG dG (W53.sp_together CG))(U:JaJ dG):JA 3 JqC (uW K C CG):=by
 apply Jq_ zR u
 let(p,r,D,t,g,ld,gd,I,As,Rs,k,N,b,v,B,rfl,S,O,c):=h;let n:Jhw 1:=u.mono Jp;apply Ym (XT (i:=3) zR.nd (J5 l.ok n l.m l.kp l.b 0 1) (JcH (cP kx MJ eC) (Um 2 G.cl M W u U aJ Jrx)));rfl'
 unfold cm at c;apply(7,p,r,D,t,I,As,Rs,k,rfl,S,λe q d=>?_,λx y e q a d z=>?_)
 .rw[e]at c;exact Jf9 (bq (c q d))
 .rw[e]at c;let J:=O.same d;let(o,L,R,T,_):=id J.ex;exact Jp2 (2,g,o,2,T,rfl,2,a,4,z,Jsv 0,2,a,4,z,Jsv 1,g,ld,gd,x,y,N,b,v,B,rfl,J,c q d)
inductive uX (K:W.Frag)(C:Addr):Sp|m{vs H Q E9} (p tl al rl q l:Addr) (T:List MV) (As:List At) (Rs:List Yk) (ps:List Int) (xs:List V) (ls:List Lk):vs=Jdg p q l->JcG (Jk_ H) (WI q) (UR l->JaQ dL->EqG T As ps ls->(∀H',M0 H')->uX K C vs H Q E9)
def uY:Je ["problem","parts","links","groups","link"] Jqe qb:=fsc
def Hg (F:Jr_ "is_equal" qb)(G:Jh6 K CG)(many:Jg "any")(MK:Mk K CG fI)(mC:mg "Groups"=Ja CG)(Bi:Vn 1 fI dI ["self"] (W53.sp_init CG))(bi:JjJ dI)
  (M:bJ K CG "merge" fM)(Bm:Jie 2 fM dM (W53.sp_merge CG))(bm:JaJ dM)(U:Xu 4 "is_right_lines" fR dR' JlQ (uV K C CG))(W:Xu 3 "says_joined" fJ dJ JqC (uW K C CG)):JA 5 Jqe (uX K C):=by
 apply XF uY
 let(p,Y,al,rl,q,l,v,As,Rs,ps,xs,ls,rfl,S,T,r,hl,hL,R,Q0):=h;let xl:Xp ls.length:=by rw[<-hL.length,lM]
 let lL:=R.len;let B:Jhw 2:=hr.mono Jp;let hr3:Jhw 3:=hr.mono Jp;apply Ym (NX (JfW (i:=3) uY.nd rfl rfl (kz MK Bi B rfl mC bi .nil aJ)) (JG (V7 2) (i:=4) uY.nd (ae (be (GK (Iu U.ok hr U.m U.kp U.b 0 (Qa 1 (VJ 4 3))))
     cF
     aU) (Gq (Um 3 G.cl M Bm B bm aJ Jrw)))) (Ve (wK rfl) many PyProof.Rows.Boot.any (Jsy ["part","problem","groups"] [0,3] (λok=>JsD (ai qb)) (λj i h=>match j,h with|0,h=>by cases h;exact JM _|1,h=>by cases h;exact JM _|n+2,h=>by simp at h) (V7 1) (λ_ _ _ _=>(Iu W.ok hr3 W.m W.kp W.b 1 (VJ 0 2))))));rfl'
 intro g dx ng ndx nex;apply W53.init_new ng ndx λH1 ld gd s1 nld y G1=>Qm rfl;apply JcQ _ l (s1.tup hl) (cS (xs:=xs)) (λi O H'=>∃X,JlJ (O=[Ja p,Ja q,Ja l,Ja g,X]) H (VL H' CG g v.length i (Jcb i) [])) (λi O H' h=>by let(_,_,c,_):=h;exact c.tup hl) (Ml none s1 (G1 _))
 .rintro i O H9 x H2 hi ⟨X,rfl,c,N⟩ ⟨rfl,hx⟩;let(u,pl,L,rfl,hp):=iJ hL (hx _ (c.tup hl));let J:=c.tup hp;let lr:=R.lk i u L;apply(7,7,p,Y,al,rl,q,pl,g,ld,gd,v,As,Rs,ps,u,v.length,i,_,[],rfl,S.same c,c.tup T,J,lr,N,λH3 Z=>Jii ?_);let G3:=N.same Z;let(dx3,kl3,kg3,e3,_):=id G3.ex;let I:=Z.tup J;apply(2,g,dx3,2,e3,rfl,2,pl,4,I,l0 u,2,pl,4,I,l1 u,g,ld,gd,u.1,u.2.1,v.length,i,_,[],rfl,G3,lr.inn.1,lr.inn.2.1,S.tN,Jn,(λa ha=>nomatch ha),λH4 o G4=>?_);apply JoQ ((c.trans Z).ofG nld y o) ?_;rwa[a_ L,ik]at G4
 .rintro O H2 ⟨X,rfl,c,N⟩;rw[xl,List.take_length]at N;apply JK _ q (c.tup T) (λD hD=>Jn_ (λi us H'=>Xd H2∧us=((ps.take i).map (X2 ls As)).map V.bl) (λi us H' h_=>by let(o,_):=h_;exact (c.trans o).tup T) hD)
  .rintro i us H8 z H4 hi hly t ⟨o,rfl⟩ ⟨rfl,hx⟩;let(k,hk,rfl):=GY _ ((c.trans o).tup T);apply(2,7,p,Y,al,rl,g,ld,gd,v,As,Rs,k,8,[],rfl,(S.same (c.trans o)).pr,N.same o,λH5 s5=>XS _ (lM<|>r) hi hly (s5 _ _ t) ((o.trans s5).upd hD));rw[a_ hk,mAq,mAq];rfl
  rintro us H4 t ⟨o,rfl⟩;apply Ji4 D _ t ?_;let(d,hd,e):=R.says;rwa[lM,NF _,show(ps.map (X2 ls As)).any id=true from List.any_eq_true.mpr (XA true (Md d hd e))]at Q0 H4 (c.trans o)
structure TxP (K)(mg:QT Str):Prop where
 int:Jg "int"
 str:Jg "str"
 list:Jg "list"
 enum:Jg "enumerate"
 ib:JmM K "int" "bool" false
inductive qg:Sp|m{vs H Q E9} (n:Int):vs=X3 n->QB H->qg vs H Q E9
def Hj:Jsw ["thing"] uz:=fsc
def ok_num (F:Jr_ "is_number" uz)(T:NN C)(TP:JiS K):JjL ["thing"] qg:=by
 apply Jq_ Hj a
 let(n,rfl,q):=h;apply Ym (JcH (JdA qB 0 (fZ (v:=.ty "int") rfl TP.int PyProof.Rows.Boot.int rfl)) (pe_not (JdA qB 0 (fZ (v:=.ty "bool") rfl T.bool PyProof.Rows.Boot.bool rfl))));rfl';exact WQ _ _ (.type "int") "int" true (eM.int _) (jB K "int") _ rfl (aD (WQ _ _ (.type "int") "bool" false (eM.int _) TP.ib _ rfl q))
inductive uZ (K)(C):Sp|m{vs H Q E9} (p tl al rl q) (T) (As) (Rs) (ps):vs=Iw p q->JcG (Jjj T) (WI q) (N7 ps->(∀H',M0 H')->uZ K C vs H Q E9)
theorem u_:JjH (JcF "atoms" "part") "parts" uA:=fsc
def Hk (F:Jr_ "are_parts" uA)(T:NN C)(y:Xu 1 "is_number" fN dN ["thing"] qg):JA 2 (Xj "parts") (uZ K C):=by
 apply Jq_ u_ N
 let(p,X,U,Y,q,T',As,Rs,ps,rfl,S,t,I,(G,D),Q0):=h;let M:=dc N;apply Ym (ae (be (Jo3 mn 1 Vu)
   cF
   aU) (NY (i:=2) u_.nd gJ (JG (V7 1) (i:=3) u_.nd (JdY (be (Qt (GK (JfP y.ok N y.m y.kp y.b 3)) (cI (Q4 MJ) (cI (aA da (JoU jw 3) JeJ) (cX (JkV M (JoU jw 3) UA)))))
     cF
     aU) (JiK M UA (JoU jw 3) cZ))) cZ))
 rfl'
 let((dx,ho),_,(ys,ha,hA),_):=id S;let yl:JbE As.length:=by rw[<-hA.length,lM]
 apply WQ _ q _ "tuple" true t (JkW K) _ rfl Jqx;apply λd O=>?_;apply nwC O (.dK []) λH1 L Z=>?_;apply JcQ _ q (L.tup t) (cS (xs:=ps.map VG)) (λi r H'=>∃(B:Option V),JlJ (r=[Ja p,Ja q,Ja d,B]) H (fk H' d ((ps.take i).map zaW))) (λi r H' h=>by let(_,_,a,_):=h;exact a.tup t) (Ml none L ([],Z,λn=>rfl,nRq _))
 .rintro i r W x H3 hi ⟨B,rfl,a,d2⟩ ⟨rfl,hx⟩;let(k,u,rfl):=GY _ (a.tup t);let ib:=(gEq u).1;let kp:=G k (mO u);let(kvs,l,e,g):=id d2.ex;let no:zaW k∉(ps.take i).map zaW:=λz=>by
   let J:(ps.map zaW)[i]?=some (zaW k):=by rw[List.getElem?_map,u];rfl
   rw[List.map_take]at z;let(j,o):=List.getElem?_of_mem z;rw[List.getElem?_take]at o;split at o
   .have:=(List.getElem?_inj (gEq o).1 D).mp (o.trans J.symm);lia
   .cases o
  apply Jje _ k _ rfl (bq (Jf9 JbK))
  .lia
  apply(2,k,rfl,2,p,C,dx,_,2,a _ _ ho,Yt,T.nA,eV _ _ _,U,2,Yc (a _ _ ha),3,2,bo (λR=>?_) (λR=>?_))
  .lia
  apply Q8 _ k rfl _ rfl d _ (Jsx (Sum.inl (zaW k)) l) _ rfl ?_;rw[e,dFq no];rw[lM,List.length_take]at g;apply bq (JnK _ _ rfl k d _ rfl (fj.k (k:=Sum.inl (zaW k)) l (dV Jn)) ?_);apply JoQ (a.upd O) ?_;rwa[a_ u,mAq]at fk.put e (by rw[lM,List.length_take];exact g)
 .rintro r W ⟨B,rfl,a,_⟩;exact Q0 W a
inductive qh (K):Sp|m{vs H Q E9} (q) (hs:List Int):WZ (vs=Vj q) (Jji q) JrZ ((∀h∈hs,0<=h)->(∀H',M0 H')->qh K vs H Q E9)
def Hl:Jsw ["things"] uB:=fsc
def Hm (F:Jr_ "are_numbers" uB)(T:NN C)(g:Xu 1 "is_number" fN dN ["thing"] qg):JA 2 ["things"] (qh K):=by
 apply Jq_ Hl r
 let(q,hs,rfl,e,c,h0,y):=h;apply Ym (JcH (JdA mn 0 Vu) (Jad (oj rfl) T.all (Jsy ["thing"] [] (λG=>JfH []) Xf (V7 0) (λG G G G=>(Ja9 (JfP g.ok r g.m g.kp g.b 0) (cP jv IN af))))))
 rfl'
 apply WQ _ q _ "tuple" true e (JkW K) _ rfl (aD (JK _ q e (λD n=>Jn_ (λi us H'=>Xd H/\us=(WS i).map V.bl) (λi us H' h_=>by let(d,_):=h_;exact d.tup e) n)))
 .rintro i us B z o u l a ⟨d,rfl⟩ ⟨rfl,p⟩;let(k,t,rfl):=ck (p _ (d.tup e));apply Jje _ k _ rfl (aD (2,3,XS _ (lM<|>c) u l a (d.upd n)));rw[List.replicate_succ',mAq,dTq (h0 k (mO t))];rfl
 rintro us o a ⟨d,rfl⟩;apply Ji4 D _ a ?_;rwa[show(WS (hs.map V.int).length).all id=true from List.all_eq_true.mpr λb x=>(List.eq_of_mem_replicate x)]at y o d
inductive va (K:W.Frag):Sp|m{vs H Q E9} (q:Addr) (xs:List V) (ls:List Lk):JnS (vs=Vj q) (UR q) (JaQ dL) JiW ((∀l∈ls,0<=l.1/\0<=l.2.1/\0<=l.2.2)->(∀H',M0 H')->va K vs H Q E9)
def Hq:Jsw ["things"] uC:=fsc
def ok_links (F:Jr_ "are_links" uC)(T:NN C)(k:Xu 2 "are_numbers" fA dA' ["things"] (qh K)):JA 3 ["things"] (va K):=by
 apply Jq_ Hq B
 let(q,xs,ls,rfl,g,t,n,l0,M):=h;apply Ym (JcH (JdA mn 0 Vu) (Jad (oj rfl) T.all (Jsy ["thing"] [] (λY=>JfH []) Xf (V7 0) (λY Y Y Y=>(Ja9 (JfP k.ok B k.m k.kp k.b 0) (cP bD (aF (r:=qx K) ah rfl T.len bLq Jqj) af))))));rfl';let N:Xp ls.length:=by rw[<-t.length,lM]
 apply WQ _ q _ "tuple" true g (JkW K) _ rfl (aD (JK _ q g (λD u=>Jn_ (λi us H'=>Xd H/\us=(WS i).map V.bl) (λi us H' h_=>by let(a,_):=h_;exact a.tup g) u)))
 .rintro i us U z x I o c ⟨a,rfl⟩ ⟨rfl,y⟩;let(e,p,G,rfl,d):=iJ t (y _ (a.tup g));let(S,R,O):=l0 e (mO G);apply JeW _ rfl p [e.1,e.2.1,e.2.2] (a.tup d) (by show Jr 3;decide) (λh J=>?_) (λW l=>?_)
  .simp only[List.mem_cons,List.not_mem_nil,or_false]at J;lia
  apply QD (aD (Jov _ rfl p _ (.inr ((a.trans l).tup d)) rfl (JbA _ I o (l _ _ c) ((a.trans l).upd u))));rw[List.replicate_succ',mAq];rfl
 rintro us x c ⟨a,rfl⟩;apply Ji4 D _ c ?_;rwa[show(WS xs.length).all id=true from List.all_eq_true.mpr λb L=>(List.eq_of_mem_replicate L)]at M x a
inductive LnH (K)(H)(T)(As:List At)(Rs)(ps)(h):Str->Prop
 |ln (hs):Jji h->LnG WR Rs ps hs->LnH K H T As Rs ps h "learnt"
 |eq (xs) (ls):UR h->JaQ dL->EqG T As ps ls->LnH K H T As Rs ps h "equal"
def LnH.same (l:LnH K H T As Rs ps h kd)(s:Xd H):LnH K H' T As Rs ps h kd:=by
 cases l with
 |ln hs a b=>exact .ln hs (s.tup a) b
 |eq xs ls a b c=>exact .eq xs ls (s.tup a) (b.keep s.kt (cT _)) c
def Hr (l:iz T As Rs d ps)(f:JlT d x):∃q o c kd,GN q/\Vo q (V9 kd o c)/\WI o/\N7 ps/\LnH K H T As Rs ps c kd:=by
 cases l with
 |ln _ hs a b=>
  simp only[lnD,Has,ar]at f;let(q,ys,rfl,c,s,v,rfl,rfl,r,u,rfl,(n,w,rfl,e,j),p,t,rfl,(k,bs,rfl,g,i),rfl):=f;rw[iF j]at e;rw[iF i]at g;exact JeW q n k _ c e a (.ln hs g b)
 |eq _ ls a b=>
  simp only[eqD,Has,ar]at f;let(q,ys,rfl,c,s,v,rfl,rfl,r,u,rfl,(n,w,rfl,e,j),p,t,rfl,(k,bs,rfl,g,i),rfl):=f;rw[iF j]at e;exact JeW q n k _ c e a (.eq bs ls g i b)
def PtG.len (h:PtG n ps)(b:n<=40):NJ ps.length:=by
 let f:=ip 81 h.a λx c=>by let(p,e,rfl):=List.mem_map.mp c;have:=(h.p p e).2;unfold zaW;split<;>lia
 rw[lM]at f;lia
inductive vb (K:W.Frag)(C:Addr):Sp|m{vs H Q E9} (p tl al rl r q pq hq:Addr) (T:List MV) (As:List At) (Rs Rs':List Yk) (xs:List V) (ps:List Int) (kd:Str):Jol (vs=Jdg p r q) H (Je4 (Mz 40) r (Wy (Rs'.map zcM)->(∀x∈Rs',NJ x.length)->Vo q (V9 kd pq hq)->WI pq->N7 ps->LnH K H T As Rs' ps hq kd->(∀H',M0 H')->vb K C vs H Q E9))
def Ht:Jsw Jlc uD:=fsc
def Hv (F:Jr_ "is_right" uD)(T:NN C)(TP:JiS K)(L:Jbc 2 "are_parts" fA dA' "parts" (uZ K C))(M:Xu 2 "are_numbers" fN dN ["things"] (qh K))(O:Xu 3 "are_links" fB dB ["things"] (va K))(N:Xu 3 "is_learnt" fL dL' ["rows","parts","hints"] (uR K))(J:Xu 5 "is_equal" fQ dQ Jqe (uX K C)):JA 6 Jlc (vb K C):=by
 apply Jq_ Ht X
 let(p,R,Z,W,r,q,k,e,T',As,Rs,D,xs,ps,x,rfl,S,a40,hR,hL,t,a,Y,pg,lg,Q0):=h;let z:Jhw 2:=X.mono Jp;let y:Jhw 3:=X.mono Jp;apply Ym (ae (be (JR (Jo3 mn 2 Vu) (Gx eE (ME 2)))
   cF
   aU) (Qb (be (JR (GK (Ja1 qB (QI 2 (fZ (v:=.ty "str") rfl TP.str PyProof.Rows.Boot.str rfl)))) (GK (WJ L.ok z L.m L.kp L.b 0 Jqk)))
   cF
   aU) (be Jl5 (JcH (X0 M.ok z M.m M.kp M.b (VX 2)) (Iu N.ok y N.m N.kp N.b 1 Jry))
   aU) (ae (be Jl5 (JcH (X0 O.ok y O.m O.kp O.b (VX 2)) (Iu J.ok X J.m J.kp J.b 0 Jry))
   aU)
  cF)))
 rfl'
 let I:J7 (JfK x k e)=some (.str x):=Jsv 0;let a1:Jcn (JfK x k e)=some (.ref k):=Jsv 1;let G:atI (JfK x k e) 2=some (.ref e):=Jsv 2;let u:=pg.len a40;apply WQ _ q _ "tuple" true a (JkW K) _ rfl (bq (Jop _ q _ (.inr a) _ Jqx));apply(2,q,4,a,I,_,.type "str","str",true,rfl,eM.str _,jB K "str",2,bq (7,q,4,a,a1,p,R,Z,W,k,T',As,Rs,ps,rfl,S.pr,Y,Jn,pg,λH1 g=>Jii ?_));let l1:=lg.same g;cases l1 with
 |ln hs B n=>
  apply JeK _ q _ _ _ (g.tup a) I _ (Mg (λc=>Jla rfl));apply(2,q,4,g.tup a,G,e,hs,rfl,B,Jd n.h,λh hm=>(n.rng h hm).1,λH2 o=>QD (aD ?_));let d:=g.trans o;exact(7,q,4,d.tup a,a1,2,q,4,d.tup a,G,r,k,e,xs,D,ps,hs,2,d.seq hR,hL.keep d.kt JfM,d.tup Y,o.tup B,t,u,n,λH3 U=>Q0 H3 (d.trans U))
 |eq ys ls B hK n=>
  apply JeK _ q _ _ _ (g.tup a) I _ (Jnj (λc=>NZ c));apply JeK _ q _ _ _ (g.tup a) I _ (Mg (λc=>Jla rfl));apply(2,q,4,g.tup a,G,e,ys,ls,rfl,B,hK,Jd n.len,λl hl=>?_,λH2 o=>QD (aD ?_))
  .let(i,hi):=List.getElem?_of_mem hl;let((i1,i2,i3,_),_):=n.lk i l hi;exact(i1.1,i2.1,i3)
  let d:=g.trans o;exact(7,q,4,d.tup a,a1,2,q,4,d.tup a,G,p,R,Z,W,k,e,T',As,Rs,ps,ys,ls,rfl,S.same d,d.tup Y,Jn,o.tup B,hK.keep o.kt (cT _),n,λH3 U=>Q0 H3 (d.trans U))
structure jo (K)(H)(T)(As)(B)(xs)(L:Nb Dt Yk):Prop where
 has:Wy (L.map Yy)
 nl:MU (L.map Yy)
 ok:∀(i) (x),L[i]?=some x->iz T As (B++(L.take i).map Jbr) x.1 x.2
 last:∃L0 d,L=L0++[(d,[],)]
 len:Jpz 3000
 r:∀r∈B,NJ r.length
def jo.at (h:jo K H T As B xs L){i:Nat}{x:V}(e:xs[i]?=some x):∃l q b g c,L[i]?=some l/\GN q/\Vo q (V9 c b g)/\Vo b (l.2.map V.int)/\N7 l.2/\LnH K H T As (B++(L.take i).map Jbr) l.2 g c:=by let(d,k,n):=h.has.get e;rw[List.getElem?_map]at k;let(l,j,rfl):=Option.map_eq_some_iff.mp k;let(q,b,g,c,a):=Hr (h.ok i l j) n;exact(l,q,b,g,c,j,a)
def jo.rows (h:jo K H T As B xs L)(b:Mz 40)(i):∀x∈B++(L.take i).map Jbr,NJ x.length:=λx e=>by
 rcases mPq e with z|z
 .exact h.r x z
 .let(y,c,rfl):=List.mem_map.mp z;let(j,g):=List.getElem?_of_mem (List.mem_of_mem_take c);have:=h.ok j y g;generalize y.1=d at this;cases this with
  |ln _ _ a _=>exact a.len b
  |eq _ _ a _=>exact a.len b
def zS {B:List Yk}{L:List (Dt×List Int)}{i:Nat}{l:Dt×List Int}(h:L[i]?=some l):B++(L.take Xi).map Jbr=(B++(L.take i).map Jbr)++[l.2]:=by rw[a_ h,mAq,List.append_assoc];rfl
inductive vc (K:W.Frag)(C:Addr):Sp|m{vs H Q E9} (p tl al rl q:Addr) (T:List MV) (As:List At) (Rs:List Yk) (xs:List V) (L:List (Dt×List Int)):JnS (vs=Iw p q) (Jk_ H) (Mz 40) JiZ (Je3 q (jo K H T As Rs xs L->(∀H',JoY H')->vc K C vs H Q E9))
def qj:JjH ["problem","paper","rows","place","line"] "paper" uG:=fsc
def Hw (F:Jr_ "fault" uG)(T:NN C)(TP:JiS K)(U:Xu 6 "is_right_papers" fE dE Jlc (vb K C)):JA 7 Jsp (vc K C):=by
 apply XF qj
 let(p,tl,al,rl,q,T',As,Rs,xs,L,rfl,S,J,r1000,I,G,Q0):=h;apply Ym (Qb (be (Jo3 rj 1 (JdJ (v:=.ty "list") rfl Jra rfl))
   cF
   aU) (Jsz 2 qj.nd Jsr) (NX (Mb rfl (mj rfl TP.enum (Uc 1)) (ko rfl (JsH 3 qj.nd 4 qj.nd kj)) (Jp3 (be (GK (Iu U.ok hr U.m U.kp U.b 0 (VJ 2 4)))
     cF
     aU) 2 (VX 4))) (be (JR (Q4 (ME 1)) (Ji5 (Ix (Yb Jme))))
   cF
   aU) eC))
 rfl'
 let xl:Xp L.length:=by rw[<-G.has.length,lM]
 let l3:=G.len;let((dx,ho),_,_,(zs,hz,hZ),_):=id S.pr;let zl:JcR Rs.length:=by rw[<-hZ.length,lM]
 apply WQ _ q _ "list" true I (jB K "list") _ rfl Jqx;apply(2,p,C,dx,_,2,ho,Yt,T.nR,lD _ _ _,rl,zs,rfl,Yc hz,λr D=>?_);apply nwC D (.lst zs) λH1 Z n1=>?_;apply JcQ _ q (Z.seq I) mi (λi M H'=>Ex3 λ(X W:Option V) (us:List V)=>An4 (M=[Ja p,Ja q,Ja r,X,W]) Jdx (Il r us) (V3 ((Rs++(L.take i).map Jbr).map zcM) us)) (λi M H' h=>by let(_,_,_,_,g,_):=h;exact g.seq I) (W8 none none zs Z n1 (by rwa[List.take_zero,List.map_nil,List.append_nil]at hZ.keep Z.kt JfM))
 .rintro i M H2 x H3 hi ⟨X,W,us,rfl,g,n2,n⟩ ⟨pp,y,rfl,hpp,rfl,hy⟩;let(l,t,B,k,kd,N,rfl,R,O,h4,h3):=G.at (hy _ (g.seq I));let ul:us.length=Rs.length+i:=by rw[←n.length,lM,lAq,lM,List.length_take];lia
  let(H3,eN,u,n3):=nwH hpp (Jkq i t);rw[eN];apply(pp,2,SqT.of n3,rfl,_,2,3,?_);let a:=g.trans u;apply(2,7,p,tl,al,rl,r,t,B,k,T',As,Rs,_,us,l.2,kd,rfl,S.same a,J,SqL.of (u _ _ n2),n.keep u.kt JfM,G.rows J i,a.tup R,a.tup O,h4,h3.same a,λH4 Y=>Jii ?_);let o:=a.trans Y;let n4:=Y _ _ (u _ _ n2);apply GX _ (U_ n4) _ rfl t _ _ _ rfl rfl (o.tup R) (Jsv 1) r _ _ rfl rfl n4 (hln Jn) ?_;let kt:=JsC (JhB us B) n4;apply W8 _ _ (JhB us B) (o.upd D) ao ?_;rwa[zS N,mAq]at Ip ((n.keep (u.trans Y).kt JfM).keep kt JfM) (kG (kt.sq (o.tup O)))
 .rintro M H2 ⟨X,W,us,rfl,g,n2,n⟩;let(L0,d,e):=G.last;let k:=g.seq I;let e0:Xp (L0.length+1):=by rw[xl,e,lAq];rfl
  apply Jop _ q _ (.inl k) _ ?_;rw[dFq (by intro z;injection z with z;lia)];apply bq ?_;obtain⟨x,hx⟩:∃x,xs[L0.length]?=some x:=Jbm Jn;let(l',t,B,hq3,kd,N,rfl,R,O,_):=G.at hx;let el:l'=(d,[],):=by erw[e,List.getElem?_append_right (nRq _),Nat.sub_self]at N;rfl
  subst el;let ax:Jm3 (-1)=some (.ref t):=by
   let ed:xs=JhB (xs.take L0.length) t:=by rw[<-a_ hx,tO (by lia)]
   rwa[ed]at n_ _ _
  apply(7,q,4,k,ax,t,4,g.tup R,Jsv 1,B,2,.inr (g.tup O),3,2,Mg (λc=>Q0 H2 g));exact absurd c (show ¬decide (Ge ((([]:List Int).map VG).length:Nat))=true by decide)
inductive lU (K)(C):Sp|m{vs H Q E9} (p tl al rl q) (T) (As) (Rs) (xs) (L):JnS (vs=Iw p q) (Jk_ H) (Mz 40) JiZ (Je3 q (jo K H T As Rs xs L->(∀H',M0 H')->lU K C vs H Q E9))
def Hy:JjH Jsp "paper" uH:=fsc
def Hz (F:Jr_ "lets_by" uH)(c:Jl1 7 "fault" fE dE (vc K C)):JA 8 Jsp (lU K C):=by
 apply Jq_ Hy k
 let(p,e,i,g,q,j,As,Rs,xs,L,rfl,S,d,a,l,G,n):=h;apply Ym (Nc (cP nY (J5 c.ok k c.m c.kp c.b 0 1) eC));rfl';exact GX _ _ rfl p e i g q j As Rs xs L rfl S d a l G (λH' s'=>WO (n H' s'))
def iQ.lf (l:iQ Rs h held out)(a:(Jy h).Nodup):((Jy h).filter λp=>decide (-p∉held))=out:=by have:=l.nf;unfold L2.nf at this;rw[wO _ _ (List.nil_append<|>a.filter _)]at this;exact this
section
variable {P:Program} {w:World} {K:W.Frag} {mg:Str->Option Value} {base:Heap} {aK C:Addr} {f fL fA fM fR:Addr} {fd dL' dA' dM dR':FuncData}
inductive vd (K:W.Frag):Sp|m{vs H Q E9} (q a:Addr) (row held:List Int):JnS (vs=Iw q a) (Vo q (row.map V.int)) (Qj H a (held.map V.int)) row.length (Yw (row.any λq=>decide (q∈held))->(∀H' l,JlW l (Il l ((row.filter λp=>decide (-p∉held)).map V.int)) l)->vd K vs H Q E9)
def zT:Je ["_law_row","_law_held","_law_part"] JjB qd:=fsc
def HD (F:Jr_ "_law_left" qd):JjL JjB (vd K):=by
 apply Jq_ zT R
 let(q,a,o,b,rfl,g,J,y,N,h):=h;apply Ym (QZ (JlS (V7 0) (i:=2) zT.nd (be (JiN vS UA 1)
     cF
     aU)) (WE (N':=JiT "_law_part") (ix:=[1]) rfl rfl rfl (λM=>JsN (ai qd) M) rfl rfl Xe (V7 0) (λm m m m=>(aA (r:=rIn K true) kA Jrg WA rfl)) (λm m m m=>IN)));rfl'
 apply JcQ _ q g cS (λi u H'=>∃v,H'=H/\u=[Ja q,Ja a,v]) (λi u H' h=>by let(_,e,_):=h;rwa[e]at g) (Nd none rfl)
 .rintro i u H' x l G ⟨v,rfl,rfl⟩ ⟨rfl,z⟩;let(k,O,rfl):=ck (z _ g);apply Q8 _ _ rfl a _ rfl (.inl J) (kH _) _ rfl ?_;rwa[jH,dFq λe=>List.any_eq_false.mp N k (mO O) (dTq e)]at bq (QD rfl)
 .rintro u H' ⟨v,rfl,rfl⟩;apply JK _ q g (λD I=>gH cS (λi ys l=>ap H' l∧ys=((o.take i).filter λp=>decide (-p∉b)).map VG) (λi ys l h_=>by let(d,_):=h_;exact d.tup g) (UI I) ?_ ?_)
  .rintro i ys l x S G t c ⟨d,rfl⟩ ⟨rfl,z⟩;let(k,B,rfl):=ck (z _ (d.tup g));let L:=zN (λp=>decide (-p∉b)) B;apply(2,7,a,2,.inl (d.seq J),rfl,kH _,2,?_);rw[jH];by_cases e:-k∈b
   .rw[dTq e];apply JkD G t c d;rw[L,if_neg (by simp [e])]
   .rw[dFq e];apply JoV (cv (lM<|>bsz _ y) G t c (Qm (d.upd I)));rw[L,Jah e,mAq];rfl
  .rintro ys l c ⟨d,rfl⟩;rw[lM,NF _]at c;exact h l D d I c
inductive vf (K:W.Frag):Sp|m{vs H Q E9} (rl pt ht:Addr) (xs:List V) (Rs:List Yk) (ps hs:List Int) (n:Nat):Je4 (vs=Jdg rl pt ht) rl (W_ zcM->WI pt->Jji ht->Jkt (∀r∈Rs,NJ r.length/\r.Nodup) JrY (LnG n Rs ps hs->(∀H',M0 H')->vf K vs H Q E9))
def qk:Je ["_law_rows","_law_parts","_law_hints","_law_held","_law_k","_law_left_here"] Jhd uK:=fsc
def HE (F:Jr_ "_law_right" uK)(T:NN C)(M:Xu 1 "_law_left" fL dL' JjB (vd K)):JA 2 Jhd (vf K):=by
 apply XF qk
 let(U,W,B,xs,Rs,ps,hs,n,rfl,hS,hL,hP,hH,lr,lp,R,h):=h;let lh:=R.h;apply Ym (ae (wm (i:=3) (N':=["_law_part"]) (ix:=[]) qk.nd rfl (Or.inl rfl) rfl rfl Jv Jv rfl (λ_=>JfH []) Jv rfl rfl Xf (V7 1) (λ_ _ _ _=>Jrg)) (ae (JG (Jeu (Yb (ME 2))) (i:=4) qk.nd (XT (i:=5) qk.nd (X0 M.ok hr M.m M.kp M.b (IT (J8 0 (Na aQ 2 JeA)) 3)) (Qb (be (IX bD 4 (XI gC (ME 2))) (JcH (cP kx JqO eC) (cP bD (ME 5) af))
     aU) (be (JR (IX nY 5 eC) (Gx eE (ME 5)))
     cF
     aU) (Jg3 3 (Yb (Uf aM 5))))))
  cF))
 rfl'
 let(v,el,X,G):=R.ex;apply JK _ W hP (λD hD=>Jn_ (λi ys H'=>Xd H/\ys=((ps.take i).map λp=>-p).map VG) (λi ys H' h_=>by let(q,_):=h_;exact q.tup hP) hD)
 .rintro i ys H' x H'' hi hly d ⟨q,rfl⟩ ⟨rfl,u⟩;let(k,hk',rfl):=ck (u _ (q.tup hP));apply Jnw _ _ (cv (lM<|>Jdr _) hi hly d (Qm (q.upd hD)));rw[zO hk',mAq];rfl
 rintro ys H1 d ⟨q,rfl⟩;rw[lM,NF _]at d;let lm:(hs.map VG).length=hs.length:=lM _;let bnd:(((hs.map VG).length:Nat):Int)<2^62:=by lia -ac
 apply(2,B,2,.inr (q.tup hH),2,by (constructor<;>lia),bnd,gh (lo:=0) (n:=(((hs.map VG).length:Nat):Int).toNat) (λi N H'=>Ex2 λ(S O:Option V)=>An4 (N=[Ja U,Ja W,Ja B,Ja D,S,O]) Jdx (Il D ((ps.map (λp=>-p)++v.take i).map VG)) (i<=v.length))
  (VV none none q (by rwa[List.take_zero,List.append_nil]at d) Zq) ?_ ?_)
 .rintro i N H' hi ⟨S,O,rfl,y,g,il⟩;let hi':i<hs.length:=Nat.lt_of_lt_of_eq hi lm
  let ei:(0:Int)+(i:Nat)=((i:Nat):Int):=by lia -ac
  rw[ei];let u:hs[i]?=some hs[i]:=gG hi';generalize hs[i]=x at u;let(x0,x1):=R.rng x (mO u);let(r,Z,Y):=uQ hL x0 x1;let(t,rnd):=lr _ (mO (qe x0 x1));let lo:∃out,iQ Rs x (ps.map (λp=>-p)++v.take i) out/\(i+1=hs.length->out=[])/\(i+1≠hs.length->∃a,v[i]?=some a/\out=[a]):=by
   by_cases c:i+1=JrZ
   .let e:i=v.length:=Jn
    exact([],by have:=G x (e▸u);rwa[e,List.take_length]at this,λ_=>rfl,λz=>absurd c z)
   .let hf:=gG (l:=v) (i:=i) Jn;exact(_,X i x _ u hf,λz=>MS c,λ_=>Ji6 hf)
  let(out,lo,o1,o2):=lo;let ef:=lo.lf rnd;apply(2,7,B,4,y.tup hH,qP u,U,4,y.seq hS,Z,2,r,D,Jy x,2,y.tup Y,SqL.of g,Jd t,lo.1,λH3 b s3 nb I=>?_);rw[ef]at I;let o:=y.trans s3;apply(7,B,2,.inr (o.tup hH),_,2,6,2,Mg XN)
  .let L:=oDq c;injection L with L;rw[lm]at L;rw[o1 (by lia)]at I;exact Jp2 (Jov _ rfl b _ (Yc I) rfl (h H3 o))
  .let L:i+1≠hs.length:=λz=>JaN (by rw[lm];congr 1;lia);let(a,ha,rfl):=o2 L;apply Jf9 (bq (Jop _ b _ (Yc I) _ (kB rfl ?_)));let nDb:D≠b:=λz=>by erw[←z,g]at nb
   let J:=s3 _ _ g;apply GX _ (U_ J) _ rfl b _ _ _ rfl rfl (SqL.of I) rfl D _ _ rfl rfl J (dV (by rw[lM,lAq,lM,List.length_take];lia)) ?_;apply VV _ _ (o.upd hD) ?_ (by have:=(gEq ha).1;lia);rw[ao,a_ ha,<-List.append_assoc];simp only[mAq,List.map_cons,List.map_nil]
 .rintro N H' ⟨S,O,rfl,y,g,il⟩;exact Nat.not_succ_le_self _ ((lm.trans el)▸il)
inductive vg (K)(C):Sp|m{vs H Q E9} (p tl al rl q r l) (T) (As) (Rs) (ps rs) (lk) (hd):Jol (vs=[.ref p,.ref q,.ref r,.ref l]) H (WI q->Qj H r (rs.map V.int)->Jnl T.length->Vo l (Gu lk.1 lk.2.1 lk.2.2)->LkR T As ps hd lk->ir T.length hd (rf rs)->(∀H',M0 H')->vg K C vs H Q E9)
def zU:Je (JoC "_law_parts" "_law_roots" "_law_link" "_law_atom") Jhh uI:=fsc
def HF (F:Jr_ "_law_link_right" uI)(T:NN C)(k:Jg "sorted")(M:Xu 1 "_law_alike" fA dA' JjA (sT K)):JA 2 Jhh (vg K C):=by
 apply XF zU
 let(p,tl,al,rl,q,r,l,T',As,Rs,ps,rs,g,L,rfl,S,hq,hR,O,v,R,Ag,Q0):=h;let hu:=gi hr;apply Ym (ae (be (Q4 JqP) (Nc (X0 M.ok hr M.m M.kp M.b (aa Wa (Qa 2 Jrx))))
   aU) (NY (i:=4) zU.nd (aI aM Wa (XI gC JqP)) (be (JR (JiN kA (Jk2 3) 1) (J9 eE 4 ba))
   cF
   aU) (Jgf hu (UN oQ k (Jh8 Jrx)) (UN oQ k (Jh8 Jrw)))))
 rfl'
 let((dx,ho),(xs,X,hT),(ys,ha,hA),_):=id S.pr;let(W,U,i3,i4):=id R.inn;apply JeK _ l _ _ _ v (l2 g) _ ?_;rcases R.how with ⟨c,Z⟩|⟨c,Y,sm⟩
 .rw[c];apply Go (λc=>JC c);apply(2,p,C,dx,_,2,ho,Yt,T.nT,eU _ _ _,7,l,4,v,l0 g,2,l,4,v,l1 g,tl,r,xs,T',rs,g.1,g.2.1,rfl,SqL.of X,hT,S.dm.tm,(λt X=>Jd (S.t3 t X)),hR,O,W,U,λH1 N=>?_);rwa[<-Em S.dm Ag W U,(EM W U).mpr Z]at Q0 H1 N
 .apply IP (λz=>?_)
  .lia
  let(x,x2,y):=zd (f:=L) S.dm hA (show 1<=g.2.2 by lia) i4;rcases y with ⟨z,J,rfl,u,sb,no⟩|⟨a,b,J,rfl,u,ia,ib,D,sb⟩
  .erw[sm]at no
  erw[sm]at D;apply(2,p,C,dx,_,2,ho,Yt,T.nA,eV _ _ _,2,l,4,v,l2 g,3,al,4,SqL.of ha,x2,?_);apply(2,l,4,v,l2 g,7,q,2,.inr hq,rfl,kH _,2,?_);show if Vi (!Jjl (-g.2.2)) then _ else _
  rw[show Vi (Jjl (-g.2.2)) from by rwa[jH]at dTq Y];apply bq (JeK _ J _ _ _ u (Jsv 0) _ (kB rfl ?_));apply(2,l,4,v,l0 g,2,l,4,v,l1 g,lS2,λd L=>?_);apply nwC L (.lst (Xw g.1 g.2.1)) λH1 N n1=>?_;apply JnO d [g.1,g.2.1] (SqL.of n1) (λm ms hm pm so=>?_);let(H2,B,I,n2):=IF hm (ms.map VG);rw[B];let I:=N.trans I;let o:=I.tup u;apply(2,J,4,o,Jsv 1,2,J,4,o,Jsv 2,lS2,λe he=>?_);apply nwC he (.lst (Xw g.1 g.2.1)) λH3 s3 n3=>?_;apply JnO e [g.1,g.2.1] (SqL.of n3) (λn ns hn pn sn=>?_);let(H4,B,G,n4):=IF hn IE;rw[B];let G:=s3.trans G;cases EO (pm.trans pn.symm) so sn;apply(5,Jd5 (G _ _ n2) _,Jd5 n4 _,(by simp only[dep,iO];decide),?_);rwa[eR]at Q0 H4 (I.trans G)
inductive vh (K:W.Frag)(C:Addr):Sp|m{vs H Q E9} (p tl al rl q l:Addr) (T:List MV) (As:List At) (Rs:List Yk) (ps:List Int) (xs:List V) (ls:List Lk):Jol (vs=Jdg p q l) H (WI q->N7 ps->UR l->JaQ dL->EqG T As ps ls->(∀H',M0 H')->vh K C vs H Q E9)
def lV:Je ["_law_problem","_law_parts","_law_bonds","_law_roots","_law_link","_law_part","_law_atom"] Jge uJ:=fsc
def HH (F:Jr_ "_law_equal" uJ)(T:NN C)(G:Jg "list")(BR:Xu 2 "_law_link_right" fR dR' Jhh (vg K C))(BM:Xu 1 "_law_merged" fM dM JdH (sS K)):JA 3 Jge (vh K C):=by
 apply XF lV
 let(p,tl,al,rl,q,l,D,As,Rs,ps,xs,ls,rfl,S,hq,pg,hl,hL,R,Q0):=h;let xl:Xp ls.length:=by rw[<-hL.length,lM]
 let hr1:Jhw 1:=hr.mono Jp;apply Ym (Nm (i:=3) lV.nd (UB (xw rfl) rfl G (Yb (xv rfl T.range (Yb JeJ)))) (JG (V7 2) (i:=4) lV.nd (JdY (be (GK (Iu BR.ok hr BR.m BR.kp BR.b 0 (Qa 1 (VJ 3 4))))
     cF
     aU) (Jsz 3 lV.nd (Iu BM.ok hr1 BM.m BM.kp BM.b 3 Jrw)))) (ae (JG (V7 1) (i:=5) lV.nd (XT (i:=6) lV.nd (aI aM Wa (XI gC (JoU jw 5))) (aj (be (VR (Ji5 JqO) (fw (J9 bD 6 ba) (f_ (aA bD (JfU 3 6) (JfU 3 6))))) Jre
     aU))))
  cF))
 rfl'
 let((dx,ho),(ts,ht,hT),(ys,ha,hA),_):=id S.pr;let tl':Jnr D.length:=by rw[<-hT.length,lM]
 let tN:=S.tN;apply(2,p,C,dx,_,2,ho,Yt,T.nT,eU _ _ _,tl,2,Yc ht,2,λr0 hr0=>?_);apply nwC hr0 (.rng 0 ((ts.length:Nat):Int)) λH0 s0 n0=>?_;apply(r0,2,n0,Jn,Jn,λr1 O=>?_);let e0:(((List.range (((ts.length:Nat):Int)).toNat).map λi:Nat=>(i:Int)).map VG)=(ze8 Jqr).map V.int:=by rw[Int.toNat_natCast,tl'];rfl
 rw[e0];apply nwC O (.lst ((ze8 Jqr).map VG)) λH1 sN n1=>?_;let s1:=s0.trans sN;let ag0:ir Jqr (hdL []) (rf (ze8 Jqr)):=λt u ht hu=>by rw[yQ ht,yQ hu];rfl
 apply JcQ _ l (s1.tup hl) (cS (xs:=xs)) (λi B H'=>Ex3 λ(v4:Option V) (r:Addr) (rs:List Int)=>An5 (B=[Ja p,Ja q,Ja l,Ja r,v4,none,none]) Jdx (Il r (rs.map VG)) (Jnl Jqr) (ir Jqr (Jcb i) (rf rs))) (λi B H' h=>by let(_,_,_,_,g,_):=h;exact g.tup hl) (JS none r1 _ s1 n1 (yR _) ag0)
 .rintro i B H9 x H2 hi ⟨v4,r,rs,rfl,g,v,n,Z⟩ ⟨rfl,hx⟩;let(L,pl,X,rfl,hp):=iJ hL (hx _ (g.tup hl));let W:=g.tup hp;let N:=R.lk i L X;apply(7,7,p,tl,al,rl,q,r,pl,D,As,Rs,ps,rs,L,2,S.same g,g.tup hq,SqL.of v,n,W,N,Z,λH3 s3=>Jii ?_);let U:=s3.tup W;apply(7,pl,4,U,l0 L,2,pl,4,U,l1 L,r,rs,L.1,L.2.1,rfl,SqL.of (s3 _ _ v),by rwa[n]at N.inn.1,by rwa[n]at N.inn.2.1,Jn,λH4 r4 s4 _ hr4=>?_);apply JS _ r4 _ ((g.trans s3).trans s4) hr4 (Et<|>n) ?_;rwa[a_ X,ik]at EN Z n N.inn.1 N.inn.2.1
 .rintro B H2 ⟨v4,r,rs,rfl,g,v,n,Z⟩;rw[xl,List.take_length]at Z;apply JcQ _ q (g.tup hq) cS (λi B H'=>Ex2 λ(v5 v6:Option V)=>An3 (B=[Ja p,Ja q,Ja l,Ja r,v4,v5,v6]) (H'=H2) (∀j,j<i→∀k,ps[j]?=some k→Yw (Jn7 ls k))) (λi B H' h=>by let(_,_,_,e,_):=h;exact e ▸ g.tup hq) (JgT none none (λj Y=>absurd Y Jn))
  .rintro i B H9 x H3 hi ⟨v5,v6,rfl,rfl,hf⟩ ⟨rfl,hx⟩;let(k,hk,rfl):=GY _ (g.tup hq);let km:=mO hk;let kp:=pg.p k km;let o:Yw (Jn7 ls k)→∀j,j<i+1→∀k',ps[j]?=some k'→Yw (Jn7 ls k'):=λz j Y k' I=>by
    by_cases e:j=i
    .lia
    .exact hf j Jn k' I
   by_cases c':0<k
   .let(x,x2,J):=zd (f:=hdL ls) S.dm (hA.keep g.kt (pQ _)) (show 1≤k by lia) (show k≤(As.length:Int) by lia);rw[show k-1=(if k<0 then -k else k)-1 by rw[if_neg (by lia)]]at x2
    apply(2,p,C,dx,_,2,g _ _ ho,Yt,T.nA,eV _ _ _,7,3,al,4,Jno _ _ ha,x2,?_);apply Jo5 _ rfl _ _ _ (Mg (λc=>Jla c'));rcases J with ⟨z,M,rfl,y,sb,_⟩|⟨a,b,M,rfl,y,ia,ib,_,sb⟩
    .exact JeK _ M _ _ _ y (Jsv 0) _ (bo (λc=>NZ (oDq c)) (λc=>bq (JgT _ _ (o sb))))
    .rw[←n]at ia ib;apply JeK _ M _ _ _ y (Jsv 0) _ (bo (λc=>(7,M,4,y,Jsv 1,r,4,SqL.of v,gA ia,7,M,4,y,Jsv 2,r,4,SqL.of v,gA ib,rfl,2,?_)) (λc=>Jla rfl));rw[n]at ia ib;rw[kY,←Z.dec ia ib,←sb];cases es:Jn7 ls k with
     |false=>exact bq (JgT _ _ (o es))
     |true=>exact aD (Q0 H3 g)
   .let(x,a,x2,_):=Ez (hA.keep g.kt (pQ _)) (show Jfs k from JhW kp.1 Jn);apply(2,p,C,dx,_,2,g _ _ ho,Yt,T.nA,eV _ _ _,7,3,al,4,Jno _ _ ha,x2,?_);apply Jo5 _ rfl _ _ _ (bo (λc=>absurd (oDq c) c') (λc=>bq (JgT _ _ (o ?_))));have:Mf (MF k):=by unfold smF;rw[if_neg (by lia)]
    unfold cm;rw[this]
  .rintro B H3 ⟨v5,v6,rfl,rfl,hf⟩;let(d,hd,e):=R.says;let(j,Y):=List.getElem?_of_mem hd;erw[hf j (lM<|>(gEq Y).1) d Y]at e
end
section
variable {P:Program} {w:World} {K:W.Frag} {mg:Str->Option Value} {base:Heap} {aK C:Addr} {f fR fE:Addr} {fd dR dE:FuncData}
def PtG.nd (h:PtG n ps):ps.Nodup:=(List.pairwise_map.mp h.a).imp λh z=>h (by rw[z])
inductive lW (K)(C):Sp|m{vs H Q E9} (p tl al rl q) (T) (As) (Rs) (xs) (L):JnS (vs=Iw p q) (Jk_ H) (Mz 40) JiZ (Je4 (∀r∈Rs,r.Nodup) q (jo K H T As Rs xs L->(∀H',M0 H')->lW K C vs H Q E9))
abbrev NLP:List Str:=JW "_law_paper" "_law_rows" "_law_line"
def vi:Je NLP IJ uL:=fsc
def HI (F:Jr_ "_law_paper_right" uL)(T:NN C)(TP:JiS K)(BR:Xu 2 "_law_right" fR dR Jhd (vf K))(BE:Xu 3 "_law_equal" fE dE Jge (vh K C)):JA 4 IJ (lW K C):=by
 apply XF vi
 let(p,tl,al,rl,q,T',As,Rs,xs,L,rfl,S,a40,r1000,rnd,O,G,Q0):=h;let hr2:Jhw 2:=hr.mono Jp;let hu:=gi hr;apply Ym (ae (be (JR (Jo3 rj 1 (JdJ (v:=.ty "list") rfl Jra rfl)) (Q4 (ME 1)))
   cF
   aU) (NY (i:=2) vi.nd Jsr (JG (Jes 1) (i:=3) vi.nd (ae (be (Qt (Jo3 mn 3 Vu) (cI (Gx eE (ME 3)) (cX (JiM kA JqP (cb (Qh ba ba))))))
     cF
     aU) (Qb (be (JcX (J9 bD 3 ba) (GK (Iu BR.ok hr2 BR.m BR.kp BR.b 2 Jrx)))
     cF
     aU) (be (JcX (J9 bD 3 ba) (GK (Iu BE.ok hr BE.m BE.kp BE.b 0 Jrx)))
     cF
     aU) (Jg3 2 (VX 3))))) (Jgf hu Jme (cb ac))))
 rfl'
 let xl:Xp L.length:=by rw[<-G.has.length,lM]
 let l3:=G.len;let((dx,ho),_,_,(zs,hz,hZ),_):=id S.pr;let zl:JcR Rs.length:=by rw[<-hZ.length,lM]
 let(L0,d0,eL):=G.last;let e0:Xp (L0.length+1):=by rw[xl,eL,lAq];rfl
 apply WQ _ q _ "list" true O (ur _ _) _ rfl (bq (Jop _ q _ (.inl O) _ ?_));rw[dFq (by intro z;injection z with z;lia)];apply bq (2,p,C,dx,_,2,ho,Yt,T.nR,lD _ _ _,rl,zs,rfl,Yc hz,λr Z=>?_);apply nwC Z (.lst zs) λH1 s1 n1=>?_;apply JcQ _ q (s1.seq O) dv (λi σ H'=>Ex2 λ(R:Option V) (us:List V)=>An4 (σ=[Ja p,Ja q,Ja r,R]) Jdx (Il r us) (V3 ((Rs++(L.take i).map Jbr).map zcM) us)) (λi σ H' h=>by let(_,_,_,D,_):=h;exact D.seq O) (VV none zs s1 n1 (by rwa[List.take_zero,List.map_nil,List.append_nil]at hZ.keep s1.kt JfM))
 .rintro i σ H2 x H3 hi ⟨R,us,rfl,D,n2,N⟩ ⟨rfl,hy⟩;let(l,c,B,u,X,hl,rfl,h1,h2,pg,h3):=G.at (hy _ (D.seq O));let ul:us.length=Rs.length+i:=by rw[←N.length,lM,lAq,lM,List.length_take];lia
  let a0:J7 (JfK X B u)=some (.str X):=Jsv 0;let a1:Jcn (JfK X B u)=some (.ref B):=Jsv 1;let a2:atI (JfK X B u) 2=some (.ref u):=Jsv 2;let t1:=D.tup h1;let W:=pg.len a40;let U:∀x∈Rs++(L.take i).map Jbr,NJ x.length/\x.Nodup:=λx Y=>(G.rows a40 i x Y,by
   rcases mPq Y with z|z
   .exact rnd x z
   .let(y,hy,rfl):=List.mem_map.mp z;let(j,hj):=List.getElem?_of_mem (List.mem_of_mem_take hy);have:=G.ok j y hj;generalize y.1=d at this;cases this with
    |ln _ _ a _=>exact a.nd
    |eq _ _ a _=>exact a.nd)
  apply WQ _ c _ _ _ t1 (ur _ _) _ rfl (bq (Jop _ c _ (.inr t1) _ (kB rfl (WQ _ c _ _ _ rfl t1 a0 lS2 (λk hk=>?_)))));let(H4,eN,s4,n4):=nwH hk (Ul "learnt" (.str "equal"));rw[eN];let o:=D.trans s4;let I:=s4.tup t1;let t:=s4 _ _ n2;let hL4:=N.keep s4.kt JfM;let step:∀J,ap H4 J->∃(R:Option V) (n:List V),[Jmw p,Ja q,Ja r,Ja c]=[Ja p,Ja q,Ja r,R]/\M9 (JhC J r us B)/\(JhC J r us B) r=JhO n/\ar K (JhC J r us B) ((Rs++(L.take Xi).map Jbr).map zcM) n:=λJ g=>by let n5:=g _ _ t;let kt:=JsC (JhB us B) n5;apply VV _ (JhB us B) ((o.trans g).upd Z) ao ?_;rwa[zS hl,mAq]at Ip ((hL4.keep g.kt JfM).keep kt JfM) (kG (kt.sq ((o.trans g).tup h2)))
  let l4:=h3.same o;cases l4 with
  |ln hs hh lr=>
   apply Jo5 k _ rfl (XW n4) _ Jqx;apply JeK _ c _ _ _ I a0 _ (aD (7,c,4,I,a1,2,c,4,I,a2,r,B,u,us,_,l.2,hs,2,SqL.of t,hL4,o.tup h2,hh,U,W,lr,λJ g=>Jii ?_));let t5:=g.tup I;apply JeK _ c _ _ _ t5 a0 _ Jqx;let(M,n,e1,e2,e3,e4):=step J g;exact(2,U_ (g _ _ t),2,c,4,t5,a1,r,3,g _ _ t,hln Jn,M,n,e1,e2,e3,e4)
  |eq ys ls hh hK lr=>
   apply Jo5 k _ rfl (XW n4) _ Jqx;apply JeK _ c _ _ _ I a0 _ (bq (JeK _ c _ _ _ I a0 _ (aD (7,c,4,I,a1,2,c,4,I,a2,p,tl,al,rl,B,u,T',As,Rs,l.2,ys,ls,rfl,S.same o,o.tup h2,pg,hh,hK,lr,λJ g=>Jii ?_))));let t5:=g.tup I;let(M,n,e1,e2,e3,e4):=step J g;exact(2,U_ (g _ _ t),2,c,4,t5,a1,r,3,g _ _ t,hln Jn,M,n,e1,e2,e3,e4)
 .rintro σ H2 ⟨R,us,rfl,D,n2,N⟩;obtain⟨x,Y⟩:∃x,xs[L0.length]?=some x:=Jbm Jn;let(l',c,B,hq3,X,hl,rfl,h1,h2,_):=G.at Y;let el:l'=(d0,[],):=by erw[eL,List.getElem?_append_right (nRq _),Nat.sub_self]at hl;rfl
  subst el;let ax:Jm3 (-1)=some (.ref c):=by
   let ed:xs=JhB (xs.take L0.length) c:=by rw[<-a_ Y,tO (by lia)]
   rwa[ed]at n_ _ _
  apply(7,q,4,D.seq O,ax,c,4,D.tup h1,Jsv 1,lS0,λe he=>?_);let(H3,eN,s3,n3):=nwH he (.tup []);rwa[eN]at(.tup [],.tup [],Has.tup' (s3.tup (D.tup h2)) .nil,Jo n3 .nil,by decide,Q0 H3 (D.trans s3))
end
end H53
namespace L2
def Stp.mono (h:m<=M){x y:HS×Ph}(s:Stp cl m x y):Stp cl M x y:=by
 let(S,p):=x;cases p with
 |beg i=>exact s
 |grow=>exact s
 |ask=>
  let(o,c,b):=s;apply Gc o c;cases o with
  |none=>exact b
  |some q=>exact(Jd0 b.1,b.2)
 |rest=>exact s
 |odds f=>
  let((a,rest,n,j,la,c,b,k,g,e),d):=s;exact((a,rest,n,j,la,c,b,k,g,e.imp id λz=>(z.1,Jd0 z.2.1,z.2.2)),d)
def Rch.mono (h:m<=M){x y:HS×Ph}(r:Rch cl m x y):Rch cl M x y:=by
 induction r with
 |refl=>exact .refl
 |step _ s a=>exact a.step (s.mono h)
def Ans.up (h:m<=M){S:HS}{x:HS×Ph}{w:Wd}(a:Ans cl m S x w)(b:w≠.long):Ans cl M S x w:=by
 apply Qm (a.1.mono h);let(_,f):=a;let(S,p):=x;cases p with
 |beg i=>exact f
 |grow=>exact f
 |ask=>obtain⟨_,_,_,e⟩:=f;exact JlA b
 |rest=>exact f
 |odds g=>
  rcases f with ⟨_,_,e⟩|⟨j,d,c⟩
  .exact JlA b
  .exact JfV j (Jd0 d) c
end L2
namespace H53
open PySem L2 K53
def HJ (s:Stp cl m x y):x.1.pp.length<=y.1.pp.length:=by
 let(S,p):=x;cases p with
 |beg i=>rwa[show y=gN S i from s,zH]at nRq _
 |grow=>rwa[show y=gO S from s,zI]at nRq _
 | ask =>
  let(o,_,b):=s;cases o with
  |none=>rwa[show y=(S,.rest,) from b]at nRq _
  |some q=>
   rw[b.2];show _<=(S.pp++[q.1]).length;rwa[lAq]at N9 _
 |rest=>
  let(a,_,e):=s;rwa[e]at nRq _
 |odds f=>
  let(a,rest,m,j,la,_,_,_,_,c):=s.1.ex;rcases c with ⟨_,e⟩|⟨_,_,e⟩
  .rwa[e]at nRq _
  .rw[e];show _<=(S.pp++[_]).length;rwa[lAq]at N9 _
def HK (r:Rch cl m x y):x.1.pp.length<=y.1.pp.length:=by
 induction r with
 |refl=>exact nRq _
 |step _ s a=>exact Nat.le_trans a (HJ s)
def HL (o:cl.One)(h:m<=M){S:HS}{x y:HS×Ph}{w:Wd}(a:Ans cl M S x w)(b:Ans cl m S y .long):m<=(x.1.pp.length:Int):=by
 let r:Rch cl M y x:=by
  rcases a.1.one o (b.1.mono h) with z|z
  .rcases z.head with e | ⟨_,s,_⟩
   .rwa[e]at .refl
   .exact absurd s (a.2.stop o)
  .exact z
 let l:=HK r;let(c,p):=y;have:m<=(c.pp.length:Int):=by
  let f:=b.2;cases p with
  |beg i=>exact f.elim
  |grow=>exact f.elim
  |ask=>obtain⟨_,_,e,_⟩:=f;exact e
  |rest=>exact nomatch f.2
  |odds g=>
   rcases f with ⟨_,e,_⟩|⟨_,_,e⟩
   .exact e
   .cases e
 lia
def mst (a:Int):Int:=if a=0 then 2000 else a
inductive SrT (K)(H:Hp)(t)(n)(T)(As)(Rs)(m0)(x):Wd->Prop
 |long:Jfx T (mst m0) n x .long->QG t (J1 m0) (SrT K H t n T As Rs m0 x .long)
 |told (w:Wd):w≠.long->iw K H t n T As Rs (mst m0) x w->SrT K H t n T As Rs m0 x w
def sfD (n:Nat)(a:Int)(x:HS×Ph):Wd->Dt
 |.long=>J1 a
 |_=>fdD n x
def SrT.same (a:SrT K H t n T As Rs m0 x w)(s:Xd H):SrT K H' t n T As Rs m0 x w:=by
 cases a with
 |long a h=>exact .long a (s _ _ h)
 |told w b a=>exact .told w b (a.same s)
def SrT.has (a:SrT K H t n T As Rs m0 x w):Qx K H (sfD n m0 x w) t/\L2.dep (sfD n m0 x w)<=60:=by
 cases a with
 |long a h=>exact(JhH h,by show L2.dep (J1 m0)<=60;simp only[L2.dep,bx];decide)
 |told w b a=>
  cases w with
  |long=>exact JC b
  |yes=>exact(a.has,a.dep)
  |no=>exact(a.has,a.dep)
def SrT.ans (a:SrT K H t n T As Rs m0 x w):Jfx T (mst m0) n x w:=by
 cases a with
 |long a _=>exact a
 |told w _ a=>exact a.a
def chC (i:Int):Nat:=(atI ("abcdefg":Str).cps.toList i).getD 0
def ch_at (h0:0<=i)(a:i<7):atI ("abcdefg":Str).cps.toList i=some (chC i):=by
 have:i=0\/i=1\/i=2\/i=3\/i=4\/i=5\/i=6:=Jn
 rcases this with rfl|rfl|rfl|rfl|rfl|rfl|rfl<;>rfl
def chN (i:Nat):Str:=("p":Str)++⟨#[chC ((0+(i:Int))/7)]⟩++⟨#[chC ((0+(i:Int))%7)]⟩
def HM:∀i<40,JfZ (chN i)/\(chN i).length<=1000:=by decide +kernel
def HN:∀i<40,∀j<i,chN j≠chN i:=by decide +kernel
def chA (n:Nat):List At:=(List.range n).map λi=>.plain (chN i)
def zV (n):(chA n).length=n:=by simp [chA]
def HP (n):chA (n+1)=chA n++[.plain (chN n)]:=by unfold chA;rw[List.range_succ,mAq];rfl
def HQ (h:n<40):At.plain (chN n)∉chA n:=λz=>by let(j,a,e):=List.mem_map.mp z;injection e with e;exact HN n h j (List.mem_range.mp a) e
abbrev NCh:List Str:=["_law_cell","_law_problem","_law_many","_law_k","_law_turn","_law_place"]
def kb:Je NCh ["_law_cell"] lC:=fsc
inductive qm (K)(C):Sp|m{vs H Q E9} (c):vs=X3 c->(∀H' p tl al rl As Rs,VQ tl (Jgk al rl (Jk9 H' []->Jma (∀r∈Rs,Qw r) (Mz 40) (Jmv 9) (NJ JiZ) p)))->qm K C vs H Q E9
def chain6 (T:NN C)(S:JhI 2 fR dR' (ji K C))(N:JdN dR')(G:Jdz fR)
  {cdv:Value}{A:Around}{outer:List Env}{s:Shared}{H0:Hp}{E:XK}(j:Jl3 2 "_law_chain" lC):
  ∃z,PSs (JmQ P w K mg NCh "_law_chain" lC f A s H0 E).nox ((zas lC).drop 6) z/\
   ∀H d Q p h g e c m y u t As b,M9 d->Nf g->Nf e->Vq K C d p h g e [] b->(∀r∈b,Qw r)->b.length<=41->10<=m->As.length=m.toNat->
    (∀H' Rs,QF (Jgp (Vq K C H' p h g e [] Rs) (∀r∈Rs,Qw r) (NJ JiZ) p))->z { nx:=λY H'=>Q .non H',rt:=Q } [Ya c,Ja p,Ya m,y,u,t] d:=by
 apply Ym (QZ (be (Gx iA (JcV 0)) (QS 1 G S j N (Jh8 (Yb (JaS 2))))
   aU) WA);rfl'
 intro H d Q p h g e c m y u t As b D L J o F W U O q;let(n,k):=o.pr.ob;apply(2,3,Id Jp,3,QW,3,2,Go (λY=>QD (q d b D o F Jn)));apply XX _ p n _ rfl k Jqh _ rfl _ rfl lS1 (λl I=>?_);let B:=Jax I [V.int (-m)];apply lO (ps:=[-m]) (o.same B) Jce (λx a=>?_) Js Jn λH' r v R M i=>QD (q H' _ (M.fresh (D.trans B) L J) R (λx a=>?_) (by rw[lAq];show _+1<=_;lia))
 .rw[mSq a];unfold PIn;lia
 .rcases mPq a with a | a
  .exact F x a
  .rwa[mSq a]at i
def HR (F:Jr_ "_law_chain" lC)(T:NN C)(G:Own P w K mg base C fI fA fQ fS dI dA' dQ dS)(GR:JhI 2 fR dR' (ji K C))(bR:JdN dR')(mR:Jdz fR):JA 5 ["_law_cell"] (qm K C):=by
 apply XF kb
 let(c,rfl,q):=h;let e:=JsE 2;let(t6,h6,g6):=chain6 (base:=base) (cdv:=cdv) (outer:=outer) T GR bR mR e;apply Ym (XT (i:=1) kb.nd (kz G.mI G.I e rfl G.gI G.bI .nil aJ) (Nm (i:=2) kb.nd (JoB (Jgm 0)) (JsF (JpZ 2) 3 kb.nd (QS 1 G.mQ G.Q hr G.bQ (Yb (aX vx (aX vx ba (aI vP ba (Jb2 3))) (aI vP ba (Jgm 3)))))) (Nm (i:=4) kb.nd (JbH bz (Jb2 0) 2) (JG (JpZ 2) (i:=3) kb.nd (XT (i:=5) kb.nd (JbH bz (JjG cu 3 4) 2) (aj (be (Ji5 JqO) (QS 1 mR GR e bR (Jh8 (Qh (JaS 5) (Wz cu 5))))
     aU)))) (ae (be (Ji5 (JcV 0)) (QS 1 mR GR e bR (Jh8 (Yb af)))
   aU)
  h6))));rfl'
 intro p dx np ndx nex;apply Qp p dx ao (λN al R H1 ht ha U na nr nx k1 k2 k3 k4 k5=>Qm rfl);let(S1,s1,ft,Y,W):=sV (K:=K) np ndx nex ht ha U na nr nx k1 k2 k3 k4 k5;clear k1 k2 k3 k4 k5 ht ha U;apply GF _ _ _ rfl rfl (by show Ge 31;decide) _ _ rfl rfl ?_;generalize hm:(10+c%31:Int)=m;let m0:10<=m:=Jn
 apply Jje _ _ (by show -(2^62)<=m;lia) (by show m<2^62;lia) (gh (λi o H'=>∃(L:Option V),JlJ (o=[Ya c,Ja p,Ya m,L,none,none]) H (PrD K C H' p N al R [] (chA i) [])) (Ml none s1 S1) ?_ ?_)
 .rintro i o H2 hi ⟨L,rfl,s2,S2⟩;let B:i<40:=Jn
  let((dx2,ho2),_):=id S2.pr;let b7:=cw (0+Qq) (show Ge 7 by decide);apply(2,p,dx2,2,ho2,pE _ _ _,2,3,Id Jp,4,(by show Qd 7;decide),ch_at Jn Jn,3,(by show Qd 2;decide),2,3,(by show Ge 7;decide),4,(by show Qd 7;decide),ch_at b7.1 b7.2,3,(by show Qd 3;decide),?_);let g:=HM i B;apply EA (z:=chN i) S2 g.1 g.2 (zV<|>B) (HQ B) λH' k pr Z=>JoQ (Z.fresh s2 Y W) ?_;rwa[HP]at pr
 rintro o H2 ⟨L,rfl,s2,S2⟩;let aln:=zV m.toNat;generalize chA m.toNat=As at S2 aln;let d:Ge m:=Jn
 apply(2,3,Id Jp,2,3,d,?_);generalize c/31%m=tn;apply Jje _ _ (by show -(2^62)<=m;lia) (by show m<2^62;lia) (JsB 0 m.toNat (λi o H'=>Ex3 λ(L v5:Option V) (Rs:Xg Int)=>An5 (o=[Ya c,Ja p,Ya m,L,Ya tn,v5]) Jdx (MP K C H' p N R [] Rs) (∀r∈Rs,Qw r) (Rs.length<=i)) (JS L none [] s2 S2 (λr hr=>nomatch hr) Yd) ?_ ?_)
 .rintro i o H3 hi ⟨M,v5,Rs,rfl,O,J,S,l3⟩;let b:=cw (0+(i:Int)+tn) d;apply(7,3,2,3,d,?_);generalize (0+(i:Int)+tn) % m=pl at b;let(D,y):=J.pr.ob;apply Jo5 _ rfl _ _ _ (bo (λc0=>?_) (λ_=>JS _ _ Rs O J S Jn));let c0:0<pl:=oDq c0;apply(2,p,D,2,y,lG _ _ _,2,7,3,lS2,λl hl=>?_);let t:=Jax hl (Q7 (-pl) (pl+1));apply lO (ps:=[-pl,pl+1]) (J.same t) Jce (λx a=>?_) Js Jn λH' r v S' Z u=>JS _ _ _ JrD S' (λx a=>?_) (lAq<|>Nat.add_le_add_right l3 1)
  .let a:x=-pl∨x=pl+1:=by simpa using a
   unfold PIn;rcases a with rfl|rfl<;>exact Job Jn
  .rcases mPq a with a | a
   .exact S x a
   .rwa[mSq a]at u
 rintro o H3 ⟨M,v5,Rs,rfl,O,J,S,l3⟩;let l3:Rs.length<=40:=Jn
 let X:∀(H4:Hp) (R4:Xg Int),M9 H4->MP K C H4 p N R [] R4->(∀r∈R4,Qw r)->R4.length<=41->t6 { nx:=λ_ H'=>Q .non H',rt:=Q } [Ya c,Ja p,Ya m,M,Ya tn,v5] H4:=λH4 R4 t S4 r4 l4=>g6 H H4 Q p N al R c m _ _ _ As R4 t Y W S4 r4 l4 m0 aln λH' Rs' s' S' r' l'=>q H' p N al R As Rs' s' ft Y W S' r' Jn Jn l';let(D,y):=J.pr.ob;apply(2,3,Id Jp,3,QW,3,2,Go (λ_=>X H3 Rs O J S Jn))
 .apply JX _ p D _ rfl y Jqh lS1 VE;let t:=Jax hl [V.int 1];apply lO (ps:=[1]) (J.same t) Jce (λx a=>?_) Js Jn λH' r v S' Z u=>X H' _ JrD S' (λx a=>?_) (lAq<|>Nat.add_le_add_right l3 1)
  .rw[mSq a];unfold PIn;lia
  .rcases mPq a with a | a
   .exact S x a
   .rwa[mSq a]at u
structure jq (K)(C)(H)(p tl al rl)(T)(As)(Rs):Prop where
 d:Jk_ H
 t:MX 60
 r:∀r∈Rs,Qw r
 a:Mz 40
 l:Rs.length<=200
def jq.ro (h:jq K C H p tl al rl T As Rs):uq WR Rs:=(λr b=>((h.r r b).2.2,λk c=>by have:=(h.r r b).1 k c;unfold PIn at this;exact(this.1,lqW this.2)),h.a,by have:=h.l;lia)
def jq.same (h:jq K C H p tl al rl T As Rs)(s:Xd H):jq K C H' p tl al rl T As Rs:=(h.d.same s,h.t,h.r,h.a,h.l)
def HU (h:US (Xz K (.ref D) "ValueError")):JkN K (.ref D) "ValueError"=some true:=by unfold W.kitOne at h;lia
structure TxE (K)(mg:QT Str)(CL CE):Prop where
 ve:Jg "ValueError"
 cl:mg "TooLong"=Ja CL
 ce:mg "ChoiceError"=Ja CE
 xc:XcK K CL
 ki:US (W.kitOne K (.ref CL) (.ref CL))
 kv:US (JkN K (.ref CL) "ValueError")
 ex:US (Jms K CL (.ref CE))
structure Sr (P)(w)(K)(mg)(base)(C CL fE)(dE)(tk):Prop where
 S:Jc9 P w K mg P w 9 fE dE JqZ (pX K C CL)
 b1:aw K dE JqZ [JaX tk]
 b2:JfC dE "most"
 m:mg "search"=Ja fE
 k:JkA fE
inductive iR (K)(C):Sp|m{vs H Q E9} (p tl al rl) (T) (As) (Rs) (m0):vs=UJ p m0->jq K C H p tl al rl T As Rs->0<=m0->JbP m0->(∀H' t x w,VQ t (Jgp (SrT K H' t WR T As Rs m0 x w) (∀pl,Uk t (Jgq pl)->Nf pl) (w=.long->mst m0<2^(As.length+2)) t))->iR K C vs H Q E9
def zW:Je JrP W3 uM:=fsc
section
variable {P:Program} {w:World} {K:W.Frag} {mg:Str->Option Value} {base:Heap} {aK C CL CE:Addr} {f fE fS:Addr} {fd dE dS:FuncData} {tk:Tok}
def HV (F:Jr_ "_law_searched" uM)(T:NN C)(X:TxE K mg CL CE)(g:Sr P w K mg base C CL fE dE tk):JA 10 W3 (iR K C):=by
 apply XF zW
 let(p,R,al,U,u,As,Rs,b,rfl,G,m1,m2,q):=h;let hv:bc [V.int 2000] [JaX tk]:=JF JeC;apply Ym (aj (DN rfl rfl (λW E1 Eb σ0 hp=>QZ (be (Q4 WA) (Nc (yd g.S hr rfl g.m g.k g.b1 hv hp Jqj))
    aU) (yd g.S hr rfl g.m g.k g.b2 .nil hp (VJ 0 1))) (ph_as (i:=2) rfl X.ce zW.nd rfl rfl rfl (λea=>ae (be (JcX (cM (aF (r:=oT K) DL rfl T.isi Jq6 (WG 2 (JkQ (v:=.ref CL) X.cl rfl)))) (cM (aF (r:=oS K) Dx rfl T.isi Jq6 (WG 2 (fZ (v:=.ty "ValueError") rfl X.ve PyProof.Rows.Boot.ValueError rfl))))) (Nc (Jg1 ba 1))
    aU)
   cF) Dv)))
 rfl'
 let go:∀{m O},mst b=m->(∀H',QF (∀x,JcD u m (JaF Rs) x .long->m<2^(As.length+2)->O (.ref CL) none H'))->pX K C CL (UJ p m) H Q O:=λ{m O} e n=>by
  subst e;let Z:1<=mst b/\JbP (mst b):=by unfold mst;split<;>lia
  apply(p,R,al,U,u,As,Rs,2,G.d,G.t,G.ro,Z.1,Z.2,(λx a l H' s'=>n H' s' x a l,λH' t th S N s B j M L J=>?_,λH' t pl ys S f N s B n1 j M L J h5=>?_))
  .exact q H' t _ .yes s B (.told _ nofun (N,.yes S th j M L J)) (λpl z=>by erw[j]at z) nofun
  .exact q H' t _ .no s B (.told _ nofun (N,.no S f pl ys j M L J h5)) (λpl' z=>by erw[j]at z;exact n1) nofun
 let n:∀m,mst b=m->∀H',Xd H->∀x,JcD u m (JaF Rs) x .long->m<2^(As.length+2)->x_ K CE 2 3 (tSeq (tIfS (tAnd (tB (tCB (oT K) (iV (jr 2) (iV (tC (V.ref CL)) hF)))) (tB (tCB (oS K) (iV (jr 2) (iV (tC (V.ty "ValueError")) hF))))) (tRet (vC (iV (tC (V.str "long")) (iV (jr 1) hF)))) vo) λ_ _ _=>False) (λ_=>vp) CL { nx:=λ_ H'=>Q .non H',rt:=Q } (L2.start JrP (X7 (V.ref p) b)) H':=λm e H' s' x a l=>by subst e;apply(true,X.ex,aD λea D=>?_);let I:=Jsu H' ea (JnT CL);let y:=s'.trans (aW D (JnT CL));generalize upd H' ea (JnT CL)=H2 at I y;apply JN _ ea CL CL true rfl I X.xc X.ki _ rfl (aD (JnL _ ea CL "ValueError" I X.kv _ (aD (JoR (λt ht=>?_)))));apply nwC ht (J1 b) λH3 s3 Y=>?_;exact q H3 t x .long (y.trans s3) (y.free ht) (.long a Y) (λpl z=>by erw[Y]at z) λ_=>l
 apply Jf9 JbK
 .let c:=oDq c;injection c with c;let e:mst b=2000:=if_pos c;exact Gz rfl _ (go e λH' s' x a l=>Nd CL (n _ e H' s' x a l))
 .let e:mst b=b:=if_neg λz=>c (by rw[z];rfl);exact VV rfl _ _ rfl (go e λH' s' x a l=>Nd CL (n _ e H' s' x a l))
def zX (x):Yw (peq (WW d) (fdD n x)):=by unfold fdD;split<;>rfl
def SrT.is (a:SrT K H t n T As Rs m0 x u)(c:u≠.long)(h:mst m0<=M)(b:Jfx T M n x' v):sfD n m0 x u=fdD n x':=by
 let(rfl,rfl):=(a.ans.up h c).det (jV T As) b;cases u with
 |long=>exact JC c
 |yes=>rfl
 |no=>rfl
inductive nS (K)(C):Sp|m{vs H Q E9} (p t tl al rl) (T) (As) (Rs) (m) (x) (u:Wd):vs=UV p t m->jq K C H p tl al rl T As Rs->Jkt (1<=m) m (u≠.long->iw K H t WR T As Rs 2000 x u->(∀H',M0 H')->nS K C vs H Q E9)
abbrev NBo:List Str:=JoC "_law_found" "_law_most" "_law_first" "_law_second"
def vj:Je NBo NM uO:=fsc
def HW (F:Jr_ "_law_bounds" uO)(e:WT 10 fS dS W3 (iR K C)):JA 11 NM (nS K C):=by
 apply Jq_ vj N
 let(p,t,I,S,J,D,As,Rs,m,x,u,rfl,G,m1,m2,ul,v,q):=h;let r:=gi N;apply Ym (Jdb (i:=3) vj.nd (J5 e.ok N e.m e.kp e.b 0 2) (i:=4) vj.nd (WJ e.ok N e.m e.kp e.b 0 (Wz cu 2)) (QZ (be (JiN (gD r) MJ 1) (Nc (Jgf r JeA WA))
   aU) (Ja9 (Jgf r MJ (Jg1 ba 2)) (pe_or (Jgf r JeA WA) (eW (Jgf r JeA (cb (Qh ba (Wz cu 2)))))))));rfl'
 let e1:mst m=m:=if_neg Jn;let e2:mst (m+1)=m+1:=if_neg Jn;apply(7,p,I,S,J,D,As,Rs,m,rfl,G,Jn,Jn,λH1 t1 U u1 Z n1 L M M=>?_);apply GX _ _ rfl _ _ rfl rfl p I S J D As Rs (m+1) rfl (G.same Z) Jn Jn (λH2 t2 T W Y n2 c M M=>?_);let j:=Z.trans Y;let g:=v.same j;let d:=L.same Y;apply GF _ _ rfl _ _ d.has.1 g.has d.has.2 _ rfl ?_;by_cases B:u1=.long
 .subst B;rw[show Yw (peq (Jaq m U .long) _) from zX x];apply bq (MA _ _ lS2 VE);let(H3,R,n,n3):=nwH hl (J1 m);rw[R];let o:=j.trans n;let O:Qx K H3 (J1 m) l:=JhH n3;apply(5,(d.same n).has.1,O,d.has.2,2,?_);rw[show U0 (Jaq m U .long) (J1 m) from eR _];apply aD (GF _ _ rfl _ _ ((c.same n).has.1) ((g.same n).has) c.has.2 _ rfl ?_);by_cases y:W=.long
  .subst y;rw[show Yw (peq (Jaq (m+1) T .long) _) from zX x];apply bq (JnQ _ _ rfl _ _ rfl lS2 (λk hk=>?_));let(H4,R,X,n4):=nwH hk (J1 (m+1));rw[R];let O:Qx K H4 (J1 (m+1)) k:=JhH n4;apply(5,(c.same (n.trans X)).has.1,O,c.has.2,?_);rwa[show U0 (Jaq (m+1) T .long) (J1 (m+1)) from eR _]at q H4 (o.trans X)
  .rwa[c.is y (by lia) v.a,eR]at aD (q H3 o)
 .let y:W≠.long:=λz=>by subst z;have:=(L.ans.up (by simp +arith only [*]) B).det (jV D As) c.ans;exact B this.2
  rw[L.is B (by lia) v.a,eR];apply aD (JX _ _ rfl _ _ c.has.1 g.has c.has.2 ?_);rwa[c.is y (by lia) v.a,eR]at q H2 j
end
abbrev NLw:List Str:=["_law_script","_law_problem","_law_found","_law_kept","_law_most","_law_due"]
def iS:Je NLw ["_law_script"] eg:=fsc
structure LwI (K:W.Frag)(C:Addr)(H:Hp)(a p tl al rl:Addr)(ns:List Int)(T:List MV)(As:List At)(Rs:Xg Int):Prop where
 a:JnX H
 l:Jed 63
 g:jq K C H p tl al rl T As Rs
structure NoI (K:W.Frag)(H:Hp)(kl:Addr)(n:Nat)(T:List MV)(As:List At)(Rs:Xg Int)(xs:List V)(S:HS)(f:Int):Prop where
 an:Jfx T 2000 n (S,.odds f,) .no
 k:VT kl
 has:Wy (S.pp++[J_ (MD f).reverse])
 nl:MU (S.pp++[J_ (MD f).reverse])
section
variable {P:Program} {w:World} {K:W.Frag} {mg:Str->Option Value} {base:Heap} {aK C CL CE:Addr} {f fI fA fQ fS fX fE fR fB fU fO fH fD fP fL:Addr} {fd dI dA' dQ dS dX dE dR' dB dU dO dH dD dP' dL':FuncData}
def law14 (T:NN C)(BX:Jo8 1 fX dX K)(n:WT 10 fS dS W3 (iR K C))
  {cdv:Value}{A:Around}{outer:List Env}{s:Shared}{H0:Hp}{E:XK}(hr:Jl4 11 eg):
  ∃z,PSs (JmQ P w K mg NLw "law" eg f A s H0 E).nox ((zas eg).drop 14) z/\
   ∀(v H:Hp) (Q:VK) (a p t pl kl r x D y:Addr) (ns:List Int) (h:List MV) (As:List At) (Rs:Xg Int) (xs:List V) (S:HS) (g m:Int),LwI K C v a p x D y ns h As Rs->ap v H->Mf (v pl)->Jpv K H kl h As Rs xs S g->Ic t (Jgq pl)->VT pl->kl≠pl->1<=m->JbP m->(m<(S.pp.length:Int)+1->Vo r (JiH "long" (.int m)))->(¬m<(S.pp.length:Int)+1->Jp7 r "no" kl)->(∀H',QB H')->
    z { nx:=λ_ H'=>Q .non H',rt:=Q } [Ja a,Ja p,Ja t,Ja kl,Ya m,Ja r] H:=by
 let i:=JsE 10;let W:=gi hr;apply Ym (NX (be (JR (JiN (qM W) (J5 n.ok i n.m n.kp n.b 1 4) 5) (JiN (qM W) Jqk 3))
   cF
   aU) (ak (Jaa PySem.F.slot_list_clear PySem.F.type_list_clear AY Jqk)) (Jgf W (WJ n.ok i n.m n.kp n.b 1 af) (Jg1 ba 3)))
 rfl'
 rintro v H Q a p t pl kl r x D y ns h As Rs xs S g m I sb nb N ht e U m1 m2 dl dn q;let e1:mst m=m:=if_neg Jn;let G:=I.g.same sb;let td:dep (JpD "no" (S.pp++[J_ (MD g).reverse]))<=60:=by let h6:=pZ (d:=J_ (MD g).reverse) (zJ N.an.1 Zq) (uu _ _);let h6:JiR (S.pp++[J_ (MD g).reverse]) 3:=h6;simp only[L2.dep,bx];lia
 apply(7,p,x,D,y,h,As,Rs,m,rfl,G,Jn,Jn,λJ t1 Z L c f1 R _ _=>?_);let Y:∃d,Qx K J d r/\Jaq m Z L=d:=by
  let u:=R.ans;rw[e1]at u;by_cases c1:L=.long/\m<=2000
  .let(rfl,B):=c1;have:=HL Jr3 B N.an u;exact Ji6 (Has.tup' (c.tup (dl Jn)) (JV (by rfl)))
  .let same:Z=(S,.odds g,)∧L=.no:=by
    by_cases B:m<=2000
    .exact(u.up B λz=>c1 (z,B)).det Jr3 N.an
    .exact u.det Jr3 (N.an.up Jn nofun)
   let(rfl,rfl):=same;let l:¬m<(S.pp.length:Int)+1:=by
    rcases u.2 with ⟨_,_,z⟩|⟨_,z,_⟩
    .cases z
    lia
   exact Ji6 (Has.tup' (c.tup (dn l)) (JV (Ww (c _ _ N.k) (Jds c.kt))))
 let(d,hd,ed):=Y;apply JX _ _ _ R.has.1 hd R.has.2 _ rfl ?_;rw[ed,eR];let X:=Jds c.kt;apply bq (2,t,4,SqT.of (c _ _ ht),Jsv 1,2,5,Ww (c _ _ e) X,Ww (c _ _ N.k) X,?_,2,?_)
 .simp only[L2.dep,bx]at td⊢;lia
 rw[eR];let M:=sb.trans c;apply bq (2,t,4,SqT.of (c _ _ ht),Jsv 1,U_ (c _ _ e),pl,xs,6,c _ _ e,?_);let kt:=JsC [] (c _ _ e);let s2:ap v (GB J pl):=M.upd nb;let k2:(GB J pl) kl=some (.lst xs):=by rwa[aq U]at c _ _ N.k
 let h2:=X.keep kt N.nl;generalize GB J pl=H2 at s2 k2 h2;apply(2,p,x,D,y,h,As,Rs,2000,rfl,I.g.same s2,by decide,by decide,λH3 t3 x3 u3 s3 f3 O _ _=>?_);let(rfl,rfl):=O.ans.det Jr3 N.an;apply JoR VE;let(H4,eN,s4,n4):=nwH hl (Jgq kl);rw[eN];let o:=s3.trans s4;apply(_,JpD "no" (S.pp++[J_ (MD g).reverse]),(O.same s4).has.1,JhG n4 (Ww (o _ _ k2) (h2.keep o.kt N.nl)),O.has.2,?_);rwa[show U0 (Jaq 2000 (S,.odds g,) .no) (JpD "no" (S.pp++[J_ (MD g).reverse])) from eR _]at q H4
def law12 (T:NN C)(BX:Jo8 1 fX dX K)(BS:WT 10 fS dS W3 (iR K C))
  {cdv:Value}{A:Around}{outer:List Env}{s:Shared}{H0:Hp}{E:XK}(X:Jl4 11 eg):
  ∃z,PSs (JmQ P w K mg NLw "law" eg f A s H0 E).nox ((zas eg).drop 12) z/\
   ∀(e H:Hp) (Q:VK) (a p t pl kl o u r:Addr) (ns:List Int) (d:List MV) (As:List At) (Rs:Xg Int) (xs:List V) (S:HS) (g m:Int),LwI K C e a p o u r ns d As Rs->ap e H->Mf (e pl)->Jpv K H kl d As Rs xs S g->Ic t (Jgq pl)->VT pl->kl≠pl->1<=m->JbP m->(∀H',QB H')->
    z { nx:=λ_ H'=>Q .non H',rt:=Q } [Ja a,Ja p,Ja t,Ja kl,Ya m,none] H:=by
 let(R,B,n):=law14 (P:=P) (w:=w) (base:=base) (f:=f) (cdv:=cdv) (A:=A) (outer:=outer) (s:=s) (H0:=H0) (E:=E) T BX BS X;apply Ym (Nm (i:=5) iS.nd (Jg1 ba 3) (be (IX iA 4 (ME 3)) (aj (Jsz 5 iS.nd (Jg1 ba 4)))
   aU) B);rfl'
 rintro e H Q a p t pl kl o u r ns d As Rs xs S g m I F G N M l j L J q;let xl:(xs.length:Int)=(S.pp.length:Int)+1:=by have:=N.has.length;rw[lAq]at this;have:Jgc (Jmy 1):=this;lia
 apply JoR (λY x=>?_);apply nwC x (Jgq kl) λO b W=>?_;let v:Jpv K O kl d As Rs xs S g:=(N.an,b _ _ N.k,Jds b.kt,N.nl);apply(7,kl,xs,rfl,Yc v.k,3,2,Mg XN)
 .let c:m<(xs.length:Int):=oDq c;apply JoR (λZ y=>?_);apply nwC y (J1 m) λH2 h U=>?_;exact n e H2 Q a p t pl kl Z o u r ns d As Rs xs S g m I (F.trans (b.trans h)) G (N.an,h _ _ v.k,v.has.keep h.kt N.nl,N.nl) ((b.trans h) _ _ M) ((b.trans h) _ _ l) j L J (λ_=>SqT.of U) (λz=>absurd Jn z) q
 .let c:¬m<(xs.length:Int):=λz=>JaN z;exact n e O Q a p t pl kl Y o u r ns d As Rs xs S g m I (F.trans b) G v (b _ _ M) (b _ _ l) j L J (λz=>MS Jn) (λ_=>SqT.of W) q
def law8 (T:NN C)(TP:JiS K)(mx:Jg "max")(e:Jo8 1 fX dX K)(BS:WT 10 fS dS W3 (iR K C))
  (Y:JbZ 4 fP dP' IJ (lW K C))(Z:Jl2 8 fL dL' (lU K C))
  {cdv:Value}{A:Around}{outer:List Env}{s:Shared}{H0:Hp}{E:XK}(X:Jl4 11 eg):
  ∃z,PSs (JmQ P w K mg NLw "law" eg f A s H0 E).nox ((zas eg).drop 8) z/\
   ∀(R H:Hp) (Q:VK) (a p t pl x O D:Addr) (ns:List Int) (c:List MV) (As:List At) (Rs:Xg Int) (ys:List V) (S:HS) (g:Int),LwI K C R a p x O D ns c As Rs->ap R H->Mf (R pl)->Jpv K H pl c As Rs ys S g->Ic t (Jgq pl)->(∀H',QB H')->
    z { nx:=λ_ H'=>Q .non H',rt:=Q } [Ja a,Ja p,Ja t,none,none,none] H:=by
 let J:=Jfy (j:=1);let hr4:=Jfy (j:=4);let hr8:=Jfy (j:=8);let(t12,h12,g12):=law12 (P:=P) (w:=w) (base:=base) (f:=f) (cdv:=cdv) (A:=A) (outer:=outer) (s:=s) (H0:=H0) (E:=E) T e BS X;apply Ym (Nm (i:=3) iS.nd (UB og rfl Jra (VX 2)) (be (JR (GK (J5 Y.ok hr4 Y.m Y.kp Y.b 1 3)) (aA Bz (J5 Z.ok hr8 Z.m Z.kp Z.b 1 3) cZ))
   cF
   aU) (Nm (i:=4) iS.nd (JoB (aX bz (WJ e.ok J e.m e.kp e.b 0 af) (aX iU af (ME 3)))) (be (Q4 (Jjg e.ok J e.m e.kp e.b 0 af)) (aj (Jsz 4 iS.nd (QU (qo rfl) mx (Qh af (XI gC (ME 3))))))
   aU) h12))
 rfl'
 rintro R H Q a p t pl x O D ns c As Rs ys S g I sb nb N ht q;let G:=I.g;let ro:=G.ro;let n63:=I.l;let(L,e1,e2,e3,e4):=FW (T:=c) (As:=As) ro.row ro.n40 G.t N.an;let F:∀{H'},V3 (S.pp++[J_ (MD g).reverse]) ys->jo K H' c As Rs ys L:=λh=>(e1▸h,e1▸N.nl,e4,e3,Jn,λr u=>Jd (G.r r u).2.1);let yl:(ys.length:Int)=(S.pp.length:Int)+1:=by have:=N.has.length;rw[lAq]at this;have:Jmy 1=ys.length:=this;lia
 let yb:(ys.length:Int)<=2000:=by have:=N.has.length;rw[e1,lM]at this;lia
 apply(2,t,4,SqT.of ht,Jsv 1,pl,ys,rfl,Yc N.k,λkl v=>?_);let nkp:kl≠pl:=λz=>by erw[z,N.k]at v
 let(H1,eN,W,k1):=IF v ys;rw[eN];let B:=sb.trans W;let h1:=Jds W.kt;apply(7,p,x,O,D,kl,c,As,Rs,ys,L,rfl,G.d.same B,G.a,by have:=G.l;lia,λr u=>(G.r r u).2.2,SqL.of k1,F h1,λH2 U=>Jii ?_);let y:=B.trans U;let h2:=h1.keep U.kt N.nl;apply GX _ _ rfl p x O D kl c As Rs ys L rfl (G.d.same y) G.a (by have:=G.l;lia) (SqL.of (U _ _ k1)) (F h2) (λH3 s3=>W8 _ _ rfl _ rfl Jqx);let o:=y.trans s3;let n:=U.trans s3;let k3:=n _ _ k1;let N3:Jpv K H3 kl c As Rs ys S g:=(N.an,k3,h2.keep s3.kt N.nl,N.nl);let M:∀m:Int,1<=m->JbP m->t12 { nx:=λ_ H'=>Q .non H',rt:=Q } [Ja a,Ja p,Ja t,Ja kl,Ya m,none] H3:=λm m1 m2=>g12 R H3 Q a p t pl kl x O D ns c As Rs ys S g m I o nb N3 ((W.trans n) _ _ ht) ((W.trans n) _ _ N.k) nkp m1 m2 q;let md:=cw (jm ns 3) (show(0:Int)<2*(ys.length:Int) by lia);apply(2,a,ns,(3),rfl,o.seq I.a,Jn,by decide,by decide,2,kl,ys,rfl,Yc k3,3,Jh9 Jp,3,Jn,3,?_);apply(2,a,ns,(5),rfl,o.seq I.a,Jn,by decide,by decide,3,QL,rfl,2,Go (λ_=>M _ Jn Jn));apply XX _ kl ys rfl (Yc k3) _ _ rfl rfl _ _ rfl (M _ ?_ ?_)<;>split<;>lia
def law4 (T:NN C)(TP:JiS K)(mx:Jg "max")(L:Jo8 1 fX dX K)(c:WT 10 fS dS W3 (iR K C))
  (BP:JbZ 4 fP dP' IJ (lW K C))(BL:Jl2 8 fL dL' (lU K C))(M:Xu 11 "_law_bounds" fB dB NM (nS K C))
  {cdv:Value}{A:Around}{outer:List Env}{s:Shared}{H0:Hp}{E:XK}(J:Jl4 11 eg):
  ∃z,PSs (JmQ P w K mg NLw "law" eg f A s H0 E).nox ((zas eg).drop 4) z/\
   ∀(H:Hp) (Q:VK) (a p B y D:Addr) (ns:List Int) (o:List MV) (As:List At) (Rs:Xg Int),LwI K C H a p B y D ns o As Rs->(∀H',QB H')->
    z { nx:=λ_ H'=>Q .non H',rt:=Q } [Ja a,Ja p,none,none,none,none] H:=by
 let U:=J.mono (j:=1) Jp;let e:=J.mono (j:=10) Jp;let hu:=gi J;let(t8,h8,g8):=law8 (P:=P) (w:=w) (base:=base) (f:=f) (cdv:=cdv) (A:=A) (outer:=outer) (s:=s) (H0:=H0) (E:=E) T TP mx L c BP BL J;apply Ym (XT (i:=2) iS.nd Jq0 (Qb (be Jl5 (JcH (Jgf hu Jq0 UA) (Iu M.ok J M.m M.kp M.b 1 (WG 2 (JoB (Jjg L.ok U L.m L.kp L.b 0 af)))))
   aU) (be Jl5 (Nc (cP da (NU 1) af))
   aU) (ae (be (JR (J9 eE 2 ba) (GK (Ja1 rj (QI 2 (JdJ (v:=.ty "list") rfl Jra rfl)))))
   cF
   aU) h8)))
 rfl'
 rintro H Q a p B y D ns o As Rs I q;let G:=I.g;let n63:=I.l;apply(2,p,B,y,D,o,As,Rs,0,rfl,G,by decide,by decide,λY t x u O n1 r1 fr lb=>?_);let G1:=G.same O;cases r1 with
 |long an Z=>
  let k:J7 (X7 (V.str "long") 0)=some (.str "long"):=Jsv 0;let n9:Jmv 9:=Decidable.byContradiction λz=>absurd (lb rfl) (Int.not_lt.mpr (by have:=pow_le (n:=WR) Jn;exact this));let(dx,ys,ho,W,yl):=G1.d.pr.lenA;apply JkC _ t _ _ _ Z k _ (bq (JkC _ t _ _ _ Z k _ (aD ?_)));apply GX _ p C dx _ _ rfl ho Yt T.nA (eV _ _ _) y ys rfl (Yc W) _ _ rfl rfl ?_;rwa[dTq (by lia)]at q Y
 | told _ ul r =>
  let r:iw K Y t WR o As Rs 2000 x u:=r;cases r.f with
  |yes S th h X h3 h4=>
   let k:JmR "yes" th=some (.str "yes"):=Jsv 0;let md:=cw (jm ns 3) (show Ge 6 by decide);apply JkC _ t _ _ _ h k _ (aD (2,p,B,y,D,o,As,Rs,2000,rfl,G1,by decide,by decide,λH2 t2 x2 u2 N n2 R _ _=>?_));let(rfl,rfl):=R.ans.det (jV o As) r.a;let F:=O.trans N;apply JX _ _ _ R.has.1 ((r.same N).has) R.has.2 _ rfl ?_;rw[show U0 (Jaq 2000 (S,.rest,) .yes) (fdD As.length (S,.rest,)) from eR _];apply aD (2,7,a,ns,(3),rfl,F.seq I.a,Jn,by decide,by decide,3,(by show Ge 6;decide),3,?_);exact(p,t,B,y,D,o,As,Rs,5,.yes,rfl,G.same F,Jn,Jn,nofun,r.same N,λH3 _=>q H3)
  |no S g pl ys h X h3 h4 h5=>
   let k:JmR "no" pl=some (.str "no"):=Jsv 0;apply JkC _ t _ _ _ h k _ (bq (JkC _ t _ _ _ h k _ (bq (JkC _ t _ _ _ h k _ (bq (2,t,4,SqT.of h,Jsv 1,pl,5,2,SqL.of X,ur _ _,2,bq ?_))))));exact g8 H Y Q a p t pl B y D ns o As Rs ys S g I O (fr pl h) (r.a,X,h3,h4) h q
def law3 (T:NN C)(TP:JiS K)(N:Jg "max")(d:Jo8 1 fX dX K)(U:WT 10 fS dS W3 (iR K C))
  (W:JbZ 4 fP dP' IJ (lW K C))(X:Jl2 8 fL dL' (lU K C))(Y:Xu 11 "_law_bounds" fB dB NM (nS K C))(g:Xu 5 "_law_chain" fH dH ["_law_cell"] (qm K C))
  {cdv:Value}{A:Around}{outer:List Env}{s:Shared}{H0:Hp}{E:XK}(t:Jl4 11 eg):
  ∃z,PSs (JmQ P w K mg NLw "law" eg f A s H0 E).nox ((zas eg).drop 3) z/\
   ∀(H:Hp) (Q:VK) (a p k v o:Addr) (ns:List Int) (y:List MV) (As:List At) (Rs:Xg Int),LwI K C H a p k v o ns y As Rs->(∀H',QB H')->
    z { nx:=λV H'=>Q .non H',rt:=Q } [Ja a,Ja p,none,none,none,none] H:=by
 let e:=t.mono (j:=1) Jp;let r:=t.mono (j:=5) Jp;let(Z,O,F):=law4 (P:=P) (w:=w) (base:=base) (f:=f) (cdv:=cdv) (A:=A) (outer:=outer) (s:=s) (H0:=H0) (E:=E) T TP N d U W X Y t;apply Ym (ae (be (Q4 (Jjg d.ok e d.m d.kp d.b 0 af)) (aj (Jsz 1 iS.nd (X0 g.ok r g.m g.kp g.b (Yb (XI cx (WJ d.ok e d.m d.kp d.b 0 af))))))
   aU) O)
 intro H Q a p k v o ns y As Rs I q;let M:=I.l;apply(2,a,ns,(3),rfl,I.a,Jn,by decide,by decide,3,(by show Ge 9;decide),rfl,2,Mg (λV=>F H Q a p k v o ns y As Rs I q));apply(2,a,ns,(3),rfl,I.a,Jn,by decide,by decide,3,Id Jp,2,λR L h u n D B G V V V S J x V l1=>?_);exact F R Q a L h u n ns [] D B (G.seq I.a,I.l,S,by decide,J,x,Jn) q
inductive nU (K:W.Frag):Sp|m{vs H Q E9} (a:Addr) (ns:List Int):vs=Vj a->JnX H->Jed 63->(∀H',QB H')->nU K vs H Q E9
def ok_law (F:Jr_ "law" eg)(T:NN C)(TP:JiS K)(mx:Jg "max")(c:Jo8 1 fX dX K)(G:Xu 6 "_law_problem_by" fD dD Jf8 (tf K C))
  (D:Xu 3 "_law_rows_added" fO dO Jhi (tQ K C))(B:Xu 3 "_law_units_added" fU dU Gr (tP K C))(BS:WT 10 fS dS W3 (iR K C))
  (BP:JbZ 4 fP dP' IJ (lW K C))(BL:Jl2 8 fL dL' (lU K C))(BB:Xu 11 "_law_bounds" fB dB NM (nS K C))(BH:Xu 5 "_law_chain" fH dH ["_law_cell"] (qm K C)):JA 12 ["_law_script"] (nU K):=by
 apply Jq_ iS y
 let(a,ns,rfl,e,N,q):=h;let d:=Jfz (j:=1);let o:=Jfz (j:=3);let R:=Jfz (j:=6);let(X,h3,g3):=law3 (P:=P) (w:=w) (base:=base) (f:=f) (cdv:=cdv) (A:=A) (outer:=outer) (s:=s) (H0:=H) (E:=E) T TP mx c BS BP BL BB BH y;apply Ym (Nm (i:=1) iS.nd (Iu G.ok R G.m G.kp G.b 0 (X8 af (JoB Mp) Mp)) (ak (Iu D.ok o D.m D.kp D.b 1 (Qa 0 (Qh af (JoB Mp))))) (ae (be (Q4 Mp) (Gq (WJ B.ok o B.m B.kp B.b 1 (XI cx (WJ c.ok d c.m c.kp c.b 0 af))))
   aU)
  h3));rfl'
 let m0:=cw (jm ns 0) (show Ge 6 by decide);let m1:=cw (jm ns 1) (show Ge 6 by decide);let m2:=cw (jm ns 2) (show Ge 14 by decide);apply(7,a,ns,0,rfl,e,Jn,by decide,by decide,3,(by show Ge 6;decide),3,2,a,ns,1,rfl,e,Jn,by decide,by decide,3,(by show Ge 6;decide),?_);apply(a,ns,(6),_,2,e,Jn,by decide,by decide,Jn,Jn,Jn,Jn,λH1 p v u n z As I np nt M L PD t1 Y a7=>?_);apply(2,7,a,ns,(2),rfl,I.seq e,Jn,by decide,by decide,3,(by show Ge 14;decide),3,?_);let O:∀H',JbV H1 u n->SqL K H' a (ns.map VG):=λH' f'=>(f'.fresh I M L).seq e;apply(p,v,u,n,a,z,As,[],ns,18,2,PD,O,Jn,by decide,by decide,Jn,Jn,Jn,by decide,λH2 R2 g f2 W l2=>?_);rw[List.nil_append]at g;let x:=f2.fresh I M L;let t:∀(k:Hp) (l:Xg Int),Vq K C k p v u n z l->M9 k->(∀r∈l,Qw r)->NJ l.length->X { nx:=λ_ H'=>Q .non H',rt:=Q } [Ja a,Ja p,none,none,none,none] k:=λk l D3 Z J l3=>
  g3 k Q a p v u n ns z As l (Z.seq e,N,D3,Jn,J,Jn,Jn) q
 apply(2,a,ns,(4),rfl,x.seq e,Jn,by decide,by decide,3,QL,rfl,2,Go (λ_=>t H2 R2 g x W Jn));apply(7,a,ns,(4),rfl,x.seq e,Jn,by decide,by decide,3,Id Jp,?_);exact(p,v,u,n,z,As,R2,2,g,Jn,Jn,λk l U f3 J l3=>t k _ U (f3.fresh x M L) (λr S=>(mPq S).elim (W r) (J r)) (by rw[lAq];lia))
end
def all_mk {l:W.OpenLaw}{K:W.Frag}{h:Heap}{fa aK C J CE CG n fs es:Addr}(X:K.In h)(G:Jcy mg)(hfa:mg "law"=Ja fa){slK:Array Jf3}{t1 t2 t3 t4 t5 t6 t7 ts u1 u2 u3 u4 u5 u6 u7 u8:Tok}{nK:Nat}{ds:FuncData}{cdL:ClassData}
  (aC:Jo2 "Problem" C)(aL:Jo2 "TooLong" J)(aE:Jo2 "ChoiceError" CE)(aG:Jo2 "Groups" CG)(aH:Jo2 "Hunt" n)(y1:Jb_ "is_word" se f1 d1)(y2:Jb_ "is_name" sf f2 d2)(y3:Jb_ "ask_name" sh f3 d3)(y4:Jb_ "once_each" si f4 d4)(y5:Jb_ "place_of" sj f5 d5)(y6:Jb_ "given_links" W53.s_given_links f6 d6)(y7:Jb_ "alike_links" W53.s_alike_links f7 d7)(y8:Jb_ "links" W53.s_links f8 d8)(y9:Jb_ "groups_of" W53.s_groups_of f9 d9)(Z9:Jb_ "heads" W53.s_heads f10 d10)(Z8:Jb_ "steps_of" W53.s_steps_of f11 d11)(Z7:Jb_ "way" W53.s_way f12 d12)(Z6:Jb_ "part_pairs" W53.s_part_pairs f13 d13)(Z5:Jb_ "ways" W53.s_ways f14 d14)(o:Jb_ "sameness" oU f15 d15)(Z4:Jb_ "held_same" mY f16 d16)(Z3:Jb_ "same_links" mZ f17 d17)(Z2:Jb_ "clashing_atom" oW f18 d18)(Z1:Jb_ "equal_line" m_ f19 d19)(Z0:Jb_ "clash" oX f20 d20)(ZZ:Jb_ "levels" s_levels f21 d21)(ZY:Jb_ "part_levels" s_part_levels f22 d22)(ZX:Jb_ "is_replaced" s_is_replaced f23 d23)(ZW:Jb_ "learnt" s_learnt f24 d24)(ZV:Jb_ "_law_cell_at" yA f25 d25)(ZU:Jb_ "_law_term_by" sD f26 d26)(ZT:Jb_ "_law_woven" sG f27 d27)(ZR:Jb_ "_law_other_by" pd f28 d28)(ZQ:Jb_ "_law_problem_by" sI f29 d29)(ZP:Jb_ "_law_units_added" lB f30 d30)(ZO:Jb_ "_law_rows_added" nC f31 d31)(ZN:Jb_ "_law_merged" pe f32 d32)(ZM:Jb_ "_law_alike" nD f33 d33)(ZL:Jb_ "not_failing" p_ f34 d34)(ZK:Jb_ "is_learnt" uv f35 d35)(ZJ:Jb_ "is_told" uw f36 d36)(ZI:Jb_ "is_alike" qa f37 d37)(ZH:FT K "is_right_lines" "is_right" ux f38 d38)(ZG:Jb_ "says_joined" uy f39 d39)(ZF:Jb_ "is_equal" qb f40 d40)(ZE:Jb_ "is_number" uz f41 d41)(ZD:Jb_ "are_parts" uA f42 d42)(ZC:Jb_ "are_numbers" uB f43 d43)(ZB:Jb_ "are_links" uC f44 d44)(ZA:FT K "is_right_papers" "is_right" uD f45 d45)(Zz:Jb_ "fault" uG f46 d46)(Zy:Jb_ "lets_by" uH f47 d47)(Zx:Jb_ "_law_link_right" uI f48 d48)(Zw:Jb_ "_law_equal" uJ f49 d49)(Zv:Jb_ "_law_left" qd f50 d50)(Zu:Jb_ "_law_right" uK f51 d51)(Zt:Jb_ "_law_paper_right" uL f52 d52)(Zs:Jb_ "_law_searched" uM f53 d53)(Zr:Jb_ "_law_chain" lC f54 d54)(Zp:Jb_ "_law_bounds" uO f55 d55)(Zo:Jb_ "law" eg f56 d56)(Zn:FM K C "__init__" "Problem.__init__" sr f57 d57)(Zm:FM K C "ask_term" "Problem.ask_term" su f58 d58)(Zl:FM K C "ask_part" "Problem.ask_part" sv f59 d59)(Zk:FM K C "add_term" "Problem.add_term" sAdd f60 d60)(Zj:FM K C "add_plain" "Problem.add_plain" sx f61 d61)(Zi:FM K C "add_same" "Problem.add_same" sC f62 d62)(Zh:FM K C "add_row" "Problem.add_row" sRow f63 d63)(Zg:FM K CG "__init__" "Groups.__init__" W53.s_init f64 d64)(Zf:FM K CG "head" "Groups.head" W53.s_head f65 d65)(Ze:FM K CG "together" "Groups.together" W53.s_together f66 d66)(Zd:FM K CG "merge" "Groups.merge" W53.s_merge f67 d67)(Zc:FM K n "__init__" "Hunt.__init__" yi f68 d68)(Zb:FM K n "hold" "Hunt.hold" yj f69 d69)(Za:FM K n "watch" "Hunt.watch" yk f70 d70)(Y9:FM K n "begin" "Hunt.begin" ym f71 d71)(Y8:FM K n "finds" "Hunt.finds" yo f72 d72)(Y7:FM K n "look_at" "Hunt.look_at" yp f73 d73)(Y6:FM K n "grow" "Hunt.grow" yq f74 d74)(Y5:FM K n "put" "Hunt.put" yt f75 d75)(Y4:FM K n "cut" "Hunt.cut" yu f76 d76)(Y3:FM K n "learn" "Hunt.learn" yw f77 d77)(Y2:FM K n "choose" "Hunt.choose" yx f78 d78)(Y1:FM K n "held_parts" "Hunt.held_parts" yz f79 d79)(s1:JP K "SMALL_LETTERS" (some (.str abc t1)))(s2:JnZ K "LONGEST_NAME" 8 t2)(s3:JnZ K "MOST_TERM_PARTS" 3 t3)(s4:JnZ K "MOST_TERMS" 60 t4)(s5:JnZ K "MOST_ATOMS" 40 t5)(s6:JnZ K "MOST_ROW_PARTS" 20 t6)(s7:JnZ K "MOST_ROWS" 200 t7)(s8:Jo2 "KEPT_WORDS" aK)(s9:Jd6 aK (.type "tuple") none (.seq #[.str "or" u1,.str "and" u2,.str "not" u3,.str "never" u4,.str "always" u5,.str "then" u6,.str "as" u7,.str "unlike" u8] nK) slK)(r:JmF "len")(Y0:JmF "all")(b:JmF "range")(c:JmF "isinstance")(z:JmF "bool")(f:JmF "tuple")(Q:JmF "abs")(q:JmF "reversed")(d:JmF "enumerate")(g:JmF "sorted")(j:JmF "list")(L:JmF "zip")(y:JmF "dict")(YZ:JmF "any")(p:JmF "max")(N:JmF "min")(O:JmF "int")(YY:JmF "str")(t:JmF "ValueError")(YX:JmM K "int" "bool" false)(YW:Vi (Je8 K C))(YV:Jh_ K C)(YU:Jia K C)(YT:JbX (JjF K C) "object.__setattr__")(YS:JkX K C)(YR:JkA C)(YQ:Vi (Je8 K CG))(YP:Jh_ K CG)(YO:Jia K CG)(YN:JbX (JjF K CG) "object.__setattr__")(YM:JkX K CG)(YL:JkA CG)(YK:Vi (Je8 K n))(YJ:Jh_ K n)(YI:Jia K n)(YH:JbX (JjF K n) "object.__setattr__")(YG:JkX K n)(YF:JkA n)(YE:VU K C "terms")(YD:VU K C "atoms")(YC:VU K C "rows")(Z:VU K CG "least")(x:VU K CG "gathered")(B:VU K n "problem")(YB:VU K n "most")(Y:VU K n "known")(S:VU K n "paper")(R:VU K n "trail")(YA:VU K n "held")(D:VU K n "looked")(I:VU K n "begins")(A:VU K n "watched")(u:VU K n "watching")(U:VU K n "order")(E:VU K n "lately")(xL:Vi (W.excIn K J bmV "ValueError.__new__"))(q1:Xa (W.clsIn K J) cdL)(q2:JbX (Yh K J "__getattribute__") "BaseException.__getattribute__")(q3:VU K J "__getattr__")(q4:JbX (Yh K J "__class__") "object.__class__")(q7:US (W.mroIn K J (.type "object")))(q8:US (W.mroIn K J (.type "BaseException")))(q5:JbX (W.specialIn K (.builtin "object.__class__") "__get__") "getset_descriptor.__get__")(q6:US (W.takesIn K (.builtin "object.__class__")))(ki:US (W.kitOne K (.ref J) (.ref J)))(kv:US (Xz K (.ref J) "ValueError"))(ex:US (Jms K J (.ref CE)))(ys:FD K "search" lx fs es ds ts)
  : ∃fd:FuncData,(∀(s:Shared) (v:Value),Jgr s fd [v] [("_law_script",v,)])/\∀base:Heap,K.In base->V4 mg->aS JqL w K mg base CX0 12 fa fd ["_law_script"] (nU K):=by let gn:=λ{x:Str} (e:JmF x)=>W.mg_none_of X G e;let gm:=λ{x:Str}{v:Value} (e:JP K x (some v))=>W.mg_of X G e;let e:=hfa.symm.trans (Zo.m X G);cases e;let T:NN C:=(Jif s1,Jif s2,Jif s3,Jif s4,Jif s5,Jif s6,Jif s7,gm s8,λH=>.inr (Jov _ _ _ s9 rfl (by show Qd 8;decide) (Ye JeC JeC (.cons JeC (Ye JeC JeC (Ye JeC JeC (JF JeC)))))),gn r,gn Y0,gn b,gn c,gn z,gn f,gn Q,(YW,YV,YU,YT),YE,YD,YC);let TB:JiQ K J:=(gn r,gn q,gn Q,gn d,gn g,gn f,gn j,gn b,aL,xL);let TG:Jh6 K CG:=((YQ,YP,YO,YN),Z,x,gn N,gn p,gn b);let TW:W53.Txt K mg:=(gn r,gn j,gn b,gn c,gn O,gn z,gn N,gn p,gn f,gn d,gn L,gn g,gn y,YX);let TH:Jfv n:=((YK,YJ,YI,YH),B,YB,Y,S,R,YA,D,I,A,u,U,E);let TE:Le53.Txt K mg:=(gn r,gn y,gn b,gn f,gn j,gn YZ,gn L,gn q,gn p,gn c,gn O,gn z,gn Q,YX);let bs:aw K ds JqZ [JaX ts]:=bind1 ys λV V V V V V V=>QD rfl;let bs2:JfC ds "most":=bindD ys λV V V V V V V V=>QD rfl;let TP:JiS K:=(gn O,gn YY,gn j,gn d,YX);let TL:TxL K mg:=(gn r,gn N,gn p,gn y);let XE:TxE K mg J CE:=(gn t,gm aL,gm aE,(by rw[q1];rfl,q2,q3,q4,q5,q6,q7,q8),ki,HU kv,ex);let b1:JjI d1 "text":=y1.F.b1 JD;let b2:JjI d2 "word":=y2.F.b1 JD;let b3:JjI d3 "word":=y3.F.b1 JD;let b4:JjI d4 "parts":=y4.F.b1 JD;let b5:Yj d5 (Joz "most"):=y5.F.b3 JD;let b6:Yj d6 (Jdq "given"):=y6.F.b2 JD;let b7:Yj d7 (Jdq "terms"):=y7.F.b2 JD;let b8:Yj d8 (JlE "given"):=y8.F.b2 JD;let b9:JjI d9 "links":=y9.F.b1 JD;let b10:Yj d10 ["many","links"]:=Z9.F.b2 JD;let b11:JjI d11 "links":=Z8.F.b1 JD;let b12:Yj d12 ["steps","one","other"]:=Z7.F.b3 JD;let b13:Yj d13 (JlE "link"):=Z6.F.b2 JD;let b14:Yj d14 (Jjz "links"):=Z5.F.b4 JD;let b15:JfC d15 "number":=o.F.b2 JD;let b16:JfC d16 "held":=Z4.F.b2 JD;let b17:JfC d17 "held":=Z3.F.b2 JD;let b18:Yj d18 (Jk0 "held"):=Z2.F.b3 JD;let b19:Yj d19 (Jin "atom"):=Z1.F.b4 JD;let b20:JfC d20 "held":=Z0.F.b2 JD;let b21:JjI d21 "trail":=ZZ.F.b1 JD;let b22:JjI d22 "trail":=ZY.F.b1 JD;let b23:Yj d23 (JjD "why"):=ZX.F.b5 λV V V V V V V V V V V=>rfl;let b24:Yj d24 ["rows","trail","fails"]:=ZW.F.b3 JD;let b25:Yj d25 (Jq "_law_k"):=ZV.F.b2 JD;let b26:Yj d26 (Uj "_law_cell"):=ZU.F.b2 JD;let b27:Yj d27 (Jq "_law_first"):=ZT.F.b2 JD;let b28:Yj d28 (JeB "_law_one"):=ZR.F.b3 JD;let b29:Yj d29 (JoF "_law_atoms"):=ZQ.F.b4 JD;let b30:Yj d30 (Uj "_law_cell"):=ZP.F.b2 JD;let b31:Yj d31 (Jdy "_law_many"):=ZO.F.b4 JD;let b32:Yj d32 (Jh4 "_law_one"):=ZN.F.b3 JD;let b33:Yj d33 (Jke "_law_one"):=ZM.F.b4 JD;let b34:Yj d34 ["row","held"]:=ZL.F.b2 JD;let b35:Yj d35 ["rows","parts","hints"]:=ZK.F.b3 JD;let b36:Yj d36 (JaR "link"):=ZJ.F.b3 JD;let b37:Yj d37 ["terms","link","groups"]:=ZI.F.b3 JD;let b38:Yj d38 (JdC "link"):=ZH.F.b4 JD;let b39:Yj d39 (Ji_ "part"):=ZG.F.b3 JD;let b40:Yj d40 (JaR "links"):=ZF.F.b3 JD;let b41:JjI d41 "thing":=ZE.F.b1 JD;let b42:JfC d42 "parts":=ZD.F.b2 JD;let b43:JjI d43 "things":=ZC.F.b1 JD;let b44:JjI d44 "things":=ZB.F.b1 JD;let b45:Yj d45 (Jja "line"):=ZA.F.b3 JD;let b46:JfC d46 "paper":=Zz.F.b2 JD;let b47:JfC d47 "paper":=Zy.F.b2 JD;let b48:Yj d48 (JeG "_law_link"):=Zx.F.b4 JD;let b49:Yj d49 (Jdv "_law_bonds"):=Zw.F.b3 JD;let b50:Yj d50 (JiT "_law_row"):=Zv.F.b2 JD;let b51:Yj d51 (JoH "_law_rows"):=Zu.F.b3 JD;let b52:Yj d52 (Uj "_law_paper"):=Zt.F.b2 JD;let b53:Yj d53 (Uj "_law_most"):=Zs.F.b2 JD;let b54:JjI d54 "_law_cell":=Zr.F.b1 JD;let b55:Yj d55 (X9 "_law_most"):=Zp.F.b3 JD;let b57:JjJ d57:=Zn.F.b1 JD;let b58:JpL d58:=Zm.F.b2 JD;let b59:JnI d59:=Zl.F.b2 JD;let b60:Yj d60 (Jgj "name"):=Zk.F.b3 JD;let b61:VA d61 "name":=Zj.F.b2 JD;let b62:JaJ d62:=Zi.F.b3 JD;let b63:JdN d63:=Zh.F.b2 JD;let b64:JjJ d64:=Zg.F.b1 JD;let b65:Ji8 d65:=Zf.F.b2 JD;let b66:JaJ d66:=Ze.F.b3 JD;let b67:JaJ d67:=Zd.F.b3 JD;let b68:Yj d68 (Jbl "most"):=Zc.F.b3 JD;let b69:JnN d69:=Zb.F.b3 JD;let b70:Yj d70 (Jjy "self"):=Za.F.b4 JD;let b71:JjJ d71:=Y9.F.b1 JD;let b72:JaI d72 "number":=Y8.F.b3 JD;let b73:JnI d73:=Y7.F.b2 JD;let b74:JjJ d74:=Y6.F.b1 JD;let b75:VA d75 "line":=Y5.F.b2 JD;let b76:VA d76 "level":=Y4.F.b2 JD;let b77:VA d77 "fails":=Y3.F.b2 JD;let b78:JjJ d78:=Y2.F.b1 JD;let b79:JjJ d79:=Y1.F.b1 JD;apply Q5 (Zo.F.top JD) (λbase V V=>?_);let MKI:Mk K C f57:=(YS,Zn.a,Zn.i,YR);let MKG:Mk K CG f64:=(YM,Zg.a,Zg.i,YL);let MKH:Mk K n f68:=(YG,Zc.a,Zc.i,YF);let G1:=D_ (P:=JqL) (w:=w) (base:=base) y1.F T;let G2:=Ea y2.F T G1 b1 y1.k (y1.m X G);let G3:=Ec y3.F (G2,b2,y2.k,y2.m X G);let G4:=Ek (P:=JqL) (w:=w) (base:=base) y4.F T;let G5:=Ed (P:=JqL) (w:=w) (base:=base) y5.F T;let G57:=K53.ok_init (P:=JqL) (w:=w) (base:=base) Zn.F T;let G58:=Ee (P:=JqL) (w:=w) (base:=base) Zm.F T;let G59:=Ef (P:=JqL) (w:=w) (base:=base) Zl.F T;let G60:=ok_add Zk.F T (G3,b3,y3.k,y3.m X G) G58 b58 Zm.M (G5,b5,y5.k,y5.m X G);let G61:=Eh Zj.F T (G3,b3,y3.k,y3.m X G) (G5,b5,y5.k,y5.m X G);let G62:=Ei Zi.F T G58 b58 Zm.M (G5,b5,y5.k,y5.m X G);let G63:=ok_row Zh.F T G59 b59 Zl.M (G4,b4,y4.k,y4.m X G);let OW:Own JqL w K mg base C f57 f60 f61 f62 _ _ _ _:=(G57,b57,MKI,gm aC,G60,b60,Zk.M,G61,b61,Zj.M,G62,b62,Zi.M);let G64:=W53.ok_init (P:=JqL) (w:=w) (base:=base) Zg.F TG;let G65:=W53.ok_head (P:=JqL) (w:=w) (base:=base) Zf.F TG;let G66:=W53.ok_together Ze.F TG Zf.M G65 b65;let G67:=W53.ok_merge Zd.F TG Zf.M G65 b65;let G6:=W53.ok_given_links y6.F TG TW.enumerate Ze.M G66 b66 Zd.M G67 b67;let G7:=W53.ok_alike_links y7.F TG TW.enumerate TW.tuple Zf.M G65 b65 Ze.M G66 b66 Zd.M G67 b67;let G8:=W53.ok_links y8.F TW.len MKG (gm aG) G64 b64 (G6,b6,y6.k,y6.m X G) (G7,b7,y7.k,y7.m X G);let G9:=W53.ok_groups_of y9.F TG MKG (gm aG) G64 b64 Zd.M G67 b67;let G10:=W53.ok_heads Z9.F TG (G9,b9,y9.k,y9.m X G) Zf.M G65 b65;let G11:=W53.ok_steps_of (P:=JqL) (w:=w) (base:=base) Z8.F TW;let G12:=W53.ok_way (P:=JqL) (w:=w) (base:=base) Z7.F TW;let G13:=W53.ok_pairs (P:=JqL) (w:=w) (base:=base) Z6.F TW;let G14:=W53.ok_ways Z5.F TW (G11,b11,Z8.k,Z8.m X G) (G12,b12,Z7.k,Z7.m X G) (G13,b13,Z6.k,Z6.m X G);let G15:=Ep (P:=JqL) (w:=w) (base:=base) o.F T;let G16:=ET Z4.F Vv;let G17:=EV Z3.F T Vv (G16,b16,Z4.k,Z4.m X G) (G8,b8,y8.k,y8.m X G);let G18:=EW Z2.F T (gn g) Vv (G10,b10,Z9.k,Z9.m X G);let G19:=EZ Z1.F T (gn f) Vv (G16,b16,Z4.k,Z4.m X G) (G14,b14,Z5.k,Z5.m X G);let G20:=E2 Z0.F (G17,b17,Z3.k,Z3.m X G) (G18,b18,Z2.k,Z2.m X G) (G19,b19,Z1.k,Z1.m X G);let G21:=Le53.ok_levels (P:=JqL) (w:=w) (base:=base) (mg:=mg) ZZ.F;let G22:=Le53.ok_part_levels ZY.F TE (G21,b21,ZZ.k,ZZ.m X G);let G23:=Le53.ok_is_replaced (P:=JqL) (w:=w) (base:=base) ZX.F TE;let G24:=Le53.ok_learnt ZW.F TE (G22,b22,ZY.k,ZY.m X G) (G23,b23,ZX.k,ZX.m X G);let G69:=Fh (P:=JqL) (w:=w) (base:=base) (mg:=mg) Zb.F TH;let G70:=Fl (P:=JqL) (w:=w) (base:=base) (mg:=mg) Za.F TH;let G72:=Fn (P:=JqL) (w:=w) (base:=base) (mg:=mg) Y8.F TH;let G73:=Fo Y7.F TH Y8.M G72 b72 Zb.M G69 b69;let G75:=ok_put Y5.F TH TB Za.M G70 b70;let G76:=ok_cut (P:=JqL) (w:=w) (base:=base) Y4.F TH TB;let G78:=Fu Y2.F TH TB Zb.M G69 b69;let G79:=Fy (P:=JqL) (w:=w) (base:=base) Y1.F TH TB;let G77:=FC Y3.F TH TB Zb.M G69 b69 Y4.M G76 b76 Y5.M G75 b75 (G24,b24,ZW.k,ZW.m X G);let G74:=FG Y6.F TH TB Y7.M G73 b73 Y5.M G75 b75 (G20,b20,Z0.k,Z0.m X G);let G71:=FH Y9.F TH TB Za.M G70 b70 Zb.M G69 b69 Y6.M G74 b74;let G68:=FL (P:=JqL) (w:=w) (base:=base) Zc.F TH TB T;let GH:HG JqL w K mg base n C J f68 f71 f77 f78 f74 f79 _ _ _ _ _ _:=(MKH,G68,b68,gm aH,Y9.M,G71,b71,Y3.M,G77,b77,Y2.M,G78,b78,Y6.M,G74,b74,Y1.M,G79,b79);let Gs:=FP (P:=JqL) (w:=w) (base:=base) ys TH GH;let G25:=EC (P:=JqL) (w:=w) (base:=base) ZV.F T;let BW:Ju JqL 1 "_law_cell_at" f25 _ JbB (lI K):=(ED G25,b25,ZV.k,ZV.m X G);let G26:=EG ZU.F T OW;let G27:=EJ ZT.F T (gn j) (gn b) OW BW;let G28:=EH (P:=JqL) (w:=w) (base:=base) ZR.F T (gn b);let G29:=EK ZQ.F T (gn b) OW BW (G27,b27,ZT.k,ZT.m X G) (G26,b26,ZU.k,ZU.m X G) (G28,b28,ZR.k,ZR.m X G);let G30:=E5 ZP.F T G63 b63 Zh.M;let G31:=E7 ZO.F T (gn p) G63 b63 Zh.M BW;let G32:=Ew (P:=JqL) (w:=w) (base:=base) (mg:=mg) ZN.F;let G33:=Ey (P:=JqL) (w:=w) (base:=base) ZM.F T;let G34:=FY ZL.F (G4,b4,y4.k,y4.m X G);let G35:=F8 ZK.F TL (G34,b34,ZL.k,ZL.m X G);let G36:=F_ ZJ.F Vv;let G37:=Ha ZI.F T TG (gn L) Ze.M G66 b66;let G38:=He ZH.F T TG (G36,b36,ZJ.k,ZJ.m X G) (G37,b37,ZI.k,ZI.m X G);let G39:=Hf ZG.F TG Vv Ze.M G66 b66;let G40:=Hg ZF.F TG (gn YZ) MKG (gm aG) G64 b64 Zd.M G67 b67 (G38,b38,ZH.k,ZH.m X G) (G39,b39,ZG.k,ZG.m X G);let G41:=ok_num (P:=JqL) (w:=w) (base:=base) ZE.F T TP;let G42:=Hk ZD.F T (G41,b41,ZE.k,ZE.m X G);let G43:=Hm ZC.F T (G41,b41,ZE.k,ZE.m X G);let G44:=ok_links ZB.F T (G43,b43,ZC.k,ZC.m X G);let G45:=Hv ZA.F T TP (G42,b42,ZD.k,ZD.m X G) (G43,b43,ZC.k,ZC.m X G) (G44,b44,ZB.k,ZB.m X G) (G35,b35,ZK.k,ZK.m X G) (G40,b40,ZF.k,ZF.m X G);let G46:=Hw Zz.F T TP (G45,b45,ZA.k,ZA.m X G);let G47:=Hz Zy.F (G46,b46,Zz.k,Zz.m X G);let G48:=HF Zx.F T (gn g) (G33,b33,ZM.k,ZM.m X G);let G49:=HH Zw.F T (gn j) (G48,b48,Zx.k,Zx.m X G) (G32,b32,ZN.k,ZN.m X G);let G50:=HD (P:=JqL) (w:=w) (base:=base) (mg:=mg) Zv.F;let G51:=HE Zu.F T (G50,b50,Zv.k,Zv.m X G);let G52:=HI Zt.F T TP (G51,b51,Zu.k,Zu.m X G) (G49,b49,Zw.k,Zw.m X G);let SR:Sr JqL w K mg base C J fs ds ts:=(Gs,bs,bs2,gm ys.a,ys.k);let G53:=HV Zs.F T XE SR;let G54:=HR Zr.F T OW G63 b63 Zh.M;let G55:=HW Zp.F (G53,b53,Zs.k,Zs.m X G);exact ok_law Zo.F T TP (gn p) (G25,b25,ZV.k,ZV.m X G) (G29,b29,ZQ.k,ZQ.m X G) (G31,b31,ZO.k,ZO.m X G) (G30,b30,ZP.k,ZP.m X G) (G53,b53,Zs.k,Zs.m X G) (G52,b52,Zt.k,Zt.m X G) (G47,b47,Zy.k,Zy.m X G) (G55,b55,Zp.k,Zp.m X G) (G54,b54,Zr.k,Zr.m X G)
def walk {l:W.OpenLaw}{q:Program}{b:List Str}{t:(QT Str)->Heap->Prop}{i:World->Heap->Prop}{d:DefRec}{K:Params->W.Frag}(j:Jnt 63)(c:Jiy [])(p:∀(w:World) (h:Heap),i w h->(K w.params).In h)(F:∀(w:World) (mg:QT Str) (g:Addr) (h:Heap),(K w.params).In h->Jcy mg->mg d.name=Ja g->
   ∃e:FuncData,(∀(s:Shared) (u:Value),Jgr s e [u] [("_law_script",u,)])/\∀base:Heap,(K w.params).In base->V4 mg->Xn JqL Gd 12 g e ["_law_script"] (nU Gd)):
  W.WalkO q b t i l.row.toRowW d [] (λf vs=>Jlu f) :=
 L2.walk_of (n:=63) (k:=12) (x:="_law_script") (CX:=λy=>CX0) (sp:=λw=>nU Gd) j Jp c (rfl,by decide,by decide,rfl) p F (λy y a ns o y r=>VV a ns r o (λy=>rfl)) λy y y y y z=>z
end H53
init_quot
open PySem PySem.W PyProof.Rows
set_option maxRecDepth 100000 in
set_option maxHeartbeats 0 in
theorem PySem.Challenge.cw_yesorno_k53_whole_no_holds : PySem.Challenge.rw_yesorno_k53_whole_no.Holds := by
 w_on;o_law;k_head;(case hw=>w_witness2)
 k_fill
 refine H53.walk (l:=PySem.Challenge.rw_yesorno_k53_whole_no) rfl rfl (λw h Y=>W.kIn_of Y) ?F
 case F =>
  intro w mg fa h KX G hmg;apply H53.all_mk KX G hmg
  iterate 5 ·k_is
  iterate 56 ·exact L2.ft_in (by k_is) (by k_is) (by k_is) (by k_is)
  iterate 23 ·exact L2.fm_in (by k_is) (by k_is) (by k_is) (by k_is) (by k_is)
  iterate 28 ·k_is
  ·kit_is
  iterate 35 ·k_is
  ·k_exc
  iterate 8 ·k_is
  iterate 2 ·kit_is
  ·kts_exm
  ·exact H53.fd_in (by k_is) (by k_is) (by k_is) (by k_is) (by k_is)
